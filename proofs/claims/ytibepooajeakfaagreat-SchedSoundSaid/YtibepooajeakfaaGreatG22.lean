/- C. -/
import Derived.Test.YtibepooajeakfaaGreatG21
set_option linter.unusedVariables false
set_option maxRecDepth 100000
set_option maxHeartbeats 25600000
namespace Go.Proofs.YtibepooajeakfaaGreat
open Go.RowKit
theorem jm8:(Tryz.prog.info? 54).map (fun i=>(i.zero,i.size,i.bytes))=some (some (.agg #[.string ByteArray.empty,.string ByteArray.empty]),2,32):=by kernel_rfl
theorem jdS {w:World} {v:Value} {s:Clu} (h:jC w v s):(∀p ∈ s.pods,p.name.size≤maxLen)∧∀n ∈ s.nodes,n.name.size≤maxLen:=by
 obtain⟨v1,v2,v3,rfl,⟨a,cap,rfl,l1,m1,h1⟩,⟨b,cp,rfl,l2,m2,h2⟩,-⟩:=h;refine⟨fun p hp=>?_,fun n hn=>?_⟩
 · obtain⟨k,hk,rfl⟩:=List.mem_iff_getElem.1 hp;obtain⟨g,off,rfl⟩:=h2.form.resolve_left (by omega);obtain⟨n,b1,m1,c1,b2,m2,c2,b3,m3,c3,b4,m4,c4,hn,hd,hb,p0,p1,p2,p3,p4,p5,p6,p7,p8,p9,p10,hat⟩:=h2.at_ hk;rw[List.getElem?_eq_getElem hk] at hn;obtain rfl:=Option.some.inj hn;exact hat.name
 · obtain⟨k,hk,rfl⟩:=List.mem_iff_getElem.1 hn;obtain⟨g,off,rfl⟩:=h1.form.resolve_left (by omega);obtain⟨n,b1,q1,f1,b2,q2,f2,b3,q3,f3,hn,hd,hb,u0,u1,u2,u3,u4,hat⟩:=h1.at_ hk;rw[List.getElem?_eq_getElem hk] at hn;obtain rfl:=Option.some.inj hn;exact hat.size
theorem jhr {v:Value} {s:Clu} {w:World} (h:jC w v s) (x y:ByteArray) (hy:y.size≤maxLen) (hl:jE s):Calls Tryz.prog 17 #[v,.string x,.string y] w fun e w'=>∃u1 v1 x1 u2 v2 x2 u3 v3 x3,e=.returned (.agg #[.slice u1 v1 x1,.slice u2 v2 x2,.slice u3 v3 x3])∧jP (fun b=>b<w.heap.size) w.heap.size w' (.slice u1 v1 x1) (.slice u2 v2 x2) (.slice u3 v3 x3) (zY s x y)∧Kept w w':=by
 obtain⟨v1,v2,v3,rfl,⟨a,cap,rfl,l1,m1,h1⟩,⟨b,cp,rfl,l2,m2,h2⟩,⟨d,cb,rfl,l3,m3,h3⟩⟩:=h;exact jav a b d _ cap _ cp _ cb s.nodes s.pods s.buds x y w hy h1 h2 h3 l1 m1 l2 m2 l3 m3 hl
theorem jlK {v:Value} {s:Clu} {w:World} (h:jC w v s) (hl:jE s):Calls Tryz.prog 30 #[v] w fun e w'=>∃u1 v1 x1 u2 v2 x2 u3 v3 x3,e=.returned (.agg #[.slice u1 v1 x1,.slice u2 v2 x2,.slice u3 v3 x3])∧(Off (fun b=>b<w.heap.size) w' fun u=>jC u (.agg #[.slice u1 v1 x1,.slice u2 v2 x2,.slice u3 v3 x3]) s)∧Kept w w':=by
 obtain⟨v1,v2,v3,rfl,⟨a,cap,rfl,l1,m1,h1⟩,⟨b,cp,rfl,l2,m2,h2⟩,⟨d,cb,rfl,l3,m3,h3⟩⟩:=h;refine(jbX a b d _ cap _ cp _ cb s.nodes s.pods s.buds w h1 h2 h3 l1 m1 l2 m2 l3 m3 hl).mono ?_;rintro e w' ⟨_,_,_,_,_,_,_,_,_,rfl,ho,kk⟩;exact⟨_,_,_,_,_,_,_,_,_,rfl,fun u g=>(ho.step g).toR,kk⟩
def jnX (zq mq:Nat) (s:Clu) (bs:List (ByteArray×ByteArray)) (k:Nat) (Y wr:World) (dv:Value):Prop:=∃a1 t1 c1 a2 t2 c2 a3 t3 c3,jf mq [.slice a1 t1 c1,.slice a2 t2 c2,.slice a3 t3 c3] wr∧(Off (fun b=>b<zq) wr fun u=>jC u (.agg #[.slice a1 t1 c1,.slice a2 t2 c2,.slice a3 t3 c3]) (goS (bs.take k) s))∧Own jz 54 wr (mq+1) dv (bs.take k)∧Go.RowKit.Below mq Y wr
def jnI (s:Clu) (pack:Bool) (w:World) (e:Ending) (w':World):Prop:=∃v y,e=.returned (.tuple #[v,y])∧jC w' v (goS (JI s pack) s)∧Reads jz w' y (JI s pack)∧Kept w w'
theorem jhE (s1 s2 s3:Option Addr) (n1 e1 n2 e2 n3 e3:Nat) (pack:Bool) (s:Clu) (w:World) (hs:jC w (Jh (.slice s1 n1 e1) (.slice s2 n2 e2) (.slice s3 n3 e3)) s) (hw:Je s):Calls Tryz.prog 14 #[.agg #[.slice s1 n1 e1,.slice s2 n2 e2,.slice s3 n3 e3],.bool pack] w (jnI s pack w):=by
 obtain⟨i0,hi,hz0,hz1,hz2'⟩:=info_parts jm8;obtain⟨Z,hZ⟩:=eX ((w.alloc (.cells #[.slice s1 n1 e1,.slice s2 n2 e2,.slice s3 n3 e3] 26)).alloc (.cells #[.slice none 0 0,.slice none 0 0,.slice none 0 0] 26))
 have hkz:Kept w Z:=by rw[←hZ];exact jn _ _ _
 have hzs:Z.heap.size=w.heap.size+2:=by rw[←hZ];simp
 have Vj:=lH (jc w (.slice s1 n1 e1) [.slice s2 n2 e2,.slice s3 n3 e3] 26 Z (by rw[←hZ];exact ja _ _));have Rz:=lH (show jf (w.heap.size+1) [.slice none 0 0,.slice none 0 0,.slice none 0 0] Z by
  have dd:=jc (w.alloc (.cells #[.slice s1 n1 e1,.slice s2 n2 e2,.slice s3 n3 e3] 26)) (.slice none 0 0) [.slice none 0 0,.slice none 0 0] 26 Z (by rw[hZ];exact Kept.refl _);rw[World.size_alloc] at dd;exact dd)
 obtain⟨HS,HW,HK,Vf,HC⟩:=lH5 (hs.kept hkz) hw hkz hzs (jlK (hs.kept hkz) hw.low);clear hs hkz hw hzs;obtain⟨bs,hbs⟩:=eX (JI s pack)
 have Vu:=lH hbs;unfold jnI;rw[hbs];clear hbs;obtain⟨rq,hrq⟩:=eX (w.heap.size+1)
 have U3:=lH hrq;rw[hrq] at Rz;obtain⟨y0,y1,y2⟩:=Vj.out.at3;go_enter Tryz.func14,Tryz.ntmps14;go_wp2_with fail
 try rw[hZ]
 try rw[hrq]
 go_wp2_with fail
 try rw[hZ]
 try rw[hrq]
 clear hZ hrq y0 y1 y2;refine HC.out.mono ?_;rintro e9 w1 ⟨u1,v1,x1,u2,v2,x2,u3,v3,x3,rfl,ho,kk⟩;obtain⟨W1,hW1⟩:=eX (w1.alloc (.cells #[.slice u1 v1 x1,.slice u2 v2 x2,.slice u3 v3 x3] 26))
 have hkw:Kept w1 W1:=by rw[←hW1];exact ja _ _
 obtain⟨HM,Ux,Tw,U4,KZ⟩:=lH5 (jc w1 (.slice u1 v1 x1) [.slice u2 v2 x2,.slice u3 v3 x3] 26 W1 (by rw[hW1];exact Kept.refl _)) (ho.step (jg.of hkw)) (show W1.heap.size=w1.heap.size+1 by rw[←hW1];simp) (show Z.heap.size≤w1.heap.size from kk.size) (kk.trans hkw);obtain⟨mq,hmq⟩:=eX (w1.heap.size)
 rw[hmq] at HM Tw U4;clear ho kk hkw HC;have HP:=lH (qZ (HS.out.kept KZ.out) HW.out.low HW.out.asc);obtain⟨y0,y1,y2⟩:=(Vj.out.kept KZ.out).at3;go_wp2_with fail
 try rw[hW1]
 try rw[hmq]
 go_wp2_with fail
 try rw[hW1]
 try rw[hmq]
 clear hW1 hmq y0 y1 y2;refine HP.out.mono ?_;rintro e9 w2 ⟨y,rfl,⟨pa,pc,rfl,-,-,hrow⟩,kk⟩;have K1:=lH kk;obtain⟨pn,hpn⟩:=eX ((zF s.pods).length)
 try rw[hpn]
 have UH:=lH hpn;have T5:=lH (show bs.length≤pn by rw[←Vu.out,←hpn];exact qW _ _ _);have hpb:pn≤128:=by rw[←hpn];exact Nat.le_trans (qH _) HW.out.few
 clear kk hrow hpn HP;go_wp2_with fail
 go_loopw [15,7] (fun iv dv wr=>∃k:Nat,k≤pn∧k≤bs.length∧iv=.int .i64 k∧jnX Z.heap.size mq s bs k W1 wr dv) (fun iv _ _=>pn-(intOf iv).toNat)
 case atStart=>exact⟨0,Nat.zero_le _,Nat.zero_le _,rfl,_,_,_,_,_,_,_,_,_,HM.out.kept K1.out,Ux.out.step (jg.of K1.out),Own.nil _ _ _,Below.mono K1.out (by have:=Tw.out;omega)⟩
 case round =>
  obtain⟨k,hk,hkb,rfl,hinv⟩:=hrel;obtain⟨a1,t1,c1,a2,t2,c2,a3,t3,c3,hm,hc,ho,hbl⟩:=hinv;obtain⟨Uq,VV,HO,Uk⟩:=lH4 hm hc ho hbl;clear hm hc ho hbl HM Ux;by_cases hlt:k<pn
  · skip;have hkk:(k:Int)<(pn:Int):=by omega
    have U5:=lH (show Je (goS (bs.take k) s) by rw[←Vu.out];exact XH HW.out pack (by rw[Vu.out];exact hkb));have VD:=lH (show nextS (goS (bs.take k) s) pack=bs[k]? by rw[←Vu.out];exact jcs HW.out pack (by rw[Vu.out];exact hkb));obtain⟨sk,hsk⟩:=eX (goS (bs.take k) s)
    have Up:=lH hsk;rw[hsk] at U5 VD VV;clear hsk;have HN:=lH (jb5 a1 a2 a3 t1 c1 t2 c2 t3 c3 pack sk wr VV.out.here U5.out.low U5.out.asc (by have:=U5.out.few;omega));unfold jb4 at HN;rw[VD.out] at HN;obtain⟨y0,y1,y2⟩:=Uq.out.at3
    cases hb:bs[k]? with
    | none =>
     rw[hb] at HN;have HN:=lH (show Calls Tryz.prog 12 #[.agg #[.slice a1 t1 c1,.slice a2 t2 c2,.slice a3 t3 c3],.bool pack] wr (fun e w'=>e=.returned (.tuple #[.agg #[.string ⟨#[]⟩,.string ⟨#[]⟩],.bool false])∧Kept wr w') from HN.out);go_wp2_with fail
     refine HN.out.mono ?_;rintro e9 w3 ⟨rfl,kk⟩;obtain⟨wx,hwx⟩:=eX (w3.alloc (.cells #[.string ⟨#[]⟩,.string ⟨#[]⟩] 54))
     have hkx:Kept wr wx:=by rw[←hwx];exact kk.trans (ja _ _)
     obtain⟨KX,Tl,RD,RF,Vd,VT⟩:=lH6 hkx (Uq.out.kept hkx) (VV.out.step (jg.of hkx)) (HO.out.kept hkx) (show Go.RowKit.Below mq W1 wx from Uk.out.trans (Below.mono hkx (by have:=Uk.out.size;have:=Tw.out;omega))) hwx;clear kk hkx hwx HN y0 y1 y2;go_upto_region 10 with fail
     try rw[VT.out]
     clear VT;have RD:=lH (show Off (fun b=>b<Z.heap.size) wx fun u=>jC u (.agg #[.slice a1 t1 c1,.slice a2 t2 c2,.slice a3 t3 c3]) (goS (bs.take k) s) by rw[Up.out];exact RD.out);have hfull:bs.take k=bs:=by rw[List.take_of_length_le (List.getElem?_eq_none_iff.1 hb)]
     have RB:=lH ((Rz.out.kept KZ.out).block (Vd.out.block rq (by have:=U4.out;have:=Vf.out;have:=U3.out;omega)));obtain⟨z0,z1,z2⟩:=RB.out.at3;have f0:=RB.out.free 0;have f1:=RB.out.free 1;have f2:=RB.out.free 2;obtain⟨y0,y1,y2⟩:=Tl.out.at3;obtain⟨P,GE,Th,Vy,KF⟩:=lH5 (j7 (vs:=[.slice a1 t1 c1,.slice a2 t2 c2,.slice a3 t3 c3]) RB.out rfl) (jg.cells (S:=fun b=>b=rq) rq rfl [.slice a1 t1 c1,.slice a2 t2 c2,.slice a3 t3 c3] 0 wx) (show Off (fun b=>b<Z.heap.size) wx fun u=>jC u (.agg #[.slice a1 t1 c1,.slice a2 t2 c2,.slice a3 t3 c3]) (goS bs s) by have:=RD.out;rw[hfull] at this;exact this) (show Own jz 54 wx (mq+1) _ bs by have:=RF.out;rw[hfull] at this;exact this) (show Kept w wx from Below.trans (HK.out.trans KZ.out) (Below.mono Vd.out (by have:=U4.out;have:=Vf.out;omega)));clear hfull;go_wp2;obtain⟨WE,hWE⟩:=eX (wx.setCells rq 0 [.slice a1 t1 c1,.slice a2 t2 c2,.slice a3 t3 c3])
     have hWE2:(((wx.setCell ⟨rq,0,none⟩ (.slice a1 t1 c1)).setCell ⟨rq,1,none⟩ (.slice a2 t2 c2)).setCell ⟨rq,2,none⟩ (.slice a3 t3 c3))=WE:=hWE;rw[hWE] at P GE;try rw[hWE2]
     have KE:=lH (show Kept w WE by rw[←hWE];exact jt rq _ _ _ _ _ (by have:=U3.out;omega) KF.out);clear hWE hWE2 z0 z1 z2 f0 f1 f2 y0 y1 y2;refine bodyPost_ret (by simp[results,Tryz.results14,go_sem,P.out.cells.at_ 0 _ rfl,P.out.cells.at_ 1 _ rfl,P.out.cells.at_ 2 _ rfl];try rfl) rfl ?_;exact⟨_,_,rfl,(Th.out.step (GE.out.mono fun b e=>by subst e;have:=Vf.out;have:=U3.out;omega)).here,Vy.out.goff GE.out (fun j hj e=>by have:=(JV Vy.out j hj).1;have:=U4.out;have:=Vf.out;have:=U3.out;omega) |>.reads,KE.out⟩
    | some b =>
     obtain⟨x,t⟩:=b;rw[hb] at HN;have T6:=lH hb;have HN:=lH (show Calls Tryz.prog 12 #[.agg #[.slice a1 t1 c1,.slice a2 t2 c2,.slice a3 t3 c3],.bool pack] wr (fun e w'=>e=.returned (.tuple #[.agg #[.string x,.string t],.bool true])∧Kept wr w') from HN.out);have Na:=lH (show x.size≤maxLen∧t.size≤maxLen by
      obtain⟨p,hp,-,rfl,ht⟩:=XR (VD.out.trans hb);obtain⟨-,n,hn,rfl⟩:=ja2 ht;exact⟨(jdS VV.out.here).1 p hp,(jdS VV.out.here).2 n hn⟩)
     clear hb;go_wp2_with fail
     refine HN.out.mono ?_;rintro e9 w3 ⟨rfl,kk⟩;obtain⟨wx,hwx⟩:=eX (w3.alloc (.cells #[.string x,.string t] 54))
     have hkx:Kept wr wx:=by rw[←hwx];exact kk.trans (ja _ _)
     obtain⟨Vh,UQ,KX,Tl,RF,Vd,Nb⟩:=lH7 (jc w3 (.string x) [.string t] 54 wx (by rw[hwx];exact Kept.refl _)) (show w3.heap.size<wx.heap.size by rw[←hwx];simp) hkx (Uq.out.kept hkx) (HO.out.kept hkx) (show Go.RowKit.Below mq W1 wx from Uk.out.trans (Below.mono hkx (by have:=Uk.out.size;have:=Tw.out;omega))) (show wr.heap.size≤w3.heap.size from kk.size);obtain⟨bq,hbq⟩:=eX (w3.heap.size)
     rw[hbq] at Vh UQ Nb;have Nc:=lH (jhr (VV.out.here.kept hkx) x t Na.out.2 U5.out.low);clear kk hkx HN y0 y1 y2;obtain⟨y0,y1,y2⟩:=Tl.out.at3;have b0:=Vh.out.at_ 0 _ rfl;have b1:=Vh.out.at_ 1 _ rfl;go_wp2_with fail
     try rw[hwx]
     try rw[hbq]
     go_wp2_with fail
     try rw[hwx]
     try rw[hbq]
     clear hwx hbq y0 y1 y2 b0 b1;refine Nc.out.mono ?_;rintro e9 w4 ⟨u1,v1,x1,u2,v2,x2,u3,v3,x3,rfl,hoc,kk⟩;obtain⟨T7,KM,UP,Vh,Nd⟩:=lH5 hoc kk (Tl.out.kept kk) (Vh.out.kept kk) (RF.out.kept kk);clear hoc kk Nc;obtain⟨z0,z1,z2⟩:=UP.out.at3;have f0:=UP.out.free 0;have f1:=UP.out.free 1;have f2:=UP.out.free 2;obtain⟨P,GE,Uh⟩:=lH3 (j7 (vs:=[.slice u1 v1 x1,.slice u2 v2 x2,.slice u3 v3 x3]) UP.out rfl) (jg.cells (S:=fun b=>b=mq) mq rfl [.slice u1 v1 x1,.slice u2 v2 x2,.slice u3 v3 x3] 0 w4) (show mq<wr.heap.size from Uq.out.lt);go_upto_region 8 with fail
     obtain⟨WE,hWE⟩:=eX (w4.setCells mq 0 [.slice u1 v1 x1,.slice u2 v2 x2,.slice u3 v3 x3])
     have hWE2:(((w4.setCell ⟨mq,0,none⟩ (.slice u1 v1 x1)).setCell ⟨mq,1,none⟩ (.slice u2 v2 x2)).setCell ⟨mq,2,none⟩ (.slice u3 v3 x3))=WE:=hWE;rw[hWE] at P GE;try rw[hWE2]
     have Tu:=lH (show Go.RowKit.Below mq W1 WE from by rw[←hWE];exact jt mq _ _ _ _ _ (Nat.le_refl _) (Vd.out.trans (Below.mono KM.out (by have:=Vd.out.size;have:=Tw.out;omega))));clear hWE hWE2 z0 z1 z2 f0 f1 f2;obtain⟨Nf,Tx,RG⟩:=lH3 (Vh.out.block (GE.out.block bq (Nat.lt_of_lt_of_le UQ.out KM.out.size) (by have:=Nb.out;have:=Uh.out;omega))) (Nd.out.goff GE.out (fun j hj e=>by have:=(JV Nd.out j hj).1;omega)) (T7.out.step (GE.out.mono fun b e=>by subst e;have:=Uh.out;have:=KX.out.size;omega));obtain⟨m,hm⟩:=eX ((bs.take k).length)
     have hmk:m=k:=by rw[←hm,List.length_take];omega
     have UX:=lH hmk;have VK:=lH (show WE.ownsRow (mq+1) 54 2 u7 m (je jz (bs.take k)) by have:=Tx.out.1;rw[hm] at this;exact this);have b0:=Nf.out.at_ 0 _ rfl;have b1:=Nf.out.at_ 1 _ rfl;have NQ:=lH (show mq+1≤WE.heap.size by have:=Tu.out.size;have:=Tw.out;omega);have hwz:=NQ.out;go_wp2_with (at_builtin;refine wpList_append_lies _ rfl _ _ _ rfl (mq+1) 54 i0 _ 2 32 Tryz.underlying60 hi hz0 hz1 hz2' rfl (by decide) u7 m (je jz (bs.take k)) rfl (VK.out.alloc _) ⟨WE.heap.size,0,none⟩ 1 1 (jz.cs (x,t)) rfl rfl (World.news_of_block (cs:=#[.string x,.string t]) (t:=54) (fr:=(0,0)) (heap_alloc_new WE _)) (je7 x t) (by decide) (by unfold maxLen;omega) (by omega) (by simp;omega) (WE.heap.size+1) (by simp) ?_;intro gg cap1 w6 hown1 hgrow hat hlt1)
     obtain⟨GA,UO,Ti⟩:=lH3 ((jg.of (ja WE _)).trans (jg.grown (S:=fun b=>u7.ownBlock=some b) hgrow (fun j hj=>hj))) (show bs.take (k+1)=bs.take k++[(x,t)] by rw[List.take_add_one,T6.out];rfl) (show goS (bs.take (k+1)) s=zY sk x t by rw[jb3 T6.out,Up.out]);have NR:=lH (show jnX Z.heap.size mq s bs (k+1) W1 w6 _ from⟨_,_,_,_,_,_,_,_,_,P.out.cells.block (GA.out.block mq (by omega) (fun e=>by have:=(VK.out.lt mq e).1;omega)),by rw[Ti.out];exact fun u g9=>((RG.out.step (GA.out.mono fun b e=>by have:=(HO.out.1.lt b e).2;have:=KX.out.size;omega)).step (g9.mono fun b e=>by have:=U4.out;have:=Uh.out;have:=KX.out.size;omega)).toR,by rw[UO.out];exact Own.snoc hown1 (by rw[hm]) HO.out.2 Na.out,Tu.out.trans (GA.out.at_below (fun j hj=>by have:=(VK.out.lt j hj).1;omega) (by omega))⟩);have hkb2:k+1≤bs.length:=by have:=(List.getElem?_eq_some_iff.1 T6.out).1;omega
     clear b0 b1 hwz hown1 hgrow hat hlt1 hm hmk;go_wp2;go_roundw
     case rel=>exact⟨k+1,by omega,hkb2,by go_num,by have h9:=NR.out;rw[UX.out] at h9;exact h9⟩
     case measure=>simp[intOf];omega
  · skip;have hkk:¬(k:Int)<(pn:Int):=by omega
    go_upto_region 10 with fail
    have hfull:bs.take k=bs:=by rw[List.take_of_length_le (by have:=T5.out;omega)]
    have RB:=lH ((Rz.out.kept KZ.out).block (Uk.out.block rq (by have:=U4.out;have:=Vf.out;have:=U3.out;omega)));obtain⟨z0,z1,z2⟩:=RB.out.at3;have f0:=RB.out.free 0;have f1:=RB.out.free 1;have f2:=RB.out.free 2;obtain⟨y0,y1,y2⟩:=Uq.out.at3;obtain⟨P,GE,Th,Vy,KF⟩:=lH5 (j7 (vs:=[.slice a1 t1 c1,.slice a2 t2 c2,.slice a3 t3 c3]) RB.out rfl) (jg.cells (S:=fun b=>b=rq) rq rfl [.slice a1 t1 c1,.slice a2 t2 c2,.slice a3 t3 c3] 0 wr) (show Off (fun b=>b<Z.heap.size) wr fun u=>jC u (.agg #[.slice a1 t1 c1,.slice a2 t2 c2,.slice a3 t3 c3]) (goS bs s) by have:=VV.out;rw[hfull] at this;exact this) (show Own jz 54 wr (mq+1) _ bs by have:=HO.out;rw[hfull] at this;exact this) (show Kept w wr from Below.trans (HK.out.trans KZ.out) (Below.mono Uk.out (by have:=U4.out;have:=Vf.out;omega)));clear hfull;go_wp2;obtain⟨WE,hWE⟩:=eX (wr.setCells rq 0 [.slice a1 t1 c1,.slice a2 t2 c2,.slice a3 t3 c3])
    have hWE2:(((wr.setCell ⟨rq,0,none⟩ (.slice a1 t1 c1)).setCell ⟨rq,1,none⟩ (.slice a2 t2 c2)).setCell ⟨rq,2,none⟩ (.slice a3 t3 c3))=WE:=hWE;rw[hWE] at P GE;try rw[hWE2]
    have KE:=lH (show Kept w WE by rw[←hWE];exact jt rq _ _ _ _ _ (by have:=U3.out;omega) KF.out);clear hWE hWE2 z0 z1 z2 f0 f1 f2 y0 y1 y2;refine bodyPost_ret (by simp[results,Tryz.results14,go_sem,P.out.cells.at_ 0 _ rfl,P.out.cells.at_ 1 _ rfl,P.out.cells.at_ 2 _ rfl];try rfl) rfl ?_;exact⟨_,_,rfl,(Th.out.step (GE.out.mono fun b e=>by subst e;have:=Vf.out;have:=U3.out;omega)).here,Vy.out.goff GE.out (fun j hj e=>by have:=(JV Vy.out j hj).1;have:=U4.out;have:=Vf.out;have:=U3.out;omega) |>.reads,KE.out⟩
end Go.Proofs.YtibepooajeakfaaGreat
