/- C. -/
import Derived.Test.YtokdjfoalkmhiaaGreatG0
import Derived.Test.YtokdjfoalkmhiaaGreatG1
import Derived.Test.YtokdjfoalkmhiaaGreatG2
import Derived.Test.YtokdjfoalkmhiaaGreatG3
import Derived.Test.YtokdjfoalkmhiaaGreatG6
import Derived.Test.YtokdjfoalkmhiaaGreatG7
import Derived.Lib.OwnBridge
import Derived.Shelf.SlSortCmp.NoneTotal
set_option linter.unusedVariables false
set_option maxRecDepth 100000
set_option maxHeartbeats 25600000
namespace Go.Proofs.YtokdjfoalkmhiaaGreat
open Go.RowKit
theorem jaK (x:ByteArray) (u:Value) (h:u ∈ [Value.string x]):u.oneCell'=true:=Yk x u h
theorem jcY:(Tryz.prog.info? 9).map (fun i=>(i.zero,i.size,i.bytes))=some (some (.string ByteArray.empty),1,16):=by kernel_rfl
theorem jv.drop {s:Clu} (h:jv s) (x:ByteArray):jv (j5 s x):=jaW h x
theorem jJ.spelt {w:World} {y:Value} {s:Clu} (h:jJ w y s):∃s1 n1 e1 s2 n2 e2 s3 n3 e3,y=zx (.slice s1 n1 e1) (.slice s2 n2 e2) (.slice s3 n3 e3):=by
 obtain⟨_,_,_,rfl,⟨a,c,rfl,-⟩,⟨b,d,rfl,-⟩,⟨e,f,rfl,-⟩⟩:=h;exact⟨a,_,c,b,_,d,e,_,f,rfl⟩
theorem jc2 (x:Int) (u:Value) (h:u ∈ [Value.int .i64 x]):u.oneCell'=true:=by
 have e:u=Value.int .i64 x:=by simpa using h
 rw[e];rfl
def Zs:Lay Int:={ m:=1,cs:=fun x=>[.int .i64 x],fine:=fun x=>-9223372036854775808≤x∧x≤9223372036854775807,len:=fun _=>rfl,one:=jc2,pos:=by decide }
theorem ji.err {w:World} {b off len:Nat} {l:List Int} {k:Nat} (h:ji Zs w (some ⟨b,off,none⟩) len l) (hk:k<len):∃x:Int,l[k]?=some x∧l.drop k=x::l.drop (k+1)∧b<w.heap.size∧w.cell? ⟨b,off+k,none⟩=some (.int .i64 x):=by
 obtain⟨x,h1,h2,h3,h4,h5⟩:=h.cells hk;exact⟨x,h1,h2,h3,by have:=h5 0 _ rfl;simpa [Zs] using this⟩
theorem jfy:(Tryz.prog.info? 45).map (fun i=>(i.zero,i.size,i.bytes))=some (some (.int .i64 0),1,8):=by kernel_rfl
theorem jfs (s1 s2 s3:Option Addr) (n1 e1 n2 e2 n3 e3:Nat) (a1 a2 a3 a4:Option Addr) (m1 c1 m2 c2 m3 c3 m4 c4:Nat) (p:Pd) (s:Clu) (w:World) (hs:jJ w (zx (.slice s1 n1 e1) (.slice s2 n2 e2) (.slice s3 n3 e3)) s) (hl:jv s) (hp:jr w (.slice a1 m1 c1) (.slice a2 m2 c2) (.slice a3 m3 c3) (.slice a4 m4 c4) p):Calls Tryz.prog 33 #[.agg #[.slice s1 n1 e1,.slice s2 n2 e2,.slice s3 n3 e3],jt p (.slice a1 m1 c1) (.slice a2 m2 c2) (.slice a3 m3 c3) (.slice a4 m4 c4)] w fun e w'=>∃v,e=.returned v∧Own Zs 45 w' w.heap.size v (Zt s p s.nodes)∧Kept w w':=by
 obtain⟨i0,hi,hz0,hz1,hz2'⟩:=info_parts jfy;obtain⟨Z,hZ⟩:=eX ((w.alloc (.cells #[.slice s1 n1 e1,.slice s2 n2 e2,.slice s3 n3 e3] 26)).alloc (.cells #[.string p.name,.string p.owner,.int .i64 p.prio,.slice a1 m1 c1,.slice a2 m2 c2,.slice a3 m3 c3,.slice a4 m4 c4,.string p.key,.int .i64 p.most,.string p.node,.bool p.hold] 44))
 have hkz:Kept w Z:=by rw[←hZ];exact jj _ _ _
 have Vf:=lH (jc w (.slice s1 n1 e1) [.slice s2 n2 e2,.slice s3 n3 e3] 26 Z (by rw[←hZ];exact ja _ _));have Va:=lH (show je (w.heap.size+1) [.string p.name,.string p.owner,.int .i64 p.prio,.slice a1 m1 c1,.slice a2 m2 c2,.slice a3 m3 c3,.slice a4 m4 c4,.string p.key,.int .i64 p.most,.string p.node,.bool p.hold] Z by
  have dd:=jc (w.alloc (.cells #[.slice s1 n1 e1,.slice s2 n2 e2,.slice s3 n3 e3] 26)) (.string p.name) [.string p.owner,.int .i64 p.prio,.slice a1 m1 c1,.slice a2 m2 c2,.slice a3 m3 c3,.slice a4 m4 c4,.string p.key,.int .i64 p.most,.string p.node,.bool p.hold] 44 Z (by rw[hZ];exact Kept.refl _);rw[World.size_alloc] at dd;exact dd)
 obtain⟨K,HS,HP,HL⟩:=lH4 hkz (hs.kept hkz) (hp.kept hkz) hl;clear hs hp hkz hl;have VC:=lH HS.out.nAt.2;have hb1:n1≤100000:=by have:=HL.out.nodesN;have:=VC.out;omega
 have HN:=lH HS.out.nAt.1;have TG:=lH (jfm HS.out p.name HL.out);try unfold zx at TG
 obtain⟨y0,y1,y2⟩:=Vf.out.at3;have r0:=Va.out.at_ 0 _ rfl;unfold jt;go_enter Tryz.func33,Tryz.ntmps33;go_upto_region 1 with fail
 try rw[hZ]
 clear hZ;go_wp2_with fail
 refine TG.out.mono ?_;rintro e w1 ⟨y,rfl,hy,kk⟩;obtain⟨t1,k1,d1,t2,k2,d2,t3,k3,d3,rfl⟩:=hy.spelt;obtain⟨w2,hw2⟩:=eX (w1.alloc (.cells #[.slice t1 k1 d1,.slice t2 k2 d2,.slice t3 k3 d3] 26))
 have kx:Kept w1 w2:=by rw[←hw2];exact ja _ _
 obtain⟨Vk,HY,Vf,Va,HP,HN,K⟩:=lH7 (jc w1 (.slice t1 k1 d1) [.slice t2 k2 d2,.slice t3 k3 d3] 26 w2 (by rw[hw2];exact Kept.refl _)) (hy.kept kx) (Vf.out.kept (kk.trans kx)) (Va.out.kept (kk.trans kx)) (HP.out.kept (kk.trans kx)) (HN.out.kept (kk.trans kx)) (K.out.trans (kk.trans kx));obtain⟨gd,hgd⟩:=eX (w1.heap.size)
 rw[hgd] at Vk;clear kk kx hy TG y0 y1 y2 r0;have y0:=Vf.out.at_ 0 _ rfl;go_upto_region 3 with fail
 try rw[hw2]
 try rw[hgd]
 clear hw2 hgd;go_wp2;clear y0;go_loopw [6,16] (fun v i wr=>∃k:Nat,k≤n1∧i=.int .i64 k∧∃la:List Int,Zt s p (s.nodes.take k)=la∧Own Zs 45 wr w2.heap.size v la∧Kept w2 wr) (fun _ i _=>n1-(intOf i).toNat)
 case atStart=>exact⟨0,Nat.zero_le _,rfl,[],rfl,Own.nil _ _ _,Kept.refl _⟩
 case round =>
  obtain⟨k,hk,rfl,la,hla,ho,hK⟩:=hrel;obtain⟨HX,HO,HK⟩:=lH3 hla ho hK;obtain⟨m,hm⟩:=eX (la.length)
  have hmk:m≤k:=by
   have:=Xw s p (s.nodes.take k);rw[hla,hm,List.length_take] at this;omega
  have HT:=lH hm;have hbase:w2.heap.size≤wr.heap.size:=hK.size;by_cases hlt:k<n1
  · obtain⟨g,off,rfl⟩:=HN.out.form.resolve_left (by omega);obtain⟨n,b1,q1,f1,b2,q2,f2,b3,q3,f3,hn,hd,hb,u0,u1,u2,u3,u4,hat⟩:=(HN.out.kept hK).at_ hlt;have V3:=lH (jds (s:=s) (p:=p) hn);have hkk:(k:Int)<(n1:Int):=by omega
    have hk0:¬(k:Int)<0:=by omega
    obtain⟨wx,hwx⟩:=eX (wr.alloc (.cells #[.string n.name,.slice b1 q1 f1,.slice b2 q2 f2,.slice b3 q3 f3,.bool n.cordon] 57))
    have hkx:Kept wr wx:=by rw[←hwx];exact ja _ _
    have VE:=lH (jc wr (.string n.name) [.slice b1 q1 f1,.slice b2 q2 f2,.slice b3 q3 f3,.bool n.cordon] 57 wx (by rw[hwx];exact Kept.refl _));obtain⟨bq,hbq⟩:=eX (wr.heap.size)
    rw[hbq] at VE;obtain⟨Vy,VM,Ui⟩:=lH3 (Vk.out.kept (hK.trans hkx)) (Va.out.kept (hK.trans hkx)) (jcJ t1 t2 t3 k1 d1 k2 d2 k3 d3 a1 a2 a3 a4 m1 c1 m2 c2 m3 c3 m4 c4 p (j5 s p.name) n.name wx (HY.out.kept (hK.trans hkx)) (jaW HL.out p.name) (HP.out.kept (hK.trans hkx)));unfold jt at Ui;obtain⟨c,hc⟩:=eX (jZ (j5 s p.name) p n.name)
    have Ti:=lH (show -9223372036854775808≤c∧c≤9223372036854775807 by have:=jdw (j5 s p.name) p n.name;omega);have HV:=lH (show Zt s p (s.nodes.take (k+1))=la++[c] by rw[V3.out,HX.out];unfold Zv;rw[hc]);rw[hc] at Ui;have KX:=lH hkx;go_upto_region 6 with fail
    try rw[hwx]
    try rw[hbq]
    clear hwx hbq hd hb hn hkx hk0 hkk hat hla ho hm hK hc u0 u1 u2 u3 u4;obtain⟨y0,y1,y2⟩:=Vy.out.at3;obtain⟨r0,r1,r2,r3,r4,r5,r6,r7,r8,r9,r10⟩:=VM.out.at11;have t0:=VE.out.at_ 0 _ rfl;go_wp2_with fail
    refine Ui.out.mono ?_;rintro e w3 ⟨rfl,kk⟩;have KW:=lH (KX.out.trans kk);clear kk Ui t0 y0 y1 y2 r0 r1 r2 r3 r4 r5 r6 r7 r8 r9 r10;have Vu:=lH (show w3.ownsRow w2.heap.size 45 1 u6 m (jb Zs la) by have:=(HO.out.kept KW.out).1;rw[HT.out] at this;exact this);have hs1:wr.heap.size≤w3.heap.size:=Below.size KW.out;go_wp2_with (at_builtin;refine wpList_append_lies _ rfl _ _ _ rfl w2.heap.size 45 i0 _ 1 8 Tryz.underlying79 hi hz0 hz1 hz2' rfl (by decide) u6 m (jb Zs la) rfl (Vu.out.alloc _) ⟨w3.heap.size,0,none⟩ 1 1 (Zs.cs c) rfl rfl (World.news_of_block (cs:=#[.int .i64 c]) (t:=45) (fr:=(0,0)) (heap_alloc_new w3 _)) (jc2 c) (by decide) (by unfold maxLen;omega) (by omega) (by simp;omega) (w3.heap.size+1) (by simp) ?_;intro gg cap1 w4 hown1 hgrow hat hlt1)
    have Vz:=lH ((show Below w2.heap.size w2 _ from HK.out.trans (KW.out.trans (ja w3 _))).grown hgrow (by simp;omega) (fun j hj=>(Vu.out.lt j hj).1));go_wp2;go_roundw
    case rel=>exact⟨k+1,by omega,by go_num,la++[c],HV.out,Own.snoc hown1 (by rw[HT.out]) HO.out.2 Ti.out,Vz.out⟩
    case measure=>simp[intOf];omega
  · have hge:¬(k:Int)<(n1:Int):=by omega
    have HE:=lH (show Zt s p s.nodes=la by rw[←hla,List.take_of_length_le (by rw[←VC.out];omega)]);clear hla ho hm hK;go_wp2;go_ret;exact⟨_,rfl,by rw[HE.out];exact HO.out.base_le K.out.size,K.out.trans HK.out⟩
theorem jcI (w:World):jT w (.slice none 0 0) (.slice none 0 0) (.slice none 0 0) Nod.zero:=⟨(by decide:(0:Nat)≤maxLen),⟨none,0,rfl,Nat.le_refl _,by decide,Vec.jn.nil w⟩,Reads.nil _,Reads.nil _⟩
theorem qF {s:Clu} (h:jv s) (x:ByteArray):zH (jU s x):=by
 unfold jU
 cases hf:jk s.nodes x with
 | none=>exact⟨(by decide:(0:Nat)≤1000000),(by decide:(0:Nat)≤1000000),(by decide:(0:Nat)≤1000000)⟩
 | some n=>exact h.nodes n (jdI hf).1
theorem jbX (x:ByteArray) (v1 v2 v3:Value) (c:Bool) (W:World):(Instr.field 57 (.agg #[.string x,v1,v2,v3,.bool c]) 1).run Tryz.prog W=.ok v1 W:=by kernel_rfl
theorem jeO (x:ByteArray) (v1 v2 v3:Value) (c:Bool) (W:World):(Instr.field 57 (.agg #[.string x,v1,v2,v3,.bool c]) 3).run Tryz.prog W=.ok v3 W:=by kernel_rfl
def jgI (n:Nod) (w:World) (e:Ending) (w':World):Prop:=∃b1 k1 d1 b2 k2 d2 b3 k3 d3,e=.returned (zS n (.slice b1 k1 d1) (.slice b2 k2 d2) (.slice b3 k3 d3))∧jT w' (.slice b1 k1 d1) (.slice b2 k2 d2) (.slice b3 k3 d3) n∧Kept w w'
theorem Zb (s1 s2 s3:Option Addr) (n1 e1 n2 e2 n3 e3:Nat) (s:Clu) (name:ByteArray) (w:World) (hs:jJ w (zx (.slice s1 n1 e1) (.slice s2 n2 e2) (.slice s3 n3 e3)) s) (hl:jv s) :
 Calls Tryz.prog 104 #[.agg #[.slice s1 n1 e1,.slice s2 n2 e2,.slice s3 n3 e3],.string name] w (jgI (jU s name) w):=by
 have hn:=hs.nAt.1;have hb1:n1≤100000:=by have:=hs.nAt.2;have:=hl.nodesN;omega
 have TH:=lH (show jU s name=(jk s.nodes name).getD Nod.zero from rfl);generalize s.nodes=nodes at hn TH
 clear hs hl;obtain⟨Z,hZ⟩:=eX ((w.alloc (.cells #[.slice s1 n1 e1,.slice s2 n2 e2,.slice s3 n3 e3] 26)).alloc (.cells #[.string ⟨#[]⟩,.slice none 0 0,.slice none 0 0,.slice none 0 0,.bool false] 57))
 have hkz:Kept w Z:=by rw[←hZ];exact jj _ _ _
 have Vh:=lH (jc w (.slice s1 n1 e1) [.slice s2 n2 e2,.slice s3 n3 e3] 26 Z (by rw[←hZ];exact ja _ _));have hyb:je (w.heap.size+1) [.string ⟨#[]⟩,.slice none 0 0,.slice none 0 0,.slice none 0 0,.bool false] Z:=by
  have dd:=jc (w.alloc (.cells #[.slice s1 n1 e1,.slice s2 n2 e2,.slice s3 n3 e3] 26)) (.string ⟨#[]⟩) [.slice none 0 0,.slice none 0 0,.slice none 0 0,.bool false] 57 Z (by rw[hZ];exact Kept.refl _);rw[World.size_alloc] at dd;exact dd
 obtain⟨Tf,HN,VC,Vd⟩:=lH4 hyb hn hn.1 hkz;clear hn hkz hyb;go_enter Tryz.func104,Tryz.ntmps104;have y0:=Vh.out.at_ 0 _ rfl;go_upto_region 1 with fail
 try rw[hZ]
 clear hZ;go_wp2;clear y0;go_loopw [10] (fun i wr=>∃k:Nat,k≤n1∧i=.int .i64 k∧jk (nodes.drop k) name=jk nodes name∧Kept Z wr) (fun i _=>n1-(intOf i).toNat)
 case atStart=>exact⟨0,Nat.zero_le _,rfl,rfl,Kept.refl _⟩
 case round =>
  obtain⟨k,hk,rfl,hR,hK⟩:=hrel;obtain⟨HR,HK,Ug⟩:=lH3 hR (Vd.out.trans hK) hK;by_cases hlt:k<n1
  · obtain⟨g,off,rfl⟩:=HN.out.form.resolve_left (by omega);obtain⟨n,b1,k1,d1,b2,k2,d2,b3,k3,d3,hn,hd,hb,u0,u1,u2,u3,u4,hat⟩:=HN.out.at_ hlt;have VP:=lH hat;have HD:=lH hd;have u0:=cell_later HK.out u0;have u1:=cell_later HK.out u1;have u2:=cell_later HK.out u2;have u3:=cell_later HK.out u3;have u4:=cell_later HK.out u4;have hkk:(k:Int)<(n1:Int):=by omega
    have hk0:¬(k:Int)<0:=by omega
    obtain⟨wx,hwx⟩:=eX (wr.alloc (.cells #[.string n.name,.slice b1 k1 d1,.slice b2 k2 d2,.slice b3 k3 d3,.bool n.cordon] 57))
    have hkx:Kept wr wx:=by rw[←hwx];exact ja _ _
    have Vk:=lH (jc wr (.string n.name) [.slice b1 k1 d1,.slice b2 k2 d2,.slice b3 k3 d3,.bool n.cordon] 57 wx (by rw[hwx];exact Kept.refl _));obtain⟨bq,hbq⟩:=eX (wr.heap.size)
    rw[hbq] at Vk;have KX:=lH hkx;go_upto_region 4 with fail
    try rw[hwx]
    try rw[hbq]
    clear hwx hbq hd hb hn hR hK hkx hk0 hkk hat u0 u1 u2 u3 u4;obtain⟨t0,t1,t2,t3,t4⟩:=Vk.out.at5;obtain⟨t,ht⟩:=eX ((n.name.toList==name.toList))
    have HT:=lH (show eqS n.name name=t from ht)
    cases t with
    | false =>
     have HX:=lH (show jk (nodes.drop (k+1)) name=jk nodes name by rw[←HR.out,HD.out];unfold jk;rw[List.find?_cons,HT.out]);go_wp2;go_roundw
     case rel=>exact⟨k+1,by omega,by go_num,HX.out,Ug.out.trans KX.out⟩
     case measure=>simp[intOf];omega
    | true =>
     have HX:=lH (show jU s name=n by rw[TH.out,show jk nodes name=some n by rw[←HR.out,HD.out];unfold jk;rw[List.find?_cons,HT.out]];rfl);have VD:=lH (Tf.out.kept (Ug.out.trans KX.out));obtain⟨z0,z1,z2,z3,z4⟩:=VD.out.at5;have f0:=VD.out.free 0;have f1:=VD.out.free 1;have f2:=VD.out.free 2;have f3:=VD.out.free 3;have f4:=VD.out.free 4;have P:=lH (Ze ⟨z0,z1,z2,z3,z4⟩ n.name b1 b2 b3 k1 d1 k2 d2 k3 d3 n.cordon);go_wp2;obtain⟨WE,hWE⟩:=eX ((((((wx.setCell ⟨w.heap.size+1,0,none⟩ (.string n.name)).setCell ⟨w.heap.size+1,1,none⟩ (.slice b1 k1 d1)).setCell ⟨w.heap.size+1,2,none⟩ (.slice b2 k2 d2)).setCell ⟨w.heap.size+1,3,none⟩ (.slice b3 k3 d3)).setCell ⟨w.heap.size+1,4,none⟩ (.bool n.cordon)))
     rw[hWE] at P ⊢;clear hWE z0 z1 z2 z3 z4 t0 t1 t2 t3 t4 f0 f1 f2 f3 f4;obtain⟨⟨d0,d1,d2,d3,d4⟩,hsz,hbl,hkp⟩:=P.out;refine bodyPost_ret (by simp[results,Tryz.results104,go_sem,d0,d1,d2,d3,d4];try rfl) rfl ?_;have KE:=hkp _ _ (Nat.le_succ _) (HK.out.trans KX.out);rw[HX.out];exact⟨_,_,_,_,_,_,_,_,_,rfl,VP.out.kept KE,KE⟩
  · have hge:¬(k:Int)<(n1:Int):=by omega
    have HX:=lH (show jU s name=Nod.zero by rw[TH.out,show jk nodes name=none by rw[←HR.out,List.drop_of_length_le (by rw[VC.out];omega)];rfl];rfl);clear hR hK;have VD:=lH (Tf.out.kept Ug.out);obtain⟨z0,z1,z2,z3,z4⟩:=VD.out.at5;have f0:=VD.out.free 0;have f1:=VD.out.free 1;have f2:=VD.out.free 2;have f3:=VD.out.free 3;have f4:=VD.out.free 4;have P:=lH (Ze ⟨z0,z1,z2,z3,z4⟩ ⟨#[]⟩ none none none 0 0 0 0 0 0 false);go_wp2;obtain⟨WE,hWE⟩:=eX ((((((wr.setCell ⟨w.heap.size+1,0,none⟩ (.string ⟨#[]⟩)).setCell ⟨w.heap.size+1,1,none⟩ (.slice none 0 0)).setCell ⟨w.heap.size+1,2,none⟩ (.slice none 0 0)).setCell ⟨w.heap.size+1,3,none⟩ (.slice none 0 0)).setCell ⟨w.heap.size+1,4,none⟩ (.bool false)))
    rw[hWE] at P ⊢;clear hWE z0 z1 z2 z3 z4 f0 f1 f2 f3 f4;obtain⟨⟨d0,d1,d2,d3,d4⟩,hsz,hbl,hkp⟩:=P.out;refine bodyPost_ret (by simp[results,Tryz.results104,go_sem,d0,d1,d2,d3,d4];try rfl) rfl ?_;have KE:=hkp _ _ (Nat.le_succ _) HK.out;rw[HX.out];exact⟨_,_,_,_,_,_,_,_,_,rfl,jcI _,KE⟩
theorem X0 (s1 s2 s3:Option Addr) (n1 e1 n2 e2 n3 e3:Nat) (s:Clu) (name:ByteArray) (w:World) (hs:jJ w (zx (.slice s1 n1 e1) (.slice s2 n2 e2) (.slice s3 n3 e3)) s) (hl:jv s):Calls Tryz.prog 103 #[.agg #[.slice s1 n1 e1,.slice s2 n2 e2,.slice s3 n3 e3],.string name] w fun e w'=>∃v,e=.returned v∧Vec.Reads w' v (Zq s name).2∧Kept w w':=by
 obtain⟨Z,hZ⟩:=eX (w.alloc (.cells #[.slice s1 n1 e1,.slice s2 n2 e2,.slice s3 n3 e3] 26))
 have hkz:Kept w Z:=by rw[←hZ];exact ja _ _
 have Vf:=lH (jc w (.slice s1 n1 e1) [.slice s2 n2 e2,.slice s3 n3 e3] 26 Z (by rw[hZ];exact Kept.refl _));have HU:=lH (jgf (hs.kept hkz) name hl);try unfold zx at HU
 have K:=lH hkz;clear hs hl hkz;obtain⟨y0,y1,y2⟩:=Vf.out.at3;go_enter Tryz.func103,Tryz.ntmps103;go_wp2_with fail
 try rw[hZ]
 clear hZ;refine HU.out.mono ?_;rintro e w1 ⟨y,rfl,hy,kk⟩;have HY:=lH hy;have K:=lH (K.out.trans kk);clear kk hy HU y0 y1 y2;go_wp2;go_ret;exact⟨_,rfl,HY.out,K.out⟩
def Z1 (x:Option Nat) (w:World) (e:Ending) (w':World):Prop:=∃r,e=.returned (.float .f64 r)∧nrm r=x∧r<TOP∧Kept w w'
theorem XW {r:Nat} {x:Option Nat} {w w':World} (h:nrm r=x) (t:r<TOP) (k:Kept w w'):Z1 x w (.returned (.float .f64 r)) w':=⟨r,rfl,h,t,k⟩
theorem XI (u c:Value) (lu lc:Vec.V) (what:ByteArray) (w:World) (hu:Vec.Reads w u lu) (hc:Vec.Reads w c lc):Calls Tryz.prog 102 #[u,c,.string what] w (Z1 (Xu (Vec.jK lu what) (Vec.jK lc what)) w):=by
 obtain⟨a,ha⟩:=eX (Vec.jK lu what)
 obtain⟨b,hb⟩:=eX (Vec.jK lc what)
 have HU:=lH (fun (W:World) (k:Kept w W)=>Vec.jaZ (hu.kept k) ha);have HC:=lH (fun (W:World) (k:Kept w W)=>Vec.jaZ (hc.kept k) hb);rw[ha,hb];clear ha hb hu hc;have K:=lH (Kept.refl w);go_enter Tryz.func102,Tryz.ntmps102;go_wp2_with fail
 refine(HU.out _ K.out).mono ?_;rintro e w1 ⟨rfl,kk⟩;have K:=lH (K.out.trans kk);clear kk;go_wp2_with fail
 refine(HC.out _ K.out).mono ?_;rintro e w2 ⟨rfl,kk⟩;have K:=lH (K.out.trans kk);clear kk;go_wp2_with fail
 refine(jdY a b _).mono ?_;rintro e w3 ⟨r,n,rfl,rfl,hr,ht⟩;have HR:=lH hr;have K:=lH (K.out.trans (Kept.drewN w2 n));clear hr;go_wp2;go_ret;exact XW HR.out ht K.out
theorem jbV (x:Nat) (u:Value) (h:u ∈ [Value.float .f64 x]):u.oneCell'=true:=by
 have e:u=Value.float .f64 x:=by simpa using h
 rw[e];rfl
def Z3:Lay Nat:={ m:=1,cs:=fun x=>[.float .f64 x],fine:=fun x=>x<TOP,len:=fun _=>rfl,one:=jbV,pos:=by decide }
theorem jfF:(Tryz.prog.info? 62).map (fun i=>(i.zero,i.size,i.bytes))=some (some (.float .f64 0),1,8):=by kernel_rfl
theorem jey {w:World} {a:Option Addr} {len:Nat} {l:List Nat} (h:ji Z3 w a len l):jbb w a len l:=by
 obtain⟨h0,h1,h2,h3⟩:=h;refine⟨h0,h1,h2,h3.imp id ?_⟩;rintro ⟨b,off,e,hb,hc⟩;refine⟨b,off,e,hb,fun i hi=>?_⟩;have hil:i<l.length:=by omega
 have:=hc i l[i] 0 (.float .f64 l[i]) (List.getElem?_eq_getElem hil) rfl;rw[show l.getD i 0=l[i] by simp[List.getD,hil]];simpa [Z3] using this
theorem jb0 {s:Clu} {x:ByteArray} {l:Vec.V} {k:Nat} (h:k<l.length):(l.take (k+1)).map (fun a=>zB s x a.1)=(l.take k).map (fun a=>zB s x a.1)++[zB s x (Vec.nm l k)]:=by
 rw[List.take_add_one,List.getElem?_eq_getElem h,List.map_append];simp[Vec.nm,List.getD,h]
theorem jc8 (s1 s2 s3:Option Addr) (n1 e1 n2 e2 n3 e3:Nat) (s:Clu) (name:ByteArray) (w:World) (hs:jJ w (zx (.slice s1 n1 e1) (.slice s2 n2 e2) (.slice s3 n3 e3)) s) (hl:jv s):Calls Tryz.prog 56 #[.agg #[.slice s1 n1 e1,.slice s2 n2 e2,.slice s3 n3 e3],.string name] w (Z1 (Yu s name) w):=by
 obtain⟨i0,hi,hz0,hz1,hz2'⟩:=info_parts jfF;obtain⟨Z,hZ⟩:=eX (w.alloc (.cells #[.slice s1 n1 e1,.slice s2 n2 e2,.slice s3 n3 e3] 26))
 have hkz:Kept w Z:=by rw[←hZ];exact ja _ _
 obtain⟨Vf,HS,K,HL⟩:=lH4 (jc w (.slice s1 n1 e1) [.slice s2 n2 e2,.slice s3 n3 e3] 26 Z (by rw[hZ];exact Kept.refl _)) (hs.kept hkz) hkz hl;have HF:=lH (show ∀W,Kept Z W→W.cell? ⟨w.heap.size,0,none⟩=some (.slice s1 n1 e1)∧W.cell? ⟨w.heap.size,1,none⟩=some (.slice s2 n2 e2)∧W.cell? ⟨w.heap.size,2,none⟩=some (.slice s3 n3 e3) from fun W kk=>by
  have h:=Vf.out.kept kk;exact⟨h.at_ 0 _ rfl,h.at_ 1 _ rfl,h.at_ 2 _ rfl⟩)
 clear hs hl hkz;have HM:=lH (show Yu s name=Yb ((jU s name).cap.map fun a=>zB s name a.1) from rfl);go_enter Tryz.func56,Tryz.ntmps56;go_upto_region 1 with fail
 try rw[hZ]
 clear hZ;have J:=lH (Kept.drew Z);refine wp_region_held_drew (S:=fun W=>W.cell? ⟨w.heap.size,0,none⟩=some (.slice s1 n1 e1)∧W.cell? ⟨w.heap.size,1,none⟩=some (.slice s2 n2 e2)∧W.cell? ⟨w.heap.size,2,none⟩=some (.slice s3 n3 e3)) (by kernel_rfl) (HF.out _ J.out) (fun hHeld=>?_);obtain⟨wd,hwd⟩:=eX (Z.drew)
 rw[hwd] at J hHeld;try rw[hwd]
 clear hwd;refine tR 0 rfl (by kernel_rfl) (fun _ _ _=>id) (Or.inl ⟨by rfl,by rintro W ⟨o0,o1,o2⟩;go_simp<;>with_reducible rfl⟩) ‹_› ?_;refine tR 1 rfl (by kernel_rfl) (fun _ _ _=>id) (Or.inl ⟨by rfl,by rintro W ⟨o0,o1,o2⟩;go_simp<;>with_reducible rfl⟩) ‹_› ?_;refine tR 3 rfl (by kernel_rfl) (fun _ _ _=>id) (Or.inl ⟨by rfl,by rintro W ⟨o0,o1,o2⟩;go_simp<;>with_reducible rfl⟩) ‹_› ?_;refine tR 4 rfl (by kernel_rfl) (fun _ _ _=>id) (Or.inl ⟨by rfl,by rintro W ⟨o0,o1,o2⟩;go_simp<;>with_reducible rfl⟩) ‹_› ?_;try simp only[nA,nB,nC,nD,nE]
 refine rd1 2 fun K9 Ky=>?_;go_simp;refine(X0 s1 s2 s3 n1 e1 n2 e2 n3 e3 s name _ (HS.out.kept J.out) HL.out).mono ?_;rintro e w1 ⟨vu,rfl,hu,kk⟩;have HU:=lH hu;have J:=lH (J.out.trans kk);clear kk hu;refine Ky.out _ _ (HF.out _ J.out) (fun _=>?_);clear Ky K9;try simp only[nA,nB,nC,nD,nE]
 refine rd1 5 fun K9 Ky=>?_;go_simp;refine(Zb s1 s2 s3 n1 e1 n2 e2 n3 e3 s name _ (HS.out.kept J.out) HL.out).mono ?_;rintro e w2 ⟨b1,k1,d1,b2,k2,d2,b3,k3,d3,rfl,hn,kk⟩;obtain⟨HU,HC,J⟩:=lH3 (HU.out.kept kk) hn.cap (J.out.trans kk);clear kk hn;unfold zS;refine Ky.out _ _ (HF.out _ J.out) (fun _=>?_);clear Ky K9;try simp only[nA,nB,nC,nD,nE]
 have hfd:=fun W=>jbX (jU s name).name (.slice b1 k1 d1) (.slice b2 k2 d2) (.slice b3 k3 d3) (jU s name).cordon W;refine tR 6 rfl (by kernel_rfl) (fun _ _ _=>id) (Or.inl ⟨by rfl,by rintro W ⟨o0,o1,o2⟩;go_simp<;>with_reducible rfl⟩) ‹_› ?_;refine tR 7 rfl (by kernel_rfl) (fun _ _ _=>id) (Or.inl ⟨by rfl,by rintro W ⟨o0,o1,o2⟩;go_simp<;>with_reducible rfl⟩) ‹_› ?_;refine tR 8 rfl (by kernel_rfl) (fun _ _ _=>id) (Or.inl ⟨by rfl,by rintro W ⟨o0,o1,o2⟩;go_simp<;>with_reducible rfl⟩) ‹_› ?_;try simp only[nA,nB,nC,nD,nE]
 refine wpAnyH_done (by kernel_rfl) ?_ _;clear hfd;have Rf:=(qF HL.out name).cap;have K:=lH (K.out.trans J.out);clear J HF Vf HS HL;have KW:=lH (Kept.refl w2);obtain⟨cap,hcap⟩:=eX ((jU s name).cap)
 have RT:=lH (show ∀x,zB s name x=Xu (Vec.jK (Zq s name).2 x) (Vec.jK cap x) from fun x=>by unfold zB;rw[hcap]);rw[hcap] at HC HM Rf;clear hcap;obtain⟨aC,cC,eC,-,-,hCA⟩:=HC.out;injection eC with e4 e5 e6;obtain rfl:=e4;obtain rfl:=e6;have UH:=lH hCA;obtain⟨n9,hn9⟩:=eX (cap.length)
 rw[hn9] at UH Rf e5;obtain rfl:=e5;have Tj:=lH hn9;clear hCA hn9;go_wp2;go_loopw [7,19] (fun v i wr=>∃k:Nat,k≤k1∧i=.int .i64 k∧∃la:List Nat,la.map nrm=(cap.take k).map (fun a=>zB s name a.1)∧Own Z3 62 wr w2.heap.size v la∧Kept w2 wr) (fun _ i _=>k1-(intOf i).toNat)
 case atStart=>exact⟨0,Nat.zero_le _,rfl,[],rfl,Own.nil _ _ _,Kept.refl _⟩
 case round =>
  obtain⟨k,hk,rfl,la,hla,ho,hK⟩:=hrel;obtain⟨HX,HO,HK⟩:=lH3 hla ho hK;obtain⟨m,hm⟩:=eX (la.length)
  have hmk:m≤k:=by
   have:=congrArg List.length hla;simp only[List.length_map,List.length_take] at this;omega
  have HT:=lH hm;have hbase:w2.heap.size≤wr.heap.size:=hK.size;by_cases hlt:k<k1
  · obtain⟨b,off,rfl⟩:=UH.out.form.resolve_left (by omega);obtain⟨-,u0,u1⟩:=(UH.out.kept hK).cells hlt;have V3:=lH (jb0 (s:=s) (x:=name) (l:=cap) (k:=k) (by have:=Tj.out;omega));obtain⟨xn,hxn⟩:=eX (Vec.nm cap k)
    obtain⟨qn,hqn⟩:=eX (Vec.qn cap k)
    rw[hxn] at u0 V3;rw[hqn] at u1;have hkk:(k:Int)<(k1:Int):=by omega
    have hk0:¬(k:Int)<0:=by omega
    obtain⟨wx,hwx⟩:=eX (wr.alloc (.cells #[.string xn,.int .i64 qn] 100))
    have hkx:Kept wr wx:=by rw[←hwx];exact ja _ _
    have VE:=lH (jc wr (.string xn) [.int .i64 qn] 100 wx (by rw[hwx];exact Kept.refl _));obtain⟨bq,hbq⟩:=eX (wr.heap.size)
    rw[hbq] at VE;have Ui:=lH (XI vu (.slice (some ⟨b,off,none⟩) k1 d1) (Zq s name).2 cap xn wx (HU.out.kept (hK.trans hkx)) (HC.out.kept (hK.trans hkx)));rw[←RT.out] at Ui;have KX:=lH hkx;go_upto_region 6 with fail
    try rw[hwx]
    try rw[hbq]
    clear hwx hbq hkx hk0 hkk hla ho hm hK hxn hqn u0 u1;have t0:=VE.out.at_ 0 _ rfl;go_wp2_with fail
    refine Ui.out.mono ?_;rintro e w3 ⟨r,rfl,hr,hrt,kk⟩;obtain⟨HV,TI,KW⟩:=lH3 (show (la++[r]).map nrm=(cap.take (k+1)).map (fun a=>zB s name a.1) by rw[V3.out,List.map_append,HX.out];simp[hr]) hrt (KX.out.trans kk);clear kk Ui t0 hr hrt;have Vu:=lH (show w3.ownsRow w2.heap.size 62 1 u7 m (jb Z3 la) by have:=(HO.out.kept KW.out).1;rw[HT.out] at this;exact this);have hs1:wr.heap.size≤w3.heap.size:=Below.size KW.out;go_wp2_with (at_builtin;refine wpList_append_lies _ rfl _ _ _ rfl w2.heap.size 62 i0 _ 1 8 Tryz.underlying181 hi hz0 hz1 hz2' rfl (by decide) u7 m (jb Z3 la) rfl (Vu.out.alloc _) ⟨w3.heap.size,0,none⟩ 1 1 (Z3.cs r) rfl rfl (World.news_of_block (cs:=#[.float .f64 r]) (t:=62) (fr:=(0,0)) (heap_alloc_new w3 _)) (jbV r) (by decide) (by unfold maxLen;omega) (by omega) (by simp;omega) (w3.heap.size+1) (by simp) ?_;intro gg cap1 w4 hown1 hgrow hat hlt1)
    have Vz:=lH ((show Below w2.heap.size w2 _ from HK.out.trans (KW.out.trans (ja w3 _))).grown hgrow (by simp;omega) (fun j hj=>(Vu.out.lt j hj).1));go_wp2;go_roundw
    case rel=>exact⟨k+1,by omega,by go_num,la++[r],HV.out,Own.snoc hown1 (by rw[HT.out]) HO.out.2 TI.out,Vz.out⟩
    case measure=>simp[intOf];omega
  · have hge:¬(k:Int)<(k1:Int):=by omega
    have HE:=lH (show la.map nrm=cap.map (fun a=>zB s name a.1) by rw[hla,List.take_of_length_le (by have:=Tj.out;omega)]);obtain⟨aL,cL,rfl,-,-,hrow⟩:=ho.at_;have Uv:=lH (jev aL la.length cL la wr (jey hrow));rw[hm] at Uv;try rw[hm]
    clear hla ho hm hK hrow;go_wp2_with fail
    refine Uv.out.mono ?_;rintro e w5 ⟨r,rfl,hr,hrt,kk⟩;have HR:=lH (show nrm r=Yu s name by rw[hr,jdm,HE.out,HM.out]);have K:=lH (K.out.trans (HK.out.trans kk));clear kk hr Uv;go_wp2;go_ret;exact XW HR.out hrt K.out
theorem jdC (s1 s2 s3:Option Addr) (n1 e1 n2 e2 n3 e3:Nat) (s:Clu) (name:ByteArray) (w:World) (hs:jJ w (zx (.slice s1 n1 e1) (.slice s2 n2 e2) (.slice s3 n3 e3)) s) (hl:jv s):Calls Tryz.prog 58 #[.agg #[.slice s1 n1 e1,.slice s2 n2 e2,.slice s3 n3 e3],.string name] w (jbh (zP s name) w):=by
 obtain⟨Z,hZ⟩:=eX ((w.alloc (.cells #[.slice s1 n1 e1,.slice s2 n2 e2,.slice s3 n3 e3] 26)).alloc (.cells #[.slice none 0 0,.slice none 0 0,.slice none 0 0] 26))
 have hkz:Kept w Z:=by rw[←hZ];exact jj _ _ _
 have Vf:=lH (jc w (.slice s1 n1 e1) [.slice s2 n2 e2,.slice s3 n3 e3] 26 Z (by rw[←hZ];exact ja _ _));have hq2:je (w.heap.size+1) [.slice none 0 0,.slice none 0 0,.slice none 0 0] Z:=by
  have dd:=jc (w.alloc (.cells #[.slice s1 n1 e1,.slice s2 n2 e2,.slice s3 n3 e3] 26)) (.slice none 0 0) [.slice none 0 0,.slice none 0 0] 26 Z (by rw[hZ];exact Kept.refl _);rw[World.size_alloc] at dd;exact dd
 have hh2:Z.heap[w.heap.size+1]?=some (.cells #[.slice none 0 0,.slice none 0 0,.slice none 0 0] 26):=by
  have:=World.alloc_heap_new (w.alloc (.cells #[.slice s1 n1 e1,.slice s2 n2 e2,.slice s3 n3 e3] 26)) (.cells #[.slice none 0 0,.slice none 0 0,.slice none 0 0] 26);rw[World.size_alloc,hZ] at this;exact this
 obtain⟨HQ,HH,V8,HS,Vd,HL⟩:=lH6 hq2 hh2 hq2.lt (hs.kept hkz) hkz hl;clear hs hl hkz hq2 hh2;have HF:=lH (show ∀W,je w.heap.size [.slice s1 n1 e1,.slice s2 n2 e2,.slice s3 n3 e3] W→W.cell? ⟨w.heap.size,0,none⟩=some (.slice s1 n1 e1)∧W.cell? ⟨w.heap.size,1,none⟩=some (.slice s2 n2 e2)∧W.cell? ⟨w.heap.size,2,none⟩=some (.slice s3 n3 e3) from fun W h=>⟨h.at_ 0 _ rfl,h.at_ 1 _ rfl,h.at_ 2 _ rfl⟩);go_enter Tryz.func58,Tryz.ntmps58;go_upto_region 1 with fail
 try rw[hZ]
 clear hZ;have J:=lH (Kept.drew Z);refine wp_region_held_drew (S:=fun W=>W.cell? ⟨w.heap.size,0,none⟩=some (.slice s1 n1 e1)∧W.cell? ⟨w.heap.size,1,none⟩=some (.slice s2 n2 e2)∧W.cell? ⟨w.heap.size,2,none⟩=some (.slice s3 n3 e3)) (by kernel_rfl) (HF.out _ (Vf.out.kept J.out)) (fun hHeld=>?_);obtain⟨wd,hwd⟩:=eX (Z.drew)
 rw[hwd] at J hHeld;try rw[hwd]
 clear hwd;refine tR 0 rfl (by kernel_rfl) (fun _ _ _=>id) (Or.inl ⟨by rfl,by rintro W ⟨o0,o1,o2⟩;go_simp<;>with_reducible rfl⟩) ‹_› ?_;refine tR 1 rfl (by kernel_rfl) (fun _ _ _=>id) (Or.inl ⟨by rfl,by rintro W ⟨o0,o1,o2⟩;go_simp<;>with_reducible rfl⟩) ‹_› ?_;refine tR 4 rfl (by kernel_rfl) (fun _ _ _=>id) (Or.inl ⟨by rfl,by rintro W ⟨o0,o1,o2⟩;go_simp<;>with_reducible rfl⟩) ‹_› ?_;refine tR 5 rfl (by kernel_rfl) (fun _ _ _=>id) (Or.inl ⟨by rfl,by rintro W ⟨o0,o1,o2⟩;go_simp<;>with_reducible rfl⟩) ‹_› ?_;try simp only[nA,nB,nC,nD,nE]
 refine rd1 2 fun K9 Ky=>?_;go_simp;refine(Zb s1 s2 s3 n1 e1 n2 e2 n3 e3 s name _ (HS.out.kept J.out) HL.out).mono ?_;rintro e w2 ⟨b1,k1,d1,b2,k2,d2,b3,k3,d3,rfl,hn,kk⟩;have HN:=lH hn;have J:=lH (J.out.trans kk);clear kk hn;unfold zS;refine Ky.out _ _ (HF.out _ (Vf.out.kept J.out)) (fun _=>?_);clear Ky K9;try simp only[nA,nB,nC,nD,nE]
 obtain⟨nz,hnz⟩:=eX (jU s name)
 rw[hnz] at HN;have Rg:=lH hnz;try rw[hnz]
 clear hnz;refine wpAnyH_ready  (rs:=[3,6]) (by kernel_rfl) (by simp) (AllReadyH.cons  (by rw[List.getElem?_toArray];exact rfl) (fun K9 Ky=>?_) (AllReadyH.cons  (by rw[List.getElem?_toArray];exact rfl) (fun K9 Ky=>?_) AllReadyH.nil))
 · go_simp;refine Ky.out _ _ (HF.out _ (Vf.out.kept (J.out.trans (ja _ _)))) (fun _=>?_);clear Ky K9;try simp only[nA,nB,nC,nD,nE]
   obtain⟨wb,hw⟩:=eX (w2.alloc (.cells #[.string nz.name,.slice b1 k1 d1,.slice b2 k2 d2,.slice b3 k3 d3,.bool nz.cordon] 57))
   have kk:Kept w2 wb:=by rw[←hw];exact ja _ _
   obtain⟨gB,hgB⟩:=eX (w2.heap.size)
   have VW:=lH (show js wb (some ⟨gB,0,none⟩) 1 [nz] from by
    have c:=jc w2 (.string nz.name) [.slice b1 k1 d1,.slice b2 k2 d2,.slice b3 k3 d3,.bool nz.cordon] 57 wb (by rw[hw];exact Kept.refl _);rw[hgB] at c;exact ZG (lx:=[(nz,(b1,k1,d1),(b2,k2,d2),(b3,k3,d3))]) (Zd rfl c (fun _ _=>trivial) (by decide:(1:Nat)≤maxLen)) (fun z hz=>by
     obtain rfl:=List.mem_singleton.1 hz;exact HN.out.kept kk))
   have J:=lH (J.out.trans kk);try rw[hw]
   try rw[hgB]
   clear hw kk hgB;have hHeldB:=HF.out _ (Vf.out.kept J.out);refine rd1 6 fun K9 Ky=>?_;go_simp;refine(onR (HS.out.kept J.out) name HL.out).mono ?_;rintro e wo ⟨y,rfl,⟨aP,cP,rfl,hp1,hp2,hp⟩,kk⟩;obtain⟨Uw,J,VW⟩:=lH3 (show Jn wo (.slice aP (onP name s.pods).length cP) (onP name s.pods) from⟨aP,cP,rfl,hp1,hp2,hp⟩) (J.out.trans kk) (VW.out.kept kk);clear kk hp hp1 hp2;refine Ky.out _ _ (HF.out _ (Vf.out.kept J.out)) (fun _=>?_);clear Ky K9;try simp only[nA,nB,nC,nD,nE]
   obtain⟨lP,hlP⟩:=eX ((onP name s.pods).length)
   rw[hlP] at Uw;try rw[hlP]
   clear hlP;refine tR 7 rfl (by kernel_rfl) (fun _ _ _=>id) (Or.inl ⟨by rfl,by rintro W ⟨o0,o1,o2⟩;go_simp<;>with_reducible rfl⟩) ‹_› ?_;try simp only[nA,nB,nC,nD,nE]
   have Vy:=lH (HQ.out.kept J.out);have TJ:=lH ((J.out.block _ V8.out).trans HH.out);obtain⟨z0,z1,z2⟩:=Vy.out.at3;have f0:=Vy.out.free 0;have f1:=Vy.out.free 1;have f2:=Vy.out.free 2;have PP:=lH (zE (vs:=[.slice (some ⟨gB,0,none⟩) 1 1,.slice aP lP cP,.slice none 0 0]) Vy.out rfl);refine rd1 8 fun K9 Ky=>?_;go_simp;obtain⟨WE,hWE⟩:=eX (wo.setCells (w.heap.size+1) 0 [.slice (some ⟨gB,0,none⟩) 1 1,.slice aP lP cP,.slice none 0 0])
   have hWE2:(((wo.setCell ⟨w.heap.size+1,0,none⟩ (.slice (some ⟨gB,0,none⟩) 1 1)).setCell ⟨w.heap.size+1,1,none⟩ (.slice aP lP cP)).setCell ⟨w.heap.size+1,2,none⟩ (.slice none 0 0))=WE:=hWE;rw[hWE] at PP;try rw[hWE2]
   obtain⟨RE,JE,TK⟩:=lH3 (show jJ WE (.agg #[.slice (some ⟨gB,0,none⟩) 1 1,.slice aP lP cP,.slice none 0 0]) (zP s name) from qK (w:=wo) (N:=w.heap.size+1) PP.out.size PP.out.far (jdo TJ.out) ⟨_,_,_,rfl,⟨⟨_,_,rfl,(by decide:(1:Nat)≤1),(by decide:(1:Nat)≤maxLen),by unfold zP;rw[Rg.out];exact VW.out⟩,Uw.out,⟨_,_,rfl,Nat.le_refl _,(by decide:(0:Nat)≤maxLen),YD _⟩⟩⟩) (show Kept w WE by rw[←hWE];exact zh _ _ _ _ _ _ (Nat.le_succ _) (Vd.out.trans J.out)) (show je w.heap.size [.slice s1 n1 e1,.slice s2 n2 e2,.slice s3 n3 e3] WE from(Vf.out.kept J.out).block (PP.out.far _ (by omega)));clear hWE hWE2 z0 f0 z1 f1 z2 f2;refine Ky.out _ _ (HF.out _ TK.out) (fun _=>?_);clear Ky K9;try simp only[nA,nB,nC,nD,nE]
   refine wpAnyH_done (by kernel_rfl) ?_ _;have d0:=PP.out.cells.at_ 0 _ rfl;have d1:=PP.out.cells.at_ 1 _ rfl;have d2:=PP.out.cells.at_ 2 _ rfl;go_wp2;refine bodyPost_ret (by simp[results,Tryz.results58,go_sem,d0,d1,d2];try rfl) rfl ?_;exact⟨_,rfl,RE.out,JE.out⟩
 · go_simp;refine(onR (HS.out.kept J.out) name HL.out).mono ?_;rintro e wo ⟨y,rfl,⟨aP,cP,rfl,hp1,hp2,hp⟩,kk⟩;obtain⟨Uw,J,HN⟩:=lH3 (show Jn wo (.slice aP (onP name s.pods).length cP) (onP name s.pods) from⟨aP,cP,rfl,hp1,hp2,hp⟩) (J.out.trans kk) (HN.out.kept kk);clear kk hp hp1 hp2;refine Ky.out _ _ (HF.out _ (Vf.out.kept J.out)) (fun _=>?_);clear Ky K9;try simp only[nA,nB,nC,nD,nE]
   refine rd1 3 fun K9 Ky=>?_;go_simp;refine Ky.out _ _ (HF.out _ (Vf.out.kept (J.out.trans (ja _ _)))) (fun _=>?_);clear Ky K9;try simp only[nA,nB,nC,nD,nE]
   obtain⟨wb,hw⟩:=eX (wo.alloc (.cells #[.string nz.name,.slice b1 k1 d1,.slice b2 k2 d2,.slice b3 k3 d3,.bool nz.cordon] 57))
   have kk:Kept wo wb:=by rw[←hw];exact ja _ _
   obtain⟨gB,hgB⟩:=eX (wo.heap.size)
   have VW:=lH (show js wb (some ⟨gB,0,none⟩) 1 [nz] from by
    have c:=jc wo (.string nz.name) [.slice b1 k1 d1,.slice b2 k2 d2,.slice b3 k3 d3,.bool nz.cordon] 57 wb (by rw[hw];exact Kept.refl _);rw[hgB] at c;exact ZG (lx:=[(nz,(b1,k1,d1),(b2,k2,d2),(b3,k3,d3))]) (Zd rfl c (fun _ _=>trivial) (by decide:(1:Nat)≤maxLen)) (fun z hz=>by
     obtain rfl:=List.mem_singleton.1 hz;exact HN.out.kept kk))
   have Uw:=lH (Uw.out.kept kk);have J:=lH (J.out.trans kk);try rw[hw]
   try rw[hgB]
   clear hw kk hgB;have hHeldB:=HF.out _ (Vf.out.kept J.out);obtain⟨lP,hlP⟩:=eX ((onP name s.pods).length)
   rw[hlP] at Uw;try rw[hlP]
   clear hlP;refine tR 7 rfl (by kernel_rfl) (fun _ _ _=>id) (Or.inl ⟨by rfl,by rintro W ⟨o0,o1,o2⟩;go_simp<;>with_reducible rfl⟩) ‹_› ?_;try simp only[nA,nB,nC,nD,nE]
   have Vy:=lH (HQ.out.kept J.out);have TJ:=lH ((J.out.block _ V8.out).trans HH.out);obtain⟨z0,z1,z2⟩:=Vy.out.at3;have f0:=Vy.out.free 0;have f1:=Vy.out.free 1;have f2:=Vy.out.free 2;have PP:=lH (zE (vs:=[.slice (some ⟨gB,0,none⟩) 1 1,.slice aP lP cP,.slice none 0 0]) Vy.out rfl);refine rd1 8 fun K9 Ky=>?_;go_simp;obtain⟨WE,hWE⟩:=eX (wb.setCells (w.heap.size+1) 0 [.slice (some ⟨gB,0,none⟩) 1 1,.slice aP lP cP,.slice none 0 0])
   have hWE2:(((wb.setCell ⟨w.heap.size+1,0,none⟩ (.slice (some ⟨gB,0,none⟩) 1 1)).setCell ⟨w.heap.size+1,1,none⟩ (.slice aP lP cP)).setCell ⟨w.heap.size+1,2,none⟩ (.slice none 0 0))=WE:=hWE;rw[hWE] at PP;try rw[hWE2]
   obtain⟨RE,JE,TK⟩:=lH3 (show jJ WE (.agg #[.slice (some ⟨gB,0,none⟩) 1 1,.slice aP lP cP,.slice none 0 0]) (zP s name) from qK (w:=wb) (N:=w.heap.size+1) PP.out.size PP.out.far (jdo TJ.out) ⟨_,_,_,rfl,⟨⟨_,_,rfl,(by decide:(1:Nat)≤1),(by decide:(1:Nat)≤maxLen),by unfold zP;rw[Rg.out];exact VW.out⟩,Uw.out,⟨_,_,rfl,Nat.le_refl _,(by decide:(0:Nat)≤maxLen),YD _⟩⟩⟩) (show Kept w WE by rw[←hWE];exact zh _ _ _ _ _ _ (Nat.le_succ _) (Vd.out.trans J.out)) (show je w.heap.size [.slice s1 n1 e1,.slice s2 n2 e2,.slice s3 n3 e3] WE from(Vf.out.kept J.out).block (PP.out.far _ (by omega)));clear hWE hWE2 z0 f0 z1 f1 z2 f2;refine Ky.out _ _ (HF.out _ TK.out) (fun _=>?_);clear Ky K9;try simp only[nA,nB,nC,nD,nE]
   refine wpAnyH_done (by kernel_rfl) ?_ _;have d0:=PP.out.cells.at_ 0 _ rfl;have d1:=PP.out.cells.at_ 1 _ rfl;have d2:=PP.out.cells.at_ 2 _ rfl;go_wp2;refine bodyPost_ret (by simp[results,Tryz.results58,go_sem,d0,d1,d2];try rfl) rfl ?_;exact⟨_,rfl,RE.out,JE.out⟩
theorem qA {s:Clu} (h:jv s) (x:ByteArray):jv (zP s x):=⟨fun n hn=>by
 obtain rfl:=List.mem_singleton.1 hn;exact qF h x,fun n hn=>by
 unfold zP onP at hn;split at hn
 · cases hn
 · exact h.pods n (List.mem_filter.1 hn).1,(fun n hn=>by cases hn),(by decide:(1:Nat)≤100000),by
 unfold zP onP;split
 · exact(by decide:(0:Nat)≤100000)
 · exact Nat.le_trans (List.length_filter_le _ _) h.podsN,(by decide:(0:Nat)≤100000)⟩
theorem jf4 (x:ByteArray) (l:List Pd):(onP x l).length≤l.length:=by
 unfold onP;split
 · exact Nat.zero_le _
 · exact List.length_filter_le _ _
theorem jcg {p:Pd} (h:zM p) (x:ByteArray):zM { p with node:=x }:=⟨h.need,h.labels,h.sel,h.tols⟩
theorem jdZ {s:Clu} {p:Pd} (h:jv s) (hp:zM p) (hn:s.pods.length+1≤100000):jv (Yt s p):=⟨h.nodes,fun q hq=>by
 rcases ins_mem hq with rfl | hq
 · exact hp
 · exact h.pods q (Xo hq),h.buds,h.nodesN,by
 show (zZ p (jV p.name s.pods)).length≤100000;rw[jbP];exact Nat.le_trans (Nat.succ_le_succ (Xv _ _)) hn,h.budsN⟩
theorem ZH (s1 s2 s3:Option Addr) (n1 e1 n2 e2 n3 e3:Nat) (a1 a2 a3 a4:Option Addr) (m1 c1 m2 c2 m3 c3 m4 c4:Nat) (p:Pd) (s:Clu) (name:ByteArray) (w:World) (hs:jJ w (zx (.slice s1 n1 e1) (.slice s2 n2 e2) (.slice s3 n3 e3)) s) (hl:jv s) (hb:s.pods.length+1≤100000) (hp:jr w (.slice a1 m1 c1) (.slice a2 m2 c2) (.slice a3 m3 c3) (.slice a4 m4 c4) p) (hlp:zM p) (hx:name.size≤maxLen):Calls Tryz.prog 21 #[.agg #[.slice s1 n1 e1,.slice s2 n2 e2,.slice s3 n3 e3],jt p (.slice a1 m1 c1) (.slice a2 m2 c2) (.slice a3 m3 c3) (.slice a4 m4 c4),.string name] w (Z1 (zl s p name) w):=by
 obtain⟨Z,hZ⟩:=eX ((w.alloc (.cells #[.slice s1 n1 e1,.slice s2 n2 e2,.slice s3 n3 e3] 26)).alloc (.cells #[.string p.name,.string p.owner,.int .i64 p.prio,.slice a1 m1 c1,.slice a2 m2 c2,.slice a3 m3 c3,.slice a4 m4 c4,.string p.key,.int .i64 p.most,.string p.node,.bool p.hold] 44))
 have hkz:Kept w Z:=by rw[←hZ];exact jj _ _ _
 have hzs:Z.heap.size=w.heap.size+2:=by rw[←hZ];simp
 have hq1:=jc w (.slice s1 n1 e1) [.slice s2 n2 e2,.slice s3 n3 e3] 26 Z (by rw[←hZ];exact ja _ _);have hq2:je (w.heap.size+1) [.string p.name,.string p.owner,.int .i64 p.prio,.slice a1 m1 c1,.slice a2 m2 c2,.slice a3 m3 c3,.slice a4 m4 c4,.string p.key,.int .i64 p.most,.string p.node,.bool p.hold] Z:=by
  have dd:=jc (w.alloc (.cells #[.slice s1 n1 e1,.slice s2 n2 e2,.slice s3 n3 e3] 26)) (.string p.name) [.string p.owner,.int .i64 p.prio,.slice a1 m1 c1,.slice a2 m2 c2,.slice a3 m3 c3,.slice a4 m4 c4,.string p.key,.int .i64 p.most,.string p.node,.bool p.hold] 44 Z (by rw[hZ];exact Kept.refl _);rw[World.size_alloc] at dd;exact dd
 obtain⟨Y,hY⟩:=eX (Z.setCell ⟨w.heap.size+1,9,none⟩ (.string name))
 have hky:Kept w Y:=by rw[←hY];exact hkz.setCell (p:=⟨w.heap.size+1,9,none⟩) (by show w.heap.size≤w.heap.size+1;omega) _
 obtain⟨Va,Vf,HS,HP,K,HL,VS,Uj⟩:=lH8 (show je (w.heap.size+1) [.string p.name,.string p.owner,.int .i64 p.prio,.slice a1 m1 c1,.slice a2 m2 c2,.slice a3 m3 c3,.slice a4 m4 c4,.string p.key,.int .i64 p.most,.string name,.bool p.hold] Y by rw[←hY];exact hq2.set (j:=9) (u:=.string name) (by simp)) (show je w.heap.size [.slice s1 n1 e1,.slice s2 n2 e2,.slice s3 n3 e3] Y by rw[←hY];exact hq1.other (by omega)) (hs.kept hky) (show jr Y (.slice a1 m1 c1) (.slice a2 m2 c2) (.slice a3 m3 c3) (.slice a4 m4 c4) { p with node:=name } from by have h:=hp.kept hky;exact⟨h.name,h.owner,h.key,hx,h.prio,h.most,h.need,h.labels,h.sel,h.tols⟩) hky hl (jcg hlp name) hb;have HV:=lH (show zl s p name=Yu (Yt (zP s name) { p with node:=name }) name from rfl);have u9:=hq2.at_ 9 _ rfl;have f9:=hq2.free 9;have HF:=lH (show ∀W,Kept Y W→W.cell? ⟨w.heap.size,0,none⟩=some (.slice s1 n1 e1)∧W.cell? ⟨w.heap.size,1,none⟩=some (.slice s2 n2 e2)∧W.cell? ⟨w.heap.size,2,none⟩=some (.slice s3 n3 e3)∧W.cell? ⟨w.heap.size+1,0,none⟩=some (.string p.name)∧W.cell? ⟨w.heap.size+1,1,none⟩=some (.string p.owner)∧W.cell? ⟨w.heap.size+1,2,none⟩=some (.int .i64 p.prio)∧W.cell? ⟨w.heap.size+1,3,none⟩=some (.slice a1 m1 c1)∧W.cell? ⟨w.heap.size+1,4,none⟩=some (.slice a2 m2 c2)∧W.cell? ⟨w.heap.size+1,5,none⟩=some (.slice a3 m3 c3)∧W.cell? ⟨w.heap.size+1,6,none⟩=some (.slice a4 m4 c4)∧W.cell? ⟨w.heap.size+1,7,none⟩=some (.string p.key)∧W.cell? ⟨w.heap.size+1,8,none⟩=some (.int .i64 p.most)∧W.cell? ⟨w.heap.size+1,9,none⟩=some (.string name)∧W.cell? ⟨w.heap.size+1,10,none⟩=some (.bool p.hold) from fun W kk=>by
  have h:=Vf.out.kept kk;have q:=Va.out.kept kk;exact⟨h.at_ 0 _ rfl,h.at_ 1 _ rfl,h.at_ 2 _ rfl,q.at_ 0 _ rfl,q.at_ 1 _ rfl,q.at_ 2 _ rfl,q.at_ 3 _ rfl,q.at_ 4 _ rfl,q.at_ 5 _ rfl,q.at_ 6 _ rfl,q.at_ 7 _ rfl,q.at_ 8 _ rfl,q.at_ 9 _ rfl,q.at_ 10 _ rfl⟩)
 clear hs hp hkz hky hl hlp hb hq1 hq2;unfold jt;go_enter Tryz.func21,Tryz.ntmps21;go_upto_region 1 with fail
 try rw[hZ]
 clear hZ;go_upto_region 2 with fail
 try rw[hY]
 clear hY u9 f9 hzs;have J:=lH (Kept.drew Y);refine wp_region_held_drew (S:=fun W=>W.cell? ⟨w.heap.size,0,none⟩=some (.slice s1 n1 e1)∧W.cell? ⟨w.heap.size,1,none⟩=some (.slice s2 n2 e2)∧W.cell? ⟨w.heap.size,2,none⟩=some (.slice s3 n3 e3)∧W.cell? ⟨w.heap.size+1,0,none⟩=some (.string p.name)∧W.cell? ⟨w.heap.size+1,1,none⟩=some (.string p.owner)∧W.cell? ⟨w.heap.size+1,2,none⟩=some (.int .i64 p.prio)∧W.cell? ⟨w.heap.size+1,3,none⟩=some (.slice a1 m1 c1)∧W.cell? ⟨w.heap.size+1,4,none⟩=some (.slice a2 m2 c2)∧W.cell? ⟨w.heap.size+1,5,none⟩=some (.slice a3 m3 c3)∧W.cell? ⟨w.heap.size+1,6,none⟩=some (.slice a4 m4 c4)∧W.cell? ⟨w.heap.size+1,7,none⟩=some (.string p.key)∧W.cell? ⟨w.heap.size+1,8,none⟩=some (.int .i64 p.most)∧W.cell? ⟨w.heap.size+1,9,none⟩=some (.string name)∧W.cell? ⟨w.heap.size+1,10,none⟩=some (.bool p.hold)) (by kernel_rfl) (HF.out _ J.out) (fun hHeld=>?_);obtain⟨wd,hwd⟩:=eX (Y.drew)
 rw[hwd] at J hHeld;try rw[hwd]
 clear hwd;refine tR 0 rfl (by kernel_rfl) (fun _ _ _=>id) (Or.inl ⟨by rfl,by rintro W ⟨o0,o1,o2,o3,o4,o5,o6,o7,o8,o9,o10,o11,o12,o13⟩;go_simp<;>with_reducible rfl⟩) ‹_› ?_;refine tR 1 rfl (by kernel_rfl) (fun _ _ _=>id) (Or.inl ⟨by rfl,by rintro W ⟨o0,o1,o2,o3,o4,o5,o6,o7,o8,o9,o10,o11,o12,o13⟩;go_simp<;>with_reducible rfl⟩) ‹_› ?_;refine tR 3 rfl (by kernel_rfl) (fun _ _ _=>id) (Or.inl ⟨by rfl,by rintro W ⟨o0,o1,o2,o3,o4,o5,o6,o7,o8,o9,o10,o11,o12,o13⟩;go_simp<;>with_reducible rfl⟩) ‹_› ?_;refine tR 5 rfl (by kernel_rfl) (fun _ _ _=>id) (Or.inl ⟨by rfl,by rintro W ⟨o0,o1,o2,o3,o4,o5,o6,o7,o8,o9,o10,o11,o12,o13⟩;go_simp<;>with_reducible rfl⟩) ‹_› ?_;try simp only[nA,nB,nC,nD,nE]
 refine rd1 2 fun K9 Ky=>?_;go_simp;refine(jdC s1 s2 s3 n1 e1 n2 e2 n3 e3 s name _ (HS.out.kept J.out) HL.out).mono ?_;rintro e w1 ⟨y,rfl,hy,kk⟩;have HY:=lH hy;have J:=lH (J.out.trans kk);clear kk hy;refine Ky.out _ _ (HF.out _ J.out) (fun _=>?_);clear Ky K9;try simp only[nA,nB,nC,nD,nE]
 refine rd1 4 fun K9 Ky=>?_;go_simp;refine(jfH HY.out (p:={ p with node:=name }) ⟨_,_,_,_,rfl,HP.out.kept J.out⟩ (qA HL.out name) VS.out).mono ?_;rintro e w2 ⟨y2,rfl,hy,kk⟩;obtain⟨t1,k1,d1,t2,k2,d2,t3,k3,d3,rfl⟩:=hy.spelt;have Rh:=lH hy;have J:=lH (J.out.trans kk);clear kk hy HY;refine Ky.out _ _ (HF.out _ J.out) (fun _=>?_);clear Ky K9;try simp only[nA,nB,nC,nD,nE]
 refine rd1 6 fun K9 Ky=>?_;go_simp;have Uv:=jc8 t1 t2 t3 k1 d1 k2 d2 k3 d3 _ name w2 Rh.out (jdZ (qA HL.out name) VS.out (by have:=Uj.out;have:(zP s name).pods.length≤s.pods.length:=jf4 name s.pods;omega));try unfold zx at Uv
 refine Uv.mono ?_;rintro e w3 ⟨r,rfl,hr,hrt,kk⟩;have HR:=lH (hr.trans HV.out.symm);have J:=lH (J.out.trans kk);clear kk hr Uv Rh;refine Ky.out _ _ (HF.out _ J.out) (fun _=>?_);clear Ky K9;try simp only[nA,nB,nC,nD,nE]
 refine tR 7 rfl (by kernel_rfl) (fun _ _ _=>id) (Or.inl ⟨by rfl,by rintro W ⟨o0,o1,o2,o3,o4,o5,o6,o7,o8,o9,o10,o11,o12,o13⟩;go_simp<;>with_reducible rfl⟩) ‹_› ?_;try simp only[nA,nB,nC,nD,nE]
 refine wpAnyH_done (by kernel_rfl) ?_ _;go_wp2;go_ret;exact XW HR.out hrt (K.out.trans J.out)
theorem Xz (s1 s2 s3:Option Addr) (n1 e1 n2 e2 n3 e3:Nat) (s:Clu) (name what:ByteArray) (w:World) (hs:jJ w (zx (.slice s1 n1 e1) (.slice s2 n2 e2) (.slice s3 n3 e3)) s) (hl:jv s):Calls Tryz.prog 48 #[.agg #[.slice s1 n1 e1,.slice s2 n2 e2,.slice s3 n3 e3],.string name,.string what] w (Z1 (zB s name what) w):=by
 obtain⟨Z,hZ⟩:=eX (w.alloc (.cells #[.slice s1 n1 e1,.slice s2 n2 e2,.slice s3 n3 e3] 26))
 have hkz:Kept w Z:=by rw[←hZ];exact ja _ _
 obtain⟨Vf,HS,K,HL⟩:=lH4 (jc w (.slice s1 n1 e1) [.slice s2 n2 e2,.slice s3 n3 e3] 26 Z (by rw[hZ];exact Kept.refl _)) (hs.kept hkz) hkz hl;have HF:=lH (show ∀W,Kept Z W→W.cell? ⟨w.heap.size,0,none⟩=some (.slice s1 n1 e1)∧W.cell? ⟨w.heap.size,1,none⟩=some (.slice s2 n2 e2)∧W.cell? ⟨w.heap.size,2,none⟩=some (.slice s3 n3 e3) from fun W kk=>by
  have h:=Vf.out.kept kk;exact⟨h.at_ 0 _ rfl,h.at_ 1 _ rfl,h.at_ 2 _ rfl⟩)
 clear hs hl hkz;have HV:=lH (show zB s name what=Xu (Vec.jK (Zq s name).2 what) (Vec.jK (jU s name).cap what) from rfl);go_enter Tryz.func48,Tryz.ntmps48;go_upto_region 1 with fail
 try rw[hZ]
 clear hZ;have J:=lH (Kept.drew Z);refine wp_region_held_drew (S:=fun W=>W.cell? ⟨w.heap.size,0,none⟩=some (.slice s1 n1 e1)∧W.cell? ⟨w.heap.size,1,none⟩=some (.slice s2 n2 e2)∧W.cell? ⟨w.heap.size,2,none⟩=some (.slice s3 n3 e3)) (by kernel_rfl) (HF.out _ J.out) (fun hHeld=>?_);obtain⟨wd,hwd⟩:=eX (Z.drew)
 rw[hwd] at J hHeld;try rw[hwd]
 clear hwd;refine tR 0 rfl (by kernel_rfl) (fun _ _ _=>id) (Or.inl ⟨by rfl,by rintro W ⟨o0,o1,o2⟩;go_simp<;>with_reducible rfl⟩) ‹_› ?_;refine tR 1 rfl (by kernel_rfl) (fun _ _ _=>id) (Or.inl ⟨by rfl,by rintro W ⟨o0,o1,o2⟩;go_simp<;>with_reducible rfl⟩) ‹_› ?_;refine tR 3 rfl (by kernel_rfl) (fun _ _ _=>id) (Or.inl ⟨by rfl,by rintro W ⟨o0,o1,o2⟩;go_simp<;>with_reducible rfl⟩) ‹_› ?_;refine tR 4 rfl (by kernel_rfl) (fun _ _ _=>id) (Or.inl ⟨by rfl,by rintro W ⟨o0,o1,o2⟩;go_simp<;>with_reducible rfl⟩) ‹_› ?_;refine tR 7 rfl (by kernel_rfl) (fun _ _ _=>id) (Or.inl ⟨by rfl,by rintro W ⟨o0,o1,o2⟩;go_simp<;>with_reducible rfl⟩) ‹_› ?_;try simp only[nA,nB,nC,nD,nE]
 refine rd1 2 fun K9 Ky=>?_;go_simp;refine(X0 s1 s2 s3 n1 e1 n2 e2 n3 e3 s name _ (HS.out.kept J.out) HL.out).mono ?_;rintro e w1 ⟨vu,rfl,hu,kk⟩;have HU:=lH hu;have J:=lH (J.out.trans kk);clear kk hu;refine Ky.out _ _ (HF.out _ J.out) (fun _=>?_);clear Ky K9;try simp only[nA,nB,nC,nD,nE]
 refine rd1 5 fun K9 Ky=>?_;go_simp;refine(Zb s1 s2 s3 n1 e1 n2 e2 n3 e3 s name _ (HS.out.kept J.out) HL.out).mono ?_;rintro e w2 ⟨b1,k1,d1,b2,k2,d2,b3,k3,d3,rfl,hn,kk⟩;obtain⟨HU,HC,J⟩:=lH3 (HU.out.kept kk) hn.cap (J.out.trans kk);clear kk hn;unfold zS;refine Ky.out _ _ (HF.out _ J.out) (fun _=>?_);clear Ky K9;try simp only[nA,nB,nC,nD,nE]
 have hfd:=fun W=>jbX (jU s name).name (.slice b1 k1 d1) (.slice b2 k2 d2) (.slice b3 k3 d3) (jU s name).cordon W;refine tR 6 rfl (by kernel_rfl) (fun _ _ _=>id) (Or.inl ⟨by rfl,by rintro W ⟨o0,o1,o2⟩;go_simp<;>with_reducible rfl⟩) ‹_› ?_;try simp only[nA,nB,nC,nD,nE]
 refine rd1 8 fun K9 Ky=>?_;go_simp;refine(XI vu _ _ _ what _ HU.out HC.out).mono ?_;rintro e w3 ⟨r,rfl,hr,hrt,kk⟩;have HR:=lH (hr.trans HV.out.symm);have J:=lH (J.out.trans kk);clear kk hr;refine Ky.out _ _ (HF.out _ J.out) (fun _=>?_);clear Ky K9;try simp only[nA,nB,nC,nD,nE]
 refine tR 9 rfl (by kernel_rfl) (fun _ _ _=>id) (Or.inl ⟨by rfl,by rintro W ⟨o0,o1,o2⟩;go_simp<;>with_reducible rfl⟩) ‹_› ?_;try simp only[nA,nB,nC,nD,nE]
 refine wpAnyH_done (by kernel_rfl) ?_ _;go_wp2;go_ret;exact XW HR.out hrt (K.out.trans J.out)
open Go.RowKit Go.Shelf
attribute [local go_sem] Oper.semAt_some zW
def mkC (x:Mk):List Value:=[.string x.1,.int .i64 x.2.1,.float .f64 x.2.2]
theorem XS (x:Mk) (u:Value) (h:u ∈ mkC x):u.oneCell'=true:=by
 have e:u=Value.string x.1∨u=Value.int .i64 x.2.1∨u=Value.float .f64 x.2.2:=by simpa [mkC] using h
 rcases e with e | e | e<;>rw[e]<;>rfl
def MkLay:Lay Mk:={ m:=3,cs:=mkC,fine:=fun x=>x.1.size≤maxLen∧x.2.2<TOP,len:=fun _=>rfl,one:=XS,pos:=by decide }
def mk0:Mk:=(⟨#[]⟩,0,0)
def zV (zs:List Mk) (k:Nat):List Mk:=(List.range k).map fun j=>zs[j]?.getD mk0
theorem jcm (zs:List Mk) (k:Nat):zV zs (k+1)=zV zs k++[zs[k]?.getD mk0]:=by simp[zV,List.range_succ]
theorem ja4 (zs:List Mk) (k:Nat):(zV zs k).length=k:=by simp[zV]
theorem XR (zs:List Mk) {k:Nat} (hk:k≤zs.length):zV zs k=zs.take k:=by
 apply List.ext_getElem
 · simp[zV,hk]
 · intro i h1 h2;have:i<zs.length:=by simp[zV] at h1;omega
   simp[zV,this]
theorem jdO (zs:List Mk):zV zs zs.length=zs:=by rw[XR zs (Nat.le_refl _),List.take_length]
theorem jaz (F:Fence) (n:Nat) (h7:F.fn 170) (hro:F.round=none) (hn:1≤n) (l Bs n₀ b off len cap:Nat) (zs:List Mk) (hreach:len≤1000000) (hb:b<n₀) (J Jx:List Mk→World→Prop)
 (hY:∀pre x W,J pre W→pre.length<len→YieldAt F (n-1) Tryz.prog l #[.agg #[.string x.1,.int .i64 x.2.1,.float .f64 x.2.2]] W fun e W' =>
   (e=.returned (.bool true)∧J (pre++[x]) W'∧Below n₀ W W')∨(e=.returned (.bool false)∧Jx (pre++[x]) W'))
 (W:World) (hJ:AbidesFrom W.heap.size J) (hnW:n₀≤W.heap.size) (hBs:W.cell? ⟨Bs,0,none⟩=some (.slice (some ⟨b,off,none⟩) len cap))
 (hc:∀j,j<len→W.cell? ⟨b,off+j*3,none⟩=some (.string (zs[j]?.getD mk0).1)∧W.cell? ⟨b,off+j*3+1,none⟩=some (.int .i64 (zs[j]?.getD mk0).2.1)∧W.cell? ⟨b,off+j*3+2,none⟩=some (.float .f64 (zs[j]?.getD mk0).2.2)) (h0:J [] W) :
 CallsIn F n Tryz.prog 170 #[.func (.yield l) #[] #[],.pointer (some ⟨Bs,0,none⟩)] W fun e W'=>(∃v,e=.returned v) ∧
  ((∃ys,ys=zV zs len∧J ys W')∨(∃pre,(∃k,k≤len∧pre=zV zs k)∧Jx pre W')):=by
 refine callsIn_of_wp Tryz.func170 rfl h7 ?_ hro;simp only[Tryz.ntmps170,List.size_toArray,List.length_cons,List.length_nil,Nat.reduceAdd,Nat.reduceSub,Array.replicate_succ,Array.replicate_zero,List.push_toArray,List.append_toArray,List.nil_append,List.cons_append];gi_wp2
 gi_loopw [7] (fun i wr=>∃k:Nat,k≤len∧i=.int .i64 k∧J (zV zs k) wr∧Below n₀ W wr∧W.heap.size≤wr.heap.size)
  (fun i _=>len-(intOf i).toNat)
 case atStart=>exact⟨0,Nat.zero_le _,rfl,h0,Below.refl _ _,Nat.le_refl _⟩
 case round =>
  obtain⟨k,hk,rfl,hJs,hnx,hsz⟩:=hrel;have hcx:k<len→wr.cell? ⟨b,off+k*3,none⟩=some (.string (zs[k]?.getD mk0).1)∧wr.cell? ⟨b,off+k*3+1,none⟩=some (.int .i64 (zs[k]?.getD mk0).2.1)∧wr.cell? ⟨b,off+k*3+2,none⟩=some (.float .f64 (zs[k]?.getD mk0).2.2):=fun h=>⟨(hnx.cell (p:=⟨b,off+k*3,none⟩) hb).trans (hc k h).1,(hnx.cell (p:=⟨b,off+k*3+1,none⟩) hb).trans (hc k h).2.1,(hnx.cell (p:=⟨b,off+k*3+2,none⟩) hb).trans (hc k h).2.2⟩
  by_cases hlt:k<len
  · obtain⟨c0,c1,c2⟩:=hcx hlt;have hus:=lH (jcm zs k);obtain⟨y,hy⟩:=eX (zs[k]?.getD mk0)
    rw[hy] at c0 c1 c2 hus;obtain⟨y1,y2,y3⟩:=y;clear hcx hy;obtain⟨w2,hw2⟩:=eX (wr.alloc (.cells #[.string y1,.int .i64 y2,.float .f64 y3] 172))
    have hJ2:J (zV zs k) w2:=by rw[←hw2];exact hJ _ wr _ none hJs (World.grownBy_alloc _ _ none) (fun r e=>by cases e)
    have hb2:Below n₀ wr w2:=by rw[←hw2];exact(Below.refl _ wr).alloc (by have:=hnx.size;omega) _
    have hs2:W.heap.size≤w2.heap.size:=by rw[←hw2];simp;omega
    obtain⟨fn,tmps,assign,body,hyy,hR⟩:=hY _ (y1,y2,y3) w2 hJ2 (by rw[ja4];exact hlt);dsimp only at hyy;rw[←hw2] at hyy hR;have Ua:=lH hw2;clear hw2;gi_wp2
    refine hR.mono ?_;rintro e W3 (⟨rfl,hJ3,hk3⟩ | ⟨rfl,hJx3⟩)
    · rw[Ua.out] at hk3;gi_wp2
      go_roundw
      case rel=>exact⟨k+1,by omega,by simp,by rw[hus.out];exact hJ3,hnx.trans (hb2.trans hk3),Nat.le_trans hs2 hk3.size⟩
      case measure=>simp[intOf];omega
    · gi_wp2
      refine bodyPost_ret (results_none rfl _ _ _) rfl ?_;exact⟨⟨_,rfl⟩,.inr ⟨_,⟨k+1,by omega,hus.out.symm⟩,hJx3⟩⟩
  · obtain rfl:k=len:=by omega
    gi_wp2
    go_end0
    exact⟨⟨_,rfl⟩,.inl ⟨_,rfl,hJs⟩⟩
def Mks (n₀:Nat) (W:World) (sv:Value) (zs:List Mk):Prop :=
 ∃a cap,sv=.slice a zs.length cap∧(zs.length=0∨∃b off,a=some ⟨b,off,none⟩∧b<n₀∧∀j,j<zs.length→W.cell? ⟨b,off+j*3,none⟩=some (.string (zs[j]?.getD mk0).1)∧W.cell? ⟨b,off+j*3+1,none⟩=some (.int .i64 (zs[j]?.getD mk0).2.1)∧W.cell? ⟨b,off+j*3+2,none⟩=some (.float .f64 (zs[j]?.getD mk0).2.2))
theorem Mks.below {n₀:Nat} {A B:World} (h:Below n₀ A B) {sv:Value} {zs:List Mk} (hf:Mks n₀ A sv zs):Mks n₀ B sv zs:=by
 obtain⟨a,cap,e,hc⟩:=hf;refine⟨a,cap,e,hc.imp id ?_⟩;rintro ⟨b,off,ea,hb,hc⟩;exact⟨b,off,ea,hb,fun j hj=>⟨(h.cell (p:=⟨b,off+j*3,none⟩) hb).trans (hc j hj).1,(h.cell (p:=⟨b,off+j*3+1,none⟩) hb).trans (hc j hj).2.1,(h.cell (p:=⟨b,off+j*3+2,none⟩) hb).trans (hc j hj).2.2⟩⟩
theorem Reads.mks {w:World} {v:Value} {l:List Mk} (h:Reads MkLay w v l):Mks w.heap.size w v l:=by
 obtain⟨a,cap,rfl,h1,h2,h3⟩:=h;refine⟨a,cap,rfl,?_⟩;rcases Nat.eq_zero_or_pos l.length with hz | hz
 · exact .inl hz
 · rcases h3.form with h4 | ⟨b,off,rfl⟩
   · exact .inl h4
   · obtain⟨-,-,-,hb,-⟩:=h3.cells hz;refine .inr ⟨b,off,rfl,hb,fun j hj=>?_⟩;obtain⟨x,hx,-,-,-,hc⟩:=h3.cells hj;rw[hx];exact⟨hc 0 _ rfl,hc 1 _ rfl,hc 2 _ rfl⟩
theorem Xr (F:Fence) (n:Nat) (h7:F.fn 170) (hro:F.round=none) (l Bs:Nat) (a:Option Addr) (cap:Nat) (J:List Mk→World→Prop) (W:World) (hBs:W.cell? ⟨Bs,0,none⟩=some (.slice a 0 cap)) (h0:J [] W) :
 CallsIn F n Tryz.prog 170 #[.func (.yield l) #[] #[],.pointer (some ⟨Bs,0,none⟩)] W fun e W'=>(∃v,e=.returned v)∧J [] W':=by
 refine callsIn_of_wp Tryz.func170 rfl h7 ?_ hro;simp only[Tryz.ntmps170,List.size_toArray,List.length_cons,List.length_nil,Nat.reduceAdd,Nat.reduceSub,Array.replicate_succ,Array.replicate_zero,List.push_toArray,List.append_toArray,List.nil_append,List.cons_append];gi_wp2
 gi_loopw [7] (fun i wr=>i=.int .i64 0∧J [] wr) (fun _ _=>0)
 case atStart=>exact⟨rfl,h0⟩
 case round =>
  obtain⟨rfl,hJs⟩:=hrel;gi_wp2
  go_end0
  exact⟨⟨_,rfl⟩,hJs⟩
theorem jay (a:Option Addr) (len cap:Nat) (w:World) :
 Calls Tryz.prog 109 #[.slice a len cap] w fun e w'=>e=.returned (.func (.func 170) #[] #[.pointer (some ⟨w.heap.size,0,none⟩)])∧w.alloc (.cells #[.slice a len cap] 102)=w':=by
 go_enter Tryz.func109,Tryz.ntmps109;go_wp2;go_ret;exact⟨rfl,rfl⟩
theorem qd (F:Fence) (n:Nat) (h7:F.fn 170) (hro:F.round=none) (hn:1≤n) (Bs n₀:Nat) (sv:Value) (zs:List Mk) (hreach:zs.length≤1000000) (w:World) (hBs:Bs<w.heap.size) (hn₀:n₀≤w.heap.size)
 (hc:w.cell? ⟨Bs,0,none⟩=some sv) (hI:Mks n₀ w sv zs) :
 SeqStopsK F n Tryz.prog 170 #[.pointer (some ⟨Bs,0,none⟩)] (fun x:Mk=>#[.agg #[.string x.1,.int .i64 x.2.1,.float .f64 x.2.2]]) (Below n₀) (fun ys=>ys=zs) (fun pre=>pre <+: zs) zs.length w:=fun l J Jx W hW hJ _ hY h0=>by
 have hc':=(hW.cell (p:=⟨Bs,0,none⟩) hBs).trans hc;obtain⟨a,cap,rfl,h3⟩:=hI.below (hW.mono hn₀);rcases h3 with hz | ⟨b,off,rfl,hb,hcs⟩
 · have hzs:zs=[]:=List.length_eq_zero_iff.1 hz;subst hzs;exact(Xr F n h7 hro l Bs a cap J W hc' h0).mono fun e W' ⟨he,hj⟩=>⟨he,.inl ⟨_,rfl,hj⟩⟩
 · refine(jaz F n h7 hro hn l Bs n₀ b off zs.length cap zs hreach hb J Jx hY W hJ (Nat.le_trans hn₀ hW.size) hc' hcs h0).mono ?_;rintro e W' ⟨he,⟨ys,rfl,hj⟩ | ⟨pre,⟨k,hk,rfl⟩,hj⟩⟩
   · exact⟨he,.inl ⟨_,jdO zs,hj⟩⟩
   · exact⟨he,.inr ⟨_,by rw[XR zs hk];exact List.take_prefix _ _,hj⟩⟩
theorem jc6:(Tryz.prog.info? 172).map (fun i=>(i.zero,i.size,i.bytes))=some (some (.agg #[.string ByteArray.empty,.int .i64 0,.float .f64 0]),3,32):=by kernel_rfl
def Y5 (W:World) (q:Nat) (x:Mk):Prop:=W.heap[q]?=some (.cells #[.string x.1,.int .i64 x.2.1,.float .f64 x.2.2] 172 (0,0))
theorem Y5.cells {W:World} {q:Nat} {x:Mk} (h:Y5 W q x):W.cell? ⟨q,0,none⟩=some (.string x.1)∧W.cell? ⟨q,1,none⟩=some (.int .i64 x.2.1)∧W.cell? ⟨q,2,none⟩=some (.float .f64 x.2.2) :=
 ⟨by rw[Lib.cell_of_heap h];rfl,by rw[Lib.cell_of_heap h];rfl,by rw[Lib.cell_of_heap h];rfl⟩
theorem Y5.kept {B q:Nat} {x:Mk} {X Y:World} {row:Option Nat} (h:Y5 X q x) (hg:X.grownBy Y row) (hrow:∀r,row=some r→B≤r∧∃o:Obj,X.heap[r]?=some o∧o.isCells=false):Y5 Y q x :=
 (hg.block q (Array.getElem?_eq_some_iff.1 h).1 (fun e'=>by
   obtain⟨-,o,ho,hc⟩:=hrow q e'.symm;rw[show X.heap[q]?=_ from h] at ho;cases ho;cases hc)).trans h
theorem jaF (w:World) (x:Mk):∀j u,(mkC x)[j]?=some u→(w.alloc (.cells #[.string x.1,.int .i64 x.2.1,.float .f64 x.2.2] 172)).cell? ((⟨w.heap.size,0,none⟩:Addr).add j)=some u:=fun j u h=>by
 match j,h with
 | 0,h=>cases h;simp[Addr.add]
 | 1,h=>cases h;simp[Addr.add]
 | 2,h=>cases h;simp[Addr.add]
 | j+3,h=>cases h
def jd0 (base:Nat) (W:World) (v:Value) (zs:List Mk):Prop:=W.ownsRow base 172 3 v zs.length (zs.flatMap mkC)∧(v=.slice none 0 0↔zs=[])
theorem qh (F:Fence) (n:Nat) (h3:F.fn 217) (h5:F.fn 170) (hro:F.round=none) (hn:3≤n) (Bs:Nat) (sv:Value) (xs:List Mk) (hlen:xs.length≤1000000) (w:World)
 (hBs:Bs<w.heap.size) (hcs:w.cell? ⟨Bs,0,none⟩=some sv) (hL:Mks w.heap.size w sv xs) :
 CallsIn F n Tryz.prog 217 #[.slice none 0 0,.func (.func 170) #[] #[.pointer (some ⟨Bs,0,none⟩)]] w fun e W'=>∃v,e=.returned v∧jd0 w.heap.size W' v xs∧Below w.heap.size w W':=by
 have h1:1≤n:=by omega
 obtain⟨i0,hi,hz0,hz1,hz2⟩:=info_parts jc6;refine callsIn_of_wp_marks Tryz.func217 rfl h3 ?_ hro;simp only[Tryz.ntmps217,List.size_toArray,List.length_cons,List.length_nil,Nat.reduceAdd,Nat.reduceSub,Array.replicate_succ,Array.replicate_zero,List.push_toArray,List.append_toArray,List.nil_append,List.cons_append];gi_wp2
 have bO:=Boxed.new w 102 (.slice none 0 0);have hB0:Below w.heap.size w (w.alloc (.cells #[.slice none 0 0] 102)):=(Below.refl _ w).alloc (Nat.le_refl _) _
 refine wpIn_rangeFunc_ownH hro h1 (gf:=170) (lb:=#[.pointer (some ⟨Bs,0,none⟩)]) rfl h5 (enters_of Tryz.func170 (by kernel_rfl) rfl)
  (qd F (n-1) h5 hro (by omega) Bs w.heap.size sv xs hlen _ (by simp;omega) (by simp) ((hB0.cell (p:=⟨Bs,0,none⟩) hBs).trans hcs) (hL.below hB0)) belowK_t (belowK_b (by simp)) (Below.refl _ _) (fun _=>rfl)
  (fun pre W=>(∃v,Boxed W w.heap.size 102 v∧W.ownsRow w.heap.size 172 3 v pre.length (pre.flatMap mkC)∧(v=.slice none 0 0↔pre=[]))∧Below w.heap.size w W)
  (fun _ _ _=>False)
  (OwnFrom.and (Go.Own.from (holdsRow_own w.heap.size w.heap.size 102 172 3 (fun pre=>pre.length) (fun pre=>pre.flatMap mkC) (fun pre v=>v=.slice none 0 0↔pre=[])) _) (ownFrom_below (Nat.le_refl _) (by simp)))
  (fun _ _ _ _ _ hs _ _=>hs)
  ⟨⟨_,bO,World.ownsRow_nil _ _ _ _,by simp⟩,hB0⟩
  (fun x a' W=>∃q,a'={ tmps:=#[.slice none 0 0,.func (.func 170) #[] #[.pointer (some ⟨Bs,0,none⟩)],.pointer (some ⟨w.heap.size,0,none⟩),undef,.slice none 0 0,.pointer (some ⟨q,0,none⟩),.func (.func 170) #[] #[.pointer (some ⟨Bs,0,none⟩)],.agg #[.string x.1,.int .i64 x.2.1,.float .f64 x.2.2],undef,undef,undef,undef,undef],defers:=[] }∧Y5 W q x)
  (fun x a' s X Y row hs hg hr=>by
    obtain⟨q,e,hb⟩:=hs;exact⟨q,e,hb.kept hg hr⟩) ?assign ?body ?done ?stop
 case assign =>
  rintro l pre x W K ⟨⟨v,hv,hrow,hnil⟩,hB⟩ hK;have hle:w.heap.size≤W.heap.size:=hB.size;gi_wp2
  exact hK _ _ (KeepsFrom.of_grownBy (World.grownBy_alloc W _ none) (by simp)) ((Below.refl _ W).alloc hle _) ⟨⟨v,hv.alloc _,hrow.alloc _,hnil⟩,hB.alloc hle _⟩ ⟨W.heap.size,rfl,World.alloc_heap_new W _⟩
 case body =>
  rintro l pre x a' W hwl hrl ⟨⟨v,hv,hrow,hnil⟩,hB⟩ ⟨q,rfl,hbx⟩ hlt;have hc:=hv.cell;obtain⟨e0,e1,e2⟩:=hbx.cells;gi_wp2_with (gi_at_builtin;refine wpListIn_append_own _ rfl _ _ 102 rfl w.heap.size 172 i0 (.agg #[.string ByteArray.empty,.int .i64 0,.float .f64 0]) 3 32 Tryz.underlying102 hi hz0 hz1 hz2 rfl (by decide) _ _ _ rfl (hrow.alloc _) ⟨W.heap.size,0,none⟩ 1 1 (mkC x) rfl rfl (jaF W x) (XS x) (by unfold maxLen;omega) (by omega) (by have:=hB.size;simp;omega) ?_;intro v' w1 hown' hgrow _;obtain⟨g',cap',rfl⟩:=ownsRow_succ hown';obtain⟨hv1,hv2,hr2,hk2,hb2⟩:=hv.appended (by decide) hrow hB.size (Nat.le_refl _) hown' hgrow;have hc1:=hv1.cell;have hf1:=hv1.frozen)
  exact⟨hk2.from _,hb2,⟨_,hv2,by simpa using hr2,by simp⟩,hB.trans hb2⟩
 case done =>
  rintro D ys W hD rfl ⟨⟨v,hv,hrow,hnil⟩,hB⟩ hK;have hc:=hv.cell;gi_wp2
  refine⟨by simp,.inl ⟨_,_,rfl,run_takeDeferred hK,?_⟩⟩;exact⟨_,results_tmp rfl _ _ _,v,rfl,⟨ownsRow_putObj hrow _ hK rfl,hnil⟩,hB.trans (belowK_b (w:=w) (Nat.le_refl _) W D _ _ (by simp at hD;omega) hK rfl rfl)⟩
 case stop =>
  rintro D c pre W _ _ h _;exact h.elim
theorem qW (Bs:Nat) (sv:Value) (xs:List Mk) (hlen:xs.length≤1000000) (w:World) (hBs:Bs<w.heap.size) (hcs:w.cell? ⟨Bs,0,none⟩=some sv) (hL:Mks w.heap.size w sv xs) :
 Calls Tryz.prog 168 #[.func (.func 170) #[] #[.pointer (some ⟨Bs,0,none⟩)]] w fun e W'=>∃v,e=.returned v∧jd0 w.heap.size W' v xs∧Below w.heap.size w W':=by
 have hA:Calls Tryz.prog 217 #[.slice none 0 0,.func (.func 170) #[] #[.pointer (some ⟨Bs,0,none⟩)]] w _ :=
  callsIn_wide.1 (qh Fence.wide 3 trivial trivial rfl (by omega) Bs sv xs hlen w hBs hcs hL)
 have HC:=lH hA;clear hA hBs hcs hL;go_enter Tryz.func168,Tryz.ntmps168;go_wp2_with fail
 refine HC.out.mono ?_;rintro e w1 ⟨v,rfl,ho,hb⟩;have HO:=lH ho;have HB:=lH hb;clear ho hb;go_wp2_with fail
 go_ret;exact⟨v,rfl,HO.out,HB.out⟩
end Go.Proofs.YtokdjfoalkmhiaaGreat
namespace Go.Proofs.YtokdjfoalkmhiaaGreat
open Go.RowKit
theorem Xl (s1 s2 s3:Option Addr) (n1 e1 n2 e2 n3 e3:Nat) (a1 a2 a3 a4:Option Addr) (m1 c1 m2 c2 m3 c3 m4 c4:Nat) (p:Pd) (s:Clu) (w:World) (hs:jJ w (zx (.slice s1 n1 e1) (.slice s2 n2 e2) (.slice s3 n3 e3)) s) (hl:jv s) (hp:jr w (.slice a1 m1 c1) (.slice a2 m2 c2) (.slice a3 m3 c3) (.slice a4 m4 c4) p):Calls Tryz.prog 10 #[.agg #[.slice s1 n1 e1,.slice s2 n2 e2,.slice s3 n3 e3],jt p (.slice a1 m1 c1) (.slice a2 m2 c2) (.slice a3 m3 c3) (.slice a4 m4 c4)] w fun e w'=>∃v,e=.returned v∧Own jz 9 w' w.heap.size v (zy s p s.nodes)∧Kept w w':=by
 obtain⟨i0,hi,hz0,hz1,hz2'⟩:=info_parts jcY;obtain⟨Z,hZ⟩:=eX ((w.alloc (.cells #[.slice s1 n1 e1,.slice s2 n2 e2,.slice s3 n3 e3] 26)).alloc (.cells #[.string p.name,.string p.owner,.int .i64 p.prio,.slice a1 m1 c1,.slice a2 m2 c2,.slice a3 m3 c3,.slice a4 m4 c4,.string p.key,.int .i64 p.most,.string p.node,.bool p.hold] 44))
 have hkz:Kept w Z:=by rw[←hZ];exact jj _ _ _
 have Vf:=lH (jc w (.slice s1 n1 e1) [.slice s2 n2 e2,.slice s3 n3 e3] 26 Z (by rw[←hZ];exact ja _ _));have Va:=lH (show je (w.heap.size+1) [.string p.name,.string p.owner,.int .i64 p.prio,.slice a1 m1 c1,.slice a2 m2 c2,.slice a3 m3 c3,.slice a4 m4 c4,.string p.key,.int .i64 p.most,.string p.node,.bool p.hold] Z by
  have dd:=jc (w.alloc (.cells #[.slice s1 n1 e1,.slice s2 n2 e2,.slice s3 n3 e3] 26)) (.string p.name) [.string p.owner,.int .i64 p.prio,.slice a1 m1 c1,.slice a2 m2 c2,.slice a3 m3 c3,.slice a4 m4 c4,.string p.key,.int .i64 p.most,.string p.node,.bool p.hold] 44 Z (by rw[hZ];exact Kept.refl _);rw[World.size_alloc] at dd;exact dd)
 obtain⟨K,HS,HP,HL⟩:=lH4 hkz (hs.kept hkz) (hp.kept hkz) hl;clear hs hp hkz hl;have VC:=lH HS.out.nAt.2;have hb1:n1≤100000:=by have:=HL.out.nodesN;have:=VC.out;omega
 have HN:=lH HS.out.nAt.1;have VT:=lH (jfs s1 s2 s3 n1 e1 n2 e2 n3 e3 a1 a2 a3 a4 m1 c1 m2 c2 m3 c3 m4 c4 p s Z HS.out HL.out HP.out);unfold jt at VT;obtain⟨y0,y1,y2⟩:=Vf.out.at3;obtain⟨r0,r1,r2,r3,r4,r5,r6,r7,r8,r9,r10⟩:=Va.out.at11;unfold jt;go_enter Tryz.func10,Tryz.ntmps10;go_wp2_with fail
 try rw[hZ]
 clear hZ;refine VT.out.mono ?_;rintro e w1 ⟨v9,rfl,hr,kk⟩;obtain⟨Vf,HN,K⟩:=lH3 (Vf.out.kept kk) (HN.out.kept kk) (K.out.trans kk);obtain⟨wa,wc,rfl,-,-,hrow⟩:=hr.reads;rw[Xw,←VC.out] at hrow;rw[Xw,←VC.out];have Uk:=lH hrow;clear kk hrow VT HP Va y0 y1 y2 r0 r1 r2 r3 r4 r5 r6 r7 r8 r9 r10;go_wp2;go_loopw [5,12] (fun v i wr=>∃k:Nat,k≤n1∧i=.int .i64 k∧∃la:List ByteArray,zy s p (s.nodes.take k)=la∧Own jz 9 wr w1.heap.size v la∧Kept w1 wr) (fun _ i _=>n1-(intOf i).toNat)
 case atStart=>exact⟨0,Nat.zero_le _,rfl,[],rfl,Own.nil _ _ _,Kept.refl _⟩
 case round =>
  obtain⟨k,hk,rfl,la,hla,ho,hK⟩:=hrel;obtain⟨HX,HO,HK⟩:=lH3 hla ho hK;obtain⟨m,hm⟩:=eX (la.length)
  have hmk:m≤k:=by
   have:=YG s p (s.nodes.take k);rw[hla,hm,List.length_take] at this;omega
  have HT:=lH hm;have hbase:w1.heap.size≤wr.heap.size:=hK.size;by_cases hlt:k<n1
  · obtain⟨g,off,rfl⟩:=HN.out.form.resolve_left (by omega);obtain⟨n,b1,q1,f1,b2,q2,f2,b3,q3,f3,hn,hd,hb,u0,u1,u2,u3,u4,hat⟩:=(HN.out.kept hK).at_ hlt;obtain⟨bw,offw,rfl⟩:=Uk.out.form.resolve_left (by omega);obtain⟨c,hc,-,-,cw⟩:=(Uk.out.kept hK).err hlt;obtain⟨Tk,V3,TM⟩:=lH3 hat.size (jcD (s:=s) (p:=p) hn) (show Zv s p n.name=c by rw[jeR hn] at hc;exact Option.some.inj hc);have hkk:(k:Int)<(n1:Int):=by omega
    have hk0:¬(k:Int)<0:=by omega
    have y0:=(Vf.out.kept hK).at_ 0 _ rfl;clear hd hb hn hc hat hla ho hm hK;obtain⟨xn,hxn⟩:=eX (n.name)
    rw[hxn] at u0 Tk V3 TM;clear hxn;by_cases h0:c=0
    · subst h0;have HV:=lH (show zy s p (s.nodes.take (k+1))=la++[xn] by rw[V3.out,HX.out,if_pos TM.out]);have Vu:=lH (show wr.ownsRow w1.heap.size 9 1 u5 m (jb jz la) by have:=HO.out.1;rw[HT.out] at this;exact this);go_wp2_with (at_builtin;refine wpList_append_lies _ rfl _ _ _ rfl w1.heap.size 9 i0 _ 1 16 Tryz.underlying34 hi hz0 hz1 hz2' rfl (by decide) u5 m (jb jz la) rfl (Vu.out.alloc _) ⟨wr.heap.size,0,none⟩ 1 1 (jz.cs xn) rfl rfl (World.news_of_block (cs:=#[.string xn]) (t:=9) (fr:=(0,0)) (heap_alloc_new wr _)) (jaK xn) (by decide) (by unfold maxLen;omega) (by omega) (by simp;omega) (wr.heap.size+1) (by simp) ?_;intro gg cap1 w4 hown1 hgrow hat hlt1)
      have Vz:=lH ((show Below w1.heap.size w1 _ from HK.out.trans (ja wr _)).grown hgrow (by simp;omega) (fun j hj=>(Vu.out.lt j hj).1));go_wp2;go_roundw
      case rel=>exact⟨k+1,by omega,by go_num,la++[xn],HV.out,Own.snoc hown1 (by rw[HT.out]) HO.out.2 Tk.out,Vz.out⟩
      case measure=>simp[intOf];omega
    · have h0b:(c==0)=false:=by simpa using h0
      have HV:=lH (show zy s p (s.nodes.take (k+1))=la by rw[V3.out,HX.out,if_neg (by rw[TM.out];exact h0),List.append_nil]);clear h0;go_wp2;go_roundw
      case rel=>exact⟨k+1,by omega,by go_num,la,HV.out,HO.out,HK.out⟩
      case measure=>simp[intOf];omega
  · have hge:¬(k:Int)<(n1:Int):=by omega
    have HE:=lH (show zy s p s.nodes=la by rw[←hla,List.take_of_length_le (by rw[←VC.out];omega)]);clear hla ho hm hK;go_wp2;go_ret;exact⟨_,rfl,by rw[HE.out];exact HO.out.base_le K.out.size,K.out.trans HK.out⟩
attribute [local go_sem] zW
def Jw (s:Clu) (p:Pd) (names:List ByteArray) (l:List Mk):Prop:=l.map (·.1)=names∧∀x ∈ l,x.2.1=ZT s p x.1∧nrm x.2.2=zl s p x.1
theorem Jw.nil (s:Clu) (p:Pd):Jw s p [] []:=⟨rfl,fun x h=>by cases h⟩
theorem Jw.snoc {s:Clu} {p:Pd} {names:List ByteArray} {l:List Mk} {x:ByteArray} {m:Int} {r:Nat} (h:Jw s p names l) (hm:m=ZT s p x) (hr:nrm r=zl s p x):Jw s p (names++[x]) (l++[(x,m,r)]):=by
 refine⟨by rw[List.map_append,h.1];rfl,fun y hy=>?_⟩;rcases List.mem_append.1 hy with hy | hy
 · exact h.2 y hy
 · obtain rfl:=List.mem_singleton.1 hy;exact⟨hm,hr⟩
theorem Jw.len {s:Clu} {p:Pd} {names:List ByteArray} {l:List Mk} (h:Jw s p names l):l.length=names.length:=by rw[←h.1,List.length_map]
theorem jc5 (s1 s2 s3:Option Addr) (n1 e1 n2 e2 n3 e3:Nat) (a1 a2 a3 a4:Option Addr) (m1 c1 m2 c2 m3 c3 m4 c4:Nat) (p:Pd) (s:Clu) (w:World) (hs:jJ w (zx (.slice s1 n1 e1) (.slice s2 n2 e2) (.slice s3 n3 e3)) s) (hl:jv s) (hb:s.pods.length+1≤100000) (hp:jr w (.slice a1 m1 c1) (.slice a2 m2 c2) (.slice a3 m3 c3) (.slice a4 m4 c4) p) (hlp:zM p):Calls Tryz.prog 52 #[.agg #[.slice s1 n1 e1,.slice s2 n2 e2,.slice s3 n3 e3],jt p (.slice a1 m1 c1) (.slice a2 m2 c2) (.slice a3 m3 c3) (.slice a4 m4 c4)] w fun e w'=>∃(v:Value) (l:List Mk),e=.returned v∧Reads MkLay w' v l∧Jw s p (zy s p s.nodes) l∧Kept w w':=by
 obtain⟨i0,hi,hz0,hz1,hz2'⟩:=info_parts jc6;obtain⟨Z,hZ⟩:=eX ((w.alloc (.cells #[.slice s1 n1 e1,.slice s2 n2 e2,.slice s3 n3 e3] 26)).alloc (.cells #[.string p.name,.string p.owner,.int .i64 p.prio,.slice a1 m1 c1,.slice a2 m2 c2,.slice a3 m3 c3,.slice a4 m4 c4,.string p.key,.int .i64 p.most,.string p.node,.bool p.hold] 44))
 have hkz:Kept w Z:=by rw[←hZ];exact jj _ _ _
 have Vf:=lH (jc w (.slice s1 n1 e1) [.slice s2 n2 e2,.slice s3 n3 e3] 26 Z (by rw[←hZ];exact ja _ _));have Va:=lH (show je (w.heap.size+1) [.string p.name,.string p.owner,.int .i64 p.prio,.slice a1 m1 c1,.slice a2 m2 c2,.slice a3 m3 c3,.slice a4 m4 c4,.string p.key,.int .i64 p.most,.string p.node,.bool p.hold] Z by
  have dd:=jc (w.alloc (.cells #[.slice s1 n1 e1,.slice s2 n2 e2,.slice s3 n3 e3] 26)) (.string p.name) [.string p.owner,.int .i64 p.prio,.slice a1 m1 c1,.slice a2 m2 c2,.slice a3 m3 c3,.slice a4 m4 c4,.string p.key,.int .i64 p.most,.string p.node,.bool p.hold] 44 Z (by rw[hZ];exact Kept.refl _);rw[World.size_alloc] at dd;exact dd)
 obtain⟨K,HS,HP,HL,Uj,VS⟩:=lH6 hkz (hs.kept hkz) (hp.kept hkz) hl hb hlp;clear hs hp hkz hl hb hlp;have HF:=lH (show ∀W,Kept Z W→W.cell? ⟨w.heap.size,0,none⟩=some (.slice s1 n1 e1)∧W.cell? ⟨w.heap.size,1,none⟩=some (.slice s2 n2 e2)∧W.cell? ⟨w.heap.size,2,none⟩=some (.slice s3 n3 e3)∧W.cell? ⟨w.heap.size+1,0,none⟩=some (.string p.name)∧W.cell? ⟨w.heap.size+1,1,none⟩=some (.string p.owner)∧W.cell? ⟨w.heap.size+1,2,none⟩=some (.int .i64 p.prio)∧W.cell? ⟨w.heap.size+1,3,none⟩=some (.slice a1 m1 c1)∧W.cell? ⟨w.heap.size+1,4,none⟩=some (.slice a2 m2 c2)∧W.cell? ⟨w.heap.size+1,5,none⟩=some (.slice a3 m3 c3)∧W.cell? ⟨w.heap.size+1,6,none⟩=some (.slice a4 m4 c4)∧W.cell? ⟨w.heap.size+1,7,none⟩=some (.string p.key)∧W.cell? ⟨w.heap.size+1,8,none⟩=some (.int .i64 p.most)∧W.cell? ⟨w.heap.size+1,9,none⟩=some (.string p.node)∧W.cell? ⟨w.heap.size+1,10,none⟩=some (.bool p.hold) from fun W kk=>by
  have h:=Vf.out.kept kk;have q:=Va.out.kept kk;exact⟨h.at_ 0 _ rfl,h.at_ 1 _ rfl,h.at_ 2 _ rfl,q.at_ 0 _ rfl,q.at_ 1 _ rfl,q.at_ 2 _ rfl,q.at_ 3 _ rfl,q.at_ 4 _ rfl,q.at_ 5 _ rfl,q.at_ 6 _ rfl,q.at_ 7 _ rfl,q.at_ 8 _ rfl,q.at_ 9 _ rfl,q.at_ 10 _ rfl⟩)
 have TN:=lH (Xl s1 s2 s3 n1 e1 n2 e2 n3 e3 a1 a2 a3 a4 m1 c1 m2 c2 m3 c3 m4 c4 p s Z HS.out HL.out HP.out);unfold jt at TN;have hfl:=YG s p s.nodes;have VC:=HL.out.nodesN;obtain⟨y0,y1,y2⟩:=Vf.out.at3;obtain⟨r0,r1,r2,r3,r4,r5,r6,r7,r8,r9,r10⟩:=Va.out.at11;unfold jt;go_enter Tryz.func52,Tryz.ntmps52;go_wp2_with fail
 try rw[hZ]
 clear hZ;refine TN.out.mono ?_;rintro e w1 ⟨v9,rfl,hr,kk⟩;obtain⟨names,hnm⟩:=eX (zy s p s.nodes)
 rw[hnm] at hr hfl;have TO:=lH hnm;clear hnm;obtain⟨wa,wc,rfl,-,-,hrow⟩:=hr.reads;obtain⟨n9,hn9⟩:=eX (names.length)
 rw[hn9] at hrow hfl ⊢;obtain⟨Ng,Tj,Uk⟩:=lH3 hr.2 hn9 hrow;have hn5:n9≤100000:=by omega
 have J1:=lH kk;clear kk hr hrow hn9 hfl VC TN y0 y1 y2 r0 r1 r2 r3 r4 r5 r6 r7 r8 r9 r10;go_wp2;go_loopw [5,7,12] (fun v _ i wr=>∃k:Nat,k≤n9∧i=.int .i64 k∧∃la:List Mk,Jw s p (names.take k) la∧Own MkLay 172 wr w1.heap.size v la∧Kept w1 wr) (fun _ _ i _=>n9-(intOf i).toNat)
 case atStart=>exact⟨0,Nat.zero_le _,rfl,[],Jw.nil _ _,Own.nil _ _ _,Kept.refl _⟩
 case round =>
  obtain⟨k,hk,rfl,la,hla,ho,hK⟩:=hrel;obtain⟨HX,HO,HK⟩:=lH3 hla ho hK;obtain⟨m,hm⟩:=eX (la.length)
  have hmk:m≤k:=by
   have:=hla.len;rw[hm,List.length_take] at this;omega
  have HT:=lH hm;have hbase:w1.heap.size≤wr.heap.size:=hK.size;by_cases hlt:k<n9
  · obtain⟨b9,o9,rfl⟩:=Uk.out.form.resolve_left (by omega);obtain⟨xn,hxn,-,-,hxs,cw⟩:=(Uk.out.kept hK).str hlt;have V3:=lH (show names.take (k+1)=names.take k++[xn] by rw[List.take_add_one,hxn];rfl);have Uc:=lH hxs;have hkk:(k:Int)<(n9:Int):=by omega
    have hk0:¬(k:Int)<0:=by omega
    have J:=lH ((J1.out.trans hK).trans (Kept.drew wr));clear hla ho hm hxn hxs hK;go_upto_region 5 with fail
    clear cw hkk hk0;refine wp_region_held_drew (S:=fun W=>W.cell? ⟨w.heap.size,0,none⟩=some (.slice s1 n1 e1)∧W.cell? ⟨w.heap.size,1,none⟩=some (.slice s2 n2 e2)∧W.cell? ⟨w.heap.size,2,none⟩=some (.slice s3 n3 e3)∧W.cell? ⟨w.heap.size+1,0,none⟩=some (.string p.name)∧W.cell? ⟨w.heap.size+1,1,none⟩=some (.string p.owner)∧W.cell? ⟨w.heap.size+1,2,none⟩=some (.int .i64 p.prio)∧W.cell? ⟨w.heap.size+1,3,none⟩=some (.slice a1 m1 c1)∧W.cell? ⟨w.heap.size+1,4,none⟩=some (.slice a2 m2 c2)∧W.cell? ⟨w.heap.size+1,5,none⟩=some (.slice a3 m3 c3)∧W.cell? ⟨w.heap.size+1,6,none⟩=some (.slice a4 m4 c4)∧W.cell? ⟨w.heap.size+1,7,none⟩=some (.string p.key)∧W.cell? ⟨w.heap.size+1,8,none⟩=some (.int .i64 p.most)∧W.cell? ⟨w.heap.size+1,9,none⟩=some (.string p.node)∧W.cell? ⟨w.heap.size+1,10,none⟩=some (.bool p.hold)) (by kernel_rfl) (HF.out _ J.out) (fun hHeld=>?_);obtain⟨wd,hwd⟩:=eX (wr.drew)
    have JR:=lH (Kept.drew wr);rw[hwd] at J JR hHeld;try rw[hwd]
    clear hwd;refine tR 0 rfl (by kernel_rfl) (fun _ _ _=>id) (Or.inl ⟨by rfl,by rintro W ⟨o0,o1,o2,o3,o4,o5,o6,o7,o8,o9,o10,o11,o12,o13⟩;go_simp<;>with_reducible rfl⟩) ‹_› ?_;refine tR 1 rfl (by kernel_rfl) (fun _ _ _=>id) (Or.inl ⟨by rfl,by rintro W ⟨o0,o1,o2,o3,o4,o5,o6,o7,o8,o9,o10,o11,o12,o13⟩;go_simp<;>with_reducible rfl⟩) ‹_› ?_;refine tR 2 rfl (by kernel_rfl) (fun _ _ _=>id) (Or.inl ⟨by rfl,by rintro W ⟨o0,o1,o2,o3,o4,o5,o6,o7,o8,o9,o10,o11,o12,o13⟩;go_simp<;>with_reducible rfl⟩) ‹_› ?_;refine tR 3 rfl (by kernel_rfl) (fun _ _ _=>id) (Or.inl ⟨by rfl,by rintro W ⟨o0,o1,o2,o3,o4,o5,o6,o7,o8,o9,o10,o11,o12,o13⟩;go_simp<;>with_reducible rfl⟩) ‹_› ?_;refine tR 4 rfl (by kernel_rfl) (fun _ _ _=>id) (Or.inl ⟨by rfl,by rintro W ⟨o0,o1,o2,o3,o4,o5,o6,o7,o8,o9,o10,o11,o12,o13⟩;go_simp<;>with_reducible rfl⟩) ‹_› ?_;try simp only[nA,nB,nC,nD,nE]
    refine tR 5 rfl (by kernel_rfl) (fun _ _ _=>id) (Or.inl ⟨by rfl,by rintro W ⟨o0,o1,o2,o3,o4,o5,o6,o7,o8,o9,o10,o11,o12,o13⟩;go_simp<;>with_reducible rfl⟩) ‹_› ?_;refine tR 9 rfl (by kernel_rfl) (fun _ _ _=>id) (Or.inl ⟨by rfl,by rintro W ⟨o0,o1,o2,o3,o4,o5,o6,o7,o8,o9,o10,o11,o12,o13⟩;go_simp<;>with_reducible rfl⟩) ‹_› ?_;refine tR 10 rfl (by kernel_rfl) (fun _ _ _=>id) (Or.inl ⟨by rfl,by rintro W ⟨o0,o1,o2,o3,o4,o5,o6,o7,o8,o9,o10,o11,o12,o13⟩;go_simp<;>with_reducible rfl⟩) ‹_› ?_;refine tR 11 rfl (by kernel_rfl) (fun _ _ _=>id) (Or.inl ⟨by rfl,by rintro W ⟨o0,o1,o2,o3,o4,o5,o6,o7,o8,o9,o10,o11,o12,o13⟩;go_simp<;>with_reducible rfl⟩) ‹_› ?_;try simp only[nA,nB,nC,nD,nE]
    refine rd1 6 fun K9 Ky=>?_;go_simp;refine(Zb s1 s2 s3 n1 e1 n2 e2 n3 e3 s xn _ (HS.out.kept J.out) HL.out).mono ?_;rintro e w2 ⟨b1,k1,d1,b2,k2,d2,b3,k3,d3,rfl,hn,kk⟩;obtain⟨Ri,J,JR⟩:=lH3 hn.taints (J.out.trans kk) (JR.out.trans kk);clear kk hn;unfold zS;refine Ky.out _ _ (HF.out _ J.out) (fun _=>?_);clear Ky K9;try simp only[nA,nB,nC,nD,nE]
    have hfd:=fun W=>jeO (jU s xn).name (.slice b1 k1 d1) (.slice b2 k2 d2) (.slice b3 k3 d3) (jU s xn).cordon W;refine tR 7 rfl (by kernel_rfl) (fun _ _ _=>id) (Or.inl ⟨by rfl,by rintro W ⟨o0,o1,o2,o3,o4,o5,o6,o7,o8,o9,o10,o11,o12,o13⟩;go_simp<;>with_reducible rfl⟩) ‹_› ?_;try simp only[nA,nB,nC,nD,nE]
    clear hfd;obtain⟨sf,hsf⟩:=eX (softN p.tols (jU s xn).taints)
    have RU:=lH (show (sf:Int)=ZT s p xn by unfold ZT;rw[hsf]);refine rd1 8 fun K9 Ky=>?_;go_simp;refine(jga (HP.out.kept J.out).tols Ri.out hsf).mono ?_;rintro e w3 ⟨rfl,kk⟩;have J:=lH (J.out.trans kk);have JR:=lH (JR.out.trans kk);clear kk hsf Ri;refine Ky.out _ _ (HF.out _ J.out) (fun _=>?_);clear Ky K9;try simp only[nA,nB,nC,nD,nE]
    refine rd1 12 fun K9 Ky=>?_;go_simp;have UI:=ZH s1 s2 s3 n1 e1 n2 e2 n3 e3 a1 a2 a3 a4 m1 c1 m2 c2 m3 c3 m4 c4 p s xn w3 (HS.out.kept J.out) HL.out Uj.out (HP.out.kept J.out) VS.out Uc.out;unfold jt at UI;refine UI.mono ?_;rintro e w4 ⟨r,rfl,hr,hrt,kk⟩;obtain⟨HR,TI,J,JR⟩:=lH4 hr hrt (J.out.trans kk) (JR.out.trans kk);clear kk UI hr hrt;refine Ky.out _ _ (HF.out _ J.out) (fun _=>?_);clear Ky K9;try simp only[nA,nB,nC,nD,nE]
    refine tR 13 rfl (by kernel_rfl) (fun _ _ _=>id) (Or.inl ⟨by rfl,by rintro W ⟨o0,o1,o2,o3,o4,o5,o6,o7,o8,o9,o10,o11,o12,o13⟩;go_simp<;>with_reducible rfl⟩) ‹_› ?_;try simp only[nA,nB,nC,nD,nE]
    refine rd1 14 fun K9 Ky=>?_;go_simp;refine Ky.out _ _ (HF.out _ (J.out.trans (ja _ _))) (fun _=>?_);clear Ky K9;try simp only[nA,nB,nC,nD,nE]
    obtain⟨w5,hw5⟩:=eX (w4.alloc (.cells #[.string xn,.int .i64 sf,.float .f64 r] 172))
    have k5:Kept w4 w5:=by rw[←hw5];exact ja _ _
    obtain⟨VK,J,JR⟩:=lH3 (show w5.heap[w4.heap.size]?=some (.cells #[.string xn,.int .i64 sf,.float .f64 r] 172) by rw[←hw5];exact World.alloc_heap_new w4 _) (J.out.trans k5) (JR.out.trans k5);try rw[hw5]
    clear hw5 k5;have Vu:=lH (show w5.ownsRow w1.heap.size 172 3 u5 m (jb MkLay la) by have:=(HO.out.kept JR.out).1;rw[HT.out] at this;exact this);refine rd1 15 fun K9 Ky=>?_;refine step_append_lies _ (by rfl) _ _ _ (by rfl) w1.heap.size 172 i0 _ 3 32 Tryz.underlying102 hi hz0 hz1 hz2' rfl (by decide) u5 m (jb MkLay la) (by rfl) Vu.out ⟨w4.heap.size,0,none⟩ 1 1 (mkC (xn,(sf:Int),r)) (by rfl) (by rfl) (World.news_of_block (cs:=#[.string xn,.int .i64 sf,.float .f64 r]) (t:=172) (fr:=(0,0)) VK.out) (XS (xn,(sf:Int),r)) (by decide) (by unfold maxLen;omega) (by omega) (by have:=JR.out.size;omega) _ rfl ?_;intro gg cap1 w6 hown1 hgrow hat hlt1;have Vz:=lH ((show Below w1.heap.size w1 _ from HK.out.trans JR.out).grown hgrow (by have:=JR.out.size;omega) (fun j hj=>(Vu.out.lt j hj).1));have Vw:=lH hown1;have J6:=lH (show Kept Z w6 from J1.out.trans Vz.out);clear hgrow hat hlt1 hown1;refine Ky.out _ _ (HF.out _ J6.out) (fun _=>?_);clear Ky K9;try simp only[nA,nB,nC,nD,nE]
    refine tR 16 rfl (by kernel_rfl) (fun _ _ _=>id) (Or.inl ⟨by rfl,by rintro W ⟨o0,o1,o2,o3,o4,o5,o6,o7,o8,o9,o10,o11,o12,o13⟩;go_simp<;>with_reducible rfl⟩) ‹_› ?_;try simp only[nA,nB,nC,nD,nE]
    refine wpAnyH_done (by kernel_rfl) ?_ _;go_wp2;go_roundw
    case rel=>exact⟨k+1,by omega,by go_num,la++[(xn,(sf:Int),r)],by rw[V3.out];exact HX.out.snoc RU.out HR.out,Own.snoc Vw.out (by rw[HT.out]) HO.out.2 ⟨Uc.out,TI.out⟩,Vz.out⟩
    case measure=>simp[intOf];omega
  · have hge:¬(k:Int)<(n9:Int):=by omega
    have HE:=lH (show Jw s p names la by have:=hla;rw[List.take_of_length_le (by rw[Tj.out];omega)] at this;exact this);clear hla ho hm hK;go_wp2;go_ret;exact⟨_,rfl,la,HO.out.reads,by rw[TO.out];exact HE.out,K.out.trans (J1.out.trans HK.out)⟩
end Go.Proofs.YtokdjfoalkmhiaaGreat
namespace Go.Proofs.YtokdjfoalkmhiaaGreat
open Go.RowKit
attribute [local go_sem] zW
theorem jcQ (pack:Bool) (x y:Nat) (w:World):Calls Tryz.prog 171 #[.float .f64 x,.float .f64 y,.bool pack] w fun e w'=>e=.returned (.int .i64 (cpM pack x y))∧Grw w w':=by
 cases pack with
 | true =>
  have HC:=lH (Z2 y x w);have HV:=lH (show cpM true x y=cp y x from rfl);go_enter Tryz.func171,Tryz.ntmps171;go_wp2_with fail
  refine HC.out.mono ?_;rintro e w1 ⟨rfl,c,t,rfl⟩;go_wp2;go_ret;exact⟨zp HV.out.symm,Grw.alloc _ _⟩
 | false =>
  have HC:=lH (Z2 x y w);have HV:=lH (show cpM false x y=cp x y from rfl);go_enter Tryz.func171,Tryz.ntmps171;go_wp2_with fail
  refine HC.out.mono ?_;rintro e w1 ⟨rfl,c,t,rfl⟩;go_wp2;go_ret;exact⟨zp HV.out.symm,Grw.alloc _ _⟩
theorem jck (W:World) (x y z:Int) (T:TypeId) (i:Nat) (u:Int) (hi:([x,y,z]:List Int)[i]?=some u):(W.alloc (.cells #[.int .i64 x,.int .i64 y,.int .i64 z] T)).cell? ⟨W.heap.size,i,none⟩=some (.int .i64 u):=by
 refine(jc W (.int .i64 x) [.int .i64 y,.int .i64 z] T _ (Kept.refl _)).at_ i _ ?_
 match i,hi with
 | 0,h=>simpa using h
 | 1,h=>simpa using h
 | 2,h=>simpa using h
 | j+3,h=>simp at h
theorem jah (pack:Bool) (a1 b1:ByteArray) (a2 b2:Int) (a3 b3:Nat) (w:World):Calls Tryz.prog 111 #[.agg #[.string a1,.int .i64 a2,.float .f64 a3],.agg #[.string b1,.int .i64 b2,.float .f64 b3],.bool pack] w fun e w'=>e=.returned (.int .i64 (cfM pack (a1,a2,a3) (b1,b2,b3)))∧Grw w w':=by
 obtain⟨Z,hZ⟩:=eX ((w.alloc (.cells #[.string a1,.int .i64 a2,.float .f64 a3] 172)).alloc (.cells #[.string b1,.int .i64 b2,.float .f64 b3] 172))
 have hkz:Kept w Z:=by rw[←hZ];exact jj _ _ _
 have HG:=lH (show Grw w Z by rw[←hZ];exact(Grw.alloc _ _).trans (Grw.alloc _ _));have Vf:=lH (jc w (.string a1) [.int .i64 a2,.float .f64 a3] 172 Z (by rw[←hZ];exact ja _ _));have Va:=lH (show je (w.heap.size+1) [.string b1,.int .i64 b2,.float .f64 b3] Z by
  have dd:=jc (w.alloc (.cells #[.string a1,.int .i64 a2,.float .f64 a3] 172)) (.string b1) [.int .i64 b2,.float .f64 b3] 172 Z (by rw[hZ];exact Kept.refl _);rw[World.size_alloc] at dd;exact dd)
 have HF:=lH (show ∀W,Kept Z W→W.cell? ⟨w.heap.size,0,none⟩=some (.string a1)∧W.cell? ⟨w.heap.size,1,none⟩=some (.int .i64 a2)∧W.cell? ⟨w.heap.size,2,none⟩=some (.float .f64 a3)∧W.cell? ⟨w.heap.size+1,0,none⟩=some (.string b1)∧W.cell? ⟨w.heap.size+1,1,none⟩=some (.int .i64 b2)∧W.cell? ⟨w.heap.size+1,2,none⟩=some (.float .f64 b3) from fun W kk=>by
  have h:=Vf.out.kept kk;have q:=Va.out.kept kk;exact⟨h.at_ 0 _ rfl,h.at_ 1 _ rfl,h.at_ 2 _ rfl,q.at_ 0 _ rfl,q.at_ 1 _ rfl,q.at_ 2 _ rfl⟩)
 obtain⟨x,hx⟩:=eX (Jr a2 b2)
 obtain⟨y,hy⟩:=eX (cpM pack a3 b3)
 obtain⟨z,hz⟩:=eX (Zj a1 b1)
 have HV:=lH (show cfM pack (a1,a2,a3) (b1,b2,b3)=orL [x,y,z] by
  show (if Jr a2 b2≠0 then Jr a2 b2 else if cpM pack a3 b3≠0 then cpM pack a3 b3 else Zj a1 b1)=_;rw[hx,hy,hz];show _=if x≠0 then x else if y≠0 then y else if z≠0 then z else 0
  by_cases q:z=0
  · subst q;simp
  · rw[if_pos q])
 obtain⟨EI,EC,ES⟩:=lH3 (fun W=>jed a2 b2 W) (fun W=>jcQ pack a3 b3 W) (fun W=>jeC a1 b1 W);rw[hx] at EI;rw[hy] at EC;rw[hz] at ES;clear hx hy hz hkz;go_enter Tryz.func111,Tryz.ntmps111;go_upto_region 1 with fail
 try rw[hZ]
 clear hZ;have J:=lH (Grw.drewN Z 1);refine wp_region_held_drew (S:=fun W=>W.cell? ⟨w.heap.size,0,none⟩=some (.string a1)∧W.cell? ⟨w.heap.size,1,none⟩=some (.int .i64 a2)∧W.cell? ⟨w.heap.size,2,none⟩=some (.float .f64 a3)∧W.cell? ⟨w.heap.size+1,0,none⟩=some (.string b1)∧W.cell? ⟨w.heap.size+1,1,none⟩=some (.int .i64 b2)∧W.cell? ⟨w.heap.size+1,2,none⟩=some (.float .f64 b3)) (by kernel_rfl) (HF.out _ J.out.kept) (fun hHeld=>?_);obtain⟨wd,hwd⟩:=eX (Z.drew)
 rw[show Z.drewN 1=wd from hwd] at J;rw[hwd] at hHeld;try rw[hwd]
 clear hwd;refine tR 0 rfl (by kernel_rfl) (fun _ _ _=>id) (Or.inl ⟨by rfl,by rintro W ⟨o0,o1,o2,o3,o4,o5⟩;go_simp<;>with_reducible rfl⟩) ‹_› ?_;refine tR 1 rfl (by kernel_rfl) (fun _ _ _=>id) (Or.inl ⟨by rfl,by rintro W ⟨o0,o1,o2,o3,o4,o5⟩;go_simp<;>with_reducible rfl⟩) ‹_› ?_;refine tR 2 rfl (by kernel_rfl) (fun _ _ _=>id) (Or.inl ⟨by rfl,by rintro W ⟨o0,o1,o2,o3,o4,o5⟩;go_simp<;>with_reducible rfl⟩) ‹_› ?_;refine tR 3 rfl (by kernel_rfl) (fun _ _ _=>id) (Or.inl ⟨by rfl,by rintro W ⟨o0,o1,o2,o3,o4,o5⟩;go_simp<;>with_reducible rfl⟩) ‹_› ?_;refine tR 5 rfl (by kernel_rfl) (fun _ _ _=>id) (Or.inl ⟨by rfl,by rintro W ⟨o0,o1,o2,o3,o4,o5⟩;go_simp<;>with_reducible rfl⟩) ‹_› ?_;try simp only[nA,nB,nC,nD,nE]
 refine tR 6 rfl (by kernel_rfl) (fun _ _ _=>id) (Or.inl ⟨by rfl,by rintro W ⟨o0,o1,o2,o3,o4,o5⟩;go_simp<;>with_reducible rfl⟩) ‹_› ?_;refine tR 7 rfl (by kernel_rfl) (fun _ _ _=>id) (Or.inl ⟨by rfl,by rintro W ⟨o0,o1,o2,o3,o4,o5⟩;go_simp<;>with_reducible rfl⟩) ‹_› ?_;refine tR 8 rfl (by kernel_rfl) (fun _ _ _=>id) (Or.inl ⟨by rfl,by rintro W ⟨o0,o1,o2,o3,o4,o5⟩;go_simp<;>with_reducible rfl⟩) ‹_› ?_;refine tR 9 rfl (by kernel_rfl) (fun _ _ _=>id) (Or.inl ⟨by rfl,by rintro W ⟨o0,o1,o2,o3,o4,o5⟩;go_simp<;>with_reducible rfl⟩) ‹_› ?_;refine tR 11 rfl (by kernel_rfl) (fun _ _ _=>id) (Or.inl ⟨by rfl,by rintro W ⟨o0,o1,o2,o3,o4,o5⟩;go_simp<;>with_reducible rfl⟩) ‹_› ?_;try simp only[nA,nB,nC,nD,nE]
 refine tR 12 rfl (by kernel_rfl) (fun _ _ _=>id) (Or.inl ⟨by rfl,by rintro W ⟨o0,o1,o2,o3,o4,o5⟩;go_simp<;>with_reducible rfl⟩) ‹_› ?_;refine tR 13 rfl (by kernel_rfl) (fun _ _ _=>id) (Or.inl ⟨by rfl,by rintro W ⟨o0,o1,o2,o3,o4,o5⟩;go_simp<;>with_reducible rfl⟩) ‹_› ?_;refine tR 14 rfl (by kernel_rfl) (fun _ _ _=>id) (Or.inl ⟨by rfl,by rintro W ⟨o0,o1,o2,o3,o4,o5⟩;go_simp<;>with_reducible rfl⟩) ‹_› ?_;try simp only[nA,nB,nC,nD,nE]
 refine rd1 4 fun K9 Ky=>?_;go_simp;refine(EI.out _).mono ?_;rintro e w1 ⟨rfl,rfl⟩;refine Ky.out _ _ (HF.out _ J.out.kept) (fun _=>?_);clear Ky K9;try simp only[nA,nB,nC,nD,nE]
 refine rd1 10 fun K9 Ky=>?_;go_simp;refine(EC.out _).mono ?_;rintro e w2 ⟨rfl,kk⟩;have J:=lH (J.out.trans kk);clear kk;refine Ky.out _ _ (HF.out _ J.out.kept) (fun _=>?_);clear Ky K9;try simp only[nA,nB,nC,nD,nE]
 refine rd1 15 fun K9 Ky=>?_;go_simp;refine(ES.out _).mono ?_;rintro e w3 ⟨rfl,rfl⟩;refine Ky.out _ _ (HF.out _ J.out.kept) (fun _=>?_);clear Ky K9;try simp only[nA,nB,nC,nD,nE]
 refine rd1 16 fun K9 Ky=>?_;go_simp;refine Ky.out _ _ (HF.out _ (J.out.trans (Grw.alloc _ _)).kept) (fun _=>?_);clear Ky K9;try simp only[nA,nB,nC,nD,nE]
 have Rj:=lH (show Calls Tryz.prog 53 #[.slice (some ⟨w2.heap.size,0,none⟩) 3 3] (w2.alloc (.cells #[.int .i64 x,.int .i64 y,.int .i64 z] 3)) _ from je4 w2.heap.size 3 [x,y,z] _ rfl (by decide) (jck w2 x y z 3));obtain⟨w4,hw4⟩:=eX (w2.alloc (.cells #[.int .i64 x,.int .i64 y,.int .i64 z] 3))
 have J:=lH (show Grw Z w4 by rw[←hw4];exact J.out.trans (Grw.alloc _ _));rw[hw4] at Rj;try rw[hw4]
 clear hw4;refine rd1 17 fun K9 Ky=>?_;go_simp;refine Rj.out.mono ?_;rintro e w5 ⟨rfl,rfl⟩;refine Ky.out _ _ (HF.out _ J.out.kept) (fun _=>?_);clear Ky K9;try simp only[nA,nB,nC,nD,nE]
 refine tR 18 rfl (by kernel_rfl) (fun _ _ _=>id) (Or.inl ⟨by rfl,by rintro W ⟨o0,o1,o2,o3,o4,o5⟩;go_simp<;>with_reducible rfl⟩) ‹_› ?_;try simp only[nA,nB,nC,nD,nE]
 refine wpAnyH_done (by kernel_rfl) ?_ _;go_wp2;go_ret;exact⟨zp HV.out.symm,HG.out.trans J.out⟩
theorem jaw (q:Nat) (pack:Bool) (a1 b1:ByteArray) (a2 b2:Int) (a3 b3:Nat) (w:World) (hq:w.cell? ⟨q,0,none⟩=some (.bool pack)):Calls Tryz.prog 110 #[.agg #[.string a1,.int .i64 a2,.float .f64 a3],.agg #[.string b1,.int .i64 b2,.float .f64 b3],.pointer (some ⟨q,0,none⟩)] w fun e w'=>e=.returned (.int .i64 (cfM pack (a1,a2,a3) (b1,b2,b3)))∧Grw w w':=by
 obtain⟨Z,hZ⟩:=eX ((w.alloc (.cells #[.string a1,.int .i64 a2,.float .f64 a3] 172)).alloc (.cells #[.string b1,.int .i64 b2,.float .f64 b3] 172))
 have hkz:Kept w Z:=by rw[←hZ];exact jj _ _ _
 have HG:=lH (show Grw w Z by rw[←hZ];exact(Grw.alloc _ _).trans (Grw.alloc _ _));have hb1:=jc w (.string a1) [.int .i64 a2,.float .f64 a3] 172 Z (by rw[←hZ];exact ja _ _);have hb2:je (w.heap.size+1) [.string b1,.int .i64 b2,.float .f64 b3] Z:=by
  have dd:=jc (w.alloc (.cells #[.string a1,.int .i64 a2,.float .f64 a3] 172)) (.string b1) [.int .i64 b2,.float .f64 b3] 172 Z (by rw[hZ];exact Kept.refl _);rw[World.size_alloc] at dd;exact dd
 have hq2:=cell_later hkz hq;have HC:=lH (jah pack a1 b1 a2 b2 a3 b3 Z);have y0:=hb1.at_ 0 _ rfl;have y1:=hb1.at_ 1 _ rfl;have y2:=hb1.at_ 2 _ rfl;have z0:=hb2.at_ 0 _ rfl;have z1:=hb2.at_ 1 _ rfl;have z2:=hb2.at_ 2 _ rfl;clear hb1 hb2 hq hkz;go_enter Tryz.func110,Tryz.ntmps110;go_wp2_with fail
 try rw[hZ]
 clear hZ;refine HC.out.mono ?_;rintro e w1 ⟨rfl,kk⟩;have J:=lH (HG.out.trans kk);clear kk HC y0 y1 y2 z0 z1 z2 hq2;go_wp2;go_ret;exact⟨rfl,J.out⟩
end Go.Proofs.YtokdjfoalkmhiaaGreat
namespace Go.Proofs.YtokdjfoalkmhiaaGreat
open Go.Shelf
def jb3:Go.Shelf.Ren:=⟨fun | 6=>169 | 15=>219 | 14=>218 | 28=>254 | 29=>255 | 20=>246 | 21=>247 | 22=>248 | 23=>249 | 24=>250 | 25=>251 | 26=>252 | 27=>253 | 46=>270 | 47=>271 | 48=>272 | 49=>273 | 50=>274 | 57=>280 | n=>n,fun | 22=>102 | 24=>172 | 25=>177 | 3=>3 | 39=>258 | 0=>0 | 53=>315 | 55=>233 | 4=>4 | 46=>309 | 45=>308 | 50=>262 | 5=>5 | 9=>9 | 66=>331 | 70=>335 | 76=>340 | 77=>341 | n=>n,fun | n=>n⟩
theorem jdH:Go.Proofs.SlLaysF0.n6 Tryz.prog jb3:={
 mixed:=by kernel_rfl
 f6:=⟨Tryz.f169.name,by decide,Tryz.func169.trans (congrArg some (by kernel_rfl))⟩
 f14:=⟨Tryz.f218.name,by decide,Tryz.func218.trans (congrArg some (by kernel_rfl))⟩
 f15:=Tryz.func219.trans (congrArg some (by kernel_rfl))
 f20:=⟨Tryz.f246.name,by decide,Tryz.func246.trans (congrArg some (by kernel_rfl))⟩
 f21:=⟨Tryz.f247.name,by decide,Tryz.func247.trans (congrArg some (by kernel_rfl))⟩
 f22:=⟨Tryz.f248.name,by decide,Tryz.func248.trans (congrArg some (by kernel_rfl))⟩
 f23:=⟨Tryz.f249.name,by decide,Tryz.func249.trans (congrArg some (by kernel_rfl))⟩
 f24:=⟨Tryz.f250.name,by decide,Tryz.func250.trans (congrArg some (by kernel_rfl))⟩
 f25:=⟨Tryz.f251.name,by decide,Tryz.func251.trans (congrArg some (by kernel_rfl))⟩
 f26:=⟨Tryz.f252.name,by decide,Tryz.func252.trans (congrArg some (by kernel_rfl))⟩
 f27:=⟨Tryz.f253.name,by decide,Tryz.func253.trans (congrArg some (by kernel_rfl))⟩
 f28:=Tryz.func254.trans (congrArg some (by kernel_rfl))
 f29:=Tryz.func255.trans (congrArg some (by kernel_rfl))
 f46:=⟨Tryz.f270.name,by decide,Tryz.func270.trans (congrArg some (by kernel_rfl))⟩
 f47:=Tryz.func271.trans (congrArg some (by kernel_rfl))
 f48:=Tryz.func272.trans (congrArg some (by kernel_rfl))
 f49:=⟨Tryz.f273.name,by decide,Tryz.func273.trans (congrArg some (by kernel_rfl))⟩
 f50:=⟨Tryz.f274.name,by decide,Tryz.func274.trans (congrArg some (by kernel_rfl))⟩
 f57:=⟨Tryz.f280.name,by decide,Tryz.func280.trans (congrArg some (by kernel_rfl))⟩
 t0:=Tryz.underlying0
 a0:=Tryz.isAgg0
 z0:=Tryz.sizeOf0
 v0:=Tryz.zeroValue0
 t3:=Tryz.underlying3
 a3:=Tryz.isAgg3
 z3:=Tryz.sizeOf3
 v3:=Tryz.zeroValue3
 t4:=Tryz.underlying4
 a4:=Tryz.isAgg4
 z4:=Tryz.sizeOf4
 v4:=Tryz.zeroValue4
 t5:=Tryz.underlying5
 a5:=Tryz.isAgg5
 z5:=Tryz.sizeOf5
 v5:=Tryz.zeroValue5
 t9:=Tryz.underlying9
 a9:=Tryz.isAgg9
 z9:=Tryz.sizeOf9
 v9:=Tryz.zeroValue9
 t22:=Tryz.underlying102
 a22:=Tryz.isAgg102
 z22:=Tryz.sizeOf102
 v22:=Tryz.zeroValue102
 t25:=Tryz.underlying177
 a25:=Tryz.isAgg177
 z25:=Tryz.sizeOf177
 v25:=Tryz.zeroValue177
 t39:=Tryz.underlying258
 a39:=Tryz.isAgg258
 z39:=Tryz.sizeOf258
 v39:=Tryz.zeroValue258
 t45:=Tryz.underlying308
 a45:=Tryz.isAgg308
 z45:=Tryz.sizeOf308
 v45:=Tryz.zeroValue308
 t46:=Tryz.underlying309
 a46:=Tryz.isAgg309
 z46:=Tryz.sizeOf309
 v46:=Tryz.zeroValue309
 t50:=Tryz.underlying262
 a50:=Tryz.isAgg262
 z50:=Tryz.sizeOf262
 v50:=Tryz.zeroValue262
 t53:=Tryz.underlying315
 a53:=Tryz.isAgg315
 z53:=Tryz.sizeOf315
 v53:=Tryz.zeroValue315
 t55:=Tryz.underlying233
 a55:=Tryz.isAgg233
 z55:=Tryz.sizeOf233
 v55:=Tryz.zeroValue233
 t66:=Tryz.underlying331
 a66:=Tryz.isAgg331
 z66:=Tryz.sizeOf331
 v66:=Tryz.zeroValue331
 t70:=Tryz.underlying335
 a70:=Tryz.isAgg335
 z70:=Tryz.sizeOf335
 v70:=Tryz.zeroValue335
 t76:=Tryz.underlying340
 a76:=Tryz.isAgg340
 z76:=Tryz.sizeOf340
 v76:=Tryz.zeroValue340
 t77:=Tryz.underlying341
 a77:=Tryz.isAgg341
 z77:=Tryz.sizeOf341
 v77:=Tryz.zeroValue341 }
end Go.Proofs.YtokdjfoalkmhiaaGreat
