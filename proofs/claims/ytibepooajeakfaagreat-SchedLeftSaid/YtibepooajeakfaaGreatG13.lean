/- C. -/
import Derived.Test.YtibepooajeakfaaGreatG8
import Derived.Test.YtibepooajeakfaaGreatG10
import Derived.Test.YtibepooajeakfaaGreatG11
import Derived.Test.YtibepooajeakfaaGreatG12
set_option linter.unusedVariables false
set_option maxRecDepth 100000
set_option maxHeartbeats 25600000
namespace Go.Proofs.YtibepooajeakfaaGreat
open Go.RowKit
theorem jaX (a b d:Option Addr) (len cap m c n e:Nat) (nl:List Nod) (pl:List Pd) (bl:List Bd) (w:World) (hn:jt w a len nl) (hp:jC w b m pl) (hb:zB w d n bl) (h1:len≤cap) (h2:cap≤maxLen) (h3:m≤c) (h4:c≤maxLen) (h5:n≤e) (h6:e≤maxLen) (hl:jA ⟨nl,pl,bl⟩) :
 Calls Tryz.prog 30 #[.agg #[.slice a len cap,.slice b m c,.slice d n e]] w fun e w'=>∃a1 n1 c1 a2 n2 c2 a3 n3 c3,e=.returned (.agg #[.slice a1 n1 c1,.slice a2 n2 c2,.slice a3 n3 c3])∧jJ (fun b=>b<w.heap.size) w.heap.size w' (.slice a1 n1 c1) (.slice a2 n2 c2) (.slice a3 n3 c3) ⟨nl,pl,bl⟩∧Kept w w':=by
 obtain⟨Z,hZ⟩:=eX ((w.alloc (.cells #[.slice a len cap,.slice b m c,.slice d n e] 26)).alloc (.cells #[.slice none 0 0,.slice none 0 0,.slice none 0 0] 26))
 have hkz:Kept w Z:=by rw[←hZ];exact jm _ _ _
 have hzs:Z.heap.size=w.heap.size+2:=by rw[←hZ];simp
 have cc:=jb w (.slice a len cap) [.slice b m c,.slice d n e] 26 Z (by rw[←hZ];exact ja _ _);have HQ:=lH (show je (w.heap.size+1) [.slice none 0 0,.slice none 0 0,.slice none 0 0] Z by
  have dd:=jb (w.alloc (.cells #[.slice a len cap,.slice b m c,.slice d n e] 26)) (.slice none 0 0) [.slice none 0 0,.slice none 0 0] 26 Z (by rw[hZ];exact Kept.refl _);rw[World.size_alloc] at dd;exact dd)
 have Vc:=lH hkz;have Vf:=lH hzs;by_cases hm0:m=0
 · subst hm0;have hpl:pl=[]:=List.length_eq_zero_iff.1 hp.1;subst hpl;have h0:(((0:Nat):Int)==0)=true:=rfl;have HC:=lH (X8 a b d len cap 0 c n e nl [] bl ⟨#[]⟩ ⟨#[]⟩ Z (by decide) (hn.kept hkz) (hp.kept hkz) (hb.kept hkz) h1 h2 h3 h4 h5 h6 hl);obtain⟨o0,o1,o2⟩:=cc.at3;clear hn hp hb h1 h2 h3 h4 h5 h6 hl hkz cc hzs;go_enter Tryz.func30,Tryz.ntmps30;go_wp2_with fail
   try rw[hZ]
   go_wp2_with fail
   try rw[hZ]
   clear hZ o0 o1 o2;refine HC.out.mono ?_;rintro e9 w1 ⟨a1,n1,c1,a2,n2,c2,a3,n3,c3,rfl,ho,k⟩;obtain⟨HO,K,HQ⟩:=lH3 ho k (HQ.out.kept k);clear ho k HC;obtain⟨z0,z1,z2⟩:=HQ.out.at3;have f0:=HQ.out.free 0;have f1:=HQ.out.free 1;have f2:=HQ.out.free 2;have P:=lH (j4 (vs:=[.slice a1 n1 c1,.slice a2 n2 c2,.slice a3 n3 c3]) HQ.out rfl);go_wp2;obtain⟨WE,hWE⟩:=eX (w1.setCells (w.heap.size+1) 0 [.slice a1 n1 c1,.slice a2 n2 c2,.slice a3 n3 c3])
   have hWE2:(((w1.setCell ⟨(w.heap.size+1),0,none⟩ (.slice a1 n1 c1)).setCell ⟨(w.heap.size+1),1,none⟩ (.slice a2 n2 c2)).setCell ⟨(w.heap.size+1),2,none⟩ (.slice a3 n3 c3))=WE:=hWE;rw[hWE] at P;try rw[hWE2]
   have GE:=lH (show jg (fun b=>b<Z.heap.size) w1 WE by rw[←hWE];exact jg.cells (S:=fun b=>b<Z.heap.size) _ (by have:=Vf.out;omega) _ _ _);clear hWE hWE2;obtain⟨PC,hsz,hbl,hkp⟩:=P.out;refine bodyPost_ret (by simp[results,Tryz.results30,go_sem,PC.at_ 0 _ rfl,PC.at_ 1 _ rfl,PC.at_ 2 _ rfl];try rfl) rfl ?_;have Vo:=(HO.out.step GE.out).less (B':=w.heap.size) (S':=fun b=>b<w.heap.size) Vc.out.size (fun b hb=>Nat.lt_of_lt_of_le hb Vc.out.size);exact⟨_,_,_,_,_,_,_,_,_,rfl,Vo,hkp _ _ (by omega) (Vc.out.trans K.out)⟩
 · have h0:((m:Int)==0)=false:=by simp;omega
   obtain⟨bb,bo,rfl⟩:=hp.form.resolve_left (by omega);obtain⟨x,xa1,xm1,xc1,xa2,xm2,xc2,xa3,xm3,xc3,xa4,xm4,xc4,hx,hd,hbl9,p0,p1,p2,p3,p4,p5,p6,p7,p8,p9,p10,hat⟩:=hp.at_ (show 0<m by omega);have hpx:pl=x::pl.drop 1:=hd;have hmv:zN ⟨nl,pl,bl⟩ x.name x.node=⟨nl,pl,bl⟩:=by
    unfold zN;rw[hpx];show (⟨nl,Jl x.name x.node (x::pl.drop 1),bl⟩:Clu)=_;rw[Jl,if_pos (J8 _)]
   simp only[Nat.zero_mul,Nat.add_zero] at p0 p9;have HF:=lH (show ∀W,jg (fun b=>b=w.heap.size+1) Z W→W.cell? ⟨w.heap.size,0,none⟩=some (.slice a len cap)∧W.cell? ⟨w.heap.size,1,none⟩=some (.slice (some ⟨bb,bo,none⟩) m c)∧W.cell? ⟨w.heap.size,2,none⟩=some (.slice d n e)∧W.cell? ⟨bb,bo,none⟩=some (.string x.name)∧W.cell? ⟨bb,bo+9,none⟩=some (.string x.node) from fun W g=>by
    have h1:=cc.block (g.block w.heap.size (by omega) (by omega));have q0:=(World.cell?_of_block (a:=⟨bb,bo,none⟩) (g.block bb (by omega) (by omega))).trans (cell_later hkz p0);have q9:=(World.cell?_of_block (a:=⟨bb,bo+9,none⟩) (g.block bb (by omega) (by omega))).trans (cell_later hkz p9);exact⟨h1.at_ 0 _ rfl,h1.at_ 1 _ rfl,h1.at_ 2 _ rfl,q0,q9⟩)
   have HC:=lH (show ∀W,Kept Z W→Calls Tryz.prog 17 #[.agg #[.slice a len cap,.slice (some ⟨bb,bo,none⟩) m c,.slice d n e],.string x.name,.string x.node] W fun e w'=>∃a1 n1 c1 a2 n2 c2 a3 n3 c3,e=.returned (.agg #[.slice a1 n1 c1,.slice a2 n2 c2,.slice a3 n3 c3])∧jJ (fun b=>b<W.heap.size) W.heap.size w' (.slice a1 n1 c1) (.slice a2 n2 c2) (.slice a3 n3 c3) ⟨nl,pl,bl⟩∧Kept W w' from fun W k=>by
    have hc:=X8 a (some ⟨bb,bo,none⟩) d len cap m c n e nl pl bl x.name x.node W hat.node (hn.kept (hkz.trans k)) (hp.kept (hkz.trans k)) (hb.kept (hkz.trans k)) h1 h2 h3 h4 h5 h6 hl;rw[hmv] at hc;exact hc)
   have hmz:(0:Int)<(m:Int):=by omega
   have hmn:0<m:=by omega
   obtain⟨xn,hxn⟩:=eX (x.name)
   obtain⟨xd,hxd⟩:=eX (x.node)
   rw[hxn,hxd] at HF HC;obtain⟨o0,o1,o2,o3,o4⟩:=HF.out Z (jg.of (Kept.refl _));clear hn hp hb h1 h2 h3 h4 h5 h6 hl hkz cc hat hd hbl9 hx hpx hmv p0 p1 p2 p3 p4 p5 p6 p7 p8 p9 p10 hm0 hzs hxn hxd;go_enter Tryz.func30,Tryz.ntmps30;go_upto_region 3 with fail
   try rw[hZ]
   clear hZ o0 o1 o2 o3 o4;have J:=lH (Kept.drew Z);refine wp_region_held_drew (S:=fun W=>W.cell? ⟨w.heap.size,0,none⟩=some (.slice a len cap)∧W.cell? ⟨w.heap.size,1,none⟩=some (.slice (some ⟨bb,bo,none⟩) m c)∧W.cell? ⟨w.heap.size,2,none⟩=some (.slice d n e)∧W.cell? ⟨bb,bo,none⟩=some (.string xn)∧W.cell? ⟨bb,bo+9,none⟩=some (.string xd)) (by kernel_rfl) (HF.out _ (jg.of J.out)) (fun hHeld=>?_);obtain⟨wd,hwd⟩:=eX (Z.drew)
   rw[hwd] at J hHeld;try rw[hwd]
   clear hwd;refine tkI 0 ?_;refine tkI 1 ?_;refine tkI 2 ?_;refine tkI 3 ?_;refine tkI 4 ?_;refine tkI 5 ?_;refine tkI 6 ?_;refine tkI 7 ?_;refine tkI 8 ?_;refine tkI 9 ?_;refine tkI 10 ?_;try simp only[nP]
   refine rd1 11 fun K9 Ky=>?_;go_simp;refine(HC.out _ J.out).mono ?_;rintro e9 w1 ⟨a1,n1,c1,a2,n2,c2,a3,n3,c3,rfl,ho,k⟩;have K:=lH (J.out.trans k);have HO:=lH (ho.less (B':=Z.heap.size) (S':=fun b=>b<Z.heap.size) J.out.size (fun b hb=>Nat.lt_of_lt_of_le hb J.out.size));clear ho k HC;refine Ky.out _ _ (HF.out _ (jg.of K.out)) (fun _=>?_);clear Ky K9;try simp only[nP]
   have HQ:=lH (HQ.out.kept K.out);obtain⟨z0,z1,z2⟩:=HQ.out.at3;have f0:=HQ.out.free 0;have f1:=HQ.out.free 1;have f2:=HQ.out.free 2;have P:=lH (j4 (vs:=[.slice a1 n1 c1,.slice a2 n2 c2,.slice a3 n3 c3]) HQ.out rfl);refine rd1 12 fun K9 Ky=>?_;go_simp;obtain⟨WE,hWE⟩:=eX (w1.setCells (w.heap.size+1) 0 [.slice a1 n1 c1,.slice a2 n2 c2,.slice a3 n3 c3])
   have hWE2:(((w1.setCell ⟨(w.heap.size+1),0,none⟩ (.slice a1 n1 c1)).setCell ⟨(w.heap.size+1),1,none⟩ (.slice a2 n2 c2)).setCell ⟨(w.heap.size+1),2,none⟩ (.slice a3 n3 c3))=WE:=hWE;rw[hWE] at P;try rw[hWE2]
   have GE:=lH (show jg (fun b=>b<Z.heap.size) w1 WE by rw[←hWE];exact jg.cells (S:=fun b=>b<Z.heap.size) _ (by have:=Vf.out;omega) _ _ _);have GQ:=lH (show jg (fun b=>b=w.heap.size+1) w1 WE by rw[←hWE];exact jg.cells (S:=fun b=>b=w.heap.size+1) _ rfl _ _ _);clear hWE hWE2;obtain⟨PC,hsz,hbl,hkp⟩:=P.out;refine Ky.out _ _ (HF.out _ ((jg.of K.out).trans (show jg (fun b=>b=w.heap.size+1) w1 WE from GQ.out))) (fun _=>?_);clear Ky K9;try simp only[nP]
   refine wpAnyH_done (by kernel_rfl) ?_ _;go_wp2;refine bodyPost_ret (by simp[results,Tryz.results30,go_sem,PC.at_ 0 _ rfl,PC.at_ 1 _ rfl,PC.at_ 2 _ rfl];try rfl) rfl ?_;have Vo:=(HO.out.step GE.out).less (B':=w.heap.size) (S':=fun b=>b<w.heap.size) Vc.out.size (fun b hb=>Nat.lt_of_lt_of_le hb Vc.out.size);exact⟨_,_,_,_,_,_,_,_,_,rfl,Vo,hkp _ _ (by omega) (Vc.out.trans K.out)⟩
def jl3 (pl:List Pd) (w:World) (e:Ending) (w':World):Prop:=∃v lx,e=.returned v∧Y5 pl (lx.map fun z:PX=>z.1)∧J9 PodLay0 52 At4 w.heap.size w' v lx∧Kept w w'
theorem jjm {lx ly:List PX} (h:ly.Perm (lx.filter fun z=>jL z.1)) (g:ly.Pairwise fun a b=>zi b.1 a.1=false):Y5 (lx.map fun z=>z.1) (ly.map fun z=>z.1):=by
 refine⟨?_,?_⟩
 · have h2:=h.map fun z=>z.1;rw[List.filter_map];exact h2
 · rw[List.pairwise_map];exact g
theorem jfl (a b d:Option Addr) (len cap m c n e:Nat) (nl:List Nod) (pl:List Pd) (bl:List Bd) (w:World) (hn:jt w a len nl) (hp:jC w b m pl) (hb:zB w d n bl) (h1:len≤cap) (h2:cap≤maxLen) (h3:m≤c) (h4:c≤maxLen) (h5:n≤e) (h6:e≤maxLen) (hl:jA ⟨nl,pl,bl⟩) :
 Calls Tryz.prog 9 #[.agg #[.slice a len cap,.slice b m c,.slice d n e]] w (jl3 pl w):=by
 obtain⟨Z,hZ⟩:=eX (w.alloc (.cells #[.slice a len cap,.slice b m c,.slice d n e] 26))
 have hkz:Kept w Z:=by rw[←hZ];exact ja _ _
 have cc:=jb w (.slice a len cap) [.slice b m c,.slice d n e] 26 Z (by rw[hZ];exact Kept.refl _);obtain⟨o0,o1,o2⟩:=cc.at3;obtain⟨Vc,HC,HM⟩:=lH3 hkz (jaX a b d len cap m c n e nl pl bl Z (hn.kept hkz) (hp.kept hkz) (hb.kept hkz) h1 h2 h3 h4 h5 h6 hl) (show pl.length≤100000 from hl.podsN);clear hn hp hb h1 h2 h3 h4 h5 h6 hl hkz cc;unfold jl3;go_enter Tryz.func9,Tryz.ntmps9;go_wp2_with fail
 try rw[hZ]
 go_wp2_with fail
 try rw[hZ]
 clear hZ o0 o1 o2;refine HC.out.mono ?_;rintro e w1 ⟨a1,n1,c1,a2,n2,c2,a3,n3,c3,rfl,ho1,k⟩;have ho:=ho1.less (B':=w.heap.size) (S':=fun b=>b<w.heap.size) Vc.out.size (fun b e=>Nat.lt_of_lt_of_le e Vc.out.size);have K:=lH (Vc.out.trans k);obtain⟨lx,hlx,hox,hdx⟩:=ho.pods;have hlen:lx.length≤100000:=by have:=congrArg List.length hlx;rw[List.length_map] at this;rw[this];exact HM.out
 have NG:=lH hlx;have NH:=lH hdx;have hlx2:(lx.map fun z=>z.1)=pl:=hlx;have nfl:∀(x y z:Value) (W:World),(Instr.field 26 (.agg #[x,y,z]) 1).run Tryz.prog W=.ok y W:=fun _ _ _ _=>by kernel_rfl
 clear k ho ho1 hlx HC;rcases hox.1.2 with ⟨e0,hz⟩ | ⟨g,cp,cur,e0,hbg,hg,hr⟩
 · cases e0
   have hlz:lx=[]:=List.length_eq_zero_iff.1 hz;subst hlz;have hpl:pl=[]:=hlx2.symm;subst hpl;clear hox hdx hlen hz hlx2;go_wp2_with fail
   refine(jis _).mono ?_;rintro e w2 ⟨rfl,k2⟩;have K:=lH (K.out.trans k2);clear k2;go_wp2_with fail
   refine(jfS _).mono ?_;rintro e w3 ⟨rfl,rfl⟩;go_wp2;go_ret;exact⟨_,[],rfl,⟨List.Perm.refl _,List.Pairwise.nil⟩,⟨⟨_,_,_,rfl⟩,⟨Own.nil _ _ _,fun z h=>by cases h⟩,fun z h=>by cases h⟩,K.out⟩
 · obtain⟨ea,en,ec⟩:a2=some ⟨g,0,none⟩∧n2=lx.length∧c2=cp:=by cases e0;exact⟨rfl,rfl,rfl⟩
   subst ea en ec;obtain⟨HD,HB,Tt⟩:=lH3 (jjI g lx.length c2 w.heap.size lx w1 hox (fun z hz=>(hdx z hz).here) hlen) (show w.heap.size≤g from(Jy hox g rfl).1) hlen;obtain⟨n9,hn9⟩:=eX (lx.length)
   rw[hn9] at HD;try rw[hn9]
   clear hox hdx hlen hlx2 hbg hg hr e0;go_wp2_with fail
   refine HD.out.mono ?_;rintro e w2 ⟨n8,rfl,ho2,g2⟩;have hn8:n8=(lx.filter fun z=>jL z.1).length:=by obtain⟨a,c,e,_⟩:=ho2.at_;cases e;rfl
   have HS:=lH (jho w.heap.size g n8 c2 (lx.filter fun z=>jL z.1) w2 ho2 (by have:=List.length_filter_le (fun z=>jL z.1) lx;have:=Tt.out;omega));have G2:=lH g2;clear ho2 g2 hn8 HD hn9;go_wp2_with fail
   refine HS.out.mono ?_;rintro e w3 ⟨rfl,ly,hp,hs,ho3,g3⟩;obtain⟨G,HP,HO,Rm⟩:=lH4 (G2.out.trans g3) (show Y5 pl (ly.map fun z=>z.1) by rw[←NG.out];exact jjm hp hs) ho3 hp;clear hp hs ho3 g3 HS;go_wp2;go_ret;have key:∀z ∈ ly,Off (fun b=>b<w.heap.size∨b=g) w3 fun u=>At4 u z:=fun z hz =>
    ((NH.out z (List.mem_filter.1 (Rm.out.mem_iff.1 hz)).1).step (G.out.mono fun b e=>by subst e;exact .inr rfl)).less fun b e=>e.imp id fun e=>by subst e;rfl
   refine⟨_,ly,rfl,HP.out,⟨⟨_,_,_,rfl⟩,⟨HO.out,fun z hz=>(key z hz).less fun b e=>.inr (Option.some.inj e).symm⟩,fun z hz=>(key z hz).less fun b e=>e.imp id fun e=>(Option.some.inj e).symm⟩,?_⟩;exact jg.below K.out G.out fun i e=>by subst e;exact HB.out
theorem XF {v:Value} {s:Clu} {w:World} (h:jB w v s) (hl:jA s) (ha:Asc s.pods):Calls Tryz.prog 9 #[v] w fun e w'=>∃y,e=.returned y∧zU w' y (zr s.pods)∧Kept w w':=by
 obtain⟨v1,v2,v3,rfl,⟨a,cap,rfl,l1,m1,h1⟩,⟨b,cp,rfl,l2,m2,h2⟩,⟨d,cb,rfl,l3,m3,h3⟩⟩:=h;refine(jfl a b d _ cap _ cp _ cb s.nodes s.pods s.buds w h1 h2 h3 l1 m1 l2 m2 l3 m3 hl).mono ?_;rintro e w' ⟨v,lx,rfl,hp,hf,kk⟩;refine⟨v,rfl,?_,kk⟩;rw[←qe ha hp];exact jb7 hf.2.1
abbrev jj7 (x y:ByteArray):PanicEntry:={ v:=.iface 54 (.agg #[.string x,.string y]),recovered:=false }
def jkZ (o:Option (ByteArray×ByteArray)) (w:World) (e:Ending) (w':World):Prop:=(∀x y,o=some (x,y)→e=.panicked [jj7 x y])∧(o=none→e=.returned (.tuple #[]))∧Kept w w'
theorem jkh (s1 s2 s3:Option Addr) (n1 e1 n2 e2 n3 e3:Nat) (pack:Bool) (s:Clu) (w:World) (hs:jB w (zP (.slice s1 n1 e1) (.slice s2 n2 e2) (.slice s3 n3 e3)) s) (hl:jA s) (ha:Asc s.pods) (hb:s.pods.length+1≤100000):Calls Tryz.prog 75 #[.agg #[.slice s1 n1 e1,.slice s2 n2 e2,.slice s3 n3 e3],.bool pack] w (jkZ (nextS s pack) w):=by
 obtain⟨Z,hZ⟩:=eX (w.alloc (.cells #[.slice s1 n1 e1,.slice s2 n2 e2,.slice s3 n3 e3] 26))
 have hkz:Kept w Z:=by rw[←hZ];exact ja _ _
 obtain⟨Vi,HS,HL,HB,HK,HP⟩:=lH6 (jb w (.slice s1 n1 e1) [.slice s2 n2 e2,.slice s3 n3 e3] 26 Z (by rw[hZ];exact Kept.refl _)) (hs.kept hkz) hl hb hkz (XF (hs.kept hkz) hl ha);clear hs hkz hl ha hb;unfold jkZ;obtain⟨y0,y1,y2⟩:=Vi.out.at3;go_enter Tryz.func75,Tryz.ntmps75;go_wp2_with fail
 try rw[hZ]
 go_wp2_with fail
 try rw[hZ]
 clear hZ y0 y1 y2;refine HP.out.mono ?_;rintro e w1 ⟨y,rfl,⟨pa,pc,rfl,-,-,hrow⟩,kk⟩;have K:=lH kk;have HR:=lH hrow;obtain⟨pl,hpl⟩:=eX (zr s.pods)
 have VZ:=lH hpl;rw[hpl] at HR;try rw[hpl]
 obtain⟨pn,hpn⟩:=eX (pl.length)
 have UU:=lH hpn;have hpb:pn≤100000:=by have:=Xo s.pods;have h2:=VZ.out;rw[h2] at this;have:=HB.out;omega
 rw[hpn] at HR;try rw[hpn]
 clear kk hrow hpl hpn HP;go_wp2_with fail
 go_loopw [11] (fun iv wr=>∃k:Nat,k≤pn∧iv=.int .i64 k∧Jk s pack (pl.drop k)=nextS s pack∧Kept w1 wr) (fun iv _=>pn-(intOf iv).toNat)
 case atStart=>exact⟨0,Nat.zero_le _,rfl,by rw[←VZ.out];rfl,Kept.refl _⟩
 case round =>
  obtain⟨k,hk,rfl,hS,hK⟩:=hrel;have Uj:=lH hS;have Ui:=lH hK;clear hS hK;by_cases hlt:k<pn
  · obtain⟨g,off,rfl⟩:=HR.out.form.resolve_left (by omega);obtain⟨n,b1,m1,c1,b2,m2,c2,b3,m3,c3,b4,m4,c4,hn,hd,hb,p0,p1,p2,p3,p4,p5,p6,p7,p8,p9,p10,hat⟩:=(HR.out.kept Ui.out).at_ hlt;have HD:=lH hd;have hmem:n ∈ s.pods:=(Xw.1 (by rw[VZ.out];exact List.mem_of_getElem? hn)).1;have Tt:=lH (HL.out.pods n hmem);have hkk:(k:Int)<(pn:Int):=by omega
    have hk0:¬(k:Int)<0:=by omega
    obtain⟨wx,hwx⟩:=eX (wr.alloc (.cells #[.string n.name,.string n.owner,.int .i64 n.prio,.slice b1 m1 c1,.slice b2 m2 c2,.slice b3 m3 c3,.slice b4 m4 c4,.string n.key,.int .i64 n.most,.string n.node,.bool n.hold] 52))
    have hkx:Kept wr wx:=by rw[←hwx];exact ja _ _
    have Vq:=lH (jb wr (.string n.name) [.string n.owner,.int .i64 n.prio,.slice b1 m1 c1,.slice b2 m2 c2,.slice b3 m3 c3,.slice b4 m4 c4,.string n.key,.int .i64 n.most,.string n.node,.bool n.hold] 52 wx (by rw[hwx];exact Kept.refl _));obtain⟨bq,hbq⟩:=eX (wr.heap.size)
    rw[hbq] at Vq;have KX:=lH (Ui.out.trans hkx);have HC:=lH (jhv s1 s2 s3 n1 e1 n2 e2 n3 e3 b1 b2 b3 b4 m1 c1 m2 c2 m3 c3 m4 c4 pack n s wx (HS.out.kept (K.out.trans KX.out)) HL.out HB.out (hat.kept hkx) Tt.out);unfold jw at HC;go_upto_region 4 with fail
    try rw[hwx]
    try rw[hbq]
    clear hwx hbq hd hb hn hkx hk0 hkk hat hmem p0 p1 p2 p3 p4 p5 p6 p7 p8 p9 p10;obtain⟨y0,y1,y2⟩:=(Vi.out.kept (K.out.trans KX.out)).at3;obtain⟨q0,q1,q2,q3,q4,q5,q6,q7,q8,q9,q10⟩:=Vq.out.at11;go_wp2_with fail
    refine HC.out.mono ?_;rintro e w2 ⟨l,ho,rfl,kk⟩;obtain⟨HO,K2,Vq⟩:=lH3 (jjg ho) (KX.out.trans kk) (Vq.out.kept kk);clear ho kk HC y0 y1 y2 q0 q1 q2 q3 q4 q5 q6 q7 q8 q9 q10
    cases l with
    | nil =>
     have HE:=lH (show Jk s pack (pl.drop (k+1))=nextS s pack by
      rw[←Uj.out,HD.out,Jk,←HO.out];rfl)
     go_wp2;go_roundw
     case rel=>exact⟨k+1,by omega,by go_num,HE.out,K2.out⟩
     case measure=>simp[intOf];omega
    | cons x r =>
     have HE:=lH (show nextS s pack=some (n.name,x) by
      rw[←Uj.out,HD.out,Jk,←HO.out];rfl)
     have q0:=Vq.out.at_ 0 _ rfl;go_wp2;rw[HE.out];refine⟨rfl,?_,?_,HK.out.trans (K.out.trans K2.out)⟩
     · intro u v h;obtain⟨e1,e2⟩:=Prod.mk.inj (Option.some.inj h);rw[e1,e2]
     · intro h
       cases h
  · have HE:=lH (show nextS s pack=none by
     rw[←Uj.out,List.drop_of_length_le (by rw[UU.out];omega)];rfl)
    have hkk:¬(k:Int)<(pn:Int):=by omega
    go_wp2;go_end0
    rw[HE.out];exact⟨(fun u v h=>by cases h),fun _=>rfl,HK.out.trans (K.out.trans Ui.out)⟩
open Go.RowKit Go.Shelf
theorem jaL (q:Nat) (x y:ByteArray) (w:World) (hq:je q [.string ⟨#[]⟩,.string ⟨#[]⟩] w) (hr:je (q+1) [.bool false] w) :
 CallsD Tryz.prog 74 #[.pointer (some ⟨q,0,none⟩),.pointer (some ⟨q+1,0,none⟩)] (.panicking [jj7 x y]) w fun e u' w' =>
  e=.returned (.tuple #[])∧u'=.panicking [{ jj7 x y with recovered:=true }]∧w'=((w.setCell ⟨q,0,none⟩ (.string x)).setCell ⟨q,1,none⟩ (.string y)).setCell ⟨q+1,0,none⟩ (.bool true):=by
 have hta:∀W,(Instr.typeAssert (.iface 54 (.agg #[.string x,.string y])) 20 54 false).run Tryz.prog W=.ok (.agg #[.string x,.string y]) W:=fun _=>by kernel_rfl
 have c0:=hq.at_ 0 _ rfl;have c1:=hq.at_ 1 _ rfl;have f0:=hq.free 0;have f1:=hq.free 1;have c2:=hr.at_ 0 _ rfl;have f2:=hr.free 0;refine callsD_of_wpS Tryz.func74 rfl fun c₀ cs hu=>?_;apply wpS_seq;apply wpS_region;simp[wpOpsS,go_sem,recoverD,hu,Tryz.ntmps74,Exit.thenS];apply wpS_seq;apply wpS_region;simp[wpOpsS,go_sem,recoverD,Exit.thenS];refine wpS_cond (t:=true) (by simp[Act.eval,Array.replicate]) ?_;simp only[if_true];refine wpS_of_wp ?_;simp[Array.replicate];go_wp2;simp[bodyPostS,results,Tryz.results74]
theorem je0 (p q:Addr) (w:World) :
 CallsD Tryz.prog 74 #[.pointer (some p),.pointer (some q)] .returning w fun e u' w'=>e=.returned (.tuple #[])∧u'=.returning∧w'=w:=by
 refine callsD_of_wpS Tryz.func74 rfl fun c₀ cs hu=>?_;apply wpS_seq;apply wpS_region;simp[wpOpsS,go_sem,recoverD,hu,Tryz.ntmps74,Exit.thenS];apply wpS_seq;apply wpS_region;simp[wpOpsS,go_sem,recoverD,hu,Exit.thenS];refine wpS_cond (t:=false) (by simp[Act.eval,Array.replicate]) ?_;simp only[Bool.false_eq_true,if_false];refine wpS_of_wp (wp_skip ?_)
 cases c₀
 simp_all [bodyPostS,results,Tryz.results74]
def ja5 (o:Option (ByteArray×ByteArray)) (w:World) (e:Ending) (w':World):Prop:=e=.returned (.tuple #[.agg #[.string (o.getD (⟨#[]⟩,⟨#[]⟩)).1,.string (o.getD (⟨#[]⟩,⟨#[]⟩)).2],.bool o.isSome])∧Kept w w'
theorem jin (s1 s2 s3:Option Addr) (n1 e1 n2 e2 n3 e3:Nat) (pack:Bool) (s:Clu) (w:World) (hs:jB w (zP (.slice s1 n1 e1) (.slice s2 n2 e2) (.slice s3 n3 e3)) s) (hl:jA s) (ha:Asc s.pods) (hb:s.pods.length+1≤100000):Calls Tryz.prog 39 #[.agg #[.slice s1 n1 e1,.slice s2 n2 e2,.slice s3 n3 e3],.bool pack] w (ja5 (nextS s pack) w):=by
 have hmf:=hmfL (P:=Tryz.prog);obtain⟨Z,hZ⟩:=eX (((w.alloc (.cells #[.slice s1 n1 e1,.slice s2 n2 e2,.slice s3 n3 e3] 26)).alloc (.cells #[.string ⟨#[]⟩,.string ⟨#[]⟩] 54)).alloc (.cells #[.bool false] 4))
 have hkz:Kept w Z:=by rw[←hZ];exact(jm _ _ _).trans (ja _ _)
 have Vi:=lH (jb w (.slice s1 n1 e1) [.slice s2 n2 e2,.slice s3 n3 e3] 26 Z (by rw[←hZ];exact(ja _ _).trans (ja _ _)));have Ve:=lH (show je (w.heap.size+1) [.string ⟨#[]⟩,.string ⟨#[]⟩] Z by
  have dd:=jb (w.alloc (.cells #[.slice s1 n1 e1,.slice s2 n2 e2,.slice s3 n3 e3] 26)) (.string ⟨#[]⟩) [.string ⟨#[]⟩] 54 Z (by rw[←hZ];exact ja _ _);rw[World.size_alloc] at dd;exact dd)
 have VN:=lH (show je (w.heap.size+1+1) [.bool false] Z by
  have dd:=jb ((w.alloc (.cells #[.slice s1 n1 e1,.slice s2 n2 e2,.slice s3 n3 e3] 26)).alloc (.cells #[.string ⟨#[]⟩,.string ⟨#[]⟩] 54)) (.bool false) [] 4 Z (by rw[hZ];exact Kept.refl _);rw[World.size_alloc,World.size_alloc] at dd;exact dd)
 have HK:=lH hkz;have HC:=lH (jkh s1 s2 s3 n1 e1 n2 e2 n3 e3 pack s Z (hs.kept hkz) hl ha hb);clear hs hkz hl ha hb;unfold ja5;obtain⟨y0,y1,y2⟩:=Vi.out.at3;obtain⟨bq,hbq⟩:=eX (w.heap.size+1)
 rw[hbq] at Ve VN;have UR:=lH (show w.heap.size≤bq by omega);go_enter_defers Tryz.func39,Tryz.ntmps39
 go_wp2_with fail
 try rw[hZ]
 try rw[hbq]
 go_wp2_with fail
 try rw[hZ]
 try rw[hbq]
 clear hZ hbq y0 y1 y2;refine HC.out.mono ?_;rintro e1 w1 ⟨g1,g0,kk⟩;obtain⟨K,Ve,VN⟩:=lH3 (HK.out.trans kk) (Ve.out.kept kk) (VN.out.kept kk);clear kk HC
 cases hn:nextS s pack with
 | none =>
  obtain rfl:=g0 hn;have HN:=lH hn;clear g0 g1 hn;have c0:=Ve.out.at_ 0 _ rfl;have c1:=Ve.out.at_ 1 _ rfl;have f0:=Ve.out.free 0;have f1:=Ve.out.free 1;have c2:=VN.out.at_ 0 _ rfl;have f2:=VN.out.free 0;have P:=lH (j4 (vs:=[.string ⟨#[]⟩,.string ⟨#[]⟩]) Ve.out rfl);have KF:=lH (show Kept w ((w1.setCells bq 0 [.string ⟨#[]⟩,.string ⟨#[]⟩]).setCell ⟨bq+1,0,none⟩ (.bool false)) from Ju (js bq _ _ _ _ _ UR.out K.out) (a:=⟨bq+1,0,none⟩) (by show w.heap.size≤bq+1;have:=UR.out;omega) _);go_wp2_with fail
  obtain⟨WE,hWE⟩:=eX (w1.setCells bq 0 [.string ⟨#[]⟩,.string ⟨#[]⟩])
  have hWE2:((w1.setCell ⟨bq,0,none⟩ (.string ⟨#[]⟩)).setCell ⟨bq,1,none⟩ (.string ⟨#[]⟩))=WE:=hWE;rw[hWE] at P KF;try rw[hWE2]
  have FQ:=lH (P.out.cells.other (p:=bq+1) (j:=0) (u:=.bool false) (by omega));have FE:=lH (show je (bq+1) [.bool false] (WE.setCell ⟨bq+1,0,none⟩ (.bool false)) by
   have h1:je (bq+1) [.bool false] WE:=by rw[←hWE2];exact(VN.out.other (by omega)).other (by omega)
   exact h1.set (j:=0) (u:=.bool false) (by simp))
  obtain⟨WF,hWF⟩:=eX (WE.setCell ⟨bq+1,0,none⟩ (.bool false))
  rw[hWF] at FQ FE KF;try rw[hWF]
  clear hWE hWE2 hWF c0 c1 c2 f0 f1 f2;refine leaves_cons (f:=74) (args:=#[.pointer (some ⟨bq,0,none⟩),.pointer (some ⟨bq+1,0,none⟩)]) (by simp) (by simp[go_sem]) ?_;refine(je0 ⟨bq,0,none⟩ ⟨bq+1,0,none⟩ _).mono ?_;rintro e u' w'' ⟨rfl,rfl,rfl⟩;simp[Leaves,settle,results,Tryz.results39,go_sem,FE.out.at_ 0 _ rfl,FQ.out.at_ 0 _ rfl,FQ.out.at_ 1 _ rfl];exact⟨⟨⟨by rw[HN.out];rfl,by rw[HN.out];rfl⟩,HN.out⟩,KF.out⟩
 | some b =>
  obtain⟨x,y⟩:=b;obtain rfl:=g1 x y hn;have HN:=lH hn;clear g0 g1 hn;go_wp2_with fail
  refine leaves_cons (f:=74) (args:=#[.pointer (some ⟨bq,0,none⟩),.pointer (some ⟨bq+1,0,none⟩)]) (by simp) (by simp[go_sem]) ?_;refine(jaL bq x y _ Ve.out VN.out).mono ?_;rintro e u' w'' ⟨rfl,rfl,rfl⟩;obtain⟨FQ,FE,KF⟩:=lH3 (((Ve.out.set (j:=0) (u:=.string x) (by simp)).set (j:=1) (u:=.string y) (by simp)).other (p:=bq+1) (j:=0) (u:=.bool true) (by omega)) (((VN.out.other (p:=bq) (j:=0) (u:=.string x) (by omega)).other (p:=bq) (j:=1) (u:=.string y) (by omega)).set (j:=0) (u:=.bool true) (by simp)) (show Kept w (((w1.setCell ⟨bq,0,none⟩ (.string x)).setCell ⟨bq,1,none⟩ (.string y)).setCell ⟨bq+1,0,none⟩ (.bool true)) from Ju (Ju (Ju K.out (a:=⟨bq,0,none⟩) UR.out _) (a:=⟨bq,1,none⟩) UR.out _) (a:=⟨bq+1,0,none⟩) (by show w.heap.size≤bq+1;have:=UR.out;omega) _);obtain⟨WF,hWF⟩:=eX (((w1.setCell ⟨bq,0,none⟩ (.string x)).setCell ⟨bq,1,none⟩ (.string y)).setCell ⟨bq+1,0,none⟩ (.bool true))
  rw[hWF] at FQ FE KF ⊢;clear hWF;simp[Leaves,settle,results,Tryz.results39,go_sem,FE.out.at_ 0 _ rfl,FQ.out.at_ 0 _ rfl,FQ.out.at_ 1 _ rfl];exact⟨⟨⟨by rw[HN.out];rfl,by rw[HN.out];rfl⟩,by rw[HN.out];rfl⟩,KF.out⟩
theorem jbi (s1 s2 s3:Option Addr) (n1 e1 n2 e2 n3 e3:Nat) (pack:Bool) (s:Clu) (w:World) (hs:jB w (zP (.slice s1 n1 e1) (.slice s2 n2 e2) (.slice s3 n3 e3)) s) (hl:jA s) (ha:Asc s.pods) (hb:s.pods.length+1≤100000):Calls Tryz.prog 12 #[.agg #[.slice s1 n1 e1,.slice s2 n2 e2,.slice s3 n3 e3],.bool pack] w (ja5 (nextS s pack) w):=by
 obtain⟨Z,hZ⟩:=eX ((w.alloc (.cells #[.slice s1 n1 e1,.slice s2 n2 e2,.slice s3 n3 e3] 26)).alloc (.cells #[.string ⟨#[]⟩,.string ⟨#[]⟩] 54))
 have hkz:Kept w Z:=by rw[←hZ];exact jm _ _ _
 have Vi:=lH (jb w (.slice s1 n1 e1) [.slice s2 n2 e2,.slice s3 n3 e3] 26 Z (by rw[←hZ];exact ja _ _));have Ve:=lH (show je (w.heap.size+1) [.string ⟨#[]⟩,.string ⟨#[]⟩] Z by
  have dd:=jb (w.alloc (.cells #[.slice s1 n1 e1,.slice s2 n2 e2,.slice s3 n3 e3] 26)) (.string ⟨#[]⟩) [.string ⟨#[]⟩] 54 Z (by rw[hZ];exact Kept.refl _);rw[World.size_alloc] at dd;exact dd)
 have HK:=lH hkz;have HC:=lH (jin s1 s2 s3 n1 e1 n2 e2 n3 e3 pack s Z (hs.kept hkz) hl ha hb);clear hs hkz hl ha hb;unfold ja5 at HC ⊢;obtain⟨o,ho⟩:=eX (nextS s pack)
 rw[ho] at HC ⊢;obtain⟨x,hx⟩:=eX ((o.getD (⟨#[]⟩,⟨#[]⟩)).1)
 obtain⟨y,hy⟩:=eX ((o.getD (⟨#[]⟩,⟨#[]⟩)).2)
 obtain⟨t,ht⟩:=eX (o.isSome)
 rw[hx,hy,ht] at HC ⊢;obtain⟨y0,y1,y2⟩:=Vi.out.at3;obtain⟨bq,hbq⟩:=eX (w.heap.size+1)
 rw[hbq] at Ve;have UR:=lH (show w.heap.size≤bq by omega);clear ho hx hy ht;go_enter Tryz.func12,Tryz.ntmps12;go_wp2_with fail
 try rw[hZ]
 try rw[hbq]
 go_wp2_with fail
 try rw[hZ]
 try rw[hbq]
 clear hZ hbq y0 y1 y2;refine HC.out.mono ?_;rintro e1 w1 ⟨rfl,kk⟩;have K:=lH (HK.out.trans kk);have Ve:=lH (Ve.out.kept kk);clear kk HC;have c0:=Ve.out.at_ 0 _ rfl;have c1:=Ve.out.at_ 1 _ rfl;have f0:=Ve.out.free 0;have f1:=Ve.out.free 1;have P:=lH (j4 (vs:=[.string x,.string y]) Ve.out rfl);have KF:=lH (show Kept w (w1.setCells bq 0 [.string x,.string y]) from js bq _ _ _ _ _ UR.out K.out);go_wp2;obtain⟨WE,hWE⟩:=eX (w1.setCells bq 0 [.string x,.string y])
 have hWE2:((w1.setCell ⟨bq,0,none⟩ (.string x)).setCell ⟨bq,1,none⟩ (.string y))=WE:=hWE;rw[hWE] at P KF;try rw[hWE2]
 clear hWE hWE2 c0 c1 f0 f1;refine bodyPost_ret (by simp[results,Tryz.results12,go_sem,P.out.cells.at_ 0 _ rfl,P.out.cells.at_ 1 _ rfl];try rfl) rfl ?_;exact⟨rfl,KF.out⟩
theorem jgq {s:Clu} {pack:Bool}:goS ((JU s pack).take (JU s pack).length) s=goS (JU s pack) s:=by rw[List.take_of_length_le (Nat.le_refl _)]
theorem jez {s:Clu} (h:zY s) (pack:Bool):nextS (goS (JU s pack) s) pack=none:=by
 have:=jfc h pack (Nat.le_refl _);rwa [jgq,List.getElem?_eq_none (Nat.le_refl _)] at this
theorem jdr {s:Clu} (h:zY s) (pack:Bool):zY (goS (JU s pack) s):=by have:=jfd h pack (Nat.le_refl _);rwa [jgq] at this
theorem jdi {s:Clu} {pack:Bool} (h:nextS s pack=none):∀p ∈ zr s.pods,jO s p s.nodes=[]:=fun p hp=>Yw.1 (jdl h p hp)
theorem jgj {s:Clu} {pack:Bool}:∀{l:List Pd} {i:Nat} {p:Pd},l[i]?=some p→(∀j q,j<i→l[j]?=some q→jO s q s.nodes=[])→jO s p s.nodes≠[]→∃t,Jk s pack l=some (p.name,t)∧t ∈ jO s p s.nodes
 | [],i,p,h,_,_=>by simp at h
 | q::l,0,p,h,_,hf=>by
  obtain rfl:q=p:=by simpa using h
  rw[Jk]
  cases e:XS s q pack with
  | none=>exact absurd (Yw.1 e) hf
  | some t=>exact⟨t,rfl,jgu e⟩
 | q::l,i+1,p,h,hb,hf=>by
  rw[Jk,Yw.2 (hb 0 q (by omega) rfl)];exact jgj (l:=l) (i:=i) h (fun j z hj hz=>hb (j+1) z (by omega) hz) hf
theorem jeR {s:Clu} {pack:Bool}:∀{l:List Pd},(∀q ∈ l,jO s q s.nodes=[])→Jk s pack l=none
 | [],_=>rfl
 | q::l,h=>by rw[Jk,Yw.2 (h q (by simp))];exact jeR fun z hz=>h z (by simp[hz])
theorem jlb:(Tryz.prog.info? 54).map (fun i=>(i.zero,i.size,i.bytes))=some (some (.agg #[.string ByteArray.empty,.string ByteArray.empty]),2,32):=by kernel_rfl
theorem jdf {w:World} {v:Value} {s:Clu} (h:jB w v s):(∀p ∈ s.pods,p.name.size≤maxLen)∧∀n ∈ s.nodes,n.name.size≤maxLen:=by
 obtain⟨v1,v2,v3,rfl,⟨a,cap,rfl,l1,m1,h1⟩,⟨b,cp,rfl,l2,m2,h2⟩,-⟩:=h;refine⟨fun p hp=>?_,fun n hn=>?_⟩
 · obtain⟨k,hk,rfl⟩:=List.mem_iff_getElem.1 hp;obtain⟨g,off,rfl⟩:=h2.form.resolve_left (by omega);obtain⟨n,b1,m1,c1,b2,m2,c2,b3,m3,c3,b4,m4,c4,hn,hd,hb,p0,p1,p2,p3,p4,p5,p6,p7,p8,p9,p10,hat⟩:=h2.at_ hk;rw[List.getElem?_eq_getElem hk] at hn;obtain rfl:=Option.some.inj hn;exact hat.name
 · obtain⟨k,hk,rfl⟩:=List.mem_iff_getElem.1 hn;obtain⟨g,off,rfl⟩:=h1.form.resolve_left (by omega);obtain⟨n,b1,q1,f1,b2,q2,f2,b3,q3,f3,hn,hd,hb,u0,u1,u2,u3,u4,hat⟩:=h1.at_ hk;rw[List.getElem?_eq_getElem hk] at hn;obtain rfl:=Option.some.inj hn;exact hat.size
theorem jlk {v:Value} {s:Clu} {w:World} (h:jB w v s) (x y:ByteArray) (hy:y.size≤maxLen) (hl:jA s):Calls Tryz.prog 17 #[v,.string x,.string y] w fun e w'=>∃u1 v1 x1 u2 v2 x2 u3 v3 x3,e=.returned (.agg #[.slice u1 v1 x1,.slice u2 v2 x2,.slice u3 v3 x3])∧jJ (fun b=>b<w.heap.size) w.heap.size w' (.slice u1 v1 x1) (.slice u2 v2 x2) (.slice u3 v3 x3) (zN s x y)∧Kept w w':=by
 obtain⟨v1,v2,v3,rfl,⟨a,cap,rfl,l1,m1,h1⟩,⟨b,cp,rfl,l2,m2,h2⟩,⟨d,cb,rfl,l3,m3,h3⟩⟩:=h;exact X8 a b d _ cap _ cp _ cb s.nodes s.pods s.buds x y w hy h1 h2 h3 l1 m1 l2 m2 l3 m3 hl
theorem jkv {v:Value} {s:Clu} {w:World} (h:jB w v s) (hl:jA s):Calls Tryz.prog 30 #[v] w fun e w'=>∃u1 v1 x1 u2 v2 x2 u3 v3 x3,e=.returned (.agg #[.slice u1 v1 x1,.slice u2 v2 x2,.slice u3 v3 x3])∧(Off (fun b=>b<w.heap.size) w' fun u=>jB u (.agg #[.slice u1 v1 x1,.slice u2 v2 x2,.slice u3 v3 x3]) s)∧Kept w w':=by
 obtain⟨v1,v2,v3,rfl,⟨a,cap,rfl,l1,m1,h1⟩,⟨b,cp,rfl,l2,m2,h2⟩,⟨d,cb,rfl,l3,m3,h3⟩⟩:=h;refine(jaX a b d _ cap _ cp _ cb s.nodes s.pods s.buds w h1 h2 h3 l1 m1 l2 m2 l3 m3 hl).mono ?_;rintro e w' ⟨_,_,_,_,_,_,_,_,_,rfl,ho,kk⟩;exact⟨_,_,_,_,_,_,_,_,_,rfl,fun u g=>(ho.step g).toR,kk⟩
def jl9 (zq mq:Nat) (s:Clu) (bs:List (ByteArray×ByteArray)) (k:Nat) (Y wr:World) (dv:Value):Prop:=∃a1 t1 c1 a2 t2 c2 a3 t3 c3,je mq [.slice a1 t1 c1,.slice a2 t2 c2,.slice a3 t3 c3] wr∧(Off (fun b=>b<zq) wr fun u=>jB u (.agg #[.slice a1 t1 c1,.slice a2 t2 c2,.slice a3 t3 c3]) (goS (bs.take k) s))∧Own jy 54 wr (mq+1) dv (bs.take k)∧Go.RowKit.Below mq Y wr
def jmf (s:Clu) (pack:Bool) (w:World) (e:Ending) (w':World):Prop:=∃v y,e=.returned (.tuple #[v,y])∧jB w' v (goS (JU s pack) s)∧Reads jy w' y (JU s pack)∧Kept w w'
theorem jcE (s1 s2 s3:Option Addr) (n1 e1 n2 e2 n3 e3:Nat) (pack:Bool) (s:Clu) (w:World) (hs:jB w (zP (.slice s1 n1 e1) (.slice s2 n2 e2) (.slice s3 n3 e3)) s) (hw:zY s):Calls Tryz.prog 14 #[.agg #[.slice s1 n1 e1,.slice s2 n2 e2,.slice s3 n3 e3],.bool pack] w (jmf s pack w):=by
 obtain⟨i0,hi,hz0,hz1,hz2'⟩:=info_parts jlb;obtain⟨Z,hZ⟩:=eX ((w.alloc (.cells #[.slice s1 n1 e1,.slice s2 n2 e2,.slice s3 n3 e3] 26)).alloc (.cells #[.slice none 0 0,.slice none 0 0,.slice none 0 0] 26))
 have hkz:Kept w Z:=by rw[←hZ];exact jm _ _ _
 have hzs:Z.heap.size=w.heap.size+2:=by rw[←hZ];simp
 have Vi:=lH (jb w (.slice s1 n1 e1) [.slice s2 n2 e2,.slice s3 n3 e3] 26 Z (by rw[←hZ];exact ja _ _));have Ro:=lH (show je (w.heap.size+1) [.slice none 0 0,.slice none 0 0,.slice none 0 0] Z by
  have dd:=jb (w.alloc (.cells #[.slice s1 n1 e1,.slice s2 n2 e2,.slice s3 n3 e3] 26)) (.slice none 0 0) [.slice none 0 0,.slice none 0 0] 26 Z (by rw[hZ];exact Kept.refl _);rw[World.size_alloc] at dd;exact dd)
 obtain⟨HS,HW,HK,Vf,HC⟩:=lH5 (hs.kept hkz) hw hkz hzs (jkv (hs.kept hkz) hw.low);clear hs hkz hw hzs;obtain⟨bs,hbs⟩:=eX (JU s pack)
 have Vy:=lH hbs;unfold jmf;rw[hbs];clear hbs;obtain⟨rq,hrq⟩:=eX (w.heap.size+1)
 have UY:=lH hrq;rw[hrq] at Ro;obtain⟨y0,y1,y2⟩:=Vi.out.at3;go_enter Tryz.func14,Tryz.ntmps14;go_wp2_with fail
 try rw[hZ]
 try rw[hrq]
 go_wp2_with fail
 try rw[hZ]
 try rw[hrq]
 clear hZ hrq y0 y1 y2;refine HC.out.mono ?_;rintro e9 w1 ⟨u1,v1,x1,u2,v2,x2,u3,v3,x3,rfl,ho,kk⟩;obtain⟨W1,hW1⟩:=eX (w1.alloc (.cells #[.slice u1 v1 x1,.slice u2 v2 x2,.slice u3 v3 x3] 26))
 have hkw:Kept w1 W1:=by rw[←hW1];exact ja _ _
 obtain⟨HM,UT,Tn,UZ,KZ⟩:=lH5 (jb w1 (.slice u1 v1 x1) [.slice u2 v2 x2,.slice u3 v3 x3] 26 W1 (by rw[hW1];exact Kept.refl _)) (ho.step (jg.of hkw)) (show W1.heap.size=w1.heap.size+1 by rw[←hW1];simp) (show Z.heap.size≤w1.heap.size from kk.size) (kk.trans hkw);obtain⟨mq,hmq⟩:=eX (w1.heap.size)
 rw[hmq] at HM Tn UZ;clear ho kk hkw HC;have HP:=lH (XF (HS.out.kept KZ.out) HW.out.low HW.out.asc);obtain⟨y0,y1,y2⟩:=(Vi.out.kept KZ.out).at3;go_wp2_with fail
 try rw[hW1]
 try rw[hmq]
 go_wp2_with fail
 try rw[hW1]
 try rw[hmq]
 clear hW1 hmq y0 y1 y2;refine HP.out.mono ?_;rintro e9 w2 ⟨y,rfl,⟨pa,pc,rfl,-,-,hrow⟩,kk⟩;have K1:=lH kk;obtain⟨pn,hpn⟩:=eX ((zr s.pods).length)
 try rw[hpn]
 have UU:=lH hpn;have NI:=lH (show bs.length≤pn by rw[←Vy.out,←hpn];exact ja3 _ _ _);have hpb:pn≤128:=by rw[←hpn];exact Nat.le_trans (Xo _) HW.out.few
 clear kk hrow hpn HP;go_wp2_with fail
 go_loopw [15,7] (fun iv dv wr=>∃k:Nat,k≤pn∧k≤bs.length∧iv=.int .i64 k∧jl9 Z.heap.size mq s bs k W1 wr dv) (fun iv _ _=>pn-(intOf iv).toNat)
 case atStart=>exact⟨0,Nat.zero_le _,Nat.zero_le _,rfl,_,_,_,_,_,_,_,_,_,HM.out.kept K1.out,UT.out.step (jg.of K1.out),Own.nil _ _ _,Below.mono K1.out (by have:=Tn.out;omega)⟩
 case round =>
  obtain⟨k,hk,hkb,rfl,hinv⟩:=hrel;obtain⟨a1,t1,c1,a2,t2,c2,a3,t3,c3,hm,hc,ho,hbl⟩:=hinv;obtain⟨Uk,VU,HO,US⟩:=lH4 hm hc ho hbl;clear hm hc ho hbl HM UT;by_cases hlt:k<pn
  · skip;have hkk:(k:Int)<(pn:Int):=by omega
    have TH:=lH (show zY (goS (bs.take k) s) by rw[←Vy.out];exact jfd HW.out pack (by rw[Vy.out];exact hkb));have VC:=lH (show nextS (goS (bs.take k) s) pack=bs[k]? by rw[←Vy.out];exact jfc HW.out pack (by rw[Vy.out];exact hkb));obtain⟨sk,hsk⟩:=eX (goS (bs.take k) s)
    have Uj:=lH hsk;rw[hsk] at TH VC VU;clear hsk;have HN:=lH (jbi a1 a2 a3 t1 c1 t2 c2 t3 c3 pack sk wr VU.out.here TH.out.low TH.out.asc (by have:=TH.out.few;omega));unfold ja5 at HN;rw[VC.out] at HN;obtain⟨y0,y1,y2⟩:=Uk.out.at3
    cases hb:bs[k]? with
    | none =>
     rw[hb] at HN;have HN:=lH (show Calls Tryz.prog 12 #[.agg #[.slice a1 t1 c1,.slice a2 t2 c2,.slice a3 t3 c3],.bool pack] wr (fun e w'=>e=.returned (.tuple #[.agg #[.string ⟨#[]⟩,.string ⟨#[]⟩],.bool false])∧Kept wr w') from HN.out);go_wp2_with fail
     refine HN.out.mono ?_;rintro e9 w3 ⟨rfl,kk⟩;obtain⟨wx,hwx⟩:=eX (w3.alloc (.cells #[.string ⟨#[]⟩,.string ⟨#[]⟩] 54))
     have hkx:Kept wr wx:=by rw[←hwx];exact kk.trans (ja _ _)
     obtain⟨KX,Te,Rp,Rq,TI,VS⟩:=lH6 hkx (Uk.out.kept hkx) (VU.out.step (jg.of hkx)) (HO.out.kept hkx) (show Go.RowKit.Below mq W1 wx from US.out.trans (Below.mono hkx (by have:=US.out.size;have:=Tn.out;omega))) hwx;clear kk hkx hwx HN y0 y1 y2;go_upto_region 10 with fail
     try rw[VS.out]
     clear VS;have Rp:=lH (show Off (fun b=>b<Z.heap.size) wx fun u=>jB u (.agg #[.slice a1 t1 c1,.slice a2 t2 c2,.slice a3 t3 c3]) (goS (bs.take k) s) by rw[Uj.out];exact Rp.out);have hfull:bs.take k=bs:=by rw[List.take_of_length_le (List.getElem?_eq_none_iff.1 hb)]
     have RB:=lH ((Ro.out.kept KZ.out).block (TI.out.block rq (by have:=UZ.out;have:=Vf.out;have:=UY.out;omega)));obtain⟨z0,z1,z2⟩:=RB.out.at3;have f0:=RB.out.free 0;have f1:=RB.out.free 1;have f2:=RB.out.free 2;obtain⟨y0,y1,y2⟩:=Te.out.at3;obtain⟨P,GE,Tb,Vv,KF⟩:=lH5 (j4 (vs:=[.slice a1 t1 c1,.slice a2 t2 c2,.slice a3 t3 c3]) RB.out rfl) (jg.cells (S:=fun b=>b=rq) rq rfl [.slice a1 t1 c1,.slice a2 t2 c2,.slice a3 t3 c3] 0 wx) (show Off (fun b=>b<Z.heap.size) wx fun u=>jB u (.agg #[.slice a1 t1 c1,.slice a2 t2 c2,.slice a3 t3 c3]) (goS bs s) by have:=Rp.out;rw[hfull] at this;exact this) (show Own jy 54 wx (mq+1) _ bs by have:=Rq.out;rw[hfull] at this;exact this) (show Kept w wx from Below.trans (HK.out.trans KZ.out) (Below.mono TI.out (by have:=UZ.out;have:=Vf.out;omega)));clear hfull;go_wp2;obtain⟨WE,hWE⟩:=eX (wx.setCells rq 0 [.slice a1 t1 c1,.slice a2 t2 c2,.slice a3 t3 c3])
     have hWE2:(((wx.setCell ⟨rq,0,none⟩ (.slice a1 t1 c1)).setCell ⟨rq,1,none⟩ (.slice a2 t2 c2)).setCell ⟨rq,2,none⟩ (.slice a3 t3 c3))=WE:=hWE;rw[hWE] at P GE;try rw[hWE2]
     have KE:=lH (show Kept w WE by rw[←hWE];exact js rq _ _ _ _ _ (by have:=UY.out;omega) KF.out);clear hWE hWE2 z0 z1 z2 f0 f1 f2 y0 y1 y2;refine bodyPost_ret (by simp[results,Tryz.results14,go_sem,P.out.cells.at_ 0 _ rfl,P.out.cells.at_ 1 _ rfl,P.out.cells.at_ 2 _ rfl];try rfl) rfl ?_;exact⟨_,_,rfl,(Tb.out.step (GE.out.mono fun b e=>by subst e;have:=Vf.out;have:=UY.out;omega)).here,Vv.out.goff GE.out (fun j hj e=>by have:=(Jy Vv.out j hj).1;have:=UZ.out;have:=Vf.out;have:=UY.out;omega) |>.reads,KE.out⟩
    | some b =>
     obtain⟨x,t⟩:=b;rw[hb] at HN;have Rr:=lH hb;have HN:=lH (show Calls Tryz.prog 12 #[.agg #[.slice a1 t1 c1,.slice a2 t2 c2,.slice a3 t3 c3],.bool pack] wr (fun e w'=>e=.returned (.tuple #[.agg #[.string x,.string t],.bool true])∧Kept wr w') from HN.out);have RZ:=lH (show x.size≤maxLen∧t.size≤maxLen by
      obtain⟨p,hp,-,rfl,ht⟩:=qx (VC.out.trans hb);obtain⟨-,n,hn,rfl⟩:=XG ht;exact⟨(jdf VU.out.here).1 p hp,(jdf VU.out.here).2 n hn⟩)
     clear hb;go_wp2_with fail
     refine HN.out.mono ?_;rintro e9 w3 ⟨rfl,kk⟩;obtain⟨wx,hwx⟩:=eX (w3.alloc (.cells #[.string x,.string t] 54))
     have hkx:Kept wr wx:=by rw[←hwx];exact kk.trans (ja _ _)
     obtain⟨Ve,UH,KX,Te,Rq,TI,R0⟩:=lH7 (jb w3 (.string x) [.string t] 54 wx (by rw[hwx];exact Kept.refl _)) (show w3.heap.size<wx.heap.size by rw[←hwx];simp) hkx (Uk.out.kept hkx) (HO.out.kept hkx) (show Go.RowKit.Below mq W1 wx from US.out.trans (Below.mono hkx (by have:=US.out.size;have:=Tn.out;omega))) (show wr.heap.size≤w3.heap.size from kk.size);obtain⟨bq,hbq⟩:=eX (w3.heap.size)
     rw[hbq] at Ve UH R0;have R5:=lH (jlk (VU.out.here.kept hkx) x t RZ.out.2 TH.out.low);clear kk hkx HN y0 y1 y2;obtain⟨y0,y1,y2⟩:=Te.out.at3;have b0:=Ve.out.at_ 0 _ rfl;have b1:=Ve.out.at_ 1 _ rfl;go_wp2_with fail
     try rw[hwx]
     try rw[hbq]
     go_wp2_with fail
     try rw[hwx]
     try rw[hbq]
     clear hwx hbq y0 y1 y2 b0 b1;refine R5.out.mono ?_;rintro e9 w4 ⟨u1,v1,x1,u2,v2,x2,u3,v3,x3,rfl,hoc,kk⟩;obtain⟨NJ,KM,UG,Ve,R6⟩:=lH5 hoc kk (Te.out.kept kk) (Ve.out.kept kk) (Rq.out.kept kk);clear hoc kk R5;obtain⟨z0,z1,z2⟩:=UG.out.at3;have f0:=UG.out.free 0;have f1:=UG.out.free 1;have f2:=UG.out.free 2;obtain⟨P,GE,Uq⟩:=lH3 (j4 (vs:=[.slice u1 v1 x1,.slice u2 v2 x2,.slice u3 v3 x3]) UG.out rfl) (jg.cells (S:=fun b=>b=mq) mq rfl [.slice u1 v1 x1,.slice u2 v2 x2,.slice u3 v3 x3] 0 w4) (show mq<wr.heap.size from Uk.out.lt);go_upto_region 8 with fail
     obtain⟨WE,hWE⟩:=eX (w4.setCells mq 0 [.slice u1 v1 x1,.slice u2 v2 x2,.slice u3 v3 x3])
     have hWE2:(((w4.setCell ⟨mq,0,none⟩ (.slice u1 v1 x1)).setCell ⟨mq,1,none⟩ (.slice u2 v2 x2)).setCell ⟨mq,2,none⟩ (.slice u3 v3 x3))=WE:=hWE;rw[hWE] at P GE;try rw[hWE2]
     have Tl:=lH (show Go.RowKit.Below mq W1 WE from by rw[←hWE];exact js mq _ _ _ _ _ (Nat.le_refl _) (TI.out.trans (Below.mono KM.out (by have:=TI.out.size;have:=Tn.out;omega))));clear hWE hWE2 z0 z1 z2 f0 f1 f2;obtain⟨R7,NK,Rs⟩:=lH3 (Ve.out.block (GE.out.block bq (Nat.lt_of_lt_of_le UH.out KM.out.size) (by have:=R0.out;have:=Uq.out;omega))) (R6.out.goff GE.out (fun j hj e=>by have:=(Jy R6.out j hj).1;omega)) (NJ.out.step (GE.out.mono fun b e=>by subst e;have:=Uq.out;have:=KX.out.size;omega));obtain⟨m,hm⟩:=eX ((bs.take k).length)
     have hmk:m=k:=by rw[←hm,List.length_take];omega
     have UO:=lH hmk;have VH:=lH (show WE.ownsRow (mq+1) 54 2 u7 m (jd jy (bs.take k)) by have:=NK.out.1;rw[hm] at this;exact this);have b0:=R7.out.at_ 0 _ rfl;have b1:=R7.out.at_ 1 _ rfl;have NM:=lH (show mq+1≤WE.heap.size by have:=Tl.out.size;have:=Tn.out;omega);have hwz:=NM.out;go_wp2_with (at_builtin;refine wpList_append_lies _ rfl _ _ _ rfl (mq+1) 54 i0 _ 2 32 Tryz.underlying60 hi hz0 hz1 hz2' rfl (by decide) u7 m (jd jy (bs.take k)) rfl (VH.out.alloc _) ⟨WE.heap.size,0,none⟩ 1 1 (jy.cs (x,t)) rfl rfl (World.news_of_block (cs:=#[.string x,.string t]) (t:=54) (fr:=(0,0)) (heap_alloc_new WE _)) (je5 x t) (by decide) (by unfold maxLen;omega) (by omega) (by simp;omega) (WE.heap.size+1) (by simp) ?_;intro gg cap1 w6 hown1 hgrow hat hlt1)
     obtain⟨GA,UF,NO⟩:=lH3 ((jg.of (ja WE _)).trans (jg.grown (S:=fun b=>u7.ownBlock=some b) hgrow (fun j hj=>hj))) (show bs.take (k+1)=bs.take k++[(x,t)] by rw[List.take_add_one,Rr.out];rfl) (show goS (bs.take (k+1)) s=zN sk x t by rw[jj0 Rr.out,Uj.out]);have NP:=lH (show jl9 Z.heap.size mq s bs (k+1) W1 w6 _ from⟨_,_,_,_,_,_,_,_,_,P.out.cells.block (GA.out.block mq (by omega) (fun e=>by have:=(VH.out.lt mq e).1;omega)),by rw[NO.out];exact fun u g9=>((Rs.out.step (GA.out.mono fun b e=>by have:=(HO.out.1.lt b e).2;have:=KX.out.size;omega)).step (g9.mono fun b e=>by have:=UZ.out;have:=Uq.out;have:=KX.out.size;omega)).toR,by rw[UF.out];exact Own.snoc hown1 (by rw[hm]) HO.out.2 RZ.out,Tl.out.trans (GA.out.at_below (fun j hj=>by have:=(VH.out.lt j hj).1;omega) (by omega))⟩);have hkb2:k+1≤bs.length:=by have:=(List.getElem?_eq_some_iff.1 Rr.out).1;omega
     clear b0 b1 hwz hown1 hgrow hat hlt1 hm hmk;go_wp2;go_roundw
     case rel=>exact⟨k+1,by omega,hkb2,by go_num,by have h9:=NP.out;rw[UO.out] at h9;exact h9⟩
     case measure=>simp[intOf];omega
  · skip;have hkk:¬(k:Int)<(pn:Int):=by omega
    go_upto_region 10 with fail
    have hfull:bs.take k=bs:=by rw[List.take_of_length_le (by have:=NI.out;omega)]
    have RB:=lH ((Ro.out.kept KZ.out).block (US.out.block rq (by have:=UZ.out;have:=Vf.out;have:=UY.out;omega)));obtain⟨z0,z1,z2⟩:=RB.out.at3;have f0:=RB.out.free 0;have f1:=RB.out.free 1;have f2:=RB.out.free 2;obtain⟨y0,y1,y2⟩:=Uk.out.at3;obtain⟨P,GE,Tb,Vv,KF⟩:=lH5 (j4 (vs:=[.slice a1 t1 c1,.slice a2 t2 c2,.slice a3 t3 c3]) RB.out rfl) (jg.cells (S:=fun b=>b=rq) rq rfl [.slice a1 t1 c1,.slice a2 t2 c2,.slice a3 t3 c3] 0 wr) (show Off (fun b=>b<Z.heap.size) wr fun u=>jB u (.agg #[.slice a1 t1 c1,.slice a2 t2 c2,.slice a3 t3 c3]) (goS bs s) by have:=VU.out;rw[hfull] at this;exact this) (show Own jy 54 wr (mq+1) _ bs by have:=HO.out;rw[hfull] at this;exact this) (show Kept w wr from Below.trans (HK.out.trans KZ.out) (Below.mono US.out (by have:=UZ.out;have:=Vf.out;omega)));clear hfull;go_wp2;obtain⟨WE,hWE⟩:=eX (wr.setCells rq 0 [.slice a1 t1 c1,.slice a2 t2 c2,.slice a3 t3 c3])
    have hWE2:(((wr.setCell ⟨rq,0,none⟩ (.slice a1 t1 c1)).setCell ⟨rq,1,none⟩ (.slice a2 t2 c2)).setCell ⟨rq,2,none⟩ (.slice a3 t3 c3))=WE:=hWE;rw[hWE] at P GE;try rw[hWE2]
    have KE:=lH (show Kept w WE by rw[←hWE];exact js rq _ _ _ _ _ (by have:=UY.out;omega) KF.out);clear hWE hWE2 z0 z1 z2 f0 f1 f2 y0 y1 y2;refine bodyPost_ret (by simp[results,Tryz.results14,go_sem,P.out.cells.at_ 0 _ rfl,P.out.cells.at_ 1 _ rfl,P.out.cells.at_ 2 _ rfl];try rfl) rfl ?_;exact⟨_,_,rfl,(Tb.out.step (GE.out.mono fun b e=>by subst e;have:=Vf.out;have:=UY.out;omega)).here,Vv.out.goff GE.out (fun j hj e=>by have:=(Jy Vv.out j hj).1;have:=UZ.out;have:=Vf.out;have:=UY.out;omega) |>.reads,KE.out⟩
end Go.Proofs.YtibepooajeakfaaGreat
