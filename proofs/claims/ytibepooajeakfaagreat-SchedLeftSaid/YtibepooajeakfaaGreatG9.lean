/- C. -/
import Derived.Test.YtibepooajeakfaaGreatG1
import Derived.Test.YtibepooajeakfaaGreatG2
import Derived.Test.YtibepooajeakfaaGreatG3
import Derived.Test.YtibepooajeakfaaGreatG4
import Derived.Test.YtibepooajeakfaaGreatG5
import Derived.Test.YtibepooajeakfaaGreatG6
import Derived.Test.YtibepooajeakfaaGreatG7
import Derived.Test.YtibepooajeakfaaGreatG8
set_option linter.unusedVariables false
set_option maxRecDepth 100000
set_option maxHeartbeats 25600000
namespace Go.Proofs.YtibepooajeakfaaGreat
open Go.RowKit
theorem jbf (x:ByteArray):∀l:List Pd,(j0 x l).length≤l.length
 | []=>Nat.le_refl _
 | p::t=>by
  rw[j0];split
  · simp
  · have:=jbf x t;simp;omega
theorem Ye {S:Nat→Prop} {B i len cap vb vc:Nat} {ap:Option Addr} {w:World} {v1 v3:Value} {s:Clu} (h:jJ S B w v1 (.slice ap len cap) v3 s) (z:PX) (hi:i≤len) (hlen:len≤100000) (hB:B≤w.heap.size) (hS:∀k,S k→k<w.heap.size) (hvs:w.heap[vb]?=some (.cells (PodLay0.cs z).toArray 52)) (hvb:(Value.slice ap len cap).ownBlock≠some vb)
 (hz:Off (fun b=>S b∨(Value.slice ap len cap).ownBlock=some b) w fun u=>At4 u z) :
 Calls Tryz.prog 280 #[.slice ap len cap,.int .i64 i,.slice (some ⟨vb,0,none⟩) 1 vc] w fun e w'=>∃g c,e=.returned (.slice (some ⟨g,0,none⟩) (len+1) c)∧jJ S B w' v1 (.slice (some ⟨g,0,none⟩) (len+1) c) v3 { s with pods:=s.pods.take i++z.1::s.pods.drop i }∧jg (fun b=>(Value.slice ap len cap).ownBlock=some b) w w':=by
 obtain⟨lx,hmap,hown,hd⟩:=h.pods;obtain⟨a',c',e',_⟩:=hown.at_;have hll:lx.length=len:=by cases e';rfl
 have hx:jd PodLay0 (lx.take i++z::lx.drop i)=(jd PodLay0 lx).take (i*11)++PodLay0.cs z++(jd PodLay0 lx).drop (i*11):=by
  rw[show z::lx.drop i=[z]++lx.drop i from rfl,Jj,Jj,YW,qP];unfold jd;simp[PodLay0]
 refine(jfw _ len i vb vc B (jd PodLay0 lx) (PodLay0.cs z) w (by have:=hown.1;rw[hll] at this;exact this) hB hi (zS _ _) rfl (qt z) hvs hvb hlen).mono ?_;rintro e w' ⟨g,c,rfl,ho,hg,hn⟩;have hn':∀k,(Value.slice (some ⟨g,0,none⟩) (len+1) c).ownBlock=some k→(Value.slice ap len cap).ownBlock=some k∨w.heap.size≤k:=fun k hk=>by
  obtain rfl:g=k:=Option.some.inj hk;exact hn
 have hd':∀y ∈ lx.take i++z::lx.drop i,Off (fun b=>S b∨(Value.slice ap len cap).ownBlock=some b) w fun u=>At4 u y:=fun y hy=>by
  rcases List.mem_append.1 hy with hy | hy
  · exact hd y (List.mem_of_mem_take hy)
  · rcases List.mem_cons.1 hy with rfl | hy
    · exact hz
    · exact hd y (List.mem_of_mem_drop hy)
 refine⟨g,c,rfl,h.turn hg hn' hS ⟨lx.take i++z::lx.drop i,by rw[List.map_append,List.map_cons,List.map_take,List.map_drop,hmap],⟨?_,fun x hx=>trivial⟩,jJ.els (B:=B) hd' hg hn'⟩,hg⟩;have h2:(lx.take i++z::lx.drop i).length=len+1:=by rw[List.length_append,List.length_cons,List.length_take,List.length_drop,hll];omega
 rw[h2,hx];exact ho
theorem jiF (a b d:Option Addr) (len cap m c n e:Nat) (nl:List Nod) (pl:List Pd) (bl:List Bd) (p:Pd) (s1 s2 s3 s4:Option Addr) (t1 u1 t2 u2 t3 u3 t4 u4:Nat) (w:World) (hn:jt w a len nl) (hp:jC w b m pl) (hb:zB w d n bl) (h1:len≤cap) (h2:cap≤maxLen) (h3:m≤c) (h4:c≤maxLen) (h5:n≤e) (h6:e≤maxLen) (hl:jA ⟨nl,pl,bl⟩) (hP:ji w (.slice s1 t1 u1) (.slice s2 t2 u2) (.slice s3 t3 u3) (.slice s4 t4 u4) p) (hLP:Jr p) :
 Calls Tryz.prog 264 #[.agg #[.slice a len cap,.slice b m c,.slice d n e],jw p (.slice s1 t1 u1) (.slice s2 t2 u2) (.slice s3 t3 u3) (.slice s4 t4 u4)] w fun e w'=>∃a1 n1 c1 a2 n2 c2 a3 n3 c3,e=.returned (.agg #[.slice a1 n1 c1,.slice a2 n2 c2,.slice a3 n3 c3])∧jJ (fun b=>b<w.heap.size) w.heap.size w' (.slice a1 n1 c1) (.slice a2 n2 c2) (.slice a3 n3 c3) (Jd ⟨nl,pl,bl⟩ p)∧Kept w w':=by
 obtain⟨p0,p1,p2,q1,q2,q3,q4,p3,p4,p5,p6⟩:=p;obtain⟨Z,hZ⟩:=eX (((w.alloc (.cells #[.slice a len cap,.slice b m c,.slice d n e] 26)).alloc (.cells #[.string p0,.string p1,.int .i64 p2,.slice s1 t1 u1,.slice s2 t2 u2,.slice s3 t3 u3,.slice s4 t4 u4,.string p3,.int .i64 p4,.string p5,.bool p6] 52)).alloc (.cells #[.slice none 0 0,.slice none 0 0,.slice none 0 0] 26))
 have hkz:Kept w Z:=by rw[←hZ];exact(jm _ _ _).trans (ja _ _)
 have hzs:Z.heap.size=w.heap.size+3:=by rw[←hZ];simp
 have cc:=jb w (.slice a len cap) [.slice b m c,.slice d n e] 26 Z (by rw[←hZ];exact jm _ _ _);have o0:=cc.at_ 0 _ rfl;have o1:=cc.at_ 1 _ rfl;have o2:=cc.at_ 2 _ rfl;have Vt:=lH (show je (w.heap.size+1) [.string p0,.string p1,.int .i64 p2,.slice s1 t1 u1,.slice s2 t2 u2,.slice s3 t3 u3,.slice s4 t4 u4,.string p3,.int .i64 p4,.string p5,.bool p6] Z by
  have dd:=jb (w.alloc (.cells #[.slice a len cap,.slice b m c,.slice d n e] 26)) (.string p0) [.string p1,.int .i64 p2,.slice s1 t1 u1,.slice s2 t2 u2,.slice s3 t3 u3,.slice s4 t4 u4,.string p3,.int .i64 p4,.string p5,.bool p6] 52 Z (by rw[←hZ];exact ja _ _);rw[World.size_alloc] at dd;exact dd)
 have HQ:=lH (show je (w.heap.size+2) [.slice none 0 0,.slice none 0 0,.slice none 0 0] Z by
  have dd:=jb ((w.alloc (.cells #[.slice a len cap,.slice b m c,.slice d n e] 26)).alloc (.cells #[.string p0,.string p1,.int .i64 p2,.slice s1 t1 u1,.slice s2 t2 u2,.slice s3 t3 u3,.slice s4 t4 u4,.string p3,.int .i64 p4,.string p5,.bool p6] 52)) (.slice none 0 0) [.slice none 0 0,.slice none 0 0] 26 Z (by rw[hZ];exact Kept.refl _);rw[World.size_alloc,World.size_alloc] at dd;exact dd)
 have y0:=Vt.out.at_ 0 _ rfl;obtain⟨HO,Vc,Vf,UU,Tj,Ud⟩:=lH6 (jb6 a b d len cap m c n e nl pl bl p0 Z (hn.kept hkz) (hp.kept hkz) (hb.kept hkz) h1 h2 h3 h4 h5 h6 hl) hkz hzs hl.podsN (hP.kept hkz) hLP;clear hn hp hb h1 h2 h3 h4 h5 h6 hl hkz hzs cc hP hLP;unfold jw;dsimp only;go_enter Tryz.func264,Tryz.ntmps264;go_wp2_with fail
 try rw[hZ]
 go_wp2_with fail
 try rw[hZ]
 clear hZ o0 o1 o2 y0;refine HO.out.mono ?_;rintro e1 w1 ⟨a1,n1,c1,a2,n2,c2,a3,n3,c3,rfl,ho,k1⟩;obtain⟨W1,hW1⟩:=eX (w1.alloc (.cells #[.slice a1 n1 c1,.slice a2 n2 c2,.slice a3 n3 c3] 26))
 have hkw:Kept w1 W1:=by rw[←hW1];exact ja _ _
 obtain⟨HC,HW,HQ,Vt,Tj,K,Vl⟩:=lH7 (ho.more (q:=w1.heap.size) hkw (Nat.le_refl _)) (show je w1.heap.size [.slice a1 n1 c1,.slice a2 n2 c2,.slice a3 n3 c3] W1 from jb w1 (.slice a1 n1 c1) [.slice a2 n2 c2,.slice a3 n3 c3] 26 W1 (by rw[hW1];exact Kept.refl _)) (HQ.out.kept (k1.trans hkw)) (Vt.out.kept (k1.trans hkw)) (Tj.out.kept (k1.trans hkw)) (k1.trans hkw) (show Z.heap.size≤w1.heap.size∧w1.heap.size<W1.heap.size from⟨k1.size,by rw[←hW1,World.size_alloc];exact Nat.lt_succ_self _⟩);clear ho k1 hkw;obtain⟨v1,v2,v3,hu,hat⟩:=HC.out.toR
 cases hu
 obtain⟨ap,cp,ep,l1,l2,hpat⟩:=hat.pods
 cases ep
 have UK:=lH hpat;clear hat l1 l2;have U6:=lH (show (j6 ⟨nl,pl,bl⟩ p0).pods.length≤100000 from Nat.le_trans (jbf p0 pl) UU.out);obtain⟨l9,hl9⟩:=eX ((j6 ⟨nl,pl,bl⟩ p0).pods)
 obtain⟨len9,hlen9⟩:=eX (l9.length)
 have Tk:=lH (show l9=j0 p0 pl by rw[←hl9];rfl);have UW:=lH hlen9;skip;rw[hl9] at UK U6 HW HC ⊢;rw[hlen9] at UK U6 HW HC ⊢;try rw[hl9] at hW1
 try rw[hlen9] at hW1
 have VW:=lH (show (j6 ⟨nl,pl,bl⟩ p0)=⟨nl,l9,bl⟩ by rw[Tk.out];rfl);rw[VW.out] at HC;clear hl9 hlen9 hpat;go_wp2_with fail
 try rw[hW1]
 try clear hW1
 have HS:=lH (show ∀W,je (w.heap.size+1) [.string p0,.string p1,.int .i64 p2,.slice s1 t1 u1,.slice s2 t2 u2,.slice s3 t3 u3,.slice s4 t4 u4,.string p3,.int .i64 p4,.string p5,.bool p6] W→W.cell? ⟨w.heap.size+1,0,none⟩=some (.string p0)∧W.cell? ⟨w.heap.size+1,1,none⟩=some (.string p1)∧W.cell? ⟨w.heap.size+1,2,none⟩=some (.int .i64 p2)∧W.cell? ⟨w.heap.size+1,3,none⟩=some (.slice s1 t1 u1)∧W.cell? ⟨w.heap.size+1,4,none⟩=some (.slice s2 t2 u2)∧W.cell? ⟨w.heap.size+1,5,none⟩=some (.slice s3 t3 u3)∧W.cell? ⟨w.heap.size+1,6,none⟩=some (.slice s4 t4 u4)∧W.cell? ⟨w.heap.size+1,7,none⟩=some (.string p3)∧W.cell? ⟨w.heap.size+1,8,none⟩=some (.int .i64 p4)∧W.cell? ⟨w.heap.size+1,9,none⟩=some (.string p5)∧W.cell? ⟨w.heap.size+1,10,none⟩=some (.bool p6) from fun W h=>⟨h.at_ 0 _ rfl,h.at_ 1 _ rfl,h.at_ 2 _ rfl,h.at_ 3 _ rfl,h.at_ 4 _ rfl,h.at_ 5 _ rfl,h.at_ 6 _ rfl,h.at_ 7 _ rfl,h.at_ 8 _ rfl,h.at_ 9 _ rfl,h.at_ 10 _ rfl⟩);have VM:=lH (fun W (k:Kept W1 W)=>Vt.out.kept k);skip;refine wp_region_held_drew (S:=fun W=>W.cell? ⟨w.heap.size+1,0,none⟩=some (.string p0)∧W.cell? ⟨w.heap.size+1,1,none⟩=some (.string p1)∧W.cell? ⟨w.heap.size+1,2,none⟩=some (.int .i64 p2)∧W.cell? ⟨w.heap.size+1,3,none⟩=some (.slice s1 t1 u1)∧W.cell? ⟨w.heap.size+1,4,none⟩=some (.slice s2 t2 u2)∧W.cell? ⟨w.heap.size+1,5,none⟩=some (.slice s3 t3 u3)∧W.cell? ⟨w.heap.size+1,6,none⟩=some (.slice s4 t4 u4)∧W.cell? ⟨w.heap.size+1,7,none⟩=some (.string p3)∧W.cell? ⟨w.heap.size+1,8,none⟩=some (.int .i64 p4)∧W.cell? ⟨w.heap.size+1,9,none⟩=some (.string p5)∧W.cell? ⟨w.heap.size+1,10,none⟩=some (.bool p6)) (by kernel_rfl) (HS.out _ (VM.out _ (Kept.drew _))) (fun hHeld=>?_);refine tkI 0 ?_;refine tkI 2 ?_;refine tkI 4 ?_;refine tkI 5 ?_;refine tkI 7 ?_;try simp only[nP]
 refine rdH (rs:=[1,3]) (h:=coH (fun K9 Ky=>?_) (coH (fun K9 Ky=>?_) AllReadyH.nil))
 · skip;have yq:W1.drew.cell? ⟨w1.heap.size,1,none⟩=some (.slice a2 len9 c2):=(HW.out.kept (Kept.drew W1)).at_ 1 _ rfl;go_simp;refine Ky.out _ _ (HS.out _ (VM.out _ (Kept.drew W1))) (fun _=>?_);clear Ky K9 yq;try simp only[nP]
   have yq:W1.drew.cell? ⟨w1.heap.size,1,none⟩=some (.slice a2 len9 c2):=HW.out.at_ 1 _ rfl;refine rd1 3 fun K9 Ky=>?_;go_simp;refine Ky.out _ _ (HS.out _ (VM.out _ (Kept.drew _))) (fun _=>?_);clear Ky K9 yq;try simp only[nP]
   refine rd1 6 fun K9 Ky=>?_;go_simp;refine(XR a2 len9 c2 l9 p0 _ (UK.out.kept (Kept.drew _))).mono ?_;rintro e2 w2 ⟨rfl,kk⟩;have J1:=lH ((Kept.drew W1).trans kk);clear kk;refine Ky.out _ _ (HS.out _ (VM.out _ J1.out)) (fun _=>?_);clear Ky K9;try simp only[nP]
   refine rd1 8 fun K9 Ky=>?_;go_simp;have VH:=JX ⟨p0,p1,p2,q1,q2,q3,q4,p3,p4,p5,p6⟩ (.slice s1 t1 u1) (.slice s2 t2 u2) (.slice s3 t3 u3) (.slice s4 t4 u4) w2 (Tj.out.kept J1.out) Ud.out;unfold jw at VH;dsimp only at VH;refine VH.mono ?_;clear VH;rintro e3 w3 ⟨v,rfl,hv,kk⟩;have J2:=lH (J1.out.trans kk);obtain⟨x1,y1,z1,x2,y2,z2,x3,y3,z3,x4,y4,z4,hv9,sp,g1,g2,g3,g4⟩:=hv;have hv9:v=.agg #[.string p0,.string p1,.int .i64 p2,.slice x1 y1 z1,.slice x2 y2 z2,.slice x3 y3 z3,.slice x4 y4 z4,.string p3,.int .i64 p4,.string p5,.bool p6]:=hv9;subst hv9;have HG:=lH (show Z.heap.size≤w1.heap.size∧w1.heap.size<w2.heap.size from⟨Vl.out.1,Nat.lt_of_lt_of_le Vl.out.2 J1.out.size⟩);have Vv:=lH (show Off (fun b=>(b<Z.heap.size∨b=w1.heap.size)∨(Value.slice a2 len9 c2).ownBlock=some b) w3 fun u=>At4 u (⟨p0,p1,p2,q1,q2,q3,q4,p3,p4,p5,p6⟩,(x1,y1,z1),(x2,y2,z2),(x3,y3,z3),(x4,y4,z4)) from ji.off (B:=w2.heap.size) sp g1 g2 g3 g4 (fun b hb h=>by
    have h1:=HG.out;rcases h with (h | h) | h
    · omega
    · omega
    · have:=((HC.out.kept J1.out).lt b h).2;omega))
   clear kk sp g1 g2 g3 g4;refine Ky.out _ _ (HS.out _ (VM.out _ J2.out)) (fun _=>?_);clear Ky K9;try simp only[nP]
   refine rd1 9 fun K9 Ky=>?_;go_simp;obtain⟨J3,HV,Vv⟩:=lH3 (J2.out.trans (ja w3 (.cells #[.string p0,.string p1,.int .i64 p2,.slice x1 y1 z1,.slice x2 y2 z2,.slice x3 y3 z3,.slice x4 y4 z4,.string p3,.int .i64 p4,.string p5,.bool p6] 52))) (show (w3.alloc (.cells #[.string p0,.string p1,.int .i64 p2,.slice x1 y1 z1,.slice x2 y2 z2,.slice x3 y3 z3,.slice x4 y4 z4,.string p3,.int .i64 p4,.string p5,.bool p6] 52)).heap[w3.heap.size]?=some (.cells #[.string p0,.string p1,.int .i64 p2,.slice x1 y1 z1,.slice x2 y2 z2,.slice x3 y3 z3,.slice x4 y4 z4,.string p3,.int .i64 p4,.string p5,.bool p6] 52) from World.alloc_heap_new w3 _) (Vv.out.step (jg.of (ja w3 (.cells #[.string p0,.string p1,.int .i64 p2,.slice x1 y1 z1,.slice x2 y2 z2,.slice x3 y3 z3,.slice x4 y4 z4,.string p3,.int .i64 p4,.string p5,.bool p6] 52))));refine Ky.out _ _ (HS.out _ (VM.out _ J3.out)) (fun _=>?_);clear Ky K9;try simp only[nP]
   obtain⟨w4,hw4⟩:=eX (w3.alloc (.cells #[.string p0,.string p1,.int .i64 p2,.slice x1 y1 z1,.slice x2 y2 z2,.slice x3 y3 z3,.slice x4 y4 z4,.string p3,.int .i64 p4,.string p5,.bool p6] 52))
   rw[hw4] at J3 HV Vv ⊢;clear hw4;refine rd1 10 fun K9 Ky=>?_;go_simp;refine(Ye (HC.out.kept J3.out) (⟨p0,p1,p2,q1,q2,q3,q4,p3,p4,p5,p6⟩,(x1,y1,z1),(x2,y2,z2),(x3,y3,z3),(x4,y4,z4)) (i:=placeN p0 l9) (by have:=Xm p0 l9;rw[UW.out] at this;exact this) U6.out (by have:=J3.out.size;have:=Vl.out;omega) (fun b hb=>by have:=J3.out.size;have:=Vl.out;rcases hb with hb | hb<;>omega) HV.out (fun e=>by have h1:=((HC.out.kept J2.out).lt _ e).2;omega) Vv.out).mono ?_;rintro e5 w5 ⟨g,c9,rfl,hc5,hg5⟩;obtain⟨Uw,VS,VQ,V3,K5⟩:=lH5 hc5 (((HW.out.kept J3.out)).block (hg5.block _ (by have:=J3.out.size;have:=Vl.out;omega) (fun e=>HC.out.sep _ e (.inr rfl)))) ((HQ.out.kept J3.out).block (hg5.block _ (by have:=J3.out.size;have:=Vl.out;have:=Vf.out;omega) (fun e=>HC.out.sep _ e (.inl (by have:=Vf.out;omega))))) ((VM.out _ J3.out).block (hg5.block _ (by have:=J3.out.size;have:=Vl.out;have:=Vf.out;omega) (fun e=>HC.out.sep _ e (.inl (by have:=Vf.out;omega))))) (show Kept w w5 from Below.trans (Vc.out.trans (K.out.trans J3.out)) (hg5.at_below (B:=w.heap.size) (fun q e=>by have:=(HC.out.lt q e).1;have:=Vf.out;omega) (Vc.out.trans (K.out.trans J3.out)).size));clear hc5 hg5;refine Ky.out _ _ (HS.out _ V3.out) (fun _=>?_);clear Ky K9;try simp only[nP]
   refine tkI 11 ?_;try simp only[nP]
   have q1:=VS.out.at_ 1 _ rfl;have f1:=VS.out.free 1;refine rd1 12 fun K9 Ky=>?_;go_simp;obtain⟨UM,VJ,Ue,UN,K6⟩:=lH5 (V3.out.other (p:=w1.heap.size) (j:=1) (u:=.slice (some ⟨g,0,none⟩) (len9+1) c9) (by have:=Vl.out;have:=Vf.out;omega)) (VQ.out.other (p:=w1.heap.size) (j:=1) (u:=.slice (some ⟨g,0,none⟩) (len9+1) c9) (by have:=Vl.out;have:=Vf.out;omega)) (show je w1.heap.size [.slice a1 n1 c1,.slice (some ⟨g,0,none⟩) (len9+1) c9,.slice a3 n3 c3] (w5.setCell ⟨w1.heap.size,1,none⟩ (.slice (some ⟨g,0,none⟩) (len9+1) c9)) from VS.out.set (j:=1) (by simp)) (Uw.out.step (jg.cell (S:=fun b=>b<Z.heap.size∨b=w1.heap.size) w1.heap.size 1 (.slice (some ⟨g,0,none⟩) (len9+1) c9) (.inr rfl))) (show Kept w (w5.setCell ⟨w1.heap.size,1,none⟩ (.slice (some ⟨g,0,none⟩) (len9+1) c9)) from K5.out.setCell (p:=⟨w1.heap.size,1,none⟩) (by have:=Vl.out;have:=Vf.out;show w.heap.size≤w1.heap.size;omega) _);refine Ky.out _ _ (HS.out _ UM.out) (fun _=>?_);clear Ky K9 q1 f1;try simp only[nP]
   refine wpAnyH_done (by kernel_rfl) ?_ _;obtain⟨y0,y1,y2⟩:=Ue.out.at3;obtain⟨z0,z1,z2⟩:=VJ.out.at3;have f0:=VJ.out.free 0;have f1:=VJ.out.free 1;have f2:=VJ.out.free 2;have PP:=lH (j4 (vs:=[.slice a1 n1 c1,.slice (some ⟨g,0,none⟩) (len9+1) c9,.slice a3 n3 c3]) VJ.out rfl);go_wp2;obtain⟨WE,hWE⟩:=eX ((w5.setCell ⟨w1.heap.size,1,none⟩ (.slice (some ⟨g,0,none⟩) (len9+1) c9)).setCells (w.heap.size+2) 0 [.slice a1 n1 c1,.slice (some ⟨g,0,none⟩) (len9+1) c9,.slice a3 n3 c3])
   have hWE2:((((w5.setCell ⟨w1.heap.size,1,none⟩ (.slice (some ⟨g,0,none⟩) (len9+1) c9)).setCell ⟨(w.heap.size+2),0,none⟩ (.slice a1 n1 c1)).setCell ⟨(w.heap.size+2),1,none⟩ (.slice (some ⟨g,0,none⟩) (len9+1) c9)).setCell ⟨(w.heap.size+2),2,none⟩ (.slice a3 n3 c3))=WE:=hWE;rw[hWE] at PP;try rw[hWE2]
   have GE:=lH (show jg (fun b=>b<Z.heap.size∨b=w1.heap.size) (w5.setCell ⟨w1.heap.size,1,none⟩ (.slice (some ⟨g,0,none⟩) (len9+1) c9)) WE by rw[←hWE];exact jg.cells (S:=fun b=>b<Z.heap.size∨b=w1.heap.size) _ (.inl (by have:=Vf.out;omega)) _ _ _);clear hWE hWE2;obtain⟨PCC,hsz,hbl,hkp⟩:=PP.out;refine bodyPost_ret (by simp[results,Tryz.results264,go_sem,PCC.at_ 0 _ rfl,PCC.at_ 1 _ rfl,PCC.at_ 2 _ rfl];try rfl) rfl ?_;have Vo:=(UN.out.step GE.out).less (B':=w.heap.size) (S':=fun b=>b<w.heap.size) Vc.out.size (fun b hb=>.inl (Nat.lt_of_lt_of_le hb Vc.out.size));rw[show l9.take (placeN p0 l9)++⟨p0,p1,p2,q1,q2,q3,q4,p3,p4,p5,p6⟩::l9.drop (placeN p0 l9)=JB ⟨p0,p1,p2,q1,q2,q3,q4,p3,p4,p5,p6⟩ (j0 p0 pl) by rw[←Tk.out];exact Z3 (p:=⟨p0,p1,p2,q1,q2,q3,q4,p3,p4,p5,p6⟩) (l:=l9)] at Vo;exact⟨_,_,_,_,_,_,_,_,_,rfl,Vo,hkp _ _ (by omega) K6.out⟩
 · skip;have yq:W1.drew.cell? ⟨w1.heap.size,1,none⟩=some (.slice a2 len9 c2):=HW.out.at_ 1 _ rfl;go_simp;refine Ky.out _ _ (HS.out _ (VM.out _ (Kept.drew _))) (fun _=>?_);clear Ky K9 yq;try simp only[nP]
   refine rdH (rs:=[1,6]) (h:=coH (fun K9 Ky=>?_) (coH (fun K9 Ky=>?_) AllReadyH.nil))
   · skip;have yq:W1.drew.cell? ⟨w1.heap.size,1,none⟩=some (.slice a2 len9 c2):=(HW.out.kept (Kept.drew W1)).at_ 1 _ rfl;go_simp;refine Ky.out _ _ (HS.out _ (VM.out _ (Kept.drew W1))) (fun _=>?_);clear Ky K9 yq;try simp only[nP]
     refine rd1 6 fun K9 Ky=>?_;go_simp;refine(XR a2 len9 c2 l9 p0 _ (UK.out.kept (Kept.drew _))).mono ?_;rintro e2 w2 ⟨rfl,kk⟩;have J1:=lH ((Kept.drew W1).trans kk);clear kk;refine Ky.out _ _ (HS.out _ (VM.out _ J1.out)) (fun _=>?_);clear Ky K9;try simp only[nP]
     refine rd1 8 fun K9 Ky=>?_;go_simp;have VH:=JX ⟨p0,p1,p2,q1,q2,q3,q4,p3,p4,p5,p6⟩ (.slice s1 t1 u1) (.slice s2 t2 u2) (.slice s3 t3 u3) (.slice s4 t4 u4) w2 (Tj.out.kept J1.out) Ud.out;unfold jw at VH;dsimp only at VH;refine VH.mono ?_;clear VH;rintro e3 w3 ⟨v,rfl,hv,kk⟩;have J2:=lH (J1.out.trans kk);obtain⟨x1,y1,z1,x2,y2,z2,x3,y3,z3,x4,y4,z4,hv9,sp,g1,g2,g3,g4⟩:=hv;have hv9:v=.agg #[.string p0,.string p1,.int .i64 p2,.slice x1 y1 z1,.slice x2 y2 z2,.slice x3 y3 z3,.slice x4 y4 z4,.string p3,.int .i64 p4,.string p5,.bool p6]:=hv9;subst hv9;have HG:=lH (show Z.heap.size≤w1.heap.size∧w1.heap.size<w2.heap.size from⟨Vl.out.1,Nat.lt_of_lt_of_le Vl.out.2 J1.out.size⟩);have Vv:=lH (show Off (fun b=>(b<Z.heap.size∨b=w1.heap.size)∨(Value.slice a2 len9 c2).ownBlock=some b) w3 fun u=>At4 u (⟨p0,p1,p2,q1,q2,q3,q4,p3,p4,p5,p6⟩,(x1,y1,z1),(x2,y2,z2),(x3,y3,z3),(x4,y4,z4)) from ji.off (B:=w2.heap.size) sp g1 g2 g3 g4 (fun b hb h=>by
      have h1:=HG.out;rcases h with (h | h) | h
      · omega
      · omega
      · have:=((HC.out.kept J1.out).lt b h).2;omega))
     clear kk sp g1 g2 g3 g4;refine Ky.out _ _ (HS.out _ (VM.out _ J2.out)) (fun _=>?_);clear Ky K9;try simp only[nP]
     refine rd1 9 fun K9 Ky=>?_;go_simp;obtain⟨J3,HV,Vv⟩:=lH3 (J2.out.trans (ja w3 (.cells #[.string p0,.string p1,.int .i64 p2,.slice x1 y1 z1,.slice x2 y2 z2,.slice x3 y3 z3,.slice x4 y4 z4,.string p3,.int .i64 p4,.string p5,.bool p6] 52))) (show (w3.alloc (.cells #[.string p0,.string p1,.int .i64 p2,.slice x1 y1 z1,.slice x2 y2 z2,.slice x3 y3 z3,.slice x4 y4 z4,.string p3,.int .i64 p4,.string p5,.bool p6] 52)).heap[w3.heap.size]?=some (.cells #[.string p0,.string p1,.int .i64 p2,.slice x1 y1 z1,.slice x2 y2 z2,.slice x3 y3 z3,.slice x4 y4 z4,.string p3,.int .i64 p4,.string p5,.bool p6] 52) from World.alloc_heap_new w3 _) (Vv.out.step (jg.of (ja w3 (.cells #[.string p0,.string p1,.int .i64 p2,.slice x1 y1 z1,.slice x2 y2 z2,.slice x3 y3 z3,.slice x4 y4 z4,.string p3,.int .i64 p4,.string p5,.bool p6] 52))));refine Ky.out _ _ (HS.out _ (VM.out _ J3.out)) (fun _=>?_);clear Ky K9;try simp only[nP]
     obtain⟨w4,hw4⟩:=eX (w3.alloc (.cells #[.string p0,.string p1,.int .i64 p2,.slice x1 y1 z1,.slice x2 y2 z2,.slice x3 y3 z3,.slice x4 y4 z4,.string p3,.int .i64 p4,.string p5,.bool p6] 52))
     rw[hw4] at J3 HV Vv ⊢;clear hw4;refine rd1 10 fun K9 Ky=>?_;go_simp;refine(Ye (HC.out.kept J3.out) (⟨p0,p1,p2,q1,q2,q3,q4,p3,p4,p5,p6⟩,(x1,y1,z1),(x2,y2,z2),(x3,y3,z3),(x4,y4,z4)) (i:=placeN p0 l9) (by have:=Xm p0 l9;rw[UW.out] at this;exact this) U6.out (by have:=J3.out.size;have:=Vl.out;omega) (fun b hb=>by have:=J3.out.size;have:=Vl.out;rcases hb with hb | hb<;>omega) HV.out (fun e=>by have h1:=((HC.out.kept J2.out).lt _ e).2;omega) Vv.out).mono ?_;rintro e5 w5 ⟨g,c9,rfl,hc5,hg5⟩;obtain⟨Uw,VS,VQ,V3,K5⟩:=lH5 hc5 (((HW.out.kept J3.out)).block (hg5.block _ (by have:=J3.out.size;have:=Vl.out;omega) (fun e=>HC.out.sep _ e (.inr rfl)))) ((HQ.out.kept J3.out).block (hg5.block _ (by have:=J3.out.size;have:=Vl.out;have:=Vf.out;omega) (fun e=>HC.out.sep _ e (.inl (by have:=Vf.out;omega))))) ((VM.out _ J3.out).block (hg5.block _ (by have:=J3.out.size;have:=Vl.out;have:=Vf.out;omega) (fun e=>HC.out.sep _ e (.inl (by have:=Vf.out;omega))))) (show Kept w w5 from Below.trans (Vc.out.trans (K.out.trans J3.out)) (hg5.at_below (B:=w.heap.size) (fun q e=>by have:=(HC.out.lt q e).1;have:=Vf.out;omega) (Vc.out.trans (K.out.trans J3.out)).size));clear hc5 hg5;refine Ky.out _ _ (HS.out _ V3.out) (fun _=>?_);clear Ky K9;try simp only[nP]
     refine tkI 11 ?_;try simp only[nP]
     have q1:=VS.out.at_ 1 _ rfl;have f1:=VS.out.free 1;refine rd1 12 fun K9 Ky=>?_;go_simp;obtain⟨UM,VJ,Ue,UN,K6⟩:=lH5 (V3.out.other (p:=w1.heap.size) (j:=1) (u:=.slice (some ⟨g,0,none⟩) (len9+1) c9) (by have:=Vl.out;have:=Vf.out;omega)) (VQ.out.other (p:=w1.heap.size) (j:=1) (u:=.slice (some ⟨g,0,none⟩) (len9+1) c9) (by have:=Vl.out;have:=Vf.out;omega)) (show je w1.heap.size [.slice a1 n1 c1,.slice (some ⟨g,0,none⟩) (len9+1) c9,.slice a3 n3 c3] (w5.setCell ⟨w1.heap.size,1,none⟩ (.slice (some ⟨g,0,none⟩) (len9+1) c9)) from VS.out.set (j:=1) (by simp)) (Uw.out.step (jg.cell (S:=fun b=>b<Z.heap.size∨b=w1.heap.size) w1.heap.size 1 (.slice (some ⟨g,0,none⟩) (len9+1) c9) (.inr rfl))) (show Kept w (w5.setCell ⟨w1.heap.size,1,none⟩ (.slice (some ⟨g,0,none⟩) (len9+1) c9)) from K5.out.setCell (p:=⟨w1.heap.size,1,none⟩) (by have:=Vl.out;have:=Vf.out;show w.heap.size≤w1.heap.size;omega) _);refine Ky.out _ _ (HS.out _ UM.out) (fun _=>?_);clear Ky K9 q1 f1;try simp only[nP]
     refine wpAnyH_done (by kernel_rfl) ?_ _;obtain⟨y0,y1,y2⟩:=Ue.out.at3;obtain⟨z0,z1,z2⟩:=VJ.out.at3;have f0:=VJ.out.free 0;have f1:=VJ.out.free 1;have f2:=VJ.out.free 2;have PP:=lH (j4 (vs:=[.slice a1 n1 c1,.slice (some ⟨g,0,none⟩) (len9+1) c9,.slice a3 n3 c3]) VJ.out rfl);go_wp2;obtain⟨WE,hWE⟩:=eX ((w5.setCell ⟨w1.heap.size,1,none⟩ (.slice (some ⟨g,0,none⟩) (len9+1) c9)).setCells (w.heap.size+2) 0 [.slice a1 n1 c1,.slice (some ⟨g,0,none⟩) (len9+1) c9,.slice a3 n3 c3])
     have hWE2:((((w5.setCell ⟨w1.heap.size,1,none⟩ (.slice (some ⟨g,0,none⟩) (len9+1) c9)).setCell ⟨(w.heap.size+2),0,none⟩ (.slice a1 n1 c1)).setCell ⟨(w.heap.size+2),1,none⟩ (.slice (some ⟨g,0,none⟩) (len9+1) c9)).setCell ⟨(w.heap.size+2),2,none⟩ (.slice a3 n3 c3))=WE:=hWE;rw[hWE] at PP;try rw[hWE2]
     have GE:=lH (show jg (fun b=>b<Z.heap.size∨b=w1.heap.size) (w5.setCell ⟨w1.heap.size,1,none⟩ (.slice (some ⟨g,0,none⟩) (len9+1) c9)) WE by rw[←hWE];exact jg.cells (S:=fun b=>b<Z.heap.size∨b=w1.heap.size) _ (.inl (by have:=Vf.out;omega)) _ _ _);clear hWE hWE2;obtain⟨PCC,hsz,hbl,hkp⟩:=PP.out;refine bodyPost_ret (by simp[results,Tryz.results264,go_sem,PCC.at_ 0 _ rfl,PCC.at_ 1 _ rfl,PCC.at_ 2 _ rfl];try rfl) rfl ?_;have Vo:=(UN.out.step GE.out).less (B':=w.heap.size) (S':=fun b=>b<w.heap.size) Vc.out.size (fun b hb=>.inl (Nat.lt_of_lt_of_le hb Vc.out.size));rw[show l9.take (placeN p0 l9)++⟨p0,p1,p2,q1,q2,q3,q4,p3,p4,p5,p6⟩::l9.drop (placeN p0 l9)=JB ⟨p0,p1,p2,q1,q2,q3,q4,p3,p4,p5,p6⟩ (j0 p0 pl) by rw[←Tk.out];exact Z3 (p:=⟨p0,p1,p2,q1,q2,q3,q4,p3,p4,p5,p6⟩) (l:=l9)] at Vo;exact⟨_,_,_,_,_,_,_,_,_,rfl,Vo,hkp _ _ (by omega) K6.out⟩
   · skip;go_simp;refine(XR a2 len9 c2 l9 p0 _ (UK.out.kept (Kept.drew _))).mono ?_;rintro e2 w2 ⟨rfl,kk⟩;have J1:=lH ((Kept.drew W1).trans kk);clear kk;refine Ky.out _ _ (HS.out _ (VM.out _ J1.out)) (fun _=>?_);clear Ky K9;try simp only[nP]
     refine rdH (rs:=[1,8]) (h:=coH (fun K9 Ky=>?_) (coH (fun K9 Ky=>?_) AllReadyH.nil))
     · skip;have yq:w2.cell? ⟨w1.heap.size,1,none⟩=some (.slice a2 len9 c2):=(HW.out.kept J1.out).at_ 1 _ rfl;go_simp;refine Ky.out _ _ (HS.out _ (VM.out _ J1.out)) (fun _=>?_);clear Ky K9 yq;try simp only[nP]
       refine rd1 8 fun K9 Ky=>?_;go_simp;have VH:=JX ⟨p0,p1,p2,q1,q2,q3,q4,p3,p4,p5,p6⟩ (.slice s1 t1 u1) (.slice s2 t2 u2) (.slice s3 t3 u3) (.slice s4 t4 u4) w2 (Tj.out.kept J1.out) Ud.out;unfold jw at VH;dsimp only at VH;refine VH.mono ?_;clear VH;rintro e3 w3 ⟨v,rfl,hv,kk⟩;have J2:=lH (J1.out.trans kk);obtain⟨x1,y1,z1,x2,y2,z2,x3,y3,z3,x4,y4,z4,hv9,sp,g1,g2,g3,g4⟩:=hv;have hv9:v=.agg #[.string p0,.string p1,.int .i64 p2,.slice x1 y1 z1,.slice x2 y2 z2,.slice x3 y3 z3,.slice x4 y4 z4,.string p3,.int .i64 p4,.string p5,.bool p6]:=hv9;subst hv9;have HG:=lH (show Z.heap.size≤w1.heap.size∧w1.heap.size<w2.heap.size from⟨Vl.out.1,Nat.lt_of_lt_of_le Vl.out.2 J1.out.size⟩);have Vv:=lH (show Off (fun b=>(b<Z.heap.size∨b=w1.heap.size)∨(Value.slice a2 len9 c2).ownBlock=some b) w3 fun u=>At4 u (⟨p0,p1,p2,q1,q2,q3,q4,p3,p4,p5,p6⟩,(x1,y1,z1),(x2,y2,z2),(x3,y3,z3),(x4,y4,z4)) from ji.off (B:=w2.heap.size) sp g1 g2 g3 g4 (fun b hb h=>by
        have h1:=HG.out;rcases h with (h | h) | h
        · omega
        · omega
        · have:=((HC.out.kept J1.out).lt b h).2;omega))
       clear kk sp g1 g2 g3 g4;refine Ky.out _ _ (HS.out _ (VM.out _ J2.out)) (fun _=>?_);clear Ky K9;try simp only[nP]
       refine rd1 9 fun K9 Ky=>?_;go_simp;obtain⟨J3,HV,Vv⟩:=lH3 (J2.out.trans (ja w3 (.cells #[.string p0,.string p1,.int .i64 p2,.slice x1 y1 z1,.slice x2 y2 z2,.slice x3 y3 z3,.slice x4 y4 z4,.string p3,.int .i64 p4,.string p5,.bool p6] 52))) (show (w3.alloc (.cells #[.string p0,.string p1,.int .i64 p2,.slice x1 y1 z1,.slice x2 y2 z2,.slice x3 y3 z3,.slice x4 y4 z4,.string p3,.int .i64 p4,.string p5,.bool p6] 52)).heap[w3.heap.size]?=some (.cells #[.string p0,.string p1,.int .i64 p2,.slice x1 y1 z1,.slice x2 y2 z2,.slice x3 y3 z3,.slice x4 y4 z4,.string p3,.int .i64 p4,.string p5,.bool p6] 52) from World.alloc_heap_new w3 _) (Vv.out.step (jg.of (ja w3 (.cells #[.string p0,.string p1,.int .i64 p2,.slice x1 y1 z1,.slice x2 y2 z2,.slice x3 y3 z3,.slice x4 y4 z4,.string p3,.int .i64 p4,.string p5,.bool p6] 52))));refine Ky.out _ _ (HS.out _ (VM.out _ J3.out)) (fun _=>?_);clear Ky K9;try simp only[nP]
       obtain⟨w4,hw4⟩:=eX (w3.alloc (.cells #[.string p0,.string p1,.int .i64 p2,.slice x1 y1 z1,.slice x2 y2 z2,.slice x3 y3 z3,.slice x4 y4 z4,.string p3,.int .i64 p4,.string p5,.bool p6] 52))
       rw[hw4] at J3 HV Vv ⊢;clear hw4;refine rd1 10 fun K9 Ky=>?_;go_simp;refine(Ye (HC.out.kept J3.out) (⟨p0,p1,p2,q1,q2,q3,q4,p3,p4,p5,p6⟩,(x1,y1,z1),(x2,y2,z2),(x3,y3,z3),(x4,y4,z4)) (i:=placeN p0 l9) (by have:=Xm p0 l9;rw[UW.out] at this;exact this) U6.out (by have:=J3.out.size;have:=Vl.out;omega) (fun b hb=>by have:=J3.out.size;have:=Vl.out;rcases hb with hb | hb<;>omega) HV.out (fun e=>by have h1:=((HC.out.kept J2.out).lt _ e).2;omega) Vv.out).mono ?_;rintro e5 w5 ⟨g,c9,rfl,hc5,hg5⟩;obtain⟨Uw,VS,VQ,V3,K5⟩:=lH5 hc5 (((HW.out.kept J3.out)).block (hg5.block _ (by have:=J3.out.size;have:=Vl.out;omega) (fun e=>HC.out.sep _ e (.inr rfl)))) ((HQ.out.kept J3.out).block (hg5.block _ (by have:=J3.out.size;have:=Vl.out;have:=Vf.out;omega) (fun e=>HC.out.sep _ e (.inl (by have:=Vf.out;omega))))) ((VM.out _ J3.out).block (hg5.block _ (by have:=J3.out.size;have:=Vl.out;have:=Vf.out;omega) (fun e=>HC.out.sep _ e (.inl (by have:=Vf.out;omega))))) (show Kept w w5 from Below.trans (Vc.out.trans (K.out.trans J3.out)) (hg5.at_below (B:=w.heap.size) (fun q e=>by have:=(HC.out.lt q e).1;have:=Vf.out;omega) (Vc.out.trans (K.out.trans J3.out)).size));clear hc5 hg5;refine Ky.out _ _ (HS.out _ V3.out) (fun _=>?_);clear Ky K9;try simp only[nP]
       refine tkI 11 ?_;try simp only[nP]
       have q1:=VS.out.at_ 1 _ rfl;have f1:=VS.out.free 1;refine rd1 12 fun K9 Ky=>?_;go_simp;obtain⟨UM,VJ,Ue,UN,K6⟩:=lH5 (V3.out.other (p:=w1.heap.size) (j:=1) (u:=.slice (some ⟨g,0,none⟩) (len9+1) c9) (by have:=Vl.out;have:=Vf.out;omega)) (VQ.out.other (p:=w1.heap.size) (j:=1) (u:=.slice (some ⟨g,0,none⟩) (len9+1) c9) (by have:=Vl.out;have:=Vf.out;omega)) (show je w1.heap.size [.slice a1 n1 c1,.slice (some ⟨g,0,none⟩) (len9+1) c9,.slice a3 n3 c3] (w5.setCell ⟨w1.heap.size,1,none⟩ (.slice (some ⟨g,0,none⟩) (len9+1) c9)) from VS.out.set (j:=1) (by simp)) (Uw.out.step (jg.cell (S:=fun b=>b<Z.heap.size∨b=w1.heap.size) w1.heap.size 1 (.slice (some ⟨g,0,none⟩) (len9+1) c9) (.inr rfl))) (show Kept w (w5.setCell ⟨w1.heap.size,1,none⟩ (.slice (some ⟨g,0,none⟩) (len9+1) c9)) from K5.out.setCell (p:=⟨w1.heap.size,1,none⟩) (by have:=Vl.out;have:=Vf.out;show w.heap.size≤w1.heap.size;omega) _);refine Ky.out _ _ (HS.out _ UM.out) (fun _=>?_);clear Ky K9 q1 f1;try simp only[nP]
       refine wpAnyH_done (by kernel_rfl) ?_ _;obtain⟨y0,y1,y2⟩:=Ue.out.at3;obtain⟨z0,z1,z2⟩:=VJ.out.at3;have f0:=VJ.out.free 0;have f1:=VJ.out.free 1;have f2:=VJ.out.free 2;have PP:=lH (j4 (vs:=[.slice a1 n1 c1,.slice (some ⟨g,0,none⟩) (len9+1) c9,.slice a3 n3 c3]) VJ.out rfl);go_wp2;obtain⟨WE,hWE⟩:=eX ((w5.setCell ⟨w1.heap.size,1,none⟩ (.slice (some ⟨g,0,none⟩) (len9+1) c9)).setCells (w.heap.size+2) 0 [.slice a1 n1 c1,.slice (some ⟨g,0,none⟩) (len9+1) c9,.slice a3 n3 c3])
       have hWE2:((((w5.setCell ⟨w1.heap.size,1,none⟩ (.slice (some ⟨g,0,none⟩) (len9+1) c9)).setCell ⟨(w.heap.size+2),0,none⟩ (.slice a1 n1 c1)).setCell ⟨(w.heap.size+2),1,none⟩ (.slice (some ⟨g,0,none⟩) (len9+1) c9)).setCell ⟨(w.heap.size+2),2,none⟩ (.slice a3 n3 c3))=WE:=hWE;rw[hWE] at PP;try rw[hWE2]
       have GE:=lH (show jg (fun b=>b<Z.heap.size∨b=w1.heap.size) (w5.setCell ⟨w1.heap.size,1,none⟩ (.slice (some ⟨g,0,none⟩) (len9+1) c9)) WE by rw[←hWE];exact jg.cells (S:=fun b=>b<Z.heap.size∨b=w1.heap.size) _ (.inl (by have:=Vf.out;omega)) _ _ _);clear hWE hWE2;obtain⟨PCC,hsz,hbl,hkp⟩:=PP.out;refine bodyPost_ret (by simp[results,Tryz.results264,go_sem,PCC.at_ 0 _ rfl,PCC.at_ 1 _ rfl,PCC.at_ 2 _ rfl];try rfl) rfl ?_;have Vo:=(UN.out.step GE.out).less (B':=w.heap.size) (S':=fun b=>b<w.heap.size) Vc.out.size (fun b hb=>.inl (Nat.lt_of_lt_of_le hb Vc.out.size));rw[show l9.take (placeN p0 l9)++⟨p0,p1,p2,q1,q2,q3,q4,p3,p4,p5,p6⟩::l9.drop (placeN p0 l9)=JB ⟨p0,p1,p2,q1,q2,q3,q4,p3,p4,p5,p6⟩ (j0 p0 pl) by rw[←Tk.out];exact Z3 (p:=⟨p0,p1,p2,q1,q2,q3,q4,p3,p4,p5,p6⟩) (l:=l9)] at Vo;exact⟨_,_,_,_,_,_,_,_,_,rfl,Vo,hkp _ _ (by omega) K6.out⟩
     · skip;go_simp;have VH:=JX ⟨p0,p1,p2,q1,q2,q3,q4,p3,p4,p5,p6⟩ (.slice s1 t1 u1) (.slice s2 t2 u2) (.slice s3 t3 u3) (.slice s4 t4 u4) w2 (Tj.out.kept J1.out) Ud.out;unfold jw at VH;dsimp only at VH;refine VH.mono ?_;clear VH;rintro e3 w3 ⟨v,rfl,hv,kk⟩;have J2:=lH (J1.out.trans kk);obtain⟨x1,y1,z1,x2,y2,z2,x3,y3,z3,x4,y4,z4,hv9,sp,g1,g2,g3,g4⟩:=hv;have hv9:v=.agg #[.string p0,.string p1,.int .i64 p2,.slice x1 y1 z1,.slice x2 y2 z2,.slice x3 y3 z3,.slice x4 y4 z4,.string p3,.int .i64 p4,.string p5,.bool p6]:=hv9;subst hv9;have HG:=lH (show Z.heap.size≤w1.heap.size∧w1.heap.size<w2.heap.size from⟨Vl.out.1,Nat.lt_of_lt_of_le Vl.out.2 J1.out.size⟩);have Vv:=lH (show Off (fun b=>(b<Z.heap.size∨b=w1.heap.size)∨(Value.slice a2 len9 c2).ownBlock=some b) w3 fun u=>At4 u (⟨p0,p1,p2,q1,q2,q3,q4,p3,p4,p5,p6⟩,(x1,y1,z1),(x2,y2,z2),(x3,y3,z3),(x4,y4,z4)) from ji.off (B:=w2.heap.size) sp g1 g2 g3 g4 (fun b hb h=>by
        have h1:=HG.out;rcases h with (h | h) | h
        · omega
        · omega
        · have:=((HC.out.kept J1.out).lt b h).2;omega))
       clear kk sp g1 g2 g3 g4;refine Ky.out _ _ (HS.out _ (VM.out _ J2.out)) (fun _=>?_);clear Ky K9;try simp only[nP]
       refine rdH (rs:=[1,9]) (h:=coH (fun K9 Ky=>?_) (coH (fun K9 Ky=>?_) AllReadyH.nil))
       · skip;have yq:w3.cell? ⟨w1.heap.size,1,none⟩=some (.slice a2 len9 c2):=(HW.out.kept J2.out).at_ 1 _ rfl;go_simp;refine Ky.out _ _ (HS.out _ (VM.out _ J2.out)) (fun _=>?_);clear Ky K9 yq;try simp only[nP]
         refine rd1 9 fun K9 Ky=>?_;go_simp;obtain⟨J3,HV,Vv⟩:=lH3 (J2.out.trans (ja w3 (.cells #[.string p0,.string p1,.int .i64 p2,.slice x1 y1 z1,.slice x2 y2 z2,.slice x3 y3 z3,.slice x4 y4 z4,.string p3,.int .i64 p4,.string p5,.bool p6] 52))) (show (w3.alloc (.cells #[.string p0,.string p1,.int .i64 p2,.slice x1 y1 z1,.slice x2 y2 z2,.slice x3 y3 z3,.slice x4 y4 z4,.string p3,.int .i64 p4,.string p5,.bool p6] 52)).heap[w3.heap.size]?=some (.cells #[.string p0,.string p1,.int .i64 p2,.slice x1 y1 z1,.slice x2 y2 z2,.slice x3 y3 z3,.slice x4 y4 z4,.string p3,.int .i64 p4,.string p5,.bool p6] 52) from World.alloc_heap_new w3 _) (Vv.out.step (jg.of (ja w3 (.cells #[.string p0,.string p1,.int .i64 p2,.slice x1 y1 z1,.slice x2 y2 z2,.slice x3 y3 z3,.slice x4 y4 z4,.string p3,.int .i64 p4,.string p5,.bool p6] 52))));refine Ky.out _ _ (HS.out _ (VM.out _ J3.out)) (fun _=>?_);clear Ky K9;try simp only[nP]
         obtain⟨w4,hw4⟩:=eX (w3.alloc (.cells #[.string p0,.string p1,.int .i64 p2,.slice x1 y1 z1,.slice x2 y2 z2,.slice x3 y3 z3,.slice x4 y4 z4,.string p3,.int .i64 p4,.string p5,.bool p6] 52))
         rw[hw4] at J3 HV Vv ⊢;clear hw4;refine rd1 10 fun K9 Ky=>?_;go_simp;refine(Ye (HC.out.kept J3.out) (⟨p0,p1,p2,q1,q2,q3,q4,p3,p4,p5,p6⟩,(x1,y1,z1),(x2,y2,z2),(x3,y3,z3),(x4,y4,z4)) (i:=placeN p0 l9) (by have:=Xm p0 l9;rw[UW.out] at this;exact this) U6.out (by have:=J3.out.size;have:=Vl.out;omega) (fun b hb=>by have:=J3.out.size;have:=Vl.out;rcases hb with hb | hb<;>omega) HV.out (fun e=>by have h1:=((HC.out.kept J2.out).lt _ e).2;omega) Vv.out).mono ?_;rintro e5 w5 ⟨g,c9,rfl,hc5,hg5⟩;obtain⟨Uw,VS,VQ,V3,K5⟩:=lH5 hc5 (((HW.out.kept J3.out)).block (hg5.block _ (by have:=J3.out.size;have:=Vl.out;omega) (fun e=>HC.out.sep _ e (.inr rfl)))) ((HQ.out.kept J3.out).block (hg5.block _ (by have:=J3.out.size;have:=Vl.out;have:=Vf.out;omega) (fun e=>HC.out.sep _ e (.inl (by have:=Vf.out;omega))))) ((VM.out _ J3.out).block (hg5.block _ (by have:=J3.out.size;have:=Vl.out;have:=Vf.out;omega) (fun e=>HC.out.sep _ e (.inl (by have:=Vf.out;omega))))) (show Kept w w5 from Below.trans (Vc.out.trans (K.out.trans J3.out)) (hg5.at_below (B:=w.heap.size) (fun q e=>by have:=(HC.out.lt q e).1;have:=Vf.out;omega) (Vc.out.trans (K.out.trans J3.out)).size));clear hc5 hg5;refine Ky.out _ _ (HS.out _ V3.out) (fun _=>?_);clear Ky K9;try simp only[nP]
         refine tkI 11 ?_;try simp only[nP]
         have q1:=VS.out.at_ 1 _ rfl;have f1:=VS.out.free 1;refine rd1 12 fun K9 Ky=>?_;go_simp;obtain⟨UM,VJ,Ue,UN,K6⟩:=lH5 (V3.out.other (p:=w1.heap.size) (j:=1) (u:=.slice (some ⟨g,0,none⟩) (len9+1) c9) (by have:=Vl.out;have:=Vf.out;omega)) (VQ.out.other (p:=w1.heap.size) (j:=1) (u:=.slice (some ⟨g,0,none⟩) (len9+1) c9) (by have:=Vl.out;have:=Vf.out;omega)) (show je w1.heap.size [.slice a1 n1 c1,.slice (some ⟨g,0,none⟩) (len9+1) c9,.slice a3 n3 c3] (w5.setCell ⟨w1.heap.size,1,none⟩ (.slice (some ⟨g,0,none⟩) (len9+1) c9)) from VS.out.set (j:=1) (by simp)) (Uw.out.step (jg.cell (S:=fun b=>b<Z.heap.size∨b=w1.heap.size) w1.heap.size 1 (.slice (some ⟨g,0,none⟩) (len9+1) c9) (.inr rfl))) (show Kept w (w5.setCell ⟨w1.heap.size,1,none⟩ (.slice (some ⟨g,0,none⟩) (len9+1) c9)) from K5.out.setCell (p:=⟨w1.heap.size,1,none⟩) (by have:=Vl.out;have:=Vf.out;show w.heap.size≤w1.heap.size;omega) _);refine Ky.out _ _ (HS.out _ UM.out) (fun _=>?_);clear Ky K9 q1 f1;try simp only[nP]
         refine wpAnyH_done (by kernel_rfl) ?_ _;obtain⟨y0,y1,y2⟩:=Ue.out.at3;obtain⟨z0,z1,z2⟩:=VJ.out.at3;have f0:=VJ.out.free 0;have f1:=VJ.out.free 1;have f2:=VJ.out.free 2;have PP:=lH (j4 (vs:=[.slice a1 n1 c1,.slice (some ⟨g,0,none⟩) (len9+1) c9,.slice a3 n3 c3]) VJ.out rfl);go_wp2;obtain⟨WE,hWE⟩:=eX ((w5.setCell ⟨w1.heap.size,1,none⟩ (.slice (some ⟨g,0,none⟩) (len9+1) c9)).setCells (w.heap.size+2) 0 [.slice a1 n1 c1,.slice (some ⟨g,0,none⟩) (len9+1) c9,.slice a3 n3 c3])
         have hWE2:((((w5.setCell ⟨w1.heap.size,1,none⟩ (.slice (some ⟨g,0,none⟩) (len9+1) c9)).setCell ⟨(w.heap.size+2),0,none⟩ (.slice a1 n1 c1)).setCell ⟨(w.heap.size+2),1,none⟩ (.slice (some ⟨g,0,none⟩) (len9+1) c9)).setCell ⟨(w.heap.size+2),2,none⟩ (.slice a3 n3 c3))=WE:=hWE;rw[hWE] at PP;try rw[hWE2]
         have GE:=lH (show jg (fun b=>b<Z.heap.size∨b=w1.heap.size) (w5.setCell ⟨w1.heap.size,1,none⟩ (.slice (some ⟨g,0,none⟩) (len9+1) c9)) WE by rw[←hWE];exact jg.cells (S:=fun b=>b<Z.heap.size∨b=w1.heap.size) _ (.inl (by have:=Vf.out;omega)) _ _ _);clear hWE hWE2;obtain⟨PCC,hsz,hbl,hkp⟩:=PP.out;refine bodyPost_ret (by simp[results,Tryz.results264,go_sem,PCC.at_ 0 _ rfl,PCC.at_ 1 _ rfl,PCC.at_ 2 _ rfl];try rfl) rfl ?_;have Vo:=(UN.out.step GE.out).less (B':=w.heap.size) (S':=fun b=>b<w.heap.size) Vc.out.size (fun b hb=>.inl (Nat.lt_of_lt_of_le hb Vc.out.size));rw[show l9.take (placeN p0 l9)++⟨p0,p1,p2,q1,q2,q3,q4,p3,p4,p5,p6⟩::l9.drop (placeN p0 l9)=JB ⟨p0,p1,p2,q1,q2,q3,q4,p3,p4,p5,p6⟩ (j0 p0 pl) by rw[←Tk.out];exact Z3 (p:=⟨p0,p1,p2,q1,q2,q3,q4,p3,p4,p5,p6⟩) (l:=l9)] at Vo;exact⟨_,_,_,_,_,_,_,_,_,rfl,Vo,hkp _ _ (by omega) K6.out⟩
       · skip;go_simp;obtain⟨J3,HV,Vv⟩:=lH3 (J2.out.trans (ja w3 (.cells #[.string p0,.string p1,.int .i64 p2,.slice x1 y1 z1,.slice x2 y2 z2,.slice x3 y3 z3,.slice x4 y4 z4,.string p3,.int .i64 p4,.string p5,.bool p6] 52))) (show (w3.alloc (.cells #[.string p0,.string p1,.int .i64 p2,.slice x1 y1 z1,.slice x2 y2 z2,.slice x3 y3 z3,.slice x4 y4 z4,.string p3,.int .i64 p4,.string p5,.bool p6] 52)).heap[w3.heap.size]?=some (.cells #[.string p0,.string p1,.int .i64 p2,.slice x1 y1 z1,.slice x2 y2 z2,.slice x3 y3 z3,.slice x4 y4 z4,.string p3,.int .i64 p4,.string p5,.bool p6] 52) from World.alloc_heap_new w3 _) (Vv.out.step (jg.of (ja w3 (.cells #[.string p0,.string p1,.int .i64 p2,.slice x1 y1 z1,.slice x2 y2 z2,.slice x3 y3 z3,.slice x4 y4 z4,.string p3,.int .i64 p4,.string p5,.bool p6] 52))));refine Ky.out _ _ (HS.out _ (VM.out _ J3.out)) (fun _=>?_);clear Ky K9;try simp only[nP]
         obtain⟨w4,hw4⟩:=eX (w3.alloc (.cells #[.string p0,.string p1,.int .i64 p2,.slice x1 y1 z1,.slice x2 y2 z2,.slice x3 y3 z3,.slice x4 y4 z4,.string p3,.int .i64 p4,.string p5,.bool p6] 52))
         rw[hw4] at J3 HV Vv ⊢;clear hw4;refine rd1 1 fun K9 Ky=>?_;have yq:w4.cell? ⟨w1.heap.size,1,none⟩=some (.slice a2 len9 c2):=(HW.out.kept J3.out).at_ 1 _ rfl;go_simp;refine Ky.out _ _ (HS.out _ (VM.out _ J3.out)) (fun _=>?_);clear Ky K9 yq;try simp only[nP]
         refine rd1 10 fun K9 Ky=>?_;go_simp;refine(Ye (HC.out.kept J3.out) (⟨p0,p1,p2,q1,q2,q3,q4,p3,p4,p5,p6⟩,(x1,y1,z1),(x2,y2,z2),(x3,y3,z3),(x4,y4,z4)) (i:=placeN p0 l9) (by have:=Xm p0 l9;rw[UW.out] at this;exact this) U6.out (by have:=J3.out.size;have:=Vl.out;omega) (fun b hb=>by have:=J3.out.size;have:=Vl.out;rcases hb with hb | hb<;>omega) HV.out (fun e=>by have h1:=((HC.out.kept J2.out).lt _ e).2;omega) Vv.out).mono ?_;rintro e5 w5 ⟨g,c9,rfl,hc5,hg5⟩;obtain⟨Uw,VS,VQ,V3,K5⟩:=lH5 hc5 (((HW.out.kept J3.out)).block (hg5.block _ (by have:=J3.out.size;have:=Vl.out;omega) (fun e=>HC.out.sep _ e (.inr rfl)))) ((HQ.out.kept J3.out).block (hg5.block _ (by have:=J3.out.size;have:=Vl.out;have:=Vf.out;omega) (fun e=>HC.out.sep _ e (.inl (by have:=Vf.out;omega))))) ((VM.out _ J3.out).block (hg5.block _ (by have:=J3.out.size;have:=Vl.out;have:=Vf.out;omega) (fun e=>HC.out.sep _ e (.inl (by have:=Vf.out;omega))))) (show Kept w w5 from Below.trans (Vc.out.trans (K.out.trans J3.out)) (hg5.at_below (B:=w.heap.size) (fun q e=>by have:=(HC.out.lt q e).1;have:=Vf.out;omega) (Vc.out.trans (K.out.trans J3.out)).size));clear hc5 hg5;refine Ky.out _ _ (HS.out _ V3.out) (fun _=>?_);clear Ky K9;try simp only[nP]
         refine tkI 11 ?_;try simp only[nP]
         have q1:=VS.out.at_ 1 _ rfl;have f1:=VS.out.free 1;refine rd1 12 fun K9 Ky=>?_;go_simp;obtain⟨UM,VJ,Ue,UN,K6⟩:=lH5 (V3.out.other (p:=w1.heap.size) (j:=1) (u:=.slice (some ⟨g,0,none⟩) (len9+1) c9) (by have:=Vl.out;have:=Vf.out;omega)) (VQ.out.other (p:=w1.heap.size) (j:=1) (u:=.slice (some ⟨g,0,none⟩) (len9+1) c9) (by have:=Vl.out;have:=Vf.out;omega)) (show je w1.heap.size [.slice a1 n1 c1,.slice (some ⟨g,0,none⟩) (len9+1) c9,.slice a3 n3 c3] (w5.setCell ⟨w1.heap.size,1,none⟩ (.slice (some ⟨g,0,none⟩) (len9+1) c9)) from VS.out.set (j:=1) (by simp)) (Uw.out.step (jg.cell (S:=fun b=>b<Z.heap.size∨b=w1.heap.size) w1.heap.size 1 (.slice (some ⟨g,0,none⟩) (len9+1) c9) (.inr rfl))) (show Kept w (w5.setCell ⟨w1.heap.size,1,none⟩ (.slice (some ⟨g,0,none⟩) (len9+1) c9)) from K5.out.setCell (p:=⟨w1.heap.size,1,none⟩) (by have:=Vl.out;have:=Vf.out;show w.heap.size≤w1.heap.size;omega) _);refine Ky.out _ _ (HS.out _ UM.out) (fun _=>?_);clear Ky K9 q1 f1;try simp only[nP]
         refine wpAnyH_done (by kernel_rfl) ?_ _;obtain⟨y0,y1,y2⟩:=Ue.out.at3;obtain⟨z0,z1,z2⟩:=VJ.out.at3;have f0:=VJ.out.free 0;have f1:=VJ.out.free 1;have f2:=VJ.out.free 2;have PP:=lH (j4 (vs:=[.slice a1 n1 c1,.slice (some ⟨g,0,none⟩) (len9+1) c9,.slice a3 n3 c3]) VJ.out rfl);go_wp2;obtain⟨WE,hWE⟩:=eX ((w5.setCell ⟨w1.heap.size,1,none⟩ (.slice (some ⟨g,0,none⟩) (len9+1) c9)).setCells (w.heap.size+2) 0 [.slice a1 n1 c1,.slice (some ⟨g,0,none⟩) (len9+1) c9,.slice a3 n3 c3])
         have hWE2:((((w5.setCell ⟨w1.heap.size,1,none⟩ (.slice (some ⟨g,0,none⟩) (len9+1) c9)).setCell ⟨(w.heap.size+2),0,none⟩ (.slice a1 n1 c1)).setCell ⟨(w.heap.size+2),1,none⟩ (.slice (some ⟨g,0,none⟩) (len9+1) c9)).setCell ⟨(w.heap.size+2),2,none⟩ (.slice a3 n3 c3))=WE:=hWE;rw[hWE] at PP;try rw[hWE2]
         have GE:=lH (show jg (fun b=>b<Z.heap.size∨b=w1.heap.size) (w5.setCell ⟨w1.heap.size,1,none⟩ (.slice (some ⟨g,0,none⟩) (len9+1) c9)) WE by rw[←hWE];exact jg.cells (S:=fun b=>b<Z.heap.size∨b=w1.heap.size) _ (.inl (by have:=Vf.out;omega)) _ _ _);clear hWE hWE2;obtain⟨PCC,hsz,hbl,hkp⟩:=PP.out;refine bodyPost_ret (by simp[results,Tryz.results264,go_sem,PCC.at_ 0 _ rfl,PCC.at_ 1 _ rfl,PCC.at_ 2 _ rfl];try rfl) rfl ?_;have Vo:=(UN.out.step GE.out).less (B':=w.heap.size) (S':=fun b=>b<w.heap.size) Vc.out.size (fun b hb=>.inl (Nat.lt_of_lt_of_le hb Vc.out.size));rw[show l9.take (placeN p0 l9)++⟨p0,p1,p2,q1,q2,q3,q4,p3,p4,p5,p6⟩::l9.drop (placeN p0 l9)=JB ⟨p0,p1,p2,q1,q2,q3,q4,p3,p4,p5,p6⟩ (j0 p0 pl) by rw[←Tk.out];exact Z3 (p:=⟨p0,p1,p2,q1,q2,q3,q4,p3,p4,p5,p6⟩) (l:=l9)] at Vo;exact⟨_,_,_,_,_,_,_,_,_,rfl,Vo,hkp _ _ (by omega) K6.out⟩
theorem jgl {x:ByteArray} {l:List Pd} {k:Nat} {n:Pd} (h:l[k]?=some n):(l.take (k+1)).filter (fun p=>eqS p.node x)=(l.take k).filter (fun p=>eqS p.node x)++(if eqS n.node x=true then [n] else []):=by
 rw[zF h,List.filter_append];congr 1
 rw[List.filter_cons,List.filter_nil]
theorem jjL (a a8 a9:Option Addr) (len cap m8 c8 m9 c9:Nat) (l:List Pd) (x:ByteArray) (w:World) (hr:jC w a len l) (hlow:∀n ∈ l,Jr n) (hlen:len≤100000) :
 Calls Tryz.prog 282 #[.agg #[.slice a8 m8 c8,.slice a len cap,.slice a9 m9 c9],.string x] w fun e w'=>∃v,e=.returned v∧zU w' v (onP x l)∧Kept w w':=by
 have hl:=hr.1;have hm:=hr.2.1;unfold maxLen at hm;obtain⟨i0,hi,hz0,hz1,hz2'⟩:=info_parts XY;obtain⟨Z,hZ⟩:=eX (w.alloc (.cells #[.slice a8 m8 c8,.slice a len cap,.slice a9 m9 c9] 26))
 have hkz:Kept w Z:=by rw[←hZ];exact ja _ _
 have hst:Z.cell? ⟨w.heap.size,1,none⟩=some (.slice a len cap):=(jb w (.slice a8 m8 c8) [.slice a len cap,.slice a9 m9 c9] 26 Z (by rw[hZ];exact Kept.refl _)).at_ 1 _ rfl;obtain⟨HR,HL,Vr,Vc⟩:=lH4 (hr.kept hkz) hl hlow hkz;obtain⟨t,ht⟩:=eX ((x.toList==([]:List UInt8)))
 have Ug:=lH (show zD x=t by rw[ZN];exact ht);clear hr hl hkz hlow
 cases t with
 | true =>
  have HE:=lH (show onP x l=[] by unfold onP;rw[if_pos Ug.out]);go_enter Tryz.func282,Tryz.ntmps282;go_wp2;try rw[hZ]
  go_ret;exact⟨_,rfl,by rw[HE.out];exact⟨none,0,rfl,Nat.le_refl _,by decide,rfl,by decide,.inl rfl⟩,by first | exact Vc.out | (rw[hZ];exact Vc.out)⟩
 | false =>
  have HE:=lH (show onP x l=l.filter (fun p=>eqS p.node x) by unfold onP;rw[if_neg (by rw[Ug.out];decide)]);go_enter Tryz.func282,Tryz.ntmps282;go_wp2;try rw[hZ]
  clear hZ hst ht;go_loopw [5,13] (fun v i wr=>∃k:Nat,k≤len∧i=.int .i64 k∧∃lx:List PX,(lx.map fun z=>z.1)=(l.take k).filter (fun p=>eqS p.node x)∧lx.length≤k∧Deep PodLay0 52 At4 wr Z.heap.size v lx∧Kept Z wr) (fun _ i _=>len-(intOf i).toNat)
  case atStart=>exact⟨0,Nat.zero_le _,rfl,[],rfl,Nat.le_refl _,⟨Own.nil _ _ _,fun z h=>by cases h⟩,Kept.refl _⟩
  case round =>
   obtain⟨k,hk,rfl,lx,hlx,hll,hdp,hK⟩:=hrel;obtain⟨HX,U7,HD,HK⟩:=lH4 hlx hll hdp hK;by_cases hlt:k<len
   · obtain⟨b,off,rfl⟩:=HR.out.form.resolve_left (by omega);obtain⟨n,a1,m1,c1,a2,m2,c2,a3,m3,c3,a4,m4,c4,hn,hd,hb,p0,p1,p2,p3,p4,p5,p6,p7,p8,p9,p10,hat⟩:=(HR.out.kept hK).at_ hlt;have HN:=lH hn;have VD:=lH hat;obtain⟨t,ht⟩:=eX (eqS n.node x)
     have ht':(n.node.toList==x.toList)=t:=ht;have HT:=lH ht;have hkk:(k:Int)<(len:Int):=by omega
     clear hlx hll hdp hK hat hd hn ht
     cases t with
     | false =>
      have Ux:=lH (show (lx.map fun z=>z.1)=(l.take (k+1)).filter (fun p=>eqS p.node x) by rw[jgl HN.out,if_neg (by rw[HT.out];decide),List.append_nil];exact HX.out);go_wp2;go_roundw
      case rel=>exact⟨k+1,by omega,by go_num,lx,Ux.out,by have:=U7.out;omega,HD.out.kept (ja _ _),HK.out.trans (ja _ _)⟩
      case measure=>simp[intOf];omega
     | true =>
      have VH:=lH (show ∀W,Kept wr W→_ from fun W kk=>JX n (.slice a1 m1 c1) (.slice a2 m2 c2) (.slice a3 m3 c3) (.slice a4 m4 c4) W (VD.out.kept kk) (Vr.out n (List.mem_of_getElem? HN.out)));unfold jw at VH;obtain⟨len1,hlen1⟩:=eX (lx.length)
      have Uz:=lH hlen1;rw[hlen1] at U7;clear hlen1;go_wp2_with fail
      refine(VH.out _ (ja _ _)).mono ?_;rintro e w1 ⟨v,rfl,hv,kk⟩;obtain⟨x1,y1,z1,x2,y2,z2,x3,y3,z3,x4,y4,z4,hv9,sp,g1,g2,g3,g4⟩:=hv;have hv9:v=.agg #[.string n.name,.string n.owner,.int .i64 n.prio,.slice x1 y1 z1,.slice x2 y2 z2,.slice x3 y3 z3,.slice x4 y4 z4,.string n.key,.int .i64 n.most,.string n.node,.bool n.hold]:=hv9;subst hv9;have KW:=lH ((ja wr _).trans kk);have hbase:Z.heap.size≤wr.heap.size:=HK.out.size;have Vv:=lH (show Off (fun b=>u5.ownBlock=some b) w1 fun u=>At4 u (n,(x1,y1,z1),(x2,y2,z2),(x3,y3,z3),(x4,y4,z4)) from ji.off (B:=wr.heap.size+1) sp (by rw[World.size_alloc] at g1;exact g1) (by rw[World.size_alloc] at g2;exact g2) (by rw[World.size_alloc] at g3;exact g3) (by rw[World.size_alloc] at g4;exact g4) (fun b hb h=>by have:=(Jy HD.out.own b h).2;omega));have RR:=lH (HD.out.kept KW.out);have Vj:=lH (show w1.ownsRow Z.heap.size 52 11 u5 len1 (jd PodLay0 lx) by have:=RR.out.own.1;rw[Uz.out] at this;exact this);have hs1:wr.heap.size≤w1.heap.size:=KW.out.size;clear kk sp g1 g2 g3 g4;go_wp2_with (at_builtin;refine wpList_append_lies _ rfl _ _ _ rfl Z.heap.size 52 i0 _ 11 184 Tryz.underlying23 hi hz0 hz1 hz2' rfl (by decide) u5 len1 (jd PodLay0 lx) rfl (Vj.out.alloc _) ⟨w1.heap.size,0,none⟩ 1 1 (PodLay0.cs (n,(x1,y1,z1),(x2,y2,z2),(x3,y3,z3),(x4,y4,z4))) rfl rfl (World.news_of_block (cs:=#[.string n.name,.string n.owner,.int .i64 n.prio,.slice x1 y1 z1,.slice x2 y2 z2,.slice x3 y3 z3,.slice x4 y4 z4,.string n.key,.int .i64 n.most,.string n.node,.bool n.hold]) (t:=52) (fr:=(0,0)) (heap_alloc_new w1 _)) (qt _) (by decide) (by unfold maxLen;have:=U7.out;omega) (by have:=U7.out;omega) (by simp;omega) (w1.heap.size+1) (by simp) ?_;intro gg cap1 w2 hown1 hgrow hat hlt1)
      have GG:=lH (jg.grown (S:=fun b=>u5.ownBlock=some b) hgrow fun q e=>e);have hnn:∀q,(Value.slice (some ⟨gg,0,none⟩) (len1+1) cap1).ownBlock=some q→u5.ownBlock=some q∨(w1.alloc (.cells #[.string n.name,.string n.owner,.int .i64 n.prio,.slice x1 y1 z1,.slice x2 y2 z2,.slice x3 y3 z3,.slice x4 y4 z4,.string n.key,.int .i64 n.most,.string n.node,.bool n.hold] 52)).heap.size≤q:=fun q hq=>by
       obtain rfl:gg=q:=Option.some.inj hq;exact hat.imp id fun e=>by rw[World.size_alloc];omega
      have Nw:=lH (show Deep PodLay0 52 At4 w2 Z.heap.size (.slice (some ⟨gg,0,none⟩) (len1+1) cap1) (lx++[(n,(x1,y1,z1),(x2,y2,z2),(x3,y3,z3),(x4,y4,z4))]) from⟨Own.snoc hown1 (by rw[Uz.out]) HD.out.own.2 trivial,fun z hz=>by
       rcases List.mem_append.1 hz with hz | hz
       · exact(((RR.out.off z hz).step (jg.of (ja w1 (.cells #[.string n.name,.string n.owner,.int .i64 n.prio,.slice x1 y1 z1,.slice x2 y2 z2,.slice x3 y3 z3,.slice x4 y4 z4,.string n.key,.int .i64 n.most,.string n.node,.bool n.hold] 52)))).new GG.out fun b e=>hnn b e)
       · obtain rfl:=List.mem_singleton.1 hz;exact((Vv.out.step (jg.of (ja w1 (.cells #[.string n.name,.string n.owner,.int .i64 n.prio,.slice x1 y1 z1,.slice x2 y2 z2,.slice x3 y3 z3,.slice x4 y4 z4,.string n.key,.int .i64 n.most,.string n.node,.bool n.hold] 52)))).new GG.out fun b e=>hnn b e)⟩)
      have Nx:=lH (show Kept Z w2 from Below.mono (show Below Z.heap.size Z w2 from Below.trans (HK.out.trans (KW.out.trans (ja w1 (.cells #[.string n.name,.string n.owner,.int .i64 n.prio,.slice x1 y1 z1,.slice x2 y2 z2,.slice x3 y3 z3,.slice x4 y4 z4,.string n.key,.int .i64 n.most,.string n.node,.bool n.hold] 52)))) (GG.out.at_below (B:=Z.heap.size) (fun q e=>(Jy HD.out.own q e).1) (by have h1:=HK.out.size;rw[World.size_alloc];omega))) (Nat.le_refl _));have Ux:=lH (show ((lx++[(n,(x1,y1,z1),(x2,y2,z2),(x3,y3,z3),(x4,y4,z4))]).map fun z=>z.1)=(l.take (k+1)).filter (fun p=>eqS p.node x) by rw[jgl HN.out,if_pos HT.out,List.map_append,HX.out];rfl);clear hown1 hgrow hat hlt1 hnn hs1 hbase;go_wp2;go_roundw
      case rel=>exact⟨k+1,by omega,by go_num,_,Ux.out,by rw[List.length_append,Uz.out];have:=U7.out;simp;omega,Nw.out,Nx.out⟩
      case measure=>simp[intOf];omega
   · have Ny:=lH (show l.take k=l by rw[List.take_of_length_le (by rw[HL.out];omega)]);have V7:=lH (show zU wr u5 (onP x l) by have:=jb7 HD.out;rw[HX.out,Ny.out,←HE.out] at this;exact this);clear hlx hll hdp hK;go_wp2;go_ret;exact⟨_,rfl,V7.out,Vc.out.trans HK.out⟩
def Ym (x:ByteArray) (c:Int):Nod:=⟨x,[(⟨#[99,112,117]⟩,c)],[],[],false⟩
def jcw (x:ByteArray) (c:Int) (y:ByteArray):Pd:=⟨x,⟨#[]⟩,0,[(⟨#[99,112,117]⟩,c)],[],[],[],⟨#[]⟩,0,y,false⟩
theorem jcf (w:World) (c:Int) (h:-9223372036854775808≤c∧c≤9223372036854775807) (W:World) (k:Kept (w.alloc (.cells #[.string ⟨#[99,112,117]⟩,.int .i64 c] 114)) W):Vec.Reads W (.slice (some ⟨w.heap.size,0,none⟩) 1 1) [(⟨#[99,112,117]⟩,c)]:=by
 have cc:=jb w (.string ⟨#[99,112,117]⟩) [.int .i64 c] 114 W k;refine⟨_,1,rfl,(by decide:(1:Nat)≤1),(by decide:(1:Nat)≤maxLen),rfl,(by decide:(1:Nat)≤maxLen),fun i hi=>?_,.inr ⟨w.heap.size,0,rfl,cc.lt,fun i hi=>?_⟩⟩
 · obtain rfl:i=0:=by simpa using hi
   exact⟨(by decide:(3:Nat)≤maxLen),h.1,h.2⟩
 · obtain rfl:i=0:=by simpa using hi
   exact⟨cc.at_ 0 _ rfl,cc.at_ 1 _ rfl⟩
theorem jj2 (x:ByteArray) (c:Int) (hc:-9223372036854775808≤c∧c≤9223372036854775807) (hx:x.size≤maxLen) (w:World) :
 Calls Tryz.prog 23 #[.string x,.int .i64 c] w fun e w'=>∃b1 n1 d1,e=.returned (.agg #[.string x,.slice b1 n1 d1,.slice none 0 0,.slice none 0 0,.bool false])∧zk w' (.slice b1 n1 d1) (.slice none 0 0) (.slice none 0 0) (Ym x c)∧Kept w w'∧∀b o z,b1=some ⟨b,o,z⟩→w.heap.size<b:=by
 have cc:=jb w (.string ⟨#[]⟩) [.slice none 0 0,.slice none 0 0,.slice none 0 0,.bool false] 78 _ (Kept.refl _);obtain⟨W0,hW0⟩:=eX (w.alloc (.cells #[.string ⟨#[]⟩,.slice none 0 0,.slice none 0 0,.slice none 0 0,.bool false] 78))
 have hs:W0.heap.size=w.heap.size+1:=by rw[←hW0];simp
 rw[hW0] at cc;obtain⟨W1,hW1⟩:=eX (W0.alloc (.cells #[.string ⟨#[99,112,117]⟩,.int .i64 c] 114))
 have HR:=lH (jcf W0 c hc W1 (by rw[hW1];exact Kept.refl _));rw[hs] at HR;have c1:=cc.kept (W':=W1) (by rw[←hW1];exact ja _ _);have KW:=lH (show Kept w W1 by rw[←hW1,←hW0];exact jm _ _ _);have y0:=c1.at_ 0 _ rfl;have y1:=c1.at_ 1 _ rfl;have y2:=c1.at_ 2 _ rfl;have y3:=c1.at_ 3 _ rfl;have y4:=c1.at_ 4 _ rfl;have f0:=c1.free 0;have f1:=c1.free 1;have f2:=c1.free 2;have f3:=c1.free 3;have f4:=c1.free 4;have P:=lH (j4 (vs:=[.string x,.slice (some ⟨w.heap.size+1,0,none⟩) 1 1,.slice none 0 0,.slice none 0 0,.bool false]) c1 rfl);clear c1 cc;go_enter Tryz.func23,Tryz.ntmps23;go_wp2;try rw[hW0]
 try rw[hW1]
 obtain⟨WE,hWE⟩:=eX (W1.setCells w.heap.size 0 [.string x,.slice (some ⟨w.heap.size+1,0,none⟩) 1 1,.slice none 0 0,.slice none 0 0,.bool false])
 have hWE2:(((((W1.setCell ⟨w.heap.size,0,none⟩ (.string x)).setCell ⟨w.heap.size,1,none⟩ (.slice (some ⟨w.heap.size+1,0,none⟩) 1 1)).setCell ⟨w.heap.size,2,none⟩ (.slice none 0 0)).setCell ⟨w.heap.size,3,none⟩ (.slice none 0 0)).setCell ⟨w.heap.size,4,none⟩ (.bool false))=WE:=hWE;rw[hWE] at P;try rw[hWE2]
 clear hWE hWE2;obtain⟨PC,hsz,hbl,hkp⟩:=P.out;refine bodyPost_ret (by simp[results,Tryz.results23,go_sem,PC.at_ 0 _ rfl,PC.at_ 1 _ rfl,PC.at_ 2 _ rfl,PC.at_ 3 _ rfl,PC.at_ 4 _ rfl];try rfl) rfl ?_;exact⟨_,_,_,rfl,⟨hx,(HR.out.far hsz (fun b o s e=>hbl b (by cases e;omega))),Reads.nil _,Reads.nil _⟩,hkp _ _ (Nat.le_refl _) KW.out,fun b o z e=>by cases e;omega⟩
theorem Xt (x:ByteArray) (c:Int) (hc:-9223372036854775808≤c∧c≤9223372036854775807) (hx:x.size≤maxLen) (w:World) :
 Calls Tryz.prog 23 #[.string x,.int .i64 c] w fun e w'=>∃b1 n1 d1,e=.returned (.agg #[.string x,.slice b1 n1 d1,.slice none 0 0,.slice none 0 0,.bool false])∧zk w' (.slice b1 n1 d1) (.slice none 0 0) (.slice none 0 0) (Ym x c)∧Kept w w' :=
 (jj2 x c hc hx w).mono fun e w' ⟨b,n,d,h1,h2,h3,_⟩=>⟨b,n,d,h1,h2,h3⟩
theorem jke (x:ByteArray) (c:Int) (y:ByteArray) (hc:-9223372036854775808≤c∧c≤9223372036854775807) (hx:x.size≤maxLen) (hy:y.size≤maxLen) (w:World) :
 Calls Tryz.prog 22 #[.string x,.int .i64 c,.string y] w fun e w'=>∃b1 n1 d1,e=.returned (.agg #[.string x,.string ⟨#[]⟩,.int .i64 0,.slice b1 n1 d1,.slice none 0 0,.slice none 0 0,.slice none 0 0,.string ⟨#[]⟩,.int .i64 0,.string y,.bool false])∧ji w' (.slice b1 n1 d1) (.slice none 0 0) (.slice none 0 0) (.slice none 0 0) (jcw x c y)∧Kept w w'∧∀b o z,b1=some ⟨b,o,z⟩→w.heap.size<b:=by
 have cc:=jb w (.string ⟨#[]⟩) [.string ⟨#[]⟩,.int .i64 0,.slice none 0 0,.slice none 0 0,.slice none 0 0,.slice none 0 0,.string ⟨#[]⟩,.int .i64 0,.string ⟨#[]⟩,.bool false] 52 _ (Kept.refl _);obtain⟨W0,hW0⟩:=eX (w.alloc (.cells #[.string ⟨#[]⟩,.string ⟨#[]⟩,.int .i64 0,.slice none 0 0,.slice none 0 0,.slice none 0 0,.slice none 0 0,.string ⟨#[]⟩,.int .i64 0,.string ⟨#[]⟩,.bool false] 52))
 have hs:W0.heap.size=w.heap.size+1:=by rw[←hW0];simp
 rw[hW0] at cc;obtain⟨W1,hW1⟩:=eX (W0.alloc (.cells #[.string ⟨#[99,112,117]⟩,.int .i64 c] 114))
 have HR:=lH (jcf W0 c hc W1 (by rw[hW1];exact Kept.refl _));rw[hs] at HR;have c1:=cc.kept (W':=W1) (by rw[←hW1];exact ja _ _);have KW:=lH (show Kept w W1 by rw[←hW1,←hW0];exact jm _ _ _);have y0:=c1.at_ 0 _ rfl;have y1:=c1.at_ 1 _ rfl;have y2:=c1.at_ 2 _ rfl;have y3:=c1.at_ 3 _ rfl;have y4:=c1.at_ 4 _ rfl;have y5:=c1.at_ 5 _ rfl;have y6:=c1.at_ 6 _ rfl;have y7:=c1.at_ 7 _ rfl;have y8:=c1.at_ 8 _ rfl;have y9:=c1.at_ 9 _ rfl;have y10:=c1.at_ 10 _ rfl;have f0:=c1.free 0;have f1:=c1.free 1;have f2:=c1.free 2;have f3:=c1.free 3;have f4:=c1.free 4;have f5:=c1.free 5;have f6:=c1.free 6;have f7:=c1.free 7;have f8:=c1.free 8;have f9:=c1.free 9;have f10:=c1.free 10;have P:=lH (j4 (vs:=[.string x,.string ⟨#[]⟩,.int .i64 0,.slice (some ⟨w.heap.size+1,0,none⟩) 1 1,.slice none 0 0,.slice none 0 0,.slice none 0 0,.string ⟨#[]⟩,.int .i64 0,.string y,.bool false]) c1 rfl);clear c1 cc;go_enter Tryz.func22,Tryz.ntmps22;go_wp2;try rw[hW0]
 try rw[hW1]
 obtain⟨WE,hWE⟩:=eX (W1.setCells w.heap.size 0 [.string x,.string ⟨#[]⟩,.int .i64 0,.slice (some ⟨w.heap.size+1,0,none⟩) 1 1,.slice none 0 0,.slice none 0 0,.slice none 0 0,.string ⟨#[]⟩,.int .i64 0,.string y,.bool false])
 have hWE2:(((((((((((W1.setCell ⟨w.heap.size,0,none⟩ (.string x)).setCell ⟨w.heap.size,1,none⟩ (.string ⟨#[]⟩)).setCell ⟨w.heap.size,2,none⟩ (.int .i64 0)).setCell ⟨w.heap.size,3,none⟩ (.slice (some ⟨w.heap.size+1,0,none⟩) 1 1)).setCell ⟨w.heap.size,4,none⟩ (.slice none 0 0)).setCell ⟨w.heap.size,5,none⟩ (.slice none 0 0)).setCell ⟨w.heap.size,6,none⟩ (.slice none 0 0)).setCell ⟨w.heap.size,7,none⟩ (.string ⟨#[]⟩)).setCell ⟨w.heap.size,8,none⟩ (.int .i64 0)).setCell ⟨w.heap.size,9,none⟩ (.string y)).setCell ⟨w.heap.size,10,none⟩ (.bool false))=WE:=hWE;rw[hWE] at P;try rw[hWE2]
 clear hWE hWE2;obtain⟨PC,hsz,hbl,hkp⟩:=P.out;refine bodyPost_ret (by simp[results,Tryz.results22,go_sem,PC.at_ 0 _ rfl,PC.at_ 1 _ rfl,PC.at_ 2 _ rfl,PC.at_ 3 _ rfl,PC.at_ 4 _ rfl,PC.at_ 5 _ rfl,PC.at_ 6 _ rfl,PC.at_ 7 _ rfl,PC.at_ 8 _ rfl,PC.at_ 9 _ rfl,PC.at_ 10 _ rfl];try rfl) rfl ?_;exact⟨_,_,_,rfl,⟨hx,(by decide:(0:Nat)≤maxLen),(by decide:(0:Nat)≤maxLen),hy,(by decide:(-9223372036854775808:Int)≤0∧(0:Int)≤9223372036854775807),(by decide:(-9223372036854775808:Int)≤0∧(0:Int)≤9223372036854775807),(HR.out.far hsz (fun b o s e=>hbl b (by cases e;omega))),Reads.nil _,Reads.nil _,Reads.nil _⟩,hkp _ _ (Nat.le_refl _) KW.out,fun b o z e=>by cases e;omega⟩
theorem jT {X:Type} {L:Lay X} {lx:List X} {q:Nat} {v:Value} {vs:List Value} {W:World} (hc:jd L lx=v::vs) (c:je q (v::vs) W) (hf:∀x ∈ lx,L.fine x) (hm:lx.length≤maxLen):jn L W (some ⟨q,0,none⟩) lx.length lx :=
 ⟨rfl,hm,hf,.inr ⟨q,0,rfl,c.lt,fun i x j u hi hj=>by
  have:=ZM L lx i x j u hi hj;rw[hc] at this;rw[Nat.zero_add];exact c.at_ _ u this⟩⟩
theorem zI {w:World} {a:Option Addr} {len:Nat} {lx:List NX} (h:jn zp w a len lx) (hf:∀z ∈ lx,At3 w z):jt w a len (lx.map fun z=>z.1):=by
 obtain⟨g0,g1,g2,g3⟩:=h;refine⟨by rw[List.length_map];exact g0,g1,g3.imp id ?_⟩;rintro ⟨b,off,rfl,hb,hc⟩;refine⟨b,off,rfl,hb,fun i n hi=>?_⟩;rw[List.getElem?_map] at hi;obtain⟨z,hz,rfl⟩:=Option.map_eq_some_iff.1 hi;exact⟨_,_,_,_,_,_,_,_,_,hc i z 0 _ hz rfl,hc i z 1 _ hz rfl,hc i z 2 _ hz rfl,hc i z 3 _ hz rfl,hc i z 4 _ hz rfl,hf z (List.mem_of_getElem? hz)⟩
theorem JP {w:World} {a:Option Addr} {len:Nat} {lx:List PX} (h:jn PodLay0 w a len lx) (hf:∀z ∈ lx,At4 w z):jC w a len (lx.map fun z=>z.1):=by
 obtain⟨g0,g1,g2,g3⟩:=h;refine⟨by rw[List.length_map];exact g0,g1,g3.imp id ?_⟩;rintro ⟨b,off,rfl,hb,hc⟩;refine⟨b,off,rfl,hb,fun i n hi=>?_⟩;rw[List.getElem?_map] at hi;obtain⟨z,hz,rfl⟩:=Option.map_eq_some_iff.1 hi;exact⟨_,_,_,_,hc i z 0 _ hz rfl,hc i z 1 _ hz rfl,hc i z 2 _ hz rfl,hc i z 3 _ hz rfl,hc i z 4 _ hz rfl,hc i z 5 _ hz rfl,hc i z 6 _ hz rfl,hc i z 7 _ hz rfl,hc i z 8 _ hz rfl,hc i z 9 _ hz rfl,hc i z 10 _ hz rfl,hf z (List.mem_of_getElem? hz)⟩
theorem zG (w:World):zB w none 0 []:=⟨rfl,by decide,.inl rfl⟩
theorem jbl (x:ByteArray) (c:Int) (y:ByteArray) (hc:-9223372036854775808≤c∧c≤9223372036854775807) (hx:x.size≤maxLen) (hy:y.size≤maxLen) (w:World) :
 Calls Tryz.prog 22 #[.string x,.int .i64 c,.string y] w fun e w'=>∃b1 n1 d1,e=.returned (.agg #[.string x,.string ⟨#[]⟩,.int .i64 0,.slice b1 n1 d1,.slice none 0 0,.slice none 0 0,.slice none 0 0,.string ⟨#[]⟩,.int .i64 0,.string y,.bool false])∧ji w' (.slice b1 n1 d1) (.slice none 0 0) (.slice none 0 0) (.slice none 0 0) (jcw x c y)∧Kept w w' :=
 (jke x c y hc hx hy w).mono fun e w' ⟨b,n,d,h1,h2,h3,_⟩=>⟨b,n,d,h1,h2,h3⟩
def qE (W:World) (q:Nat):Prop:=∀i u,W.cell? ⟨q,i,none⟩=some u→∃a n c,u=.slice a n c
theorem JA {W:World} {q:Nat} {a1 a2 a3:Option Addr} {m1 c1 m2 c2 m3 c3:Nat} {T:TypeId} {fr:Nat×Nat} (hh:W.heap[q]?=some (.cells #[.slice a1 m1 c1,.slice a2 m2 c2,.slice a3 m3 c3] T fr)):qE W q:=by
 intro i u h;rw[Lib.cell_of_heap hh] at h
 match i,h with
 | 0,h=>cases h;exact⟨_,_,_,rfl⟩
 | 1,h=>cases h;exact⟨_,_,_,rfl⟩
 | 2,h=>cases h;exact⟨_,_,_,rfl⟩
 | i+3,h=>simp at h
theorem qE.noRow {W:World} {q:Nat} (h:qE W q):jcc W q:=fun o x u h1 _=>by
 obtain⟨_,_,_,e⟩:=h _ _ h1
 cases e
theorem qk {α:Type} {L:Lay α} {w w':World} {a:Option Addr} {len:Nat} {l:List α} {N:Nat} (hL:∀x,∃u,(L.cs x)[0]?=some u∧∀a n c,u≠.slice a n c) (h:jn L w a len l) (hs:w'.heap.size=w.heap.size) (hb:∀b,b≠N→w'.heap[b]?=w.heap[b]?) (hn:qE w N):jn L w' a len l:=by
 obtain⟨h3,h4,h5,h6⟩:=h;refine⟨h3,h4,h5,?_⟩;rcases h6 with h6 | ⟨b,off,rfl,hlt,hc⟩
 · exact .inl h6
 · cases l with
   | nil=>exact .inl h3.symm
   | cons x t =>
    have hne:b≠N:=by
     rintro rfl;obtain⟨u,g0,g1⟩:=hL x;obtain⟨_,_,_,e⟩:=hn _ _ (hc 0 x 0 _ rfl g0);exact g1 _ _ _ e
    exact .inr ⟨b,off,rfl,by rw[hs];exact hlt,fun i x j u hi hj=>(World.cell?_of_block (a:=⟨b,off+i*L.m+j,none⟩) (hb b hne)).trans (hc i x j u hi hj)⟩
theorem YM {α:Type} {L:Lay α} {w w':World} {v:Value} {l:List α} {N:Nat} (hL:∀x,∃u,(L.cs x)[0]?=some u∧∀a n c,u≠.slice a n c) (h:Reads L w v l) (hs:w'.heap.size=w.heap.size) (hb:∀b,b≠N→w'.heap[b]?=w.heap[b]?) (hn:qE w N):Reads L w' v l:=by
 obtain⟨a,cap,rfl,h1,h2,h3⟩:=h;exact⟨a,cap,rfl,h1,h2,qk hL h3 hs hb hn⟩
theorem jmw (x:ByteArray×ByteArray):∃u,(jy.cs x)[0]?=some u∧∀a n c,u≠.slice a n c:=⟨_,rfl,fun _ _ _ e=>by cases e⟩
theorem jmF (x:NT):∃u,(jz.cs x)[0]?=some u∧∀a n c,u≠.slice a n c:=⟨_,rfl,fun _ _ _ e=>by cases e⟩
theorem jkX (x:Int×ByteArray×ByteArray):∃u,(jR.cs x)[0]?=some u∧∀a n c,u≠.slice a n c:=⟨_,rfl,fun _ _ _ e=>by cases e⟩
theorem jmz (x:NX):∃u,(zp.cs x)[0]?=some u∧∀a n c,u≠.slice a n c:=⟨_,rfl,fun _ _ _ e=>by cases e⟩
theorem jmi (x:PX):∃u,(PodLay0.cs x)[0]?=some u∧∀a n c,u≠.slice a n c:=⟨_,rfl,fun _ _ _ e=>by cases e⟩
theorem jmO (x:BX):∃u,(j9.cs x)[0]?=some u∧∀a n c,u≠.slice a n c:=⟨_,rfl,fun _ _ _ e=>by cases e⟩
theorem jj5 {w:World} {a:Option Addr} {len:Nat} {lx:List BX} (h:jn j9 w a len lx) (hf:∀z ∈ lx,At1 w z):zB w a len (lx.map fun z=>z.1):=by
 obtain⟨g0,g1,g2,g3⟩:=h;refine⟨by rw[List.length_map];exact g0,g1,g3.imp id ?_⟩;rintro ⟨b,off,rfl,hb,hc⟩;refine⟨b,off,rfl,hb,fun i n hi=>?_⟩;rw[List.getElem?_map] at hi;obtain⟨z,hz,rfl⟩:=Option.map_eq_some_iff.1 hi;exact⟨_,hc i z 0 _ hz rfl,hc i z 1 _ hz rfl,hc i z 2 _ hz rfl,hf z (List.mem_of_getElem? hz)⟩
section
variable {w w':World} {N:Nat} (hs:w'.heap.size=w.heap.size) (hb:∀b,b≠N→w'.heap[b]?=w.heap[b]?) (hn:qE w N)
include hs hb hn
theorem jaY {v:Value} {l:List Nod} (h:Jh w v l):Jh w' v l:=by
 obtain⟨a,cap,rfl,h1,h2,h3⟩:=h;obtain⟨lx,hm,hr,hat⟩:=jgD h3;exact⟨a,cap,rfl,h1,h2,by rw[←hm];exact zI (by rw[hm];exact qk jmz hr hs hb hn) fun z hz=>qU (hat z hz) hs hb hn.noRow⟩
theorem jb9 {v:Value} {l:List Pd} (h:zU w v l):zU w' v l:=by
 obtain⟨a,cap,rfl,h1,h2,h3⟩:=h;obtain⟨lx,hm,hr,hat⟩:=jgc h3;exact⟨a,cap,rfl,h1,h2,by
  rw[←hm];exact JP (by rw[hm];exact qk jmi hr hs hb hn) fun z hz=>by
   have g:=hat z hz;exact⟨g.name,g.owner,g.key,g.node,g.prio,g.most,jdR g.need hs hb hn.noRow,YM jmw g.labels hs hb hn,YM jkX g.sel hs hb hn,YM jmF g.tols hs hb hn⟩⟩
theorem jbR {v:Value} {l:List Bd} (h:JL w v l):JL w' v l:=by
 obtain⟨a,cap,rfl,h1,h2,h3⟩:=h;obtain⟨lx,hm,hr,hat⟩:=jgC h3;exact⟨a,cap,rfl,h1,h2,by
  rw[←hm];exact jj5 (by rw[hm];exact qk jmO hr hs hb hn) fun z hz=>by
   have g:=hat z hz;exact⟨g.name,g.floor,YM jkX g.sel hs hb hn⟩⟩
theorem zH {v:Value} {s:Clu} (h:jB w v s):jB w' v s:=by
 obtain⟨v1,v2,v3,e,g⟩:=h;exact⟨v1,v2,v3,e,jaY hs hb hn g.nodes,jb9 hs hb hn g.pods,jbR hs hb hn g.buds⟩
end
end Go.Proofs.YtibepooajeakfaaGreat
namespace Go.Proofs.YtibepooajeakfaaGreat
open Go.RowKit
theorem jmM {v:Value} {s:Clu} {w:World} (h:jB w v s) (hl:jA s) (e1:s.nodes.length≤1000) (e2:s.pods.length≤1000) (e3:s.buds.length≤1000):Calls Tryz.prog 8 #[v] w fun e w'=>∃v,e=.returned v∧jB w' v s∧Kept w w':=by
 obtain⟨v1,v2,v3,rfl,⟨a,cap,rfl,l1,m1,h1⟩,⟨b,cp,rfl,l2,m2,h2⟩,⟨d,cb,rfl,l3,m3,h3⟩⟩:=h;obtain⟨nl,pl,bl⟩:=s;dsimp only at *;obtain⟨len,hlen⟩:=eX (nl.length)
 obtain⟨m,hm⟩:=eX (pl.length)
 obtain⟨n,hn⟩:=eX (bl.length)
 rw[hlen] at h1 l1;rw[hm] at h2 l2;rw[hn] at h3 l3;try rw[hlen]
 try rw[hm]
 try rw[hn]
 obtain⟨Z,hZ⟩:=eX ((w.alloc (.cells #[.slice a len cap,.slice b m cp,.slice d n cb] 26)).alloc (.cells #[.slice none 0 0,.slice none 0 0,.slice none 0 0] 33))
 have hkz:Kept w Z:=by rw[←hZ];exact jm _ _ _
 have cc:=jb w (.slice a len cap) [.slice b m cp,.slice d n cb] 26 Z (by rw[←hZ];exact ja _ _);have HH:=lH (show je (w.heap.size+1) [.slice none 0 0,.slice none 0 0,.slice none 0 0] Z by
  have dd:=jb (w.alloc (.cells #[.slice a len cap,.slice b m cp,.slice d n cb] 26)) (.slice none 0 0) [.slice none 0 0,.slice none 0 0] 33 Z (by rw[hZ];exact Kept.refl _);rw[World.size_alloc] at dd;exact dd)
 obtain⟨HN,HP,HB,Vc⟩:=lH4 (fun W (k:Kept Z W)=>jlV (qC l1 m1 (h1.kept (hkz.trans k))) hl.nodes e1) (fun W (k:Kept Z W)=>jlx (jgz l2 m2 (h2.kept (hkz.trans k))) hl.pods e2) (fun W (k:Kept Z W)=>jlI (jco l3 m3 (h3.kept (hkz.trans k))) hl.buds e3) hkz;have Nz:=lH (show ∀W,Kept Z W→qE W (w.heap.size+1) from fun W k=>by
  have hh:Z.heap[w.heap.size+1]?=some (.cells #[.slice none 0 0,.slice none 0 0,.slice none 0 0] 33):=by
   have:=(w.alloc (.cells #[.slice a len cap,.slice b m cp,.slice d n cb] 26)).alloc_heap_new (.cells #[.slice none 0 0,.slice none 0 0,.slice none 0 0] 33);rw[World.size_alloc,hZ] at this;exact this
  exact JA ((k.block _ (Array.getElem?_eq_some_iff.1 hh).1).trans hh))
 have HS:=lH (show ∀W,Kept Z W→W.cell? ⟨w.heap.size,0,none⟩=some (.slice a len cap)∧W.cell? ⟨w.heap.size,1,none⟩=some (.slice b m cp)∧W.cell? ⟨w.heap.size,2,none⟩=some (.slice d n cb) from fun W k=>⟨(cc.kept k).at_ 0 _ rfl,(cc.kept k).at_ 1 _ rfl,(cc.kept k).at_ 2 _ rfl⟩);have U3:=lH (show ∀U W:World,(∀b,b≠w.heap.size+1→U.heap[b]?=W.heap[b]?)→Kept Z W→U.cell? ⟨w.heap.size,0,none⟩=some (.slice a len cap)∧U.cell? ⟨w.heap.size,1,none⟩=some (.slice b m cp)∧U.cell? ⟨w.heap.size,2,none⟩=some (.slice d n cb) from fun U W e k=>by
  have c:=(cc.kept k).block (e _ (by omega));exact⟨c.at_ 0 _ rfl,c.at_ 1 _ rfl,c.at_ 2 _ rfl⟩)
 clear h1 h2 h3 l1 l2 l3 m1 m2 m3 hkz cc hl e1 e2 e3;go_enter Tryz.func8,Tryz.ntmps8;go_wp2_with fail
 try rw[hZ]
 clear hZ;refine wp_region_held_drew (S:=fun W=>W.cell? ⟨w.heap.size,0,none⟩=some (.slice a len cap)∧W.cell? ⟨w.heap.size,1,none⟩=some (.slice b m cp)∧W.cell? ⟨w.heap.size,2,none⟩=some (.slice d n cb)) (by kernel_rfl) (HS.out _ (Kept.drew _)) (fun hHeld=>?_);refine tkI 0 ?_;refine tkI 1 ?_;refine tkI 3 ?_;refine tkI 4 ?_;refine tkI 6 ?_;refine tkI 7 ?_;try simp only[nP]
 have J:=lH (Kept.drew Z);refine rd1 2 fun K9 Ky=>?_;go_simp;refine(HN.out _ J.out).mono ?_;rintro e1 w1 ⟨u1,rfl,hr,kk⟩;have J:=lH (J.out.trans kk);have hr2:=hr;obtain⟨x1,q1,rfl,-,-,-⟩:=hr2;rw[hlen] at hr;try rw[hlen]
 have RR1:=lH hr;clear hr kk;refine Ky.out _ _ (HS.out _ J.out) (fun _=>?_);clear Ky K9;try simp only[nP]
 refine rd1 5 fun K9 Ky=>?_;go_simp;refine(HP.out _ J.out).mono ?_;rintro e2 w2 ⟨u2,rfl,hr,kk⟩;have J:=lH (J.out.trans kk);have RR1:=lH (RR1.out.kept kk);have hr2:=hr;obtain⟨x2,q2,rfl,-,-,-⟩:=hr2;rw[hm] at hr;try rw[hm]
 have RR2:=lH hr;clear hr kk;refine Ky.out _ _ (HS.out _ J.out) (fun _=>?_);clear Ky K9;try simp only[nP]
 refine rd1 8 fun K9 Ky=>?_;go_simp;refine(HB.out _ J.out).mono ?_;rintro e3 w3 ⟨u3,rfl,hr,kk⟩;obtain⟨J,RR1,RR2⟩:=lH3 (J.out.trans kk) (RR1.out.kept kk) (RR2.out.kept kk);have hr2:=hr;obtain⟨x3,q3,rfl,-,-,-⟩:=hr2;rw[hn] at hr;try rw[hn]
 have RR3:=lH hr;clear hr kk;refine Ky.out _ _ (HS.out _ J.out) (fun _=>?_);clear Ky K9;try simp only[nP]
 refine tkI 9 ?_;try simp only[nP]
 have H9:=lH (HH.out.kept J.out);obtain⟨z0,z1,z2⟩:=H9.out.at3;have f0:=H9.out.free 0;have f1:=H9.out.free 1;have f2:=H9.out.free 2;have PP:=lH (j4 (vs:=[.slice x1 len q1,.slice x2 m q2,.slice x3 n q3]) H9.out rfl);refine rd1 10 fun K9 Ky=>?_;go_simp;obtain⟨WE,hWE⟩:=eX (w3.setCells (w.heap.size+1) 0 [.slice x1 len q1,.slice x2 m q2,.slice x3 n q3])
 have hWE2:(((w3.setCell ⟨(w.heap.size+1),0,none⟩ (.slice x1 len q1)).setCell ⟨(w.heap.size+1),1,none⟩ (.slice x2 m q2)).setCell ⟨(w.heap.size+1),2,none⟩ (.slice x3 n q3))=WE:=hWE;rw[hWE] at PP;try rw[hWE2]
 obtain⟨PC,hsz,hbl,hkp⟩:=PP.out;skip;refine Ky.out _ _ (U3.out _ _ hbl J.out) (fun _=>?_);clear Ky K9 z0 z1 z2 f0 f1 f2;try simp only[nP]
 refine wpAnyH_done (by kernel_rfl) ?_ _;go_wp2;refine bodyPost_ret (by simp[results,Tryz.results8,go_sem,PC.at_ 0 _ rfl,PC.at_ 1 _ rfl,PC.at_ 2 _ rfl];try rfl) rfl ?_;have SL:=Nz.out _ J.out;exact⟨_,rfl,⟨_,_,_,rfl,jaY hsz hbl SL RR1.out,jb9 hsz hbl SL RR2.out,jbR hsz hbl SL RR3.out⟩,hkp _ _ (Nat.le_succ _) (Vc.out.trans J.out)⟩
theorem jj9 {n:Pd} (h:Ji n=true):Jr n:=by
 obtain⟨-,-,-,-,h1,h2,h3,h4⟩:=jfU h;refine⟨?_,?_,?_,?_⟩
 · unfold Vec.Yc at h1;simp only[Bool.and_eq_true,decide_eq_true_eq] at h1;omega
 · have:=(jhb h2).1;omega
 · have:=(jg8 h3).1;omega
 · have:=(jge h4).1;omega
def Zz (s:Clu):Bool:=XI s&&decide (Jt s=0)
theorem jee {s:Clu} (h:XI s=true):jA s∧s.nodes.length≤34∧s.pods.length≤130∧s.buds.length≤20:=by
 unfold XI Zl at h;simp only[Bool.and_eq_true,decide_eq_true_eq,List.all_eq_true] at h;obtain⟨h1,h2,⟨h3,h4⟩,h5,h6⟩:=h;refine⟨⟨fun n hn=>jlF (h5 n hn),fun p hp=>jj9 (h6 p hp),fun n hn=>?_,by omega,by omega,by omega⟩,by omega,by omega,by omega⟩;have:=h4 n hn;unfold Y2 Z0 at this;simp only[Bool.and_eq_true,decide_eq_true_eq] at this;omega
theorem jkS {s:Clu} (h:Zz s=true):XI s=true:=by unfold Zz at h;exact(Bool.and_eq_true_iff.1 h).1
theorem Xh {s:Clu} (h:Zz s=true):Jt s=0:=by unfold Zz at h;exact of_decide_eq_true (Bool.and_eq_true_iff.1 h).2
theorem jlw {v:Value} {s:Clu} {c:Bool} {w:World} (h:jB w v s) (hc:Zz s=c):Calls Tryz.prog 7 #[v] w (Say (.bool c) w):=by
 subst hc;have h0:=h;obtain⟨v1,v2,v3,rfl,⟨a,cap,rfl,-,-,-⟩,⟨b,cp,rfl,-,-,-⟩,⟨d,cb,rfl,-,-,-⟩⟩:=h0;obtain⟨len,hl1⟩:=eX (s.nodes.length)
 obtain⟨m,hl2⟩:=eX (s.pods.length)
 obtain⟨n,hl3⟩:=eX (s.buds.length)
 rw[hl1,hl2,hl3] at h ⊢;clear hl1 hl2 hl3;obtain⟨Z,hZ⟩:=eX (w.alloc (.cells #[.slice a len cap,.slice b m cp,.slice d n cb] 26))
 have hkz:Kept w Z:=by rw[←hZ];exact ja _ _
 obtain⟨HC,HV,Vc⟩:=lH3 (show je w.heap.size [.slice a len cap,.slice b m cp,.slice d n cb] Z from jb w (.slice a len cap) [.slice b m cp,.slice d n cb] 26 Z (by rw[hZ];exact Kept.refl _)) (h.kept hkz) hkz;obtain⟨e1,he1⟩:=eX (XI s)
 have Uy:=lH he1;have HG:=lH (show Zz s=(e1&&decide (Jt s=0)) by unfold Zz;rw[he1]);rw[HG.out];clear h hkz;have cq0:=(HC.out.kept (Kept.refl _)).at_ 0 _ rfl;have cq1:=(HC.out.kept (Kept.refl _)).at_ 1 _ rfl;have cq2:=(HC.out.kept (Kept.refl _)).at_ 2 _ rfl;go_enter Tryz.func7,Tryz.ntmps7;go_wp2_with fail
 try rw[hZ]
 clear hZ;refine(jl2 HV.out he1).mono ?_;rintro e w1 ⟨rfl,kk⟩;have K:=lH kk;clear kk he1 cq0 cq1 cq2;have cq0:=(HC.out.kept K.out).at_ 0 _ rfl;have cq1:=(HC.out.kept K.out).at_ 1 _ rfl;have cq2:=(HC.out.kept K.out).at_ 2 _ rfl
 cases e1 with
 | false =>
  go_wp2;go_ret;exact⟨rfl,Vc.out.trans K.out⟩
 | true =>
  obtain⟨L1,L2,L3,L4⟩:=jee Uy.out;have HL:=lH L1;clear L1;go_wp2_with fail
  refine(jmM (HV.out.kept K.out) HL.out (by omega) (by omega) (by omega)).mono ?_;rintro e w2 ⟨x9,rfl,hx,kk⟩;have K2:=lH (K.out.trans kk);have HX:=lH hx;clear hx kk cq0 cq1 cq2;go_wp2_with fail
  obtain⟨c,hc⟩:=eX (Jt s)
  refine(jiq HX.out hc).mono ?_;rintro e w3 ⟨rfl,kk⟩;have K3:=lH (K2.out.trans kk);have Ub:=lH hc;clear kk;rw[hc];clear hc;obtain⟨t,ht⟩:=eX (decide (c=0))
  have ht':(c==0)=t:=ht;go_wp2;go_ret;exact⟨by rw[Ub.out,ht];rfl,Vc.out.trans K3.out⟩
def Asc (l:List Pd):Prop:=l.Pairwise fun x y=>ltS x.name y.name=true
theorem jdY:∀{prev:Option ByteArray} {l:List Pd},zc prev l=0→(∀q,prev=some q→∀x ∈ l,ltS q x.name=true)∧Asc l
 | _,[],_=>⟨fun q _ x h=>absurd h (by simp),.nil⟩
 | prev,n::t,h=>by
  by_cases z:zM n=0
  · by_cases y:Vec.jG prev n.name=true
    · rw[qH z y] at h;cases h
    · have y:Vec.jG prev n.name=false:=by simpa using y
      rw[YT z y] at h;obtain⟨h2,h3⟩:=jdY h;refine⟨fun q hq x hx=>?_,List.pairwise_cons.2 ⟨fun x hx=>h2 _ rfl x hx,h3⟩⟩;subst hq;have hlt:ltS q n.name=true:=Vec.XJ y;rcases List.mem_cons.1 hx with rfl | hx
      · exact hlt
      · exact Vec.zK hlt (h2 _ rfl x hx)
  · rw[jbn z] at h;exact absurd h z
theorem jfb {s:Clu} (h:Zz s=true):Asc s.pods:=by
 have hc:=Xh h;have h0:or3 (jV s.nodes) (jK s.pods) (jZ s.buds)=0:=Decidable.byContradiction fun g=>g ((jaA (nl:=s.nodes) (pl:=s.pods) (bl:=s.buds) rfl g).symm.trans hc);have ho:jK s.pods=0:=by
  unfold or3 at h0;split at h0
  · rename_i h1;exact absurd h0 h1
  · split at h0
    · exact h0
    · rename_i h1;exact Decidable.of_not_not h1
 unfold jK at ho;split at ho
 · cases ho
 · exact(jdY ho).2
theorem qD:∀{l:List Pd} {p:Pd},Asc l→p ∈ l→Jp l p.name=some p
 | [],_,_,h=>by cases h
 | x::t,p,h,hp=>by
  unfold Jp;rcases List.mem_cons.1 hp with hp | hp
  · subst hp;exact List.find?_cons_of_pos (p:=fun n:Pd=>eqS n.name p.name) (J8 _)
  · have hlt:=(List.pairwise_cons.1 h).1 p hp;exact(List.find?_cons_of_neg (p:=fun n:Pd=>eqS n.name p.name) (fun e=>Vec.ZC hlt (jM.1 e))).trans (qD (List.pairwise_cons.1 h).2 hp)
theorem jiZ {l:List Pd} {x:ByteArray}:Jp l x=none↔∀q ∈ l,q.name≠x:=by
 unfold Jp;rw[List.find?_eq_none];exact⟨fun h q hq e=>h q hq (jM.2 e),fun h q hq e=>h q hq (jM.1 e)⟩
theorem jlm {l:List Pd} {x:ByteArray} {p:Pd} (h:Jp l x=some p):p ∈ l∧p.name=x :=
 ⟨List.mem_of_find?_eq_some h,jM.1 (List.find?_some (p:=fun n:Pd=>eqS n.name x) h)⟩
theorem jdV {x:ByteArray}:∀{l:List Pd},(∀q ∈ l,q.name≠x)→j0 x l=l
 | [],_=>rfl
 | p::t,h=>by
  have hp:=h p (List.mem_cons_self ..);rw[j0,if_neg (fun e=>hp (jM.1 e)),jdV fun q hq=>h q (List.mem_cons_of_mem _ hq)]
theorem JO {x:ByteArray}:∀{l:List Pd} {q:Pd},q ∈ j0 x l→q ∈ l
 | p::t,q,h=>by
  rw[j0] at h;split at h
  · exact List.mem_cons_of_mem _ h
  · rcases List.mem_cons.1 h with rfl | h
    · exact List.mem_cons_self ..
    · exact List.mem_cons_of_mem _ (JO h)
theorem jdp {x:ByteArray}:∀{l:List Pd},Asc l→∀q ∈ j0 x l,q.name≠x
 | p::t,h,q,hq=>by
  obtain⟨h1,h2⟩:=List.pairwise_cons.1 h;rw[j0] at hq;split at hq
  · rename_i e;have e:=jM.1 e;have:=Vec.ZC (h1 q hq);rw[e] at this;exact fun e=>this e.symm
  · rename_i e;rcases List.mem_cons.1 hq with rfl | hq
    · exact fun e'=>e (jM.2 e')
    · exact jdp h2 q hq
theorem jey {x:ByteArray}:∀{l:List Pd},Asc l→Asc (j0 x l)
 | [],h=>h
 | p::t,h=>by
  obtain⟨h1,h2⟩:=List.pairwise_cons.1 h;rw[j0];split
  · exact h2
  · exact List.pairwise_cons.2 ⟨fun q hq=>h1 q (JO hq),jey h2⟩
theorem jb5 {x:ByteArray}:∀{l:List Pd},(j0 x l).length+(if (Jp l x).isSome=true then 1 else 0)=l.length
 | []=>rfl
 | p::t=>by
  by_cases e:eqS p.name x=true
  · have hf:Jp (p::t) x=some p:=by unfold Jp;exact List.find?_cons_of_pos (p:=fun n:Pd=>eqS n.name x) e
    rw[j0,if_pos e,hf];simp
  · have hf:Jp (p::t) x=Jp t x:=by unfold Jp;exact List.find?_cons_of_neg (p:=fun n:Pd=>eqS n.name x) e
    rw[j0,if_neg e,hf];have:=jb5 (x:=x) (l:=t);simp only[List.length_cons];omega
theorem ins_mem {p:Pd}:∀{l:List Pd} {q:Pd},q ∈ JB p l→q=p∨q ∈ l
 | [],q,h=>by
  have:=List.mem_singleton.1 (show q ∈ [p] from h);exact .inl this
 | r::t,q,h=>by
  rw[JB] at h;split at h
  · rcases List.mem_cons.1 h with rfl | h
    · exact .inl rfl
    · exact .inr h
  · rcases List.mem_cons.1 h with rfl | h
    · exact .inr (List.mem_cons_self ..)
    · exact(ins_mem h).imp id (List.mem_cons_of_mem _)
theorem jcI (p:Pd):∀l:List Pd,(JB p l).length=l.length+1
 | []=>rfl
 | r::t=>by
  rw[JB];split
  · rfl
  · rw[List.length_cons,jcI p t,List.length_cons]
theorem jgp {p:Pd}:∀{l:List Pd},Asc l→(∀q ∈ l,q.name≠p.name)→Asc (JB p l)
 | [],_,_=>List.pairwise_singleton ..
 | r::t,h,hn=>by
  obtain⟨h1,h2⟩:=List.pairwise_cons.1 h;rw[JB];split
  · rename_i e;refine List.pairwise_cons.2 ⟨fun q hq=>?_,h⟩;rcases List.mem_cons.1 hq with rfl | hq
    · exact e
    · exact Vec.zK e (h1 q hq)
  · rename_i e;have e:ltS p.name r.name=false:=by simpa using e
    refine List.pairwise_cons.2 ⟨fun q hq=>?_,jgp h2 fun q hq=>hn q (List.mem_cons_of_mem _ hq)⟩;rcases ins_mem hq with rfl | hq
    · cases g:ltS r.name q.name with
      | true=>rfl
      | false=>exact absurd (Vec.Yv g e) (hn r (List.mem_cons_self ..))
    · exact h1 q hq
theorem jgs {s:Clu} (h:Asc s.pods) (p:Pd):Asc (Jd s p).pods:=jgp (jey h) (jdp h)
theorem jcB {s:Clu} (p:Pd):(Jd s p).pods.length=(j6 s p.name).pods.length+1:=jcI p _
theorem Xy (s:Clu) (x:ByteArray):(j6 s x).pods.length+(if (Jp s.pods x).isSome=true then 1 else 0)=s.pods.length:=jb5
def zw (l:Vec.V):Prop:=Vec.Gd l∧l.length≤8
theorem zw.nil:zw []:=⟨Vec.Gd.nil,by decide⟩
theorem jgr {l:Vec.V} (h:Vec.jv l=0) (hf:Vec.Ja l):zw l:=⟨Vec.Yd h hf,Vec.Zn h⟩
theorem Y1 {f g:ByteArray→Int} {r:Vec.V} (h:∀n,f n=g n):Vec.Made f r↔Vec.Made g r:=by rw[funext h]
theorem add_step {v p:Vec.V} (hv:zw v) (hp:zw p) :
 (∃q,Vec.jj Vec.jD v p=(0,q)∧zw q∧∀n,Vec.jh q n=Vec.jh v n+Vec.jh p n) ∨
 (∃c,c≠0∧Vec.jj Vec.jD v p=(c,[])∧∀(r:Vec.V) (f:ByteArray→Int),(∀n,0≤f n)→Vec.Made (fun n=>Vec.jh v n+Vec.jh p n+f n) r→r.length≤8→False):=by
 rcases Vec.merged_spec Vec.jja hv.1 hp.1 hv.2 hp.2 with ⟨⟨n,hn⟩,hb⟩ | ⟨hn,q,hm,⟨h8,hb⟩ | ⟨h8,hb⟩⟩
 · refine .inr ⟨5,by decide,hb,fun r f hf hr _=>hn ((Vec.XK _ _).2 ?_)⟩;have h1:=(Vec.Je n hr.1).2;have h2:=hf n;rw[hr.2 n] at h1;dsimp only at h1;omega
 · refine .inr ⟨4,by decide,hb,fun r f hf hr h9=>?_⟩;have hl:q.length≤r.length:=Vec.Gd.len hm.1 hr.1 fun n hne e=>hne (by
    rw[hm.2 n];show (Vec.jD _ _).1=0;rw[Vec.jbc ((Vec.XK _ _).1 (hn n))];have h1:=hf n;have h2:=Vec.Je n hv.1;have h3:=Vec.Je n hp.1;rw[hr.2 n] at e;dsimp only at e ⊢;omega)
   omega
 · exact .inl ⟨q,hb,⟨hm.1,h8⟩,fun n=>by rw[hm.2 n];show (Vec.jD _ _).1=_;rw[Vec.jbc ((Vec.XK _ _).1 (hn n))]⟩
def JN (x:ByteArray) (p:Pd) (n:ByteArray):Int:=if eqS p.node x=true then Vec.jh p.need n else 0
def zR (x:ByteArray):List Pd→ByteArray→Int
 | [],_=>0
 | p::t,n=>JN x p n+zR x t n
theorem jeM {x:ByteArray} {p:Pd} (h:zw p.need) (n:ByteArray):0≤JN x p n:=by
 unfold JN;split
 · exact(Vec.Je n h.1).1
 · exact Int.le_refl _
theorem jbv {x:ByteArray}:∀{l:List Pd},(∀p ∈ l,zw p.need)→∀n,0≤zR x l n
 | [],_,n=>Int.le_refl _
 | p::t,h,n=>Int.add_nonneg (jeM (h p (List.mem_cons_self ..)) n) (jbv (fun q hq=>h q (List.mem_cons_of_mem _ hq)) n)
theorem jbu {x:ByteArray}:∀{l:List Pd} {v r:Vec.V},(∀p ∈ l,zw p.need)→zw v→(jF x l v=(0,r)↔Vec.Made (fun n=>Vec.jh v n+zR x l n) r∧r.length≤8)
 | [],v,r,_,hv=>by
  constructor
  · intro e
    cases e
    exact⟨⟨hv.1,fun n=>by show _=_+(0:Int);rw[Int.add_zero]⟩,hv.2⟩
  · rintro ⟨hm,_⟩;have e:v=r:=Vec.Gd.ext hv.1 hm.1 fun n=>by rw[hm.2 n];show _=_+(0:Int);rw[Int.add_zero]
    rw[e];rfl
 | p::t,v,r,hl,hv=>by
  have ht:∀q ∈ t,zw q.need:=fun q hq=>hl q (List.mem_cons_of_mem _ hq);have hp:=hl p (List.mem_cons_self ..)
  cases e:eqS p.node x with
  | false =>
   rw[jap e,jbu ht hv];refine and_congr (Y1 fun n=>?_) Iff.rfl;show _=_+(JN x p n+zR x t n);rw[JN,if_neg (by rw[e];decide),Int.zero_add]
  | true =>
   have hone:∀n,JN x p n=Vec.jh p.need n:=fun n=>by rw[JN,if_pos e]
   rcases add_step hv hp with ⟨q,hq,fq,gq⟩ | ⟨c,hc,hq,no⟩
   · rw[jbj e hq,jbu ht fq];refine and_congr (Y1 fun n=>?_) Iff.rfl;show _=_+(JN x p n+zR x t n);rw[hone,gq,Int.add_assoc]
   · rw[jbs e hq hc];constructor
     · intro h;exact absurd (Prod.mk.inj h).1 hc
     · rintro ⟨hm,h8⟩;refine(no r (zR x t) (jbv ht) ((Y1 fun n=>?_).1 hm) h8).elim;show _+(JN x p n+zR x t n)=_;rw[hone,Int.add_assoc]
theorem jbp {x:ByteArray} {l:List Pd} {r:Vec.V} (hl:∀p ∈ l,zw p.need):jF x l []=(0,r)↔Vec.Made (zR x l) r∧r.length≤8:=by
 rw[jbu hl zw.nil];exact and_congr (Y1 fun n=>by show (0:Int)+_=_;rw[Int.zero_add]) Iff.rfl
theorem jcM {x y:ByteArray}:∀{l:List Pd} {p:Pd},Jp l y=some p→∀n,zR x (j0 y l) n+JN x p n=zR x l n
 | q::t,p,h,n=>by
  by_cases e:eqS q.name y=true
  · have hq:Jp (q::t) y=some q:=by unfold Jp;exact List.find?_cons_of_pos (p:=fun n:Pd=>eqS n.name y) e
    rw[hq] at h;obtain rfl:=Option.some.inj h;rw[j0,if_pos e];show _=JN x q n+zR x t n;omega
  · have hq:Jp (q::t) y=Jp t y:=by unfold Jp;exact List.find?_cons_of_neg (p:=fun n:Pd=>eqS n.name y) e
    rw[hq] at h;have:=jcM (x:=x) h n;rw[j0,if_neg e];show JN x q n+zR x (j0 y t) n+_=JN x q n+zR x t n;omega
structure XP (s:Clu):Prop where
 nodes:jV s.nodes=0
 pods:jK s.pods=0
 places:jE s.nodes s.pods=0
 rooms:jX s.pods s.nodes=0
 tot:(Zf s.nodes []).1=0
theorem ja2 {s:Clu} (h:Jt s=0):XP s:=by
 have h0:or3 (jV s.nodes) (jK s.pods) (jZ s.buds)=0:=Decidable.byContradiction fun g=>g ((jaA (nl:=s.nodes) (pl:=s.pods) (bl:=s.buds) rfl g).symm.trans h);have h1:jE s.nodes s.pods=0:=Decidable.byContradiction fun g=>g ((jdj (nl:=s.nodes) (pl:=s.pods) (bl:=s.buds) h0 rfl g).symm.trans h);have h2:jX s.pods s.nodes=0:=Decidable.byContradiction fun g=>g ((jbr (nl:=s.nodes) (pl:=s.pods) (bl:=s.buds) h0 h1 rfl g).symm.trans h);have h3:(Zf s.nodes []).1=0:=(ja7 (nl:=s.nodes) (pl:=s.pods) (bl:=s.buds) h0 h1 h2).symm.trans h;have ho:jV s.nodes=0∧jK s.pods=0:=by
  unfold or3 at h0;split at h0
  · rename_i h1;exact absurd h0 h1
  · rename_i g1;split at h0
    · rename_i g2;exact absurd h0 g2
    · rename_i g2;exact⟨Decidable.of_not_not g1,Decidable.of_not_not g2⟩
 exact⟨ho.1,ho.2,h1,h2,h3⟩
theorem jbB {pods:List Pd}:∀{l:List Nod},jX pods l=0→∀n ∈ l,∃u,jF n.name pods []=(0,u)∧Vec.jx n.cap u=true
 | m::t,h,n,hn=>by
  obtain⟨c,u,hu⟩:∃c u,jF m.name pods []=(c,u):=⟨_,_,rfl⟩
  by_cases hc:c=0
  · subst hc
    cases hf:Vec.jx m.cap u with
    | false=>rw[jci hu hf] at h;cases h
    | true =>
     rw[qc hu hf] at h;rcases List.mem_cons.1 hn with rfl | hn
     · exact⟨u,hu,hf⟩
     · exact jbB h n hn
  · rw[jc5 hu hc] at h;exact absurd h hc
def jmt (l:List Nod):Prop:=l.Pairwise fun x y=>ltS x.name y.name=true
theorem YR:∀{prev:Option ByteArray} {l:List Nod},zt prev l=0→(∀q,prev=some q→∀x ∈ l,ltS q x.name=true)∧jmt l∧∀n ∈ l,zA n=0
 | _,[],_=>⟨fun q _ x h=>absurd h (by simp),.nil,fun n h=>absurd h (by simp)⟩
 | prev,n::t,h=>by
  by_cases z:zA n=0
  · by_cases y:Vec.jG prev n.name=true
    · rw[jbF z y] at h;cases h
    · have y:Vec.jG prev n.name=false:=by simpa using y
      rw[jan z y] at h;obtain⟨h2,h3,h4⟩:=YR h;refine⟨fun q hq x hx=>?_,List.pairwise_cons.2 ⟨fun x hx=>h2 _ rfl x hx,h3⟩,fun m hm=>?_⟩
      · subst hq;have hlt:ltS q n.name=true:=Vec.XJ y;rcases List.mem_cons.1 hx with rfl | hx
        · exact hlt
        · exact Vec.zK hlt (h2 _ rfl x hx)
      · rcases List.mem_cons.1 hm with rfl | hm
        · exact z
        · exact h4 m hm
  · rw[jeN z] at h;exact absurd h z
theorem jcP:∀{l:List Nod} {p:Nod},jmt l→p ∈ l→jk l p.name=some p
 | [],_,_,h=>by cases h
 | x::t,p,h,hp=>by
  unfold jk;rcases List.mem_cons.1 hp with hp | hp
  · subst hp;exact List.find?_cons_of_pos (p:=fun n:Nod=>eqS n.name p.name) (J8 _)
  · have hlt:=(List.pairwise_cons.1 h).1 p hp;exact(List.find?_cons_of_neg (p:=fun n:Nod=>eqS n.name p.name) (fun e=>Vec.ZC hlt (jM.1 e))).trans (jcP (List.pairwise_cons.1 h).2 hp)
theorem XP.jk {s:Clu} (h:XP s) {n:Nod} (hn:n ∈ s.nodes):jk s.nodes n.name=some n:=by
 have ho:=h.nodes;unfold jV at ho;split at ho
 · cases ho
 · exact jcP (YR ho).2.1 hn
theorem XP.cap0 {s:Clu} (h:XP s) {n:Nod} (hn:n ∈ s.nodes):Vec.jv n.cap=0:=by
 have ho:=h.nodes;unfold jV at ho;split at ho
 · cases ho
 · have hc:=(YR ho).2.2 n hn;unfold zA at hc;split at hc
   · cases hc
   · split at hc
     · rename_i g;exact absurd hc g
     · rename_i g;exact Decidable.of_not_not g
theorem jaE:∀{prev:Option ByteArray} {l:List Pd},zc prev l=0→∀n ∈ l,zM n=0
 | prev,m::t,h,n,hn=>by
  by_cases z:zM m=0
  · by_cases y:Vec.jG prev m.name=true
    · rw[qH z y] at h;cases h
    · have y:Vec.jG prev m.name=false:=by simpa using y
      rw[YT z y] at h;rcases List.mem_cons.1 hn with rfl | hn
      · exact z
      · exact jaE h n hn
  · rw[jbn z] at h;exact absurd h z
theorem jbw:∀{l:List Int},orL l=0→∀c ∈ l,c=0
 | x::t,h,c,hc=>by
  unfold orL at h;split at h
  · rename_i g;exact absurd h g
  · rename_i g;rcases List.mem_cons.1 hc with rfl | hc
    · exact Decidable.of_not_not g
    · exact jbw h c hc
theorem XP.need0 {s:Clu} (h:XP s) {n:Pd} (hn:n ∈ s.pods):Vec.jv n.need=0:=by
 have ho:=h.pods;unfold jK at ho;split at ho
 · cases ho
 · exact jbw (jaE ho n hn) _ (by simp[jaH])
structure Sound (s:Clu):Prop where
 parts:XP s
 asc:Asc s.pods
 need:∀p ∈ s.pods,zw p.need
 cap:∀n ∈ s.nodes,zw n.cap
theorem jei {s:Clu} {w:World} {v:Value} (h:Zz s=true) (hr:jB w v s):Sound s:=by
 have hp:=ja2 (Xh h);obtain⟨v1,v2,v3,rfl,⟨a,cap,rfl,-,-,h1⟩,⟨b,cp,rfl,-,-,h2⟩,-⟩:=hr;refine⟨hp,jfb h,fun p hm=>jgr (hp.need0 hm) ?_,fun n hm=>jgr (hp.cap0 hm) ?_⟩
 · obtain⟨k,hk,rfl⟩:=List.mem_iff_getElem.1 hm;rcases h2.2.2 with h0 | ⟨b,off,-,-,hc⟩
   · omega
   · obtain⟨v1,v2,v3,v4,-,-,-,-,-,-,-,-,-,-,-,hat⟩:=hc k _ (List.getElem?_eq_getElem hk);obtain⟨a9,c9,-,-,-,g⟩:=hat.need;exact g.2.2.1
 · obtain⟨k,hk,rfl⟩:=List.mem_iff_getElem.1 hm;rcases h1.2.2 with h0 | ⟨b,off,-,-,hc⟩
   · omega
   · obtain⟨a1,m1,c1,a2,m2,c2,a3,m3,c3,-,-,-,-,-,hat⟩:=hc k _ (List.getElem?_eq_getElem hk);obtain⟨a9,c9,-,-,-,g⟩:=hat.cap;exact g.2.2.1
theorem jk8 {s:Clu} (h:Sound s) {n:Nod} (hn:n ∈ s.nodes):Jw s n.name=jF n.name s.pods []:=jal (h.parts.jk hn)
theorem jlv {s:Clu} (h:Sound s) {n:Nod} (hn:n ∈ s.nodes):∃u f,Jw s n.name=(0,u)∧Zp s n.name=(0,f)∧Vec.jj Vec.jD u f=(0,n.cap)∧zw u∧zw f∧Vec.Made (zR n.name s.pods) u∧(∀m,Vec.jh f m=Vec.jh n.cap m-Vec.jh u m)∧∀m,Vec.jh u m≤Vec.jh n.cap m:=by
 obtain⟨u,hu,hf⟩:=jbB h.parts.rooms n hn;obtain⟨hm,hl⟩:=(jbp h.need).1 hu;have hc:=h.cap n hn;have hle:=(Vec.YF hm.1 hc.1).1 hf;obtain⟨f,hs,hmf,hlf⟩:=Vec.jbg hc.1 hm.1 hc.2 hl hle;have hget:∀m,Vec.jh f m=Vec.jh n.cap m-Vec.jh u m:=fun m=>hmf.2 m;refine⟨u,f,(jk8 h hn).trans hu,?_,?_,⟨hm.1,hl⟩,⟨hmf.1,hlf⟩,hm,hget,hle⟩
 · unfold Zp;rw[h.parts.jk hn];dsimp only;rw[hu,if_pos rfl];exact hs
 · refine Vec.jkm hm.1 hmf.1 hl hlf (fun m=>?_) ⟨hc.1,fun m=>?_⟩ hc.2
   · have:=(Vec.Je m hc.1).2;rw[hget];omega
   · show _=Vec.jh u m+Vec.jh f m;rw[hget];omega
def YV (g:ByteArray→Int):Vec.V→Vec.V
 | []=>[]
 | x::t=>if g x.1=0 then YV g t else (x.1,g x.1)::YV g t
theorem Xs {g:ByteArray→Int}:∀{l:Vec.V} {y:ByteArray×Int},y ∈ YV g l→∃x ∈ l,y=(x.1,g x.1)∧g x.1≠0
 | x::t,y,h=>by
  rw[YV] at h;split at h
  · obtain⟨z,hz,e⟩:=Xs h;exact⟨z,by simp[hz],e⟩
  · rename_i hg;rcases List.mem_cons.1 h with rfl | h
    · exact⟨x,by simp,rfl,hg⟩
    · obtain⟨z,hz,e⟩:=Xs h;exact⟨z,by simp[hz],e⟩
theorem jdZ (g:ByteArray→Int):∀l:Vec.V,(YV g l).length≤l.length
 | []=>Nat.le_refl _
 | x::t=>by
  have:=jdZ g t;rw[YV];split<;>simp only[List.length_cons]<;>omega
theorem jf8 {g:ByteArray→Int}:∀{l:Vec.V},Vec.Gd l→(∀x ∈ l,0≤g x.1∧g x.1≤9223372036854775807)→Vec.Gd (YV g l)
 | [],_,_=>Vec.Gd.nil
 | x::t,h,hb=>by
  obtain⟨h1,h2,h3⟩:=Vec.Gd.cons.1 h;have ih:=jf8 h3 fun y hy=>hb y (by simp[hy]);rw[YV];split
  · exact ih
  · rename_i hg;have:=hb x (by simp);refine Vec.Gd.cons.2 ⟨⟨h1.1,by dsimp only;omega,this.2⟩,fun y hy=>?_,ih⟩;obtain⟨z,hz,rfl,_⟩:=Xs hy;exact h2 z hz
theorem ja4 {g:ByteArray→Int} {n:ByteArray}:∀{l:Vec.V},Vec.Gd l→(∃x ∈ l,x.1=n)→Vec.jh (YV g l) n=g n
 | [],_,h=>by obtain⟨x,hx,_⟩:=h;cases hx
 | y::t,h,he=>by
  obtain⟨h1,h2,h3⟩:=Vec.Gd.cons.1 h;by_cases e:y.1=n
  · rw[YV];split
    · rename_i hg;rw[←e,hg];refine Vec.Xk fun z hz=>?_;obtain⟨q,hq,rfl,_⟩:=Xs hz;exact fun e2=>Vec.ZC (h2 q hq) e2.symm
    · rw[←e];exact Vec.zX _ _
  · have ht:∃x ∈ t,x.1=n:=by
     obtain⟨x,hx,e2⟩:=he;rcases List.mem_cons.1 hx with rfl | hx
     · exact absurd e2 e
     · exact⟨x,hx,e2⟩
    rw[YV];split
    · exact ja4 h3 ht
    · rw[Vec.Jg _ (by exact e)];exact ja4 h3 ht
theorem jjU {g:ByteArray→Int} {u:Vec.V} (hu:zw u) (h0:∀n,0≤g n) (h1:∀n,g n≤Vec.jh u n):∃r,Vec.Made g r∧r.length≤8:=by
 refine⟨YV g u,⟨jf8 hu.1 fun x hx=>⟨h0 _,Int.le_trans (h1 _) (Vec.Je _ hu.1).2⟩,fun n=>?_⟩,Nat.le_trans (jdZ g u) hu.2⟩;by_cases e:∃x ∈ u,x.1=n
 · exact ja4 hu.1 e
 · have hz:Vec.jh u n=0:=Vec.Xk fun y hy e2=>e ⟨y,hy,e2⟩;have h2:=h0 n;have h3:=h1 n;rw[show g n=0 by omega];refine Vec.Xk fun y hy e2=>?_;obtain⟨x,hx,rfl,_⟩:=Xs hy;exact e ⟨x,hx,e2⟩
theorem jim {x:ByteArray} {cap:Vec.V} {l:List Pd} (hc:zw cap) (hp:∀p ∈ l,zw p.need) (hs:∀m,zR x l m≤Vec.jh cap m):∃u,jF x l []=(0,u)∧zw u∧(∀m,Vec.jh u m=zR x l m)∧Vec.jx cap u=true:=by
 obtain⟨u,hu,hu8⟩:=jjU hc (jbv hp) hs;exact⟨u,(jbp hp).2 ⟨hu,hu8⟩,⟨hu.1,hu8⟩,hu.2,(Vec.YF hu.1 hc.1).2 fun m=>by rw[hu.2 m];exact hs m⟩
theorem jgb {s:Clu} {n:Nod} (hf:jk s.nodes n.name=some n) (hc:zw n.cap) (hp:∀p ∈ s.pods,zw p.need) (hs:∀m,zR n.name s.pods m≤Vec.jh n.cap m):∃b,Zp s n.name=(0,b)∧zw b∧∀m,Vec.jh b m=Vec.jh n.cap m-zR n.name s.pods m:=by
 obtain⟨u,h1,h2,h3,h4⟩:=jim hc hp hs;obtain⟨b,hb,hmb,hlb⟩:=Vec.jbg hc.1 h2.1 hc.2 h2.2 fun m=>by rw[h3 m];exact hs m
 refine⟨b,?_,⟨hmb.1,hlb⟩,fun m=>by
  have h9:Vec.jh b m=Vec.jh n.cap m-Vec.jh u m:=hmb.2 m;rw[h9,h3 m]⟩
 unfold Zp;rw[hf];dsimp only;rw[h1,if_pos rfl];exact hb
theorem jkE {s:Clu} {n:Nod} (hf:jk s.nodes n.name=some n) (hc:zw n.cap) (hp:∀p ∈ s.pods,zw p.need) (h:(Zp s n.name).1=0):∀m,zR n.name s.pods m≤Vec.jh n.cap m:=by
 unfold Zp at h;rw[hf] at h;dsimp only at h;obtain⟨c,u,hu⟩:∃c u,jF n.name s.pods []=(c,u):=⟨_,_,rfl⟩
 rw[hu] at h;by_cases hz:c=0
 · subst hz;rw[if_pos rfl] at h;obtain⟨hm,h8⟩:=(jbp hp).1 hu;have:=(Vec.YF hm.1 hc.1).1 ((Vec.jkp hc.1 hm.1 hc.2 h8).1 h);intro m;rw[←hm.2 m];exact this m
 · rw[if_neg hz] at h;exact absurd h hz
theorem jjW {s:Clu} {p:Pd} {n:Nod} (hf:jk s.nodes n.name=some n) (hc:zw n.cap) (hp:∀p ∈ s.pods,zw p.need) (hq:zw p.need):Yb s p n.name=true↔∀m,zR n.name s.pods m+Vec.jh p.need m≤Vec.jh n.cap m:=by
 unfold Yb;rw[Bool.and_eq_true,decide_eq_true_iff];constructor
 · rintro ⟨h1,h2⟩ m;have hs:=jkE hf hc hp h1;obtain⟨b,hb,fb,gb⟩:=jgb hf hc hp hs;rw[hb] at h2;have:=(Vec.YF hq.1 fb.1).1 h2 m;rw[gb] at this;omega
 · intro h;obtain⟨b,hb,fb,gb⟩:=jgb hf hc hp fun m=>by have:=h m;have:=(Vec.Je m hq.1).1;omega
   rw[hb];refine⟨rfl,(Vec.YF hq.1 fb.1).2 fun m=>?_⟩;rw[gb];have:=h m;omega
theorem jjP {x y:ByteArray} (l:List Pd) (hl:∀p ∈ l,zw p.need) (m:ByteArray):zR x (j0 y l) m≤zR x l m:=by
 cases h:Jp l y with
 | none=>rw[jdV (jiZ.1 h)];exact Int.le_refl _
 | some p =>
  have h1:=jcM (x:=x) h m;have h2:=jeM (x:=x) (hl p (jlm h).1) m;omega
theorem Sound.sum {s:Clu} (h:Sound s) {n:Nod} (hn:n ∈ s.nodes) (m:ByteArray):zR n.name s.pods m≤Vec.jh n.cap m:=by
 obtain⟨u,f,-,-,-,-,-,hm,-,hle⟩:=jlv h hn;rw[←hm.2 m];exact hle m
theorem jiD {s:Clu} (h:∀p ∈ s.pods,zw p.need) (x:ByteArray):∀p ∈ (j6 s x).pods,zw p.need:=fun p hp=>h p (JO hp)
theorem jdh {nodes:List Nod}:∀{l:List Pd},jE nodes l=0→∀p ∈ l,zD p.node=false→(jk nodes p.node).isSome=true
 | q::t,h,p,hp,hn=>by
  by_cases g:zD q.node=false∧(jk nodes q.node).isSome=false
  · rw[jch g.1 g.2] at h;cases h
  · have h2:jE nodes t=0:=by rw[jE,if_neg g] at h;exact h
    rcases List.mem_cons.1 hp with rfl | hp
    · cases e:(jk nodes p.node).isSome with
      | false=>exact absurd ⟨hn,e⟩ g
      | true=>rfl
    · exact jdh h2 p hp hn
end Go.Proofs.YtibepooajeakfaaGreat
