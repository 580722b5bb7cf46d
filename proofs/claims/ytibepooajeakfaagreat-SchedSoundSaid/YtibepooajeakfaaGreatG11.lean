/- C. -/
import Derived.Test.YtibepooajeakfaaGreatG1
import Derived.Test.YtibepooajeakfaaGreatG3
import Derived.Test.YtibepooajeakfaaGreatG4
import Derived.Test.YtibepooajeakfaaGreatG5
import Derived.Test.YtibepooajeakfaaGreatG6
import Derived.Test.YtibepooajeakfaaGreatG7
import Derived.Test.YtibepooajeakfaaGreatG8
import Derived.Test.YtibepooajeakfaaGreatG9
import Derived.Test.YtibepooajeakfaaGreatG10
set_option linter.unusedVariables false
set_option maxRecDepth 100000
set_option maxHeartbeats 25600000
namespace Go.Proofs.YtibepooajeakfaaGreat
open Go.RowKit
theorem jb4 (x:ByteArray):∀l:List Pd,(zc x l).length≤l.length
 | []=>Nat.le_refl _
 | p::t=>by
  rw[zc];split
  · simp
  · have:=jb4 x t;simp;omega
theorem YQ {S:Nat→Prop} {B i len cap vb vc:Nat} {ap:Option Addr} {w:World} {v1 v3:Value} {s:Clu} (h:jQ S B w v1 (.slice ap len cap) v3 s) (z:PX) (hi:i≤len) (hlen:len≤100000) (hB:B≤w.heap.size) (hS:∀k,S k→k<w.heap.size) (hvs:w.heap[vb]?=some (.cells (PodLay0.cs z).toArray 52)) (hvb:(Value.slice ap len cap).ownBlock≠some vb)
 (hz:Off (fun b=>S b∨(Value.slice ap len cap).ownBlock=some b) w fun u=>At4 u z) :
 Calls Tryz.prog 280 #[.slice ap len cap,.int .i64 i,.slice (some ⟨vb,0,none⟩) 1 vc] w fun e w'=>∃g c,e=.returned (.slice (some ⟨g,0,none⟩) (len+1) c)∧jQ S B w' v1 (.slice (some ⟨g,0,none⟩) (len+1) c) v3 { s with pods:=s.pods.take i++z.1::s.pods.drop i }∧jg (fun b=>(Value.slice ap len cap).ownBlock=some b) w w':=by
 obtain⟨lx,hmap,hown,hd⟩:=h.pods;obtain⟨a',c',e',_⟩:=hown.at_;have hll:lx.length=len:=by cases e';rfl
 have hx:je PodLay0 (lx.take i++z::lx.drop i)=(je PodLay0 lx).take (i*11)++PodLay0.cs z++(je PodLay0 lx).drop (i*11):=by
  rw[show z::lx.drop i=[z]++lx.drop i from rfl,JC,JC,Xr,jaF];unfold je;simp[PodLay0]
 refine(jgF _ len i vb vc B (je PodLay0 lx) (PodLay0.cs z) w (by have:=hown.1;rw[hll] at this;exact this) hB hi (Ji _ _) rfl (qG z) hvs hvb hlen).mono ?_;rintro e w' ⟨g,c,rfl,ho,hg,hn⟩;have hn':∀k,(Value.slice (some ⟨g,0,none⟩) (len+1) c).ownBlock=some k→(Value.slice ap len cap).ownBlock=some k∨w.heap.size≤k:=fun k hk=>by
  obtain rfl:g=k:=Option.some.inj hk;exact hn
 have hd':∀y ∈ lx.take i++z::lx.drop i,Off (fun b=>S b∨(Value.slice ap len cap).ownBlock=some b) w fun u=>At4 u y:=fun y hy=>by
  rcases List.mem_append.1 hy with hy | hy
  · exact hd y (List.mem_of_mem_take hy)
  · rcases List.mem_cons.1 hy with rfl | hy
    · exact hz
    · exact hd y (List.mem_of_mem_drop hy)
 refine⟨g,c,rfl,h.turn hg hn' hS ⟨lx.take i++z::lx.drop i,by rw[List.map_append,List.map_cons,List.map_take,List.map_drop,hmap],⟨?_,fun x hx=>trivial⟩,jQ.els (B:=B) hd' hg hn'⟩,hg⟩;have h2:(lx.take i++z::lx.drop i).length=len+1:=by rw[List.length_append,List.length_cons,List.length_take,List.length_drop,hll];omega
 rw[h2,hx];exact ho
theorem jkf (a b d:Option Addr) (len cap m c n e:Nat) (nl:List Nod) (pl:List Pd) (bl:List Bd) (p:Pd) (s1 s2 s3 s4:Option Addr) (t1 u1 t2 u2 t3 u3 t4 u4:Nat) (w:World) (hn:jo w a len nl) (hp:jx w b m pl) (hb:j8 w d n bl) (h1:len≤cap) (h2:cap≤maxLen) (h3:m≤c) (h4:c≤maxLen) (h5:n≤e) (h6:e≤maxLen) (hl:jE ⟨nl,pl,bl⟩) (hP:ji w (.slice s1 t1 u1) (.slice s2 t2 u2) (.slice s3 t3 u3) (.slice s4 t4 u4) p) (hLP:JM p) :
 Calls Tryz.prog 264 #[.agg #[.slice a len cap,.slice b m c,.slice d n e],jy p (.slice s1 t1 u1) (.slice s2 t2 u2) (.slice s3 t3 u3) (.slice s4 t4 u4)] w fun e w'=>∃a1 n1 c1 a2 n2 c2 a3 n3 c3,e=.returned (.agg #[.slice a1 n1 c1,.slice a2 n2 c2,.slice a3 n3 c3])∧jQ (fun b=>b<w.heap.size) w.heap.size w' (.slice a1 n1 c1) (.slice a2 n2 c2) (.slice a3 n3 c3) (Jv ⟨nl,pl,bl⟩ p)∧Kept w w':=by
 obtain⟨p0,p1,p2,q1,q2,q3,q4,p3,p4,p5,p6⟩:=p;obtain⟨Z,hZ⟩:=eX (((w.alloc (.cells #[.slice a len cap,.slice b m c,.slice d n e] 26)).alloc (.cells #[.string p0,.string p1,.int .i64 p2,.slice s1 t1 u1,.slice s2 t2 u2,.slice s3 t3 u3,.slice s4 t4 u4,.string p3,.int .i64 p4,.string p5,.bool p6] 52)).alloc (.cells #[.slice none 0 0,.slice none 0 0,.slice none 0 0] 26))
 have hkz:Kept w Z:=by rw[←hZ];exact(jn _ _ _).trans (ja _ _)
 have hzs:Z.heap.size=w.heap.size+3:=by rw[←hZ];simp
 have cc:=jc w (.slice a len cap) [.slice b m c,.slice d n e] 26 Z (by rw[←hZ];exact jn _ _ _);have o0:=cc.at_ 0 _ rfl;have o1:=cc.at_ 1 _ rfl;have o2:=cc.at_ 2 _ rfl;have Vz:=lH (show jf (w.heap.size+1) [.string p0,.string p1,.int .i64 p2,.slice s1 t1 u1,.slice s2 t2 u2,.slice s3 t3 u3,.slice s4 t4 u4,.string p3,.int .i64 p4,.string p5,.bool p6] Z by
  have dd:=jc (w.alloc (.cells #[.slice a len cap,.slice b m c,.slice d n e] 26)) (.string p0) [.string p1,.int .i64 p2,.slice s1 t1 u1,.slice s2 t2 u2,.slice s3 t3 u3,.slice s4 t4 u4,.string p3,.int .i64 p4,.string p5,.bool p6] 52 Z (by rw[←hZ];exact ja _ _);rw[World.size_alloc] at dd;exact dd)
 have HQ:=lH (show jf (w.heap.size+2) [.slice none 0 0,.slice none 0 0,.slice none 0 0] Z by
  have dd:=jc ((w.alloc (.cells #[.slice a len cap,.slice b m c,.slice d n e] 26)).alloc (.cells #[.string p0,.string p1,.int .i64 p2,.slice s1 t1 u1,.slice s2 t2 u2,.slice s3 t3 u3,.slice s4 t4 u4,.string p3,.int .i64 p4,.string p5,.bool p6] 52)) (.slice none 0 0) [.slice none 0 0,.slice none 0 0] 26 Z (by rw[hZ];exact Kept.refl _);rw[World.size_alloc,World.size_alloc] at dd;exact dd)
 have y0:=Vz.out.at_ 0 _ rfl;obtain⟨HO,Vc,Vf,UH,Ts,Ud⟩:=lH6 (jdd a b d len cap m c n e nl pl bl p0 Z (hn.kept hkz) (hp.kept hkz) (hb.kept hkz) h1 h2 h3 h4 h5 h6 hl) hkz hzs hl.podsN (hP.kept hkz) hLP;clear hn hp hb h1 h2 h3 h4 h5 h6 hl hkz hzs cc hP hLP;unfold jy;dsimp only;go_enter Tryz.func264,Tryz.ntmps264;go_wp2_with fail
 try rw[hZ]
 go_wp2_with fail
 try rw[hZ]
 clear hZ o0 o1 o2 y0;refine HO.out.mono ?_;rintro e1 w1 ⟨a1,n1,c1,a2,n2,c2,a3,n3,c3,rfl,ho,k1⟩;obtain⟨W1,hW1⟩:=eX (w1.alloc (.cells #[.slice a1 n1 c1,.slice a2 n2 c2,.slice a3 n3 c3] 26))
 have hkw:Kept w1 W1:=by rw[←hW1];exact ja _ _
 obtain⟨HC,HW,HQ,Vz,Ts,K,Vn⟩:=lH7 (ho.more (q:=w1.heap.size) hkw (Nat.le_refl _)) (show jf w1.heap.size [.slice a1 n1 c1,.slice a2 n2 c2,.slice a3 n3 c3] W1 from jc w1 (.slice a1 n1 c1) [.slice a2 n2 c2,.slice a3 n3 c3] 26 W1 (by rw[hW1];exact Kept.refl _)) (HQ.out.kept (k1.trans hkw)) (Vz.out.kept (k1.trans hkw)) (Ts.out.kept (k1.trans hkw)) (k1.trans hkw) (show Z.heap.size≤w1.heap.size∧w1.heap.size<W1.heap.size from⟨k1.size,by rw[←hW1,World.size_alloc];exact Nat.lt_succ_self _⟩);clear ho k1 hkw;obtain⟨v1,v2,v3,hu,hat⟩:=HC.out.toR
 cases hu
 obtain⟨ap,cp,ep,l1,l2,hpat⟩:=hat.pods
 cases ep
 have US:=lH hpat;clear hat l1 l2;have Tc:=lH (show (zF ⟨nl,pl,bl⟩ p0).pods.length≤100000 from Nat.le_trans (jb4 p0 pl) UH.out);obtain⟨l9,hl9⟩:=eX ((zF ⟨nl,pl,bl⟩ p0).pods)
 obtain⟨len9,hlen9⟩:=eX (l9.length)
 have Tt:=lH (show l9=zc p0 pl by rw[←hl9];rfl);have Ui:=lH hlen9;skip;rw[hl9] at US Tc HW HC ⊢;rw[hlen9] at US Tc HW HC ⊢;try rw[hl9] at hW1
 try rw[hlen9] at hW1
 have VG:=lH (show (zF ⟨nl,pl,bl⟩ p0)=⟨nl,l9,bl⟩ by rw[Tt.out];rfl);rw[VG.out] at HC;clear hl9 hlen9 hpat;go_wp2_with fail
 try rw[hW1]
 try clear hW1
 have HS:=lH (show ∀W,jf (w.heap.size+1) [.string p0,.string p1,.int .i64 p2,.slice s1 t1 u1,.slice s2 t2 u2,.slice s3 t3 u3,.slice s4 t4 u4,.string p3,.int .i64 p4,.string p5,.bool p6] W→W.cell? ⟨w.heap.size+1,0,none⟩=some (.string p0)∧W.cell? ⟨w.heap.size+1,1,none⟩=some (.string p1)∧W.cell? ⟨w.heap.size+1,2,none⟩=some (.int .i64 p2)∧W.cell? ⟨w.heap.size+1,3,none⟩=some (.slice s1 t1 u1)∧W.cell? ⟨w.heap.size+1,4,none⟩=some (.slice s2 t2 u2)∧W.cell? ⟨w.heap.size+1,5,none⟩=some (.slice s3 t3 u3)∧W.cell? ⟨w.heap.size+1,6,none⟩=some (.slice s4 t4 u4)∧W.cell? ⟨w.heap.size+1,7,none⟩=some (.string p3)∧W.cell? ⟨w.heap.size+1,8,none⟩=some (.int .i64 p4)∧W.cell? ⟨w.heap.size+1,9,none⟩=some (.string p5)∧W.cell? ⟨w.heap.size+1,10,none⟩=some (.bool p6) from fun W h=>⟨h.at_ 0 _ rfl,h.at_ 1 _ rfl,h.at_ 2 _ rfl,h.at_ 3 _ rfl,h.at_ 4 _ rfl,h.at_ 5 _ rfl,h.at_ 6 _ rfl,h.at_ 7 _ rfl,h.at_ 8 _ rfl,h.at_ 9 _ rfl,h.at_ 10 _ rfl⟩);have VN:=lH (fun W (k:Kept W1 W)=>Vz.out.kept k);skip;refine wp_region_held_drew (S:=fun W=>W.cell? ⟨w.heap.size+1,0,none⟩=some (.string p0)∧W.cell? ⟨w.heap.size+1,1,none⟩=some (.string p1)∧W.cell? ⟨w.heap.size+1,2,none⟩=some (.int .i64 p2)∧W.cell? ⟨w.heap.size+1,3,none⟩=some (.slice s1 t1 u1)∧W.cell? ⟨w.heap.size+1,4,none⟩=some (.slice s2 t2 u2)∧W.cell? ⟨w.heap.size+1,5,none⟩=some (.slice s3 t3 u3)∧W.cell? ⟨w.heap.size+1,6,none⟩=some (.slice s4 t4 u4)∧W.cell? ⟨w.heap.size+1,7,none⟩=some (.string p3)∧W.cell? ⟨w.heap.size+1,8,none⟩=some (.int .i64 p4)∧W.cell? ⟨w.heap.size+1,9,none⟩=some (.string p5)∧W.cell? ⟨w.heap.size+1,10,none⟩=some (.bool p6)) (by kernel_rfl) (HS.out _ (VN.out _ (Kept.drew _))) (fun hHeld=>?_);refine tkI 0 ?_;refine tkI 2 ?_;refine tkI 4 ?_;refine tkI 5 ?_;refine tkI 7 ?_;try simp only[nP]
 refine rdH (rs:=[1,3]) (h:=coH (fun K9 Ky=>?_) (coH (fun K9 Ky=>?_) AllReadyH.nil))
 · skip;have yq:W1.drew.cell? ⟨w1.heap.size,1,none⟩=some (.slice a2 len9 c2):=(HW.out.kept (Kept.drew W1)).at_ 1 _ rfl;go_simp;refine Ky.out _ _ (HS.out _ (VN.out _ (Kept.drew W1))) (fun _=>?_);clear Ky K9 yq;try simp only[nP]
   have yq:W1.drew.cell? ⟨w1.heap.size,1,none⟩=some (.slice a2 len9 c2):=HW.out.at_ 1 _ rfl;refine rd1 3 fun K9 Ky=>?_;go_simp;refine Ky.out _ _ (HS.out _ (VN.out _ (Kept.drew _))) (fun _=>?_);clear Ky K9 yq;try simp only[nP]
   refine rd1 6 fun K9 Ky=>?_;go_simp;refine(qj a2 len9 c2 l9 p0 _ (US.out.kept (Kept.drew _))).mono ?_;rintro e2 w2 ⟨rfl,kk⟩;have J1:=lH ((Kept.drew W1).trans kk);clear kk;refine Ky.out _ _ (HS.out _ (VN.out _ J1.out)) (fun _=>?_);clear Ky K9;try simp only[nP]
   refine rd1 8 fun K9 Ky=>?_;go_simp;have VK:=Zr ⟨p0,p1,p2,q1,q2,q3,q4,p3,p4,p5,p6⟩ (.slice s1 t1 u1) (.slice s2 t2 u2) (.slice s3 t3 u3) (.slice s4 t4 u4) w2 (Ts.out.kept J1.out) Ud.out;unfold jy at VK;dsimp only at VK;refine VK.mono ?_;clear VK;rintro e3 w3 ⟨v,rfl,hv,kk⟩;have J2:=lH (J1.out.trans kk);obtain⟨x1,y1,z1,x2,y2,z2,x3,y3,z3,x4,y4,z4,hv9,sp,g1,g2,g3,g4⟩:=hv;have hv9:v=.agg #[.string p0,.string p1,.int .i64 p2,.slice x1 y1 z1,.slice x2 y2 z2,.slice x3 y3 z3,.slice x4 y4 z4,.string p3,.int .i64 p4,.string p5,.bool p6]:=hv9;subst hv9;have HG:=lH (show Z.heap.size≤w1.heap.size∧w1.heap.size<w2.heap.size from⟨Vn.out.1,Nat.lt_of_lt_of_le Vn.out.2 J1.out.size⟩);have Vy:=lH (show Off (fun b=>(b<Z.heap.size∨b=w1.heap.size)∨(Value.slice a2 len9 c2).ownBlock=some b) w3 fun u=>At4 u (⟨p0,p1,p2,q1,q2,q3,q4,p3,p4,p5,p6⟩,(x1,y1,z1),(x2,y2,z2),(x3,y3,z3),(x4,y4,z4)) from ji.off (B:=w2.heap.size) sp g1 g2 g3 g4 (fun b hb h=>by
    have h1:=HG.out;rcases h with (h | h) | h
    · omega
    · omega
    · have:=((HC.out.kept J1.out).lt b h).2;omega))
   clear kk sp g1 g2 g3 g4;refine Ky.out _ _ (HS.out _ (VN.out _ J2.out)) (fun _=>?_);clear Ky K9;try simp only[nP]
   refine rd1 9 fun K9 Ky=>?_;go_simp;obtain⟨J3,HV,Vy⟩:=lH3 (J2.out.trans (ja w3 (.cells #[.string p0,.string p1,.int .i64 p2,.slice x1 y1 z1,.slice x2 y2 z2,.slice x3 y3 z3,.slice x4 y4 z4,.string p3,.int .i64 p4,.string p5,.bool p6] 52))) (show (w3.alloc (.cells #[.string p0,.string p1,.int .i64 p2,.slice x1 y1 z1,.slice x2 y2 z2,.slice x3 y3 z3,.slice x4 y4 z4,.string p3,.int .i64 p4,.string p5,.bool p6] 52)).heap[w3.heap.size]?=some (.cells #[.string p0,.string p1,.int .i64 p2,.slice x1 y1 z1,.slice x2 y2 z2,.slice x3 y3 z3,.slice x4 y4 z4,.string p3,.int .i64 p4,.string p5,.bool p6] 52) from World.alloc_heap_new w3 _) (Vy.out.step (jg.of (ja w3 (.cells #[.string p0,.string p1,.int .i64 p2,.slice x1 y1 z1,.slice x2 y2 z2,.slice x3 y3 z3,.slice x4 y4 z4,.string p3,.int .i64 p4,.string p5,.bool p6] 52))));refine Ky.out _ _ (HS.out _ (VN.out _ J3.out)) (fun _=>?_);clear Ky K9;try simp only[nP]
   obtain⟨w4,hw4⟩:=eX (w3.alloc (.cells #[.string p0,.string p1,.int .i64 p2,.slice x1 y1 z1,.slice x2 y2 z2,.slice x3 y3 z3,.slice x4 y4 z4,.string p3,.int .i64 p4,.string p5,.bool p6] 52))
   rw[hw4] at J3 HV Vy ⊢;clear hw4;refine rd1 10 fun K9 Ky=>?_;go_simp;refine(YQ (HC.out.kept J3.out) (⟨p0,p1,p2,q1,q2,q3,q4,p3,p4,p5,p6⟩,(x1,y1,z1),(x2,y2,z2),(x3,y3,z3),(x4,y4,z4)) (i:=placeN p0 l9) (by have:=XI p0 l9;rw[Ui.out] at this;exact this) Tc.out (by have:=J3.out.size;have:=Vn.out;omega) (fun b hb=>by have:=J3.out.size;have:=Vn.out;rcases hb with hb | hb<;>omega) HV.out (fun e=>by have h1:=((HC.out.kept J2.out).lt _ e).2;omega) Vy.out).mono ?_;rintro e5 w5 ⟨g,c9,rfl,hc5,hg5⟩;obtain⟨UC,VT,VS,V7,K5⟩:=lH5 hc5 (((HW.out.kept J3.out)).block (hg5.block _ (by have:=J3.out.size;have:=Vn.out;omega) (fun e=>HC.out.sep _ e (.inr rfl)))) ((HQ.out.kept J3.out).block (hg5.block _ (by have:=J3.out.size;have:=Vn.out;have:=Vf.out;omega) (fun e=>HC.out.sep _ e (.inl (by have:=Vf.out;omega))))) ((VN.out _ J3.out).block (hg5.block _ (by have:=J3.out.size;have:=Vn.out;have:=Vf.out;omega) (fun e=>HC.out.sep _ e (.inl (by have:=Vf.out;omega))))) (show Kept w w5 from Below.trans (Vc.out.trans (K.out.trans J3.out)) (hg5.at_below (B:=w.heap.size) (fun q e=>by have:=(HC.out.lt q e).1;have:=Vf.out;omega) (Vc.out.trans (K.out.trans J3.out)).size));clear hc5 hg5;refine Ky.out _ _ (HS.out _ V7.out) (fun _=>?_);clear Ky K9;try simp only[nP]
   refine tkI 11 ?_;try simp only[nP]
   have q1:=VT.out.at_ 1 _ rfl;have f1:=VT.out.free 1;refine rd1 12 fun K9 Ky=>?_;go_simp;obtain⟨UU,VM,Un,UW,K6⟩:=lH5 (V7.out.other (p:=w1.heap.size) (j:=1) (u:=.slice (some ⟨g,0,none⟩) (len9+1) c9) (by have:=Vn.out;have:=Vf.out;omega)) (VS.out.other (p:=w1.heap.size) (j:=1) (u:=.slice (some ⟨g,0,none⟩) (len9+1) c9) (by have:=Vn.out;have:=Vf.out;omega)) (show jf w1.heap.size [.slice a1 n1 c1,.slice (some ⟨g,0,none⟩) (len9+1) c9,.slice a3 n3 c3] (w5.setCell ⟨w1.heap.size,1,none⟩ (.slice (some ⟨g,0,none⟩) (len9+1) c9)) from VT.out.set (j:=1) (by simp)) (UC.out.step (jg.cell (S:=fun b=>b<Z.heap.size∨b=w1.heap.size) w1.heap.size 1 (.slice (some ⟨g,0,none⟩) (len9+1) c9) (.inr rfl))) (show Kept w (w5.setCell ⟨w1.heap.size,1,none⟩ (.slice (some ⟨g,0,none⟩) (len9+1) c9)) from K5.out.setCell (p:=⟨w1.heap.size,1,none⟩) (by have:=Vn.out;have:=Vf.out;show w.heap.size≤w1.heap.size;omega) _);refine Ky.out _ _ (HS.out _ UU.out) (fun _=>?_);clear Ky K9 q1 f1;try simp only[nP]
   refine wpAnyH_done (by kernel_rfl) ?_ _;obtain⟨y0,y1,y2⟩:=Un.out.at3;obtain⟨z0,z1,z2⟩:=VM.out.at3;have f0:=VM.out.free 0;have f1:=VM.out.free 1;have f2:=VM.out.free 2;have PP:=lH (j5 (vs:=[.slice a1 n1 c1,.slice (some ⟨g,0,none⟩) (len9+1) c9,.slice a3 n3 c3]) VM.out rfl);go_wp2;obtain⟨WE,hWE⟩:=eX ((w5.setCell ⟨w1.heap.size,1,none⟩ (.slice (some ⟨g,0,none⟩) (len9+1) c9)).setCells (w.heap.size+2) 0 [.slice a1 n1 c1,.slice (some ⟨g,0,none⟩) (len9+1) c9,.slice a3 n3 c3])
   have hWE2:((((w5.setCell ⟨w1.heap.size,1,none⟩ (.slice (some ⟨g,0,none⟩) (len9+1) c9)).setCell ⟨(w.heap.size+2),0,none⟩ (.slice a1 n1 c1)).setCell ⟨(w.heap.size+2),1,none⟩ (.slice (some ⟨g,0,none⟩) (len9+1) c9)).setCell ⟨(w.heap.size+2),2,none⟩ (.slice a3 n3 c3))=WE:=hWE;rw[hWE] at PP;try rw[hWE2]
   have GE:=lH (show jg (fun b=>b<Z.heap.size∨b=w1.heap.size) (w5.setCell ⟨w1.heap.size,1,none⟩ (.slice (some ⟨g,0,none⟩) (len9+1) c9)) WE by rw[←hWE];exact jg.cells (S:=fun b=>b<Z.heap.size∨b=w1.heap.size) _ (.inl (by have:=Vf.out;omega)) _ _ _);clear hWE hWE2;obtain⟨PCC,hsz,hbl,hkp⟩:=PP.out;refine bodyPost_ret (by simp[results,Tryz.results264,go_sem,PCC.at_ 0 _ rfl,PCC.at_ 1 _ rfl,PCC.at_ 2 _ rfl];try rfl) rfl ?_;have Vr:=(UW.out.step GE.out).less (B':=w.heap.size) (S':=fun b=>b<w.heap.size) Vc.out.size (fun b hb=>.inl (Nat.lt_of_lt_of_le hb Vc.out.size));rw[show l9.take (placeN p0 l9)++⟨p0,p1,p2,q1,q2,q3,q4,p3,p4,p5,p6⟩::l9.drop (placeN p0 l9)=JY ⟨p0,p1,p2,q1,q2,q3,q4,p3,p4,p5,p6⟩ (zc p0 pl) by rw[←Tt.out];exact YJ (p:=⟨p0,p1,p2,q1,q2,q3,q4,p3,p4,p5,p6⟩) (l:=l9)] at Vr;exact⟨_,_,_,_,_,_,_,_,_,rfl,Vr,hkp _ _ (by omega) K6.out⟩
 · skip;have yq:W1.drew.cell? ⟨w1.heap.size,1,none⟩=some (.slice a2 len9 c2):=HW.out.at_ 1 _ rfl;go_simp;refine Ky.out _ _ (HS.out _ (VN.out _ (Kept.drew _))) (fun _=>?_);clear Ky K9 yq;try simp only[nP]
   refine rdH (rs:=[1,6]) (h:=coH (fun K9 Ky=>?_) (coH (fun K9 Ky=>?_) AllReadyH.nil))
   · skip;have yq:W1.drew.cell? ⟨w1.heap.size,1,none⟩=some (.slice a2 len9 c2):=(HW.out.kept (Kept.drew W1)).at_ 1 _ rfl;go_simp;refine Ky.out _ _ (HS.out _ (VN.out _ (Kept.drew W1))) (fun _=>?_);clear Ky K9 yq;try simp only[nP]
     refine rd1 6 fun K9 Ky=>?_;go_simp;refine(qj a2 len9 c2 l9 p0 _ (US.out.kept (Kept.drew _))).mono ?_;rintro e2 w2 ⟨rfl,kk⟩;have J1:=lH ((Kept.drew W1).trans kk);clear kk;refine Ky.out _ _ (HS.out _ (VN.out _ J1.out)) (fun _=>?_);clear Ky K9;try simp only[nP]
     refine rd1 8 fun K9 Ky=>?_;go_simp;have VK:=Zr ⟨p0,p1,p2,q1,q2,q3,q4,p3,p4,p5,p6⟩ (.slice s1 t1 u1) (.slice s2 t2 u2) (.slice s3 t3 u3) (.slice s4 t4 u4) w2 (Ts.out.kept J1.out) Ud.out;unfold jy at VK;dsimp only at VK;refine VK.mono ?_;clear VK;rintro e3 w3 ⟨v,rfl,hv,kk⟩;have J2:=lH (J1.out.trans kk);obtain⟨x1,y1,z1,x2,y2,z2,x3,y3,z3,x4,y4,z4,hv9,sp,g1,g2,g3,g4⟩:=hv;have hv9:v=.agg #[.string p0,.string p1,.int .i64 p2,.slice x1 y1 z1,.slice x2 y2 z2,.slice x3 y3 z3,.slice x4 y4 z4,.string p3,.int .i64 p4,.string p5,.bool p6]:=hv9;subst hv9;have HG:=lH (show Z.heap.size≤w1.heap.size∧w1.heap.size<w2.heap.size from⟨Vn.out.1,Nat.lt_of_lt_of_le Vn.out.2 J1.out.size⟩);have Vy:=lH (show Off (fun b=>(b<Z.heap.size∨b=w1.heap.size)∨(Value.slice a2 len9 c2).ownBlock=some b) w3 fun u=>At4 u (⟨p0,p1,p2,q1,q2,q3,q4,p3,p4,p5,p6⟩,(x1,y1,z1),(x2,y2,z2),(x3,y3,z3),(x4,y4,z4)) from ji.off (B:=w2.heap.size) sp g1 g2 g3 g4 (fun b hb h=>by
      have h1:=HG.out;rcases h with (h | h) | h
      · omega
      · omega
      · have:=((HC.out.kept J1.out).lt b h).2;omega))
     clear kk sp g1 g2 g3 g4;refine Ky.out _ _ (HS.out _ (VN.out _ J2.out)) (fun _=>?_);clear Ky K9;try simp only[nP]
     refine rd1 9 fun K9 Ky=>?_;go_simp;obtain⟨J3,HV,Vy⟩:=lH3 (J2.out.trans (ja w3 (.cells #[.string p0,.string p1,.int .i64 p2,.slice x1 y1 z1,.slice x2 y2 z2,.slice x3 y3 z3,.slice x4 y4 z4,.string p3,.int .i64 p4,.string p5,.bool p6] 52))) (show (w3.alloc (.cells #[.string p0,.string p1,.int .i64 p2,.slice x1 y1 z1,.slice x2 y2 z2,.slice x3 y3 z3,.slice x4 y4 z4,.string p3,.int .i64 p4,.string p5,.bool p6] 52)).heap[w3.heap.size]?=some (.cells #[.string p0,.string p1,.int .i64 p2,.slice x1 y1 z1,.slice x2 y2 z2,.slice x3 y3 z3,.slice x4 y4 z4,.string p3,.int .i64 p4,.string p5,.bool p6] 52) from World.alloc_heap_new w3 _) (Vy.out.step (jg.of (ja w3 (.cells #[.string p0,.string p1,.int .i64 p2,.slice x1 y1 z1,.slice x2 y2 z2,.slice x3 y3 z3,.slice x4 y4 z4,.string p3,.int .i64 p4,.string p5,.bool p6] 52))));refine Ky.out _ _ (HS.out _ (VN.out _ J3.out)) (fun _=>?_);clear Ky K9;try simp only[nP]
     obtain⟨w4,hw4⟩:=eX (w3.alloc (.cells #[.string p0,.string p1,.int .i64 p2,.slice x1 y1 z1,.slice x2 y2 z2,.slice x3 y3 z3,.slice x4 y4 z4,.string p3,.int .i64 p4,.string p5,.bool p6] 52))
     rw[hw4] at J3 HV Vy ⊢;clear hw4;refine rd1 10 fun K9 Ky=>?_;go_simp;refine(YQ (HC.out.kept J3.out) (⟨p0,p1,p2,q1,q2,q3,q4,p3,p4,p5,p6⟩,(x1,y1,z1),(x2,y2,z2),(x3,y3,z3),(x4,y4,z4)) (i:=placeN p0 l9) (by have:=XI p0 l9;rw[Ui.out] at this;exact this) Tc.out (by have:=J3.out.size;have:=Vn.out;omega) (fun b hb=>by have:=J3.out.size;have:=Vn.out;rcases hb with hb | hb<;>omega) HV.out (fun e=>by have h1:=((HC.out.kept J2.out).lt _ e).2;omega) Vy.out).mono ?_;rintro e5 w5 ⟨g,c9,rfl,hc5,hg5⟩;obtain⟨UC,VT,VS,V7,K5⟩:=lH5 hc5 (((HW.out.kept J3.out)).block (hg5.block _ (by have:=J3.out.size;have:=Vn.out;omega) (fun e=>HC.out.sep _ e (.inr rfl)))) ((HQ.out.kept J3.out).block (hg5.block _ (by have:=J3.out.size;have:=Vn.out;have:=Vf.out;omega) (fun e=>HC.out.sep _ e (.inl (by have:=Vf.out;omega))))) ((VN.out _ J3.out).block (hg5.block _ (by have:=J3.out.size;have:=Vn.out;have:=Vf.out;omega) (fun e=>HC.out.sep _ e (.inl (by have:=Vf.out;omega))))) (show Kept w w5 from Below.trans (Vc.out.trans (K.out.trans J3.out)) (hg5.at_below (B:=w.heap.size) (fun q e=>by have:=(HC.out.lt q e).1;have:=Vf.out;omega) (Vc.out.trans (K.out.trans J3.out)).size));clear hc5 hg5;refine Ky.out _ _ (HS.out _ V7.out) (fun _=>?_);clear Ky K9;try simp only[nP]
     refine tkI 11 ?_;try simp only[nP]
     have q1:=VT.out.at_ 1 _ rfl;have f1:=VT.out.free 1;refine rd1 12 fun K9 Ky=>?_;go_simp;obtain⟨UU,VM,Un,UW,K6⟩:=lH5 (V7.out.other (p:=w1.heap.size) (j:=1) (u:=.slice (some ⟨g,0,none⟩) (len9+1) c9) (by have:=Vn.out;have:=Vf.out;omega)) (VS.out.other (p:=w1.heap.size) (j:=1) (u:=.slice (some ⟨g,0,none⟩) (len9+1) c9) (by have:=Vn.out;have:=Vf.out;omega)) (show jf w1.heap.size [.slice a1 n1 c1,.slice (some ⟨g,0,none⟩) (len9+1) c9,.slice a3 n3 c3] (w5.setCell ⟨w1.heap.size,1,none⟩ (.slice (some ⟨g,0,none⟩) (len9+1) c9)) from VT.out.set (j:=1) (by simp)) (UC.out.step (jg.cell (S:=fun b=>b<Z.heap.size∨b=w1.heap.size) w1.heap.size 1 (.slice (some ⟨g,0,none⟩) (len9+1) c9) (.inr rfl))) (show Kept w (w5.setCell ⟨w1.heap.size,1,none⟩ (.slice (some ⟨g,0,none⟩) (len9+1) c9)) from K5.out.setCell (p:=⟨w1.heap.size,1,none⟩) (by have:=Vn.out;have:=Vf.out;show w.heap.size≤w1.heap.size;omega) _);refine Ky.out _ _ (HS.out _ UU.out) (fun _=>?_);clear Ky K9 q1 f1;try simp only[nP]
     refine wpAnyH_done (by kernel_rfl) ?_ _;obtain⟨y0,y1,y2⟩:=Un.out.at3;obtain⟨z0,z1,z2⟩:=VM.out.at3;have f0:=VM.out.free 0;have f1:=VM.out.free 1;have f2:=VM.out.free 2;have PP:=lH (j5 (vs:=[.slice a1 n1 c1,.slice (some ⟨g,0,none⟩) (len9+1) c9,.slice a3 n3 c3]) VM.out rfl);go_wp2;obtain⟨WE,hWE⟩:=eX ((w5.setCell ⟨w1.heap.size,1,none⟩ (.slice (some ⟨g,0,none⟩) (len9+1) c9)).setCells (w.heap.size+2) 0 [.slice a1 n1 c1,.slice (some ⟨g,0,none⟩) (len9+1) c9,.slice a3 n3 c3])
     have hWE2:((((w5.setCell ⟨w1.heap.size,1,none⟩ (.slice (some ⟨g,0,none⟩) (len9+1) c9)).setCell ⟨(w.heap.size+2),0,none⟩ (.slice a1 n1 c1)).setCell ⟨(w.heap.size+2),1,none⟩ (.slice (some ⟨g,0,none⟩) (len9+1) c9)).setCell ⟨(w.heap.size+2),2,none⟩ (.slice a3 n3 c3))=WE:=hWE;rw[hWE] at PP;try rw[hWE2]
     have GE:=lH (show jg (fun b=>b<Z.heap.size∨b=w1.heap.size) (w5.setCell ⟨w1.heap.size,1,none⟩ (.slice (some ⟨g,0,none⟩) (len9+1) c9)) WE by rw[←hWE];exact jg.cells (S:=fun b=>b<Z.heap.size∨b=w1.heap.size) _ (.inl (by have:=Vf.out;omega)) _ _ _);clear hWE hWE2;obtain⟨PCC,hsz,hbl,hkp⟩:=PP.out;refine bodyPost_ret (by simp[results,Tryz.results264,go_sem,PCC.at_ 0 _ rfl,PCC.at_ 1 _ rfl,PCC.at_ 2 _ rfl];try rfl) rfl ?_;have Vr:=(UW.out.step GE.out).less (B':=w.heap.size) (S':=fun b=>b<w.heap.size) Vc.out.size (fun b hb=>.inl (Nat.lt_of_lt_of_le hb Vc.out.size));rw[show l9.take (placeN p0 l9)++⟨p0,p1,p2,q1,q2,q3,q4,p3,p4,p5,p6⟩::l9.drop (placeN p0 l9)=JY ⟨p0,p1,p2,q1,q2,q3,q4,p3,p4,p5,p6⟩ (zc p0 pl) by rw[←Tt.out];exact YJ (p:=⟨p0,p1,p2,q1,q2,q3,q4,p3,p4,p5,p6⟩) (l:=l9)] at Vr;exact⟨_,_,_,_,_,_,_,_,_,rfl,Vr,hkp _ _ (by omega) K6.out⟩
   · skip;go_simp;refine(qj a2 len9 c2 l9 p0 _ (US.out.kept (Kept.drew _))).mono ?_;rintro e2 w2 ⟨rfl,kk⟩;have J1:=lH ((Kept.drew W1).trans kk);clear kk;refine Ky.out _ _ (HS.out _ (VN.out _ J1.out)) (fun _=>?_);clear Ky K9;try simp only[nP]
     refine rdH (rs:=[1,8]) (h:=coH (fun K9 Ky=>?_) (coH (fun K9 Ky=>?_) AllReadyH.nil))
     · skip;have yq:w2.cell? ⟨w1.heap.size,1,none⟩=some (.slice a2 len9 c2):=(HW.out.kept J1.out).at_ 1 _ rfl;go_simp;refine Ky.out _ _ (HS.out _ (VN.out _ J1.out)) (fun _=>?_);clear Ky K9 yq;try simp only[nP]
       refine rd1 8 fun K9 Ky=>?_;go_simp;have VK:=Zr ⟨p0,p1,p2,q1,q2,q3,q4,p3,p4,p5,p6⟩ (.slice s1 t1 u1) (.slice s2 t2 u2) (.slice s3 t3 u3) (.slice s4 t4 u4) w2 (Ts.out.kept J1.out) Ud.out;unfold jy at VK;dsimp only at VK;refine VK.mono ?_;clear VK;rintro e3 w3 ⟨v,rfl,hv,kk⟩;have J2:=lH (J1.out.trans kk);obtain⟨x1,y1,z1,x2,y2,z2,x3,y3,z3,x4,y4,z4,hv9,sp,g1,g2,g3,g4⟩:=hv;have hv9:v=.agg #[.string p0,.string p1,.int .i64 p2,.slice x1 y1 z1,.slice x2 y2 z2,.slice x3 y3 z3,.slice x4 y4 z4,.string p3,.int .i64 p4,.string p5,.bool p6]:=hv9;subst hv9;have HG:=lH (show Z.heap.size≤w1.heap.size∧w1.heap.size<w2.heap.size from⟨Vn.out.1,Nat.lt_of_lt_of_le Vn.out.2 J1.out.size⟩);have Vy:=lH (show Off (fun b=>(b<Z.heap.size∨b=w1.heap.size)∨(Value.slice a2 len9 c2).ownBlock=some b) w3 fun u=>At4 u (⟨p0,p1,p2,q1,q2,q3,q4,p3,p4,p5,p6⟩,(x1,y1,z1),(x2,y2,z2),(x3,y3,z3),(x4,y4,z4)) from ji.off (B:=w2.heap.size) sp g1 g2 g3 g4 (fun b hb h=>by
        have h1:=HG.out;rcases h with (h | h) | h
        · omega
        · omega
        · have:=((HC.out.kept J1.out).lt b h).2;omega))
       clear kk sp g1 g2 g3 g4;refine Ky.out _ _ (HS.out _ (VN.out _ J2.out)) (fun _=>?_);clear Ky K9;try simp only[nP]
       refine rd1 9 fun K9 Ky=>?_;go_simp;obtain⟨J3,HV,Vy⟩:=lH3 (J2.out.trans (ja w3 (.cells #[.string p0,.string p1,.int .i64 p2,.slice x1 y1 z1,.slice x2 y2 z2,.slice x3 y3 z3,.slice x4 y4 z4,.string p3,.int .i64 p4,.string p5,.bool p6] 52))) (show (w3.alloc (.cells #[.string p0,.string p1,.int .i64 p2,.slice x1 y1 z1,.slice x2 y2 z2,.slice x3 y3 z3,.slice x4 y4 z4,.string p3,.int .i64 p4,.string p5,.bool p6] 52)).heap[w3.heap.size]?=some (.cells #[.string p0,.string p1,.int .i64 p2,.slice x1 y1 z1,.slice x2 y2 z2,.slice x3 y3 z3,.slice x4 y4 z4,.string p3,.int .i64 p4,.string p5,.bool p6] 52) from World.alloc_heap_new w3 _) (Vy.out.step (jg.of (ja w3 (.cells #[.string p0,.string p1,.int .i64 p2,.slice x1 y1 z1,.slice x2 y2 z2,.slice x3 y3 z3,.slice x4 y4 z4,.string p3,.int .i64 p4,.string p5,.bool p6] 52))));refine Ky.out _ _ (HS.out _ (VN.out _ J3.out)) (fun _=>?_);clear Ky K9;try simp only[nP]
       obtain⟨w4,hw4⟩:=eX (w3.alloc (.cells #[.string p0,.string p1,.int .i64 p2,.slice x1 y1 z1,.slice x2 y2 z2,.slice x3 y3 z3,.slice x4 y4 z4,.string p3,.int .i64 p4,.string p5,.bool p6] 52))
       rw[hw4] at J3 HV Vy ⊢;clear hw4;refine rd1 10 fun K9 Ky=>?_;go_simp;refine(YQ (HC.out.kept J3.out) (⟨p0,p1,p2,q1,q2,q3,q4,p3,p4,p5,p6⟩,(x1,y1,z1),(x2,y2,z2),(x3,y3,z3),(x4,y4,z4)) (i:=placeN p0 l9) (by have:=XI p0 l9;rw[Ui.out] at this;exact this) Tc.out (by have:=J3.out.size;have:=Vn.out;omega) (fun b hb=>by have:=J3.out.size;have:=Vn.out;rcases hb with hb | hb<;>omega) HV.out (fun e=>by have h1:=((HC.out.kept J2.out).lt _ e).2;omega) Vy.out).mono ?_;rintro e5 w5 ⟨g,c9,rfl,hc5,hg5⟩;obtain⟨UC,VT,VS,V7,K5⟩:=lH5 hc5 (((HW.out.kept J3.out)).block (hg5.block _ (by have:=J3.out.size;have:=Vn.out;omega) (fun e=>HC.out.sep _ e (.inr rfl)))) ((HQ.out.kept J3.out).block (hg5.block _ (by have:=J3.out.size;have:=Vn.out;have:=Vf.out;omega) (fun e=>HC.out.sep _ e (.inl (by have:=Vf.out;omega))))) ((VN.out _ J3.out).block (hg5.block _ (by have:=J3.out.size;have:=Vn.out;have:=Vf.out;omega) (fun e=>HC.out.sep _ e (.inl (by have:=Vf.out;omega))))) (show Kept w w5 from Below.trans (Vc.out.trans (K.out.trans J3.out)) (hg5.at_below (B:=w.heap.size) (fun q e=>by have:=(HC.out.lt q e).1;have:=Vf.out;omega) (Vc.out.trans (K.out.trans J3.out)).size));clear hc5 hg5;refine Ky.out _ _ (HS.out _ V7.out) (fun _=>?_);clear Ky K9;try simp only[nP]
       refine tkI 11 ?_;try simp only[nP]
       have q1:=VT.out.at_ 1 _ rfl;have f1:=VT.out.free 1;refine rd1 12 fun K9 Ky=>?_;go_simp;obtain⟨UU,VM,Un,UW,K6⟩:=lH5 (V7.out.other (p:=w1.heap.size) (j:=1) (u:=.slice (some ⟨g,0,none⟩) (len9+1) c9) (by have:=Vn.out;have:=Vf.out;omega)) (VS.out.other (p:=w1.heap.size) (j:=1) (u:=.slice (some ⟨g,0,none⟩) (len9+1) c9) (by have:=Vn.out;have:=Vf.out;omega)) (show jf w1.heap.size [.slice a1 n1 c1,.slice (some ⟨g,0,none⟩) (len9+1) c9,.slice a3 n3 c3] (w5.setCell ⟨w1.heap.size,1,none⟩ (.slice (some ⟨g,0,none⟩) (len9+1) c9)) from VT.out.set (j:=1) (by simp)) (UC.out.step (jg.cell (S:=fun b=>b<Z.heap.size∨b=w1.heap.size) w1.heap.size 1 (.slice (some ⟨g,0,none⟩) (len9+1) c9) (.inr rfl))) (show Kept w (w5.setCell ⟨w1.heap.size,1,none⟩ (.slice (some ⟨g,0,none⟩) (len9+1) c9)) from K5.out.setCell (p:=⟨w1.heap.size,1,none⟩) (by have:=Vn.out;have:=Vf.out;show w.heap.size≤w1.heap.size;omega) _);refine Ky.out _ _ (HS.out _ UU.out) (fun _=>?_);clear Ky K9 q1 f1;try simp only[nP]
       refine wpAnyH_done (by kernel_rfl) ?_ _;obtain⟨y0,y1,y2⟩:=Un.out.at3;obtain⟨z0,z1,z2⟩:=VM.out.at3;have f0:=VM.out.free 0;have f1:=VM.out.free 1;have f2:=VM.out.free 2;have PP:=lH (j5 (vs:=[.slice a1 n1 c1,.slice (some ⟨g,0,none⟩) (len9+1) c9,.slice a3 n3 c3]) VM.out rfl);go_wp2;obtain⟨WE,hWE⟩:=eX ((w5.setCell ⟨w1.heap.size,1,none⟩ (.slice (some ⟨g,0,none⟩) (len9+1) c9)).setCells (w.heap.size+2) 0 [.slice a1 n1 c1,.slice (some ⟨g,0,none⟩) (len9+1) c9,.slice a3 n3 c3])
       have hWE2:((((w5.setCell ⟨w1.heap.size,1,none⟩ (.slice (some ⟨g,0,none⟩) (len9+1) c9)).setCell ⟨(w.heap.size+2),0,none⟩ (.slice a1 n1 c1)).setCell ⟨(w.heap.size+2),1,none⟩ (.slice (some ⟨g,0,none⟩) (len9+1) c9)).setCell ⟨(w.heap.size+2),2,none⟩ (.slice a3 n3 c3))=WE:=hWE;rw[hWE] at PP;try rw[hWE2]
       have GE:=lH (show jg (fun b=>b<Z.heap.size∨b=w1.heap.size) (w5.setCell ⟨w1.heap.size,1,none⟩ (.slice (some ⟨g,0,none⟩) (len9+1) c9)) WE by rw[←hWE];exact jg.cells (S:=fun b=>b<Z.heap.size∨b=w1.heap.size) _ (.inl (by have:=Vf.out;omega)) _ _ _);clear hWE hWE2;obtain⟨PCC,hsz,hbl,hkp⟩:=PP.out;refine bodyPost_ret (by simp[results,Tryz.results264,go_sem,PCC.at_ 0 _ rfl,PCC.at_ 1 _ rfl,PCC.at_ 2 _ rfl];try rfl) rfl ?_;have Vr:=(UW.out.step GE.out).less (B':=w.heap.size) (S':=fun b=>b<w.heap.size) Vc.out.size (fun b hb=>.inl (Nat.lt_of_lt_of_le hb Vc.out.size));rw[show l9.take (placeN p0 l9)++⟨p0,p1,p2,q1,q2,q3,q4,p3,p4,p5,p6⟩::l9.drop (placeN p0 l9)=JY ⟨p0,p1,p2,q1,q2,q3,q4,p3,p4,p5,p6⟩ (zc p0 pl) by rw[←Tt.out];exact YJ (p:=⟨p0,p1,p2,q1,q2,q3,q4,p3,p4,p5,p6⟩) (l:=l9)] at Vr;exact⟨_,_,_,_,_,_,_,_,_,rfl,Vr,hkp _ _ (by omega) K6.out⟩
     · skip;go_simp;have VK:=Zr ⟨p0,p1,p2,q1,q2,q3,q4,p3,p4,p5,p6⟩ (.slice s1 t1 u1) (.slice s2 t2 u2) (.slice s3 t3 u3) (.slice s4 t4 u4) w2 (Ts.out.kept J1.out) Ud.out;unfold jy at VK;dsimp only at VK;refine VK.mono ?_;clear VK;rintro e3 w3 ⟨v,rfl,hv,kk⟩;have J2:=lH (J1.out.trans kk);obtain⟨x1,y1,z1,x2,y2,z2,x3,y3,z3,x4,y4,z4,hv9,sp,g1,g2,g3,g4⟩:=hv;have hv9:v=.agg #[.string p0,.string p1,.int .i64 p2,.slice x1 y1 z1,.slice x2 y2 z2,.slice x3 y3 z3,.slice x4 y4 z4,.string p3,.int .i64 p4,.string p5,.bool p6]:=hv9;subst hv9;have HG:=lH (show Z.heap.size≤w1.heap.size∧w1.heap.size<w2.heap.size from⟨Vn.out.1,Nat.lt_of_lt_of_le Vn.out.2 J1.out.size⟩);have Vy:=lH (show Off (fun b=>(b<Z.heap.size∨b=w1.heap.size)∨(Value.slice a2 len9 c2).ownBlock=some b) w3 fun u=>At4 u (⟨p0,p1,p2,q1,q2,q3,q4,p3,p4,p5,p6⟩,(x1,y1,z1),(x2,y2,z2),(x3,y3,z3),(x4,y4,z4)) from ji.off (B:=w2.heap.size) sp g1 g2 g3 g4 (fun b hb h=>by
        have h1:=HG.out;rcases h with (h | h) | h
        · omega
        · omega
        · have:=((HC.out.kept J1.out).lt b h).2;omega))
       clear kk sp g1 g2 g3 g4;refine Ky.out _ _ (HS.out _ (VN.out _ J2.out)) (fun _=>?_);clear Ky K9;try simp only[nP]
       refine rdH (rs:=[1,9]) (h:=coH (fun K9 Ky=>?_) (coH (fun K9 Ky=>?_) AllReadyH.nil))
       · skip;have yq:w3.cell? ⟨w1.heap.size,1,none⟩=some (.slice a2 len9 c2):=(HW.out.kept J2.out).at_ 1 _ rfl;go_simp;refine Ky.out _ _ (HS.out _ (VN.out _ J2.out)) (fun _=>?_);clear Ky K9 yq;try simp only[nP]
         refine rd1 9 fun K9 Ky=>?_;go_simp;obtain⟨J3,HV,Vy⟩:=lH3 (J2.out.trans (ja w3 (.cells #[.string p0,.string p1,.int .i64 p2,.slice x1 y1 z1,.slice x2 y2 z2,.slice x3 y3 z3,.slice x4 y4 z4,.string p3,.int .i64 p4,.string p5,.bool p6] 52))) (show (w3.alloc (.cells #[.string p0,.string p1,.int .i64 p2,.slice x1 y1 z1,.slice x2 y2 z2,.slice x3 y3 z3,.slice x4 y4 z4,.string p3,.int .i64 p4,.string p5,.bool p6] 52)).heap[w3.heap.size]?=some (.cells #[.string p0,.string p1,.int .i64 p2,.slice x1 y1 z1,.slice x2 y2 z2,.slice x3 y3 z3,.slice x4 y4 z4,.string p3,.int .i64 p4,.string p5,.bool p6] 52) from World.alloc_heap_new w3 _) (Vy.out.step (jg.of (ja w3 (.cells #[.string p0,.string p1,.int .i64 p2,.slice x1 y1 z1,.slice x2 y2 z2,.slice x3 y3 z3,.slice x4 y4 z4,.string p3,.int .i64 p4,.string p5,.bool p6] 52))));refine Ky.out _ _ (HS.out _ (VN.out _ J3.out)) (fun _=>?_);clear Ky K9;try simp only[nP]
         obtain⟨w4,hw4⟩:=eX (w3.alloc (.cells #[.string p0,.string p1,.int .i64 p2,.slice x1 y1 z1,.slice x2 y2 z2,.slice x3 y3 z3,.slice x4 y4 z4,.string p3,.int .i64 p4,.string p5,.bool p6] 52))
         rw[hw4] at J3 HV Vy ⊢;clear hw4;refine rd1 10 fun K9 Ky=>?_;go_simp;refine(YQ (HC.out.kept J3.out) (⟨p0,p1,p2,q1,q2,q3,q4,p3,p4,p5,p6⟩,(x1,y1,z1),(x2,y2,z2),(x3,y3,z3),(x4,y4,z4)) (i:=placeN p0 l9) (by have:=XI p0 l9;rw[Ui.out] at this;exact this) Tc.out (by have:=J3.out.size;have:=Vn.out;omega) (fun b hb=>by have:=J3.out.size;have:=Vn.out;rcases hb with hb | hb<;>omega) HV.out (fun e=>by have h1:=((HC.out.kept J2.out).lt _ e).2;omega) Vy.out).mono ?_;rintro e5 w5 ⟨g,c9,rfl,hc5,hg5⟩;obtain⟨UC,VT,VS,V7,K5⟩:=lH5 hc5 (((HW.out.kept J3.out)).block (hg5.block _ (by have:=J3.out.size;have:=Vn.out;omega) (fun e=>HC.out.sep _ e (.inr rfl)))) ((HQ.out.kept J3.out).block (hg5.block _ (by have:=J3.out.size;have:=Vn.out;have:=Vf.out;omega) (fun e=>HC.out.sep _ e (.inl (by have:=Vf.out;omega))))) ((VN.out _ J3.out).block (hg5.block _ (by have:=J3.out.size;have:=Vn.out;have:=Vf.out;omega) (fun e=>HC.out.sep _ e (.inl (by have:=Vf.out;omega))))) (show Kept w w5 from Below.trans (Vc.out.trans (K.out.trans J3.out)) (hg5.at_below (B:=w.heap.size) (fun q e=>by have:=(HC.out.lt q e).1;have:=Vf.out;omega) (Vc.out.trans (K.out.trans J3.out)).size));clear hc5 hg5;refine Ky.out _ _ (HS.out _ V7.out) (fun _=>?_);clear Ky K9;try simp only[nP]
         refine tkI 11 ?_;try simp only[nP]
         have q1:=VT.out.at_ 1 _ rfl;have f1:=VT.out.free 1;refine rd1 12 fun K9 Ky=>?_;go_simp;obtain⟨UU,VM,Un,UW,K6⟩:=lH5 (V7.out.other (p:=w1.heap.size) (j:=1) (u:=.slice (some ⟨g,0,none⟩) (len9+1) c9) (by have:=Vn.out;have:=Vf.out;omega)) (VS.out.other (p:=w1.heap.size) (j:=1) (u:=.slice (some ⟨g,0,none⟩) (len9+1) c9) (by have:=Vn.out;have:=Vf.out;omega)) (show jf w1.heap.size [.slice a1 n1 c1,.slice (some ⟨g,0,none⟩) (len9+1) c9,.slice a3 n3 c3] (w5.setCell ⟨w1.heap.size,1,none⟩ (.slice (some ⟨g,0,none⟩) (len9+1) c9)) from VT.out.set (j:=1) (by simp)) (UC.out.step (jg.cell (S:=fun b=>b<Z.heap.size∨b=w1.heap.size) w1.heap.size 1 (.slice (some ⟨g,0,none⟩) (len9+1) c9) (.inr rfl))) (show Kept w (w5.setCell ⟨w1.heap.size,1,none⟩ (.slice (some ⟨g,0,none⟩) (len9+1) c9)) from K5.out.setCell (p:=⟨w1.heap.size,1,none⟩) (by have:=Vn.out;have:=Vf.out;show w.heap.size≤w1.heap.size;omega) _);refine Ky.out _ _ (HS.out _ UU.out) (fun _=>?_);clear Ky K9 q1 f1;try simp only[nP]
         refine wpAnyH_done (by kernel_rfl) ?_ _;obtain⟨y0,y1,y2⟩:=Un.out.at3;obtain⟨z0,z1,z2⟩:=VM.out.at3;have f0:=VM.out.free 0;have f1:=VM.out.free 1;have f2:=VM.out.free 2;have PP:=lH (j5 (vs:=[.slice a1 n1 c1,.slice (some ⟨g,0,none⟩) (len9+1) c9,.slice a3 n3 c3]) VM.out rfl);go_wp2;obtain⟨WE,hWE⟩:=eX ((w5.setCell ⟨w1.heap.size,1,none⟩ (.slice (some ⟨g,0,none⟩) (len9+1) c9)).setCells (w.heap.size+2) 0 [.slice a1 n1 c1,.slice (some ⟨g,0,none⟩) (len9+1) c9,.slice a3 n3 c3])
         have hWE2:((((w5.setCell ⟨w1.heap.size,1,none⟩ (.slice (some ⟨g,0,none⟩) (len9+1) c9)).setCell ⟨(w.heap.size+2),0,none⟩ (.slice a1 n1 c1)).setCell ⟨(w.heap.size+2),1,none⟩ (.slice (some ⟨g,0,none⟩) (len9+1) c9)).setCell ⟨(w.heap.size+2),2,none⟩ (.slice a3 n3 c3))=WE:=hWE;rw[hWE] at PP;try rw[hWE2]
         have GE:=lH (show jg (fun b=>b<Z.heap.size∨b=w1.heap.size) (w5.setCell ⟨w1.heap.size,1,none⟩ (.slice (some ⟨g,0,none⟩) (len9+1) c9)) WE by rw[←hWE];exact jg.cells (S:=fun b=>b<Z.heap.size∨b=w1.heap.size) _ (.inl (by have:=Vf.out;omega)) _ _ _);clear hWE hWE2;obtain⟨PCC,hsz,hbl,hkp⟩:=PP.out;refine bodyPost_ret (by simp[results,Tryz.results264,go_sem,PCC.at_ 0 _ rfl,PCC.at_ 1 _ rfl,PCC.at_ 2 _ rfl];try rfl) rfl ?_;have Vr:=(UW.out.step GE.out).less (B':=w.heap.size) (S':=fun b=>b<w.heap.size) Vc.out.size (fun b hb=>.inl (Nat.lt_of_lt_of_le hb Vc.out.size));rw[show l9.take (placeN p0 l9)++⟨p0,p1,p2,q1,q2,q3,q4,p3,p4,p5,p6⟩::l9.drop (placeN p0 l9)=JY ⟨p0,p1,p2,q1,q2,q3,q4,p3,p4,p5,p6⟩ (zc p0 pl) by rw[←Tt.out];exact YJ (p:=⟨p0,p1,p2,q1,q2,q3,q4,p3,p4,p5,p6⟩) (l:=l9)] at Vr;exact⟨_,_,_,_,_,_,_,_,_,rfl,Vr,hkp _ _ (by omega) K6.out⟩
       · skip;go_simp;obtain⟨J3,HV,Vy⟩:=lH3 (J2.out.trans (ja w3 (.cells #[.string p0,.string p1,.int .i64 p2,.slice x1 y1 z1,.slice x2 y2 z2,.slice x3 y3 z3,.slice x4 y4 z4,.string p3,.int .i64 p4,.string p5,.bool p6] 52))) (show (w3.alloc (.cells #[.string p0,.string p1,.int .i64 p2,.slice x1 y1 z1,.slice x2 y2 z2,.slice x3 y3 z3,.slice x4 y4 z4,.string p3,.int .i64 p4,.string p5,.bool p6] 52)).heap[w3.heap.size]?=some (.cells #[.string p0,.string p1,.int .i64 p2,.slice x1 y1 z1,.slice x2 y2 z2,.slice x3 y3 z3,.slice x4 y4 z4,.string p3,.int .i64 p4,.string p5,.bool p6] 52) from World.alloc_heap_new w3 _) (Vy.out.step (jg.of (ja w3 (.cells #[.string p0,.string p1,.int .i64 p2,.slice x1 y1 z1,.slice x2 y2 z2,.slice x3 y3 z3,.slice x4 y4 z4,.string p3,.int .i64 p4,.string p5,.bool p6] 52))));refine Ky.out _ _ (HS.out _ (VN.out _ J3.out)) (fun _=>?_);clear Ky K9;try simp only[nP]
         obtain⟨w4,hw4⟩:=eX (w3.alloc (.cells #[.string p0,.string p1,.int .i64 p2,.slice x1 y1 z1,.slice x2 y2 z2,.slice x3 y3 z3,.slice x4 y4 z4,.string p3,.int .i64 p4,.string p5,.bool p6] 52))
         rw[hw4] at J3 HV Vy ⊢;clear hw4;refine rd1 1 fun K9 Ky=>?_;have yq:w4.cell? ⟨w1.heap.size,1,none⟩=some (.slice a2 len9 c2):=(HW.out.kept J3.out).at_ 1 _ rfl;go_simp;refine Ky.out _ _ (HS.out _ (VN.out _ J3.out)) (fun _=>?_);clear Ky K9 yq;try simp only[nP]
         refine rd1 10 fun K9 Ky=>?_;go_simp;refine(YQ (HC.out.kept J3.out) (⟨p0,p1,p2,q1,q2,q3,q4,p3,p4,p5,p6⟩,(x1,y1,z1),(x2,y2,z2),(x3,y3,z3),(x4,y4,z4)) (i:=placeN p0 l9) (by have:=XI p0 l9;rw[Ui.out] at this;exact this) Tc.out (by have:=J3.out.size;have:=Vn.out;omega) (fun b hb=>by have:=J3.out.size;have:=Vn.out;rcases hb with hb | hb<;>omega) HV.out (fun e=>by have h1:=((HC.out.kept J2.out).lt _ e).2;omega) Vy.out).mono ?_;rintro e5 w5 ⟨g,c9,rfl,hc5,hg5⟩;obtain⟨UC,VT,VS,V7,K5⟩:=lH5 hc5 (((HW.out.kept J3.out)).block (hg5.block _ (by have:=J3.out.size;have:=Vn.out;omega) (fun e=>HC.out.sep _ e (.inr rfl)))) ((HQ.out.kept J3.out).block (hg5.block _ (by have:=J3.out.size;have:=Vn.out;have:=Vf.out;omega) (fun e=>HC.out.sep _ e (.inl (by have:=Vf.out;omega))))) ((VN.out _ J3.out).block (hg5.block _ (by have:=J3.out.size;have:=Vn.out;have:=Vf.out;omega) (fun e=>HC.out.sep _ e (.inl (by have:=Vf.out;omega))))) (show Kept w w5 from Below.trans (Vc.out.trans (K.out.trans J3.out)) (hg5.at_below (B:=w.heap.size) (fun q e=>by have:=(HC.out.lt q e).1;have:=Vf.out;omega) (Vc.out.trans (K.out.trans J3.out)).size));clear hc5 hg5;refine Ky.out _ _ (HS.out _ V7.out) (fun _=>?_);clear Ky K9;try simp only[nP]
         refine tkI 11 ?_;try simp only[nP]
         have q1:=VT.out.at_ 1 _ rfl;have f1:=VT.out.free 1;refine rd1 12 fun K9 Ky=>?_;go_simp;obtain⟨UU,VM,Un,UW,K6⟩:=lH5 (V7.out.other (p:=w1.heap.size) (j:=1) (u:=.slice (some ⟨g,0,none⟩) (len9+1) c9) (by have:=Vn.out;have:=Vf.out;omega)) (VS.out.other (p:=w1.heap.size) (j:=1) (u:=.slice (some ⟨g,0,none⟩) (len9+1) c9) (by have:=Vn.out;have:=Vf.out;omega)) (show jf w1.heap.size [.slice a1 n1 c1,.slice (some ⟨g,0,none⟩) (len9+1) c9,.slice a3 n3 c3] (w5.setCell ⟨w1.heap.size,1,none⟩ (.slice (some ⟨g,0,none⟩) (len9+1) c9)) from VT.out.set (j:=1) (by simp)) (UC.out.step (jg.cell (S:=fun b=>b<Z.heap.size∨b=w1.heap.size) w1.heap.size 1 (.slice (some ⟨g,0,none⟩) (len9+1) c9) (.inr rfl))) (show Kept w (w5.setCell ⟨w1.heap.size,1,none⟩ (.slice (some ⟨g,0,none⟩) (len9+1) c9)) from K5.out.setCell (p:=⟨w1.heap.size,1,none⟩) (by have:=Vn.out;have:=Vf.out;show w.heap.size≤w1.heap.size;omega) _);refine Ky.out _ _ (HS.out _ UU.out) (fun _=>?_);clear Ky K9 q1 f1;try simp only[nP]
         refine wpAnyH_done (by kernel_rfl) ?_ _;obtain⟨y0,y1,y2⟩:=Un.out.at3;obtain⟨z0,z1,z2⟩:=VM.out.at3;have f0:=VM.out.free 0;have f1:=VM.out.free 1;have f2:=VM.out.free 2;have PP:=lH (j5 (vs:=[.slice a1 n1 c1,.slice (some ⟨g,0,none⟩) (len9+1) c9,.slice a3 n3 c3]) VM.out rfl);go_wp2;obtain⟨WE,hWE⟩:=eX ((w5.setCell ⟨w1.heap.size,1,none⟩ (.slice (some ⟨g,0,none⟩) (len9+1) c9)).setCells (w.heap.size+2) 0 [.slice a1 n1 c1,.slice (some ⟨g,0,none⟩) (len9+1) c9,.slice a3 n3 c3])
         have hWE2:((((w5.setCell ⟨w1.heap.size,1,none⟩ (.slice (some ⟨g,0,none⟩) (len9+1) c9)).setCell ⟨(w.heap.size+2),0,none⟩ (.slice a1 n1 c1)).setCell ⟨(w.heap.size+2),1,none⟩ (.slice (some ⟨g,0,none⟩) (len9+1) c9)).setCell ⟨(w.heap.size+2),2,none⟩ (.slice a3 n3 c3))=WE:=hWE;rw[hWE] at PP;try rw[hWE2]
         have GE:=lH (show jg (fun b=>b<Z.heap.size∨b=w1.heap.size) (w5.setCell ⟨w1.heap.size,1,none⟩ (.slice (some ⟨g,0,none⟩) (len9+1) c9)) WE by rw[←hWE];exact jg.cells (S:=fun b=>b<Z.heap.size∨b=w1.heap.size) _ (.inl (by have:=Vf.out;omega)) _ _ _);clear hWE hWE2;obtain⟨PCC,hsz,hbl,hkp⟩:=PP.out;refine bodyPost_ret (by simp[results,Tryz.results264,go_sem,PCC.at_ 0 _ rfl,PCC.at_ 1 _ rfl,PCC.at_ 2 _ rfl];try rfl) rfl ?_;have Vr:=(UW.out.step GE.out).less (B':=w.heap.size) (S':=fun b=>b<w.heap.size) Vc.out.size (fun b hb=>.inl (Nat.lt_of_lt_of_le hb Vc.out.size));rw[show l9.take (placeN p0 l9)++⟨p0,p1,p2,q1,q2,q3,q4,p3,p4,p5,p6⟩::l9.drop (placeN p0 l9)=JY ⟨p0,p1,p2,q1,q2,q3,q4,p3,p4,p5,p6⟩ (zc p0 pl) by rw[←Tt.out];exact YJ (p:=⟨p0,p1,p2,q1,q2,q3,q4,p3,p4,p5,p6⟩) (l:=l9)] at Vr;exact⟨_,_,_,_,_,_,_,_,_,rfl,Vr,hkp _ _ (by omega) K6.out⟩
theorem jhG {x:ByteArray} {l:List Pd} {k:Nat} {n:Pd} (h:l[k]?=some n):(l.take (k+1)).filter (fun p=>eqS p.node x)=(l.take k).filter (fun p=>eqS p.node x)++(if eqS n.node x=true then [n] else []):=by
 rw[zI h,List.filter_append];congr 1
 rw[List.filter_cons,List.filter_nil]
theorem jlj (a a8 a9:Option Addr) (len cap m8 c8 m9 c9:Nat) (l:List Pd) (x:ByteArray) (w:World) (hr:jx w a len l) (hlow:∀n ∈ l,JM n) (hlen:len≤100000) :
 Calls Tryz.prog 282 #[.agg #[.slice a8 m8 c8,.slice a len cap,.slice a9 m9 c9],.string x] w fun e w'=>∃v,e=.returned v∧Jo w' v (onP x l)∧Kept w w':=by
 have hl:=hr.1;have hm:=hr.2.1;unfold maxLen at hm;obtain⟨i0,hi,hz0,hz1,hz2'⟩:=info_parts qA;obtain⟨Z,hZ⟩:=eX (w.alloc (.cells #[.slice a8 m8 c8,.slice a len cap,.slice a9 m9 c9] 26))
 have hkz:Kept w Z:=by rw[←hZ];exact ja _ _
 have hst:Z.cell? ⟨w.heap.size,1,none⟩=some (.slice a len cap):=(jc w (.slice a8 m8 c8) [.slice a len cap,.slice a9 m9 c9] 26 Z (by rw[hZ];exact Kept.refl _)).at_ 1 _ rfl;obtain⟨HR,HL,Vo,Vc⟩:=lH4 (hr.kept hkz) hl hlow hkz;obtain⟨t,ht⟩:=eX ((x.toList==([]:List UInt8)))
 have Ua:=lH (show zo x=t by rw[JX];exact ht);clear hr hl hkz hlow
 cases t with
 | true =>
  have HE:=lH (show onP x l=[] by unfold onP;rw[if_pos Ua.out]);go_enter Tryz.func282,Tryz.ntmps282;go_wp2;try rw[hZ]
  go_ret;exact⟨_,rfl,by rw[HE.out];exact⟨none,0,rfl,Nat.le_refl _,by decide,rfl,by decide,.inl rfl⟩,by first | exact Vc.out | (rw[hZ];exact Vc.out)⟩
 | false =>
  have HE:=lH (show onP x l=l.filter (fun p=>eqS p.node x) by unfold onP;rw[if_neg (by rw[Ua.out];decide)]);go_enter Tryz.func282,Tryz.ntmps282;go_wp2;try rw[hZ]
  clear hZ hst ht;go_loopw [5,13] (fun v i wr=>∃k:Nat,k≤len∧i=.int .i64 k∧∃lx:List PX,(lx.map fun z=>z.1)=(l.take k).filter (fun p=>eqS p.node x)∧lx.length≤k∧Deep PodLay0 52 At4 wr Z.heap.size v lx∧Kept Z wr) (fun _ i _=>len-(intOf i).toNat)
  case atStart=>exact⟨0,Nat.zero_le _,rfl,[],rfl,Nat.le_refl _,⟨Own.nil _ _ _,fun z h=>by cases h⟩,Kept.refl _⟩
  case round =>
   obtain⟨k,hk,rfl,lx,hlx,hll,hdp,hK⟩:=hrel;obtain⟨HX,Td,HD,HK⟩:=lH4 hlx hll hdp hK;by_cases hlt:k<len
   · obtain⟨b,off,rfl⟩:=HR.out.form.resolve_left (by omega);obtain⟨n,a1,m1,c1,a2,m2,c2,a3,m3,c3,a4,m4,c4,hn,hd,hb,p0,p1,p2,p3,p4,p5,p6,p7,p8,p9,p10,hat⟩:=(HR.out.kept hK).at_ hlt;have HN:=lH hn;have VH:=lH hat;obtain⟨t,ht⟩:=eX (eqS n.node x)
     have ht':(n.node.toList==x.toList)=t:=ht;have HT:=lH ht;have hkk:(k:Int)<(len:Int):=by omega
     clear hlx hll hdp hK hat hd hn ht
     cases t with
     | false =>
      have UD:=lH (show (lx.map fun z=>z.1)=(l.take (k+1)).filter (fun p=>eqS p.node x) by rw[jhG HN.out,if_neg (by rw[HT.out];decide),List.append_nil];exact HX.out);go_wp2;go_roundw
      case rel=>exact⟨k+1,by omega,by go_num,lx,UD.out,by have:=Td.out;omega,HD.out.kept (ja _ _),HK.out.trans (ja _ _)⟩
      case measure=>simp[intOf];omega
     | true =>
      have VK:=lH (show ∀W,Kept wr W→_ from fun W kk=>Zr n (.slice a1 m1 c1) (.slice a2 m2 c2) (.slice a3 m3 c3) (.slice a4 m4 c4) W (VH.out.kept kk) (Vo.out n (List.mem_of_getElem? HN.out)));unfold jy at VK;obtain⟨len1,hlen1⟩:=eX (lx.length)
      have UF:=lH hlen1;rw[hlen1] at Td;clear hlen1;go_wp2_with fail
      refine(VK.out _ (ja _ _)).mono ?_;rintro e w1 ⟨v,rfl,hv,kk⟩;obtain⟨x1,y1,z1,x2,y2,z2,x3,y3,z3,x4,y4,z4,hv9,sp,g1,g2,g3,g4⟩:=hv;have hv9:v=.agg #[.string n.name,.string n.owner,.int .i64 n.prio,.slice x1 y1 z1,.slice x2 y2 z2,.slice x3 y3 z3,.slice x4 y4 z4,.string n.key,.int .i64 n.most,.string n.node,.bool n.hold]:=hv9;subst hv9;have KW:=lH ((ja wr _).trans kk);have hbase:Z.heap.size≤wr.heap.size:=HK.out.size;have Vy:=lH (show Off (fun b=>u5.ownBlock=some b) w1 fun u=>At4 u (n,(x1,y1,z1),(x2,y2,z2),(x3,y3,z3),(x4,y4,z4)) from ji.off (B:=wr.heap.size+1) sp (by rw[World.size_alloc] at g1;exact g1) (by rw[World.size_alloc] at g2;exact g2) (by rw[World.size_alloc] at g3;exact g3) (by rw[World.size_alloc] at g4;exact g4) (fun b hb h=>by have:=(J7 HD.out.own b h).2;omega));have RZ:=lH (HD.out.kept KW.out);have Vk:=lH (show w1.ownsRow Z.heap.size 52 11 u5 len1 (je PodLay0 lx) by have:=RZ.out.own.1;rw[UF.out] at this;exact this);have hs1:wr.heap.size≤w1.heap.size:=KW.out.size;clear kk sp g1 g2 g3 g4;go_wp2_with (at_builtin;refine wpList_append_lies _ rfl _ _ _ rfl Z.heap.size 52 i0 _ 11 184 Tryz.underlying23 hi hz0 hz1 hz2' rfl (by decide) u5 len1 (je PodLay0 lx) rfl (Vk.out.alloc _) ⟨w1.heap.size,0,none⟩ 1 1 (PodLay0.cs (n,(x1,y1,z1),(x2,y2,z2),(x3,y3,z3),(x4,y4,z4))) rfl rfl (World.news_of_block (cs:=#[.string n.name,.string n.owner,.int .i64 n.prio,.slice x1 y1 z1,.slice x2 y2 z2,.slice x3 y3 z3,.slice x4 y4 z4,.string n.key,.int .i64 n.most,.string n.node,.bool n.hold]) (t:=52) (fr:=(0,0)) (heap_alloc_new w1 _)) (qG _) (by decide) (by unfold maxLen;have:=Td.out;omega) (by have:=Td.out;omega) (by simp;omega) (w1.heap.size+1) (by simp) ?_;intro gg cap1 w2 hown1 hgrow hat hlt1)
      have GG:=lH (jg.grown (S:=fun b=>u5.ownBlock=some b) hgrow fun q e=>e);have hnn:∀q,(Value.slice (some ⟨gg,0,none⟩) (len1+1) cap1).ownBlock=some q→u5.ownBlock=some q∨(w1.alloc (.cells #[.string n.name,.string n.owner,.int .i64 n.prio,.slice x1 y1 z1,.slice x2 y2 z2,.slice x3 y3 z3,.slice x4 y4 z4,.string n.key,.int .i64 n.most,.string n.node,.bool n.hold] 52)).heap.size≤q:=fun q hq=>by
       obtain rfl:gg=q:=Option.some.inj hq;exact hat.imp id fun e=>by rw[World.size_alloc];omega
      have ND:=lH (show Deep PodLay0 52 At4 w2 Z.heap.size (.slice (some ⟨gg,0,none⟩) (len1+1) cap1) (lx++[(n,(x1,y1,z1),(x2,y2,z2),(x3,y3,z3),(x4,y4,z4))]) from⟨Own.snoc hown1 (by rw[UF.out]) HD.out.own.2 trivial,fun z hz=>by
       rcases List.mem_append.1 hz with hz | hz
       · exact(((RZ.out.off z hz).step (jg.of (ja w1 (.cells #[.string n.name,.string n.owner,.int .i64 n.prio,.slice x1 y1 z1,.slice x2 y2 z2,.slice x3 y3 z3,.slice x4 y4 z4,.string n.key,.int .i64 n.most,.string n.node,.bool n.hold] 52)))).new GG.out fun b e=>hnn b e)
       · obtain rfl:=List.mem_singleton.1 hz;exact((Vy.out.step (jg.of (ja w1 (.cells #[.string n.name,.string n.owner,.int .i64 n.prio,.slice x1 y1 z1,.slice x2 y2 z2,.slice x3 y3 z3,.slice x4 y4 z4,.string n.key,.int .i64 n.most,.string n.node,.bool n.hold] 52)))).new GG.out fun b e=>hnn b e)⟩)
      have NF:=lH (show Kept Z w2 from Below.mono (show Below Z.heap.size Z w2 from Below.trans (HK.out.trans (KW.out.trans (ja w1 (.cells #[.string n.name,.string n.owner,.int .i64 n.prio,.slice x1 y1 z1,.slice x2 y2 z2,.slice x3 y3 z3,.slice x4 y4 z4,.string n.key,.int .i64 n.most,.string n.node,.bool n.hold] 52)))) (GG.out.at_below (B:=Z.heap.size) (fun q e=>(J7 HD.out.own q e).1) (by have h1:=HK.out.size;rw[World.size_alloc];omega))) (Nat.le_refl _));have UD:=lH (show ((lx++[(n,(x1,y1,z1),(x2,y2,z2),(x3,y3,z3),(x4,y4,z4))]).map fun z=>z.1)=(l.take (k+1)).filter (fun p=>eqS p.node x) by rw[jhG HN.out,if_pos HT.out,List.map_append,HX.out];rfl);clear hown1 hgrow hat hlt1 hnn hs1 hbase;go_wp2;go_roundw
      case rel=>exact⟨k+1,by omega,by go_num,_,UD.out,by rw[List.length_append,UF.out];have:=Td.out;simp;omega,ND.out,NF.out⟩
      case measure=>simp[intOf];omega
   · have NG:=lH (show l.take k=l by rw[List.take_of_length_le (by rw[HL.out];omega)]);have Ub:=lH (show Jo wr u5 (onP x l) by have:=jcA HD.out;rw[HX.out,NG.out,←HE.out] at this;exact this);clear hlx hll hdp hK;go_wp2;go_ret;exact⟨_,rfl,Ub.out,Vc.out.trans HK.out⟩
def YV (x:ByteArray) (c:Int):Nod:=⟨x,[(⟨#[99,112,117]⟩,c)],[],[],false⟩
def jdj (x:ByteArray) (c:Int) (y:ByteArray):Pd:=⟨x,⟨#[]⟩,0,[(⟨#[99,112,117]⟩,c)],[],[],[],⟨#[]⟩,0,y,false⟩
theorem jcP (w:World) (c:Int) (h:-9223372036854775808≤c∧c≤9223372036854775807) (W:World) (k:Kept (w.alloc (.cells #[.string ⟨#[99,112,117]⟩,.int .i64 c] 114)) W):Vec.Reads W (.slice (some ⟨w.heap.size,0,none⟩) 1 1) [(⟨#[99,112,117]⟩,c)]:=by
 have cc:=jc w (.string ⟨#[99,112,117]⟩) [.int .i64 c] 114 W k;refine⟨_,1,rfl,(by decide:(1:Nat)≤1),(by decide:(1:Nat)≤maxLen),rfl,(by decide:(1:Nat)≤maxLen),fun i hi=>?_,.inr ⟨w.heap.size,0,rfl,cc.lt,fun i hi=>?_⟩⟩
 · obtain rfl:i=0:=by simpa using hi
   exact⟨(by decide:(3:Nat)≤maxLen),h.1,h.2⟩
 · obtain rfl:i=0:=by simpa using hi
   exact⟨cc.at_ 0 _ rfl,cc.at_ 1 _ rfl⟩
theorem jma (x:ByteArray) (c:Int) (hc:-9223372036854775808≤c∧c≤9223372036854775807) (hx:x.size≤maxLen) (w:World) :
 Calls Tryz.prog 23 #[.string x,.int .i64 c] w fun e w'=>∃b1 n1 d1,e=.returned (.agg #[.string x,.slice b1 n1 d1,.slice none 0 0,.slice none 0 0,.bool false])∧zr w' (.slice b1 n1 d1) (.slice none 0 0) (.slice none 0 0) (YV x c)∧Kept w w'∧∀b o z,b1=some ⟨b,o,z⟩→w.heap.size<b:=by
 have cc:=jc w (.string ⟨#[]⟩) [.slice none 0 0,.slice none 0 0,.slice none 0 0,.bool false] 78 _ (Kept.refl _);obtain⟨W0,hW0⟩:=eX (w.alloc (.cells #[.string ⟨#[]⟩,.slice none 0 0,.slice none 0 0,.slice none 0 0,.bool false] 78))
 have hs:W0.heap.size=w.heap.size+1:=by rw[←hW0];simp
 rw[hW0] at cc;obtain⟨W1,hW1⟩:=eX (W0.alloc (.cells #[.string ⟨#[99,112,117]⟩,.int .i64 c] 114))
 have HR:=lH (jcP W0 c hc W1 (by rw[hW1];exact Kept.refl _));rw[hs] at HR;have c1:=cc.kept (W':=W1) (by rw[←hW1];exact ja _ _);have KW:=lH (show Kept w W1 by rw[←hW1,←hW0];exact jn _ _ _);have y0:=c1.at_ 0 _ rfl;have y1:=c1.at_ 1 _ rfl;have y2:=c1.at_ 2 _ rfl;have y3:=c1.at_ 3 _ rfl;have y4:=c1.at_ 4 _ rfl;have f0:=c1.free 0;have f1:=c1.free 1;have f2:=c1.free 2;have f3:=c1.free 3;have f4:=c1.free 4;have P:=lH (j5 (vs:=[.string x,.slice (some ⟨w.heap.size+1,0,none⟩) 1 1,.slice none 0 0,.slice none 0 0,.bool false]) c1 rfl);clear c1 cc;go_enter Tryz.func23,Tryz.ntmps23;go_wp2;try rw[hW0]
 try rw[hW1]
 obtain⟨WE,hWE⟩:=eX (W1.setCells w.heap.size 0 [.string x,.slice (some ⟨w.heap.size+1,0,none⟩) 1 1,.slice none 0 0,.slice none 0 0,.bool false])
 have hWE2:(((((W1.setCell ⟨w.heap.size,0,none⟩ (.string x)).setCell ⟨w.heap.size,1,none⟩ (.slice (some ⟨w.heap.size+1,0,none⟩) 1 1)).setCell ⟨w.heap.size,2,none⟩ (.slice none 0 0)).setCell ⟨w.heap.size,3,none⟩ (.slice none 0 0)).setCell ⟨w.heap.size,4,none⟩ (.bool false))=WE:=hWE;rw[hWE] at P;try rw[hWE2]
 clear hWE hWE2;obtain⟨PC,hsz,hbl,hkp⟩:=P.out;refine bodyPost_ret (by simp[results,Tryz.results23,go_sem,PC.at_ 0 _ rfl,PC.at_ 1 _ rfl,PC.at_ 2 _ rfl,PC.at_ 3 _ rfl,PC.at_ 4 _ rfl];try rfl) rfl ?_;exact⟨_,_,_,rfl,⟨hx,(HR.out.far hsz (fun b o s e=>hbl b (by cases e;omega))),Reads.nil _,Reads.nil _⟩,hkp _ _ (Nat.le_refl _) KW.out,fun b o z e=>by cases e;omega⟩
theorem XQ (x:ByteArray) (c:Int) (hc:-9223372036854775808≤c∧c≤9223372036854775807) (hx:x.size≤maxLen) (w:World) :
 Calls Tryz.prog 23 #[.string x,.int .i64 c] w fun e w'=>∃b1 n1 d1,e=.returned (.agg #[.string x,.slice b1 n1 d1,.slice none 0 0,.slice none 0 0,.bool false])∧zr w' (.slice b1 n1 d1) (.slice none 0 0) (.slice none 0 0) (YV x c)∧Kept w w' :=
 (jma x c hc hx w).mono fun e w' ⟨b,n,d,h1,h2,h3,_⟩=>⟨b,n,d,h1,h2,h3⟩
theorem jme (x:ByteArray) (c:Int) (y:ByteArray) (hc:-9223372036854775808≤c∧c≤9223372036854775807) (hx:x.size≤maxLen) (hy:y.size≤maxLen) (w:World) :
 Calls Tryz.prog 22 #[.string x,.int .i64 c,.string y] w fun e w'=>∃b1 n1 d1,e=.returned (.agg #[.string x,.string ⟨#[]⟩,.int .i64 0,.slice b1 n1 d1,.slice none 0 0,.slice none 0 0,.slice none 0 0,.string ⟨#[]⟩,.int .i64 0,.string y,.bool false])∧ji w' (.slice b1 n1 d1) (.slice none 0 0) (.slice none 0 0) (.slice none 0 0) (jdj x c y)∧Kept w w'∧∀b o z,b1=some ⟨b,o,z⟩→w.heap.size<b:=by
 have cc:=jc w (.string ⟨#[]⟩) [.string ⟨#[]⟩,.int .i64 0,.slice none 0 0,.slice none 0 0,.slice none 0 0,.slice none 0 0,.string ⟨#[]⟩,.int .i64 0,.string ⟨#[]⟩,.bool false] 52 _ (Kept.refl _);obtain⟨W0,hW0⟩:=eX (w.alloc (.cells #[.string ⟨#[]⟩,.string ⟨#[]⟩,.int .i64 0,.slice none 0 0,.slice none 0 0,.slice none 0 0,.slice none 0 0,.string ⟨#[]⟩,.int .i64 0,.string ⟨#[]⟩,.bool false] 52))
 have hs:W0.heap.size=w.heap.size+1:=by rw[←hW0];simp
 rw[hW0] at cc;obtain⟨W1,hW1⟩:=eX (W0.alloc (.cells #[.string ⟨#[99,112,117]⟩,.int .i64 c] 114))
 have HR:=lH (jcP W0 c hc W1 (by rw[hW1];exact Kept.refl _));rw[hs] at HR;have c1:=cc.kept (W':=W1) (by rw[←hW1];exact ja _ _);have KW:=lH (show Kept w W1 by rw[←hW1,←hW0];exact jn _ _ _);have y0:=c1.at_ 0 _ rfl;have y1:=c1.at_ 1 _ rfl;have y2:=c1.at_ 2 _ rfl;have y3:=c1.at_ 3 _ rfl;have y4:=c1.at_ 4 _ rfl;have y5:=c1.at_ 5 _ rfl;have y6:=c1.at_ 6 _ rfl;have y7:=c1.at_ 7 _ rfl;have y8:=c1.at_ 8 _ rfl;have y9:=c1.at_ 9 _ rfl;have y10:=c1.at_ 10 _ rfl;have f0:=c1.free 0;have f1:=c1.free 1;have f2:=c1.free 2;have f3:=c1.free 3;have f4:=c1.free 4;have f5:=c1.free 5;have f6:=c1.free 6;have f7:=c1.free 7;have f8:=c1.free 8;have f9:=c1.free 9;have f10:=c1.free 10;have P:=lH (j5 (vs:=[.string x,.string ⟨#[]⟩,.int .i64 0,.slice (some ⟨w.heap.size+1,0,none⟩) 1 1,.slice none 0 0,.slice none 0 0,.slice none 0 0,.string ⟨#[]⟩,.int .i64 0,.string y,.bool false]) c1 rfl);clear c1 cc;go_enter Tryz.func22,Tryz.ntmps22;go_wp2;try rw[hW0]
 try rw[hW1]
 obtain⟨WE,hWE⟩:=eX (W1.setCells w.heap.size 0 [.string x,.string ⟨#[]⟩,.int .i64 0,.slice (some ⟨w.heap.size+1,0,none⟩) 1 1,.slice none 0 0,.slice none 0 0,.slice none 0 0,.string ⟨#[]⟩,.int .i64 0,.string y,.bool false])
 have hWE2:(((((((((((W1.setCell ⟨w.heap.size,0,none⟩ (.string x)).setCell ⟨w.heap.size,1,none⟩ (.string ⟨#[]⟩)).setCell ⟨w.heap.size,2,none⟩ (.int .i64 0)).setCell ⟨w.heap.size,3,none⟩ (.slice (some ⟨w.heap.size+1,0,none⟩) 1 1)).setCell ⟨w.heap.size,4,none⟩ (.slice none 0 0)).setCell ⟨w.heap.size,5,none⟩ (.slice none 0 0)).setCell ⟨w.heap.size,6,none⟩ (.slice none 0 0)).setCell ⟨w.heap.size,7,none⟩ (.string ⟨#[]⟩)).setCell ⟨w.heap.size,8,none⟩ (.int .i64 0)).setCell ⟨w.heap.size,9,none⟩ (.string y)).setCell ⟨w.heap.size,10,none⟩ (.bool false))=WE:=hWE;rw[hWE] at P;try rw[hWE2]
 clear hWE hWE2;obtain⟨PC,hsz,hbl,hkp⟩:=P.out;refine bodyPost_ret (by simp[results,Tryz.results22,go_sem,PC.at_ 0 _ rfl,PC.at_ 1 _ rfl,PC.at_ 2 _ rfl,PC.at_ 3 _ rfl,PC.at_ 4 _ rfl,PC.at_ 5 _ rfl,PC.at_ 6 _ rfl,PC.at_ 7 _ rfl,PC.at_ 8 _ rfl,PC.at_ 9 _ rfl,PC.at_ 10 _ rfl];try rfl) rfl ?_;exact⟨_,_,_,rfl,⟨hx,(by decide:(0:Nat)≤maxLen),(by decide:(0:Nat)≤maxLen),hy,(by decide:(-9223372036854775808:Int)≤0∧(0:Int)≤9223372036854775807),(by decide:(-9223372036854775808:Int)≤0∧(0:Int)≤9223372036854775807),(HR.out.far hsz (fun b o s e=>hbl b (by cases e;omega))),Reads.nil _,Reads.nil _,Reads.nil _⟩,hkp _ _ (Nat.le_refl _) KW.out,fun b o z e=>by cases e;omega⟩
theorem j0 {X:Type} {L:Lay X} {lx:List X} {q:Nat} {v:Value} {vs:List Value} {W:World} (hc:je L lx=v::vs) (c:jf q (v::vs) W) (hf:∀x ∈ lx,L.fine x) (hm:lx.length≤maxLen):jk L W (some ⟨q,0,none⟩) lx.length lx :=
 ⟨rfl,hm,hf,.inr ⟨q,0,rfl,c.lt,fun i x j u hi hj=>by
  have:=Yr L lx i x j u hi hj;rw[hc] at this;rw[Nat.zero_add];exact c.at_ _ u this⟩⟩
theorem zU {w:World} {a:Option Addr} {len:Nat} {lx:List NX} (h:jk zH w a len lx) (hf:∀z ∈ lx,At3 w z):jo w a len (lx.map fun z=>z.1):=by
 obtain⟨g0,g1,g2,g3⟩:=h;refine⟨by rw[List.length_map];exact g0,g1,g3.imp id ?_⟩;rintro ⟨b,off,rfl,hb,hc⟩;refine⟨b,off,rfl,hb,fun i n hi=>?_⟩;rw[List.getElem?_map] at hi;obtain⟨z,hz,rfl⟩:=Option.map_eq_some_iff.1 hi;exact⟨_,_,_,_,_,_,_,_,_,hc i z 0 _ hz rfl,hc i z 1 _ hz rfl,hc i z 2 _ hz rfl,hc i z 3 _ hz rfl,hc i z 4 _ hz rfl,hf z (List.mem_of_getElem? hz)⟩
theorem Zl {w:World} {a:Option Addr} {len:Nat} {lx:List PX} (h:jk PodLay0 w a len lx) (hf:∀z ∈ lx,At4 w z):jx w a len (lx.map fun z=>z.1):=by
 obtain⟨g0,g1,g2,g3⟩:=h;refine⟨by rw[List.length_map];exact g0,g1,g3.imp id ?_⟩;rintro ⟨b,off,rfl,hb,hc⟩;refine⟨b,off,rfl,hb,fun i n hi=>?_⟩;rw[List.getElem?_map] at hi;obtain⟨z,hz,rfl⟩:=Option.map_eq_some_iff.1 hi;exact⟨_,_,_,_,hc i z 0 _ hz rfl,hc i z 1 _ hz rfl,hc i z 2 _ hz rfl,hc i z 3 _ hz rfl,hc i z 4 _ hz rfl,hc i z 5 _ hz rfl,hc i z 6 _ hz rfl,hc i z 7 _ hz rfl,hc i z 8 _ hz rfl,hc i z 9 _ hz rfl,hc i z 10 _ hz rfl,hf z (List.mem_of_getElem? hz)⟩
theorem zS (w:World):j8 w none 0 []:=⟨rfl,by decide,.inl rfl⟩
theorem jcc (x:ByteArray) (c:Int) (y:ByteArray) (hc:-9223372036854775808≤c∧c≤9223372036854775807) (hx:x.size≤maxLen) (hy:y.size≤maxLen) (w:World) :
 Calls Tryz.prog 22 #[.string x,.int .i64 c,.string y] w fun e w'=>∃b1 n1 d1,e=.returned (.agg #[.string x,.string ⟨#[]⟩,.int .i64 0,.slice b1 n1 d1,.slice none 0 0,.slice none 0 0,.slice none 0 0,.string ⟨#[]⟩,.int .i64 0,.string y,.bool false])∧ji w' (.slice b1 n1 d1) (.slice none 0 0) (.slice none 0 0) (.slice none 0 0) (jdj x c y)∧Kept w w' :=
 (jme x c y hc hx hy w).mono fun e w' ⟨b,n,d,h1,h2,h3,_⟩=>⟨b,n,d,h1,h2,h3⟩
def qO (W:World) (q:Nat):Prop:=∀i u,W.cell? ⟨q,i,none⟩=some u→∃a n c,u=.slice a n c
theorem J5 {W:World} {q:Nat} {a1 a2 a3:Option Addr} {m1 c1 m2 c2 m3 c3:Nat} {T:TypeId} {fr:Nat×Nat} (hh:W.heap[q]?=some (.cells #[.slice a1 m1 c1,.slice a2 m2 c2,.slice a3 m3 c3] T fr)):qO W q:=by
 intro i u h;rw[Lib.cell_of_heap hh] at h
 match i,h with
 | 0,h=>cases h;exact⟨_,_,_,rfl⟩
 | 1,h=>cases h;exact⟨_,_,_,rfl⟩
 | 2,h=>cases h;exact⟨_,_,_,rfl⟩
 | i+3,h=>simp at h
theorem qO.noRow {W:World} {q:Nat} (h:qO W q):jcU W q:=fun o x u h1 _=>by
 obtain⟨_,_,_,e⟩:=h _ _ h1
 cases e
theorem jam {α:Type} {L:Lay α} {w w':World} {a:Option Addr} {len:Nat} {l:List α} {N:Nat} (hL:∀x,∃u,(L.cs x)[0]?=some u∧∀a n c,u≠.slice a n c) (h:jk L w a len l) (hs:w'.heap.size=w.heap.size) (hb:∀b,b≠N→w'.heap[b]?=w.heap[b]?) (hn:qO w N):jk L w' a len l:=by
 obtain⟨h3,h4,h5,h6⟩:=h;refine⟨h3,h4,h5,?_⟩;rcases h6 with h6 | ⟨b,off,rfl,hlt,hc⟩
 · exact .inl h6
 · cases l with
   | nil=>exact .inl h3.symm
   | cons x t =>
    have hne:b≠N:=by
     rintro rfl;obtain⟨u,g0,g1⟩:=hL x;obtain⟨_,_,_,e⟩:=hn _ _ (hc 0 x 0 _ rfl g0);exact g1 _ _ _ e
    exact .inr ⟨b,off,rfl,by rw[hs];exact hlt,fun i x j u hi hj=>(World.cell?_of_block (a:=⟨b,off+i*L.m+j,none⟩) (hb b hne)).trans (hc i x j u hi hj)⟩
theorem Xg {α:Type} {L:Lay α} {w w':World} {v:Value} {l:List α} {N:Nat} (hL:∀x,∃u,(L.cs x)[0]?=some u∧∀a n c,u≠.slice a n c) (h:Reads L w v l) (hs:w'.heap.size=w.heap.size) (hb:∀b,b≠N→w'.heap[b]?=w.heap[b]?) (hn:qO w N):Reads L w' v l:=by
 obtain⟨a,cap,rfl,h1,h2,h3⟩:=h;exact⟨a,cap,rfl,h1,h2,jam hL h3 hs hb hn⟩
theorem jn8 (x:ByteArray×ByteArray):∃u,(jz.cs x)[0]?=some u∧∀a n c,u≠.slice a n c:=⟨_,rfl,fun _ _ _ e=>by cases e⟩
theorem jos (x:NT):∃u,(ju.cs x)[0]?=some u∧∀a n c,u≠.slice a n c:=⟨_,rfl,fun _ _ _ e=>by cases e⟩
theorem jmx (x:Int×ByteArray×ByteArray):∃u,(jP.cs x)[0]?=some u∧∀a n c,u≠.slice a n c:=⟨_,rfl,fun _ _ _ e=>by cases e⟩
theorem joo (x:NX):∃u,(zH.cs x)[0]?=some u∧∀a n c,u≠.slice a n c:=⟨_,rfl,fun _ _ _ e=>by cases e⟩
theorem jnH (x:PX):∃u,(PodLay0.cs x)[0]?=some u∧∀a n c,u≠.slice a n c:=⟨_,rfl,fun _ _ _ e=>by cases e⟩
theorem jol (x:BX):∃u,(zv.cs x)[0]?=some u∧∀a n c,u≠.slice a n c:=⟨_,rfl,fun _ _ _ e=>by cases e⟩
theorem jmi {w:World} {a:Option Addr} {len:Nat} {lx:List BX} (h:jk zv w a len lx) (hf:∀z ∈ lx,At1 w z):j8 w a len (lx.map fun z=>z.1):=by
 obtain⟨g0,g1,g2,g3⟩:=h;refine⟨by rw[List.length_map];exact g0,g1,g3.imp id ?_⟩;rintro ⟨b,off,rfl,hb,hc⟩;refine⟨b,off,rfl,hb,fun i n hi=>?_⟩;rw[List.getElem?_map] at hi;obtain⟨z,hz,rfl⟩:=Option.map_eq_some_iff.1 hi;exact⟨_,hc i z 0 _ hz rfl,hc i z 1 _ hz rfl,hc i z 2 _ hz rfl,hf z (List.mem_of_getElem? hz)⟩
section
variable {w w':World} {N:Nat} (hs:w'.heap.size=w.heap.size) (hb:∀b,b≠N→w'.heap[b]?=w.heap[b]?) (hn:qO w N)
include hs hb hn
theorem jbY {v:Value} {l:List Nod} (h:JA w v l):JA w' v l:=by
 obtain⟨a,cap,rfl,h1,h2,h3⟩:=h;obtain⟨lx,hm,hr,hat⟩:=jhX h3;exact⟨a,cap,rfl,h1,h2,by rw[←hm];exact zU (by rw[hm];exact jam joo hr hs hb hn) fun z hz=>jaL (hat z hz) hs hb hn.noRow⟩
theorem jcT {v:Value} {l:List Pd} (h:Jo w v l):Jo w' v l:=by
 obtain⟨a,cap,rfl,h1,h2,h3⟩:=h;obtain⟨lx,hm,hr,hat⟩:=jhY h3;exact⟨a,cap,rfl,h1,h2,by
  rw[←hm];exact Zl (by rw[hm];exact jam jnH hr hs hb hn) fun z hz=>by
   have g:=hat z hz;exact⟨g.name,g.owner,g.key,g.node,g.prio,g.most,jfW g.need hs hb hn.noRow,Xg jn8 g.labels hs hb hn,Xg jmx g.sel hs hb hn,Xg jos g.tols hs hb hn⟩⟩
theorem jda {v:Value} {l:List Bd} (h:Zg w v l):Zg w' v l:=by
 obtain⟨a,cap,rfl,h1,h2,h3⟩:=h;obtain⟨lx,hm,hr,hat⟩:=jhk h3;exact⟨a,cap,rfl,h1,h2,by
  rw[←hm];exact jmi (by rw[hm];exact jam jol hr hs hb hn) fun z hz=>by
   have g:=hat z hz;exact⟨g.name,g.floor,Xg jmx g.sel hs hb hn⟩⟩
theorem zT {v:Value} {s:Clu} (h:jC w v s):jC w' v s:=by
 obtain⟨v1,v2,v3,e,g⟩:=h;exact⟨v1,v2,v3,e,jbY hs hb hn g.nodes,jcT hs hb hn g.pods,jda hs hb hn g.buds⟩
end
end Go.Proofs.YtibepooajeakfaaGreat
namespace Go.Proofs.YtibepooajeakfaaGreat
open Go.RowKit
theorem jop {v:Value} {s:Clu} {w:World} (h:jC w v s) (hl:jE s) (e1:s.nodes.length≤1000) (e2:s.pods.length≤1000) (e3:s.buds.length≤1000):Calls Tryz.prog 8 #[v] w fun e w'=>∃v,e=.returned v∧jC w' v s∧Kept w w':=by
 obtain⟨v1,v2,v3,rfl,⟨a,cap,rfl,l1,m1,h1⟩,⟨b,cp,rfl,l2,m2,h2⟩,⟨d,cb,rfl,l3,m3,h3⟩⟩:=h;obtain⟨nl,pl,bl⟩:=s;dsimp only at *;obtain⟨len,hlen⟩:=eX (nl.length)
 obtain⟨m,hm⟩:=eX (pl.length)
 obtain⟨n,hn⟩:=eX (bl.length)
 rw[hlen] at h1 l1;rw[hm] at h2 l2;rw[hn] at h3 l3;try rw[hlen]
 try rw[hm]
 try rw[hn]
 obtain⟨Z,hZ⟩:=eX ((w.alloc (.cells #[.slice a len cap,.slice b m cp,.slice d n cb] 26)).alloc (.cells #[.slice none 0 0,.slice none 0 0,.slice none 0 0] 33))
 have hkz:Kept w Z:=by rw[←hZ];exact jn _ _ _
 have cc:=jc w (.slice a len cap) [.slice b m cp,.slice d n cb] 26 Z (by rw[←hZ];exact ja _ _);have HH:=lH (show jf (w.heap.size+1) [.slice none 0 0,.slice none 0 0,.slice none 0 0] Z by
  have dd:=jc (w.alloc (.cells #[.slice a len cap,.slice b m cp,.slice d n cb] 26)) (.slice none 0 0) [.slice none 0 0,.slice none 0 0] 33 Z (by rw[hZ];exact Kept.refl _);rw[World.size_alloc] at dd;exact dd)
 obtain⟨HN,HP,HB,Vc⟩:=lH4 (fun W (k:Kept Z W)=>jnV (jaj l1 m1 (h1.kept (hkz.trans k))) hl.nodes e1) (fun W (k:Kept Z W)=>jnn (jhE l2 m2 (h2.kept (hkz.trans k))) hl.pods e2) (fun W (k:Kept Z W)=>jm5 (jdA l3 m3 (h3.kept (hkz.trans k))) hl.buds e3) hkz;have NH:=lH (show ∀W,Kept Z W→qO W (w.heap.size+1) from fun W k=>by
  have hh:Z.heap[w.heap.size+1]?=some (.cells #[.slice none 0 0,.slice none 0 0,.slice none 0 0] 33):=by
   have:=(w.alloc (.cells #[.slice a len cap,.slice b m cp,.slice d n cb] 26)).alloc_heap_new (.cells #[.slice none 0 0,.slice none 0 0,.slice none 0 0] 33);rw[World.size_alloc,hZ] at this;exact this
  exact J5 ((k.block _ (Array.getElem?_eq_some_iff.1 hh).1).trans hh))
 have HS:=lH (show ∀W,Kept Z W→W.cell? ⟨w.heap.size,0,none⟩=some (.slice a len cap)∧W.cell? ⟨w.heap.size,1,none⟩=some (.slice b m cp)∧W.cell? ⟨w.heap.size,2,none⟩=some (.slice d n cb) from fun W k=>⟨(cc.kept k).at_ 0 _ rfl,(cc.kept k).at_ 1 _ rfl,(cc.kept k).at_ 2 _ rfl⟩);have U9:=lH (show ∀U W:World,(∀b,b≠w.heap.size+1→U.heap[b]?=W.heap[b]?)→Kept Z W→U.cell? ⟨w.heap.size,0,none⟩=some (.slice a len cap)∧U.cell? ⟨w.heap.size,1,none⟩=some (.slice b m cp)∧U.cell? ⟨w.heap.size,2,none⟩=some (.slice d n cb) from fun U W e k=>by
  have c:=(cc.kept k).block (e _ (by omega));exact⟨c.at_ 0 _ rfl,c.at_ 1 _ rfl,c.at_ 2 _ rfl⟩)
 clear h1 h2 h3 l1 l2 l3 m1 m2 m3 hkz cc hl e1 e2 e3;go_enter Tryz.func8,Tryz.ntmps8;go_wp2_with fail
 try rw[hZ]
 clear hZ;refine wp_region_held_drew (S:=fun W=>W.cell? ⟨w.heap.size,0,none⟩=some (.slice a len cap)∧W.cell? ⟨w.heap.size,1,none⟩=some (.slice b m cp)∧W.cell? ⟨w.heap.size,2,none⟩=some (.slice d n cb)) (by kernel_rfl) (HS.out _ (Kept.drew _)) (fun hHeld=>?_);refine tkI 0 ?_;refine tkI 1 ?_;refine tkI 3 ?_;refine tkI 4 ?_;refine tkI 6 ?_;refine tkI 7 ?_;try simp only[nP]
 have J:=lH (Kept.drew Z);refine rd1 2 fun K9 Ky=>?_;go_simp;refine(HN.out _ J.out).mono ?_;rintro e1 w1 ⟨u1,rfl,hr,kk⟩;have J:=lH (J.out.trans kk);have hr2:=hr;obtain⟨x1,q1,rfl,-,-,-⟩:=hr2;rw[hlen] at hr;try rw[hlen]
 have RR1:=lH hr;clear hr kk;refine Ky.out _ _ (HS.out _ J.out) (fun _=>?_);clear Ky K9;try simp only[nP]
 refine rd1 5 fun K9 Ky=>?_;go_simp;refine(HP.out _ J.out).mono ?_;rintro e2 w2 ⟨u2,rfl,hr,kk⟩;have J:=lH (J.out.trans kk);have RR1:=lH (RR1.out.kept kk);have hr2:=hr;obtain⟨x2,q2,rfl,-,-,-⟩:=hr2;rw[hm] at hr;try rw[hm]
 have RR2:=lH hr;clear hr kk;refine Ky.out _ _ (HS.out _ J.out) (fun _=>?_);clear Ky K9;try simp only[nP]
 refine rd1 8 fun K9 Ky=>?_;go_simp;refine(HB.out _ J.out).mono ?_;rintro e3 w3 ⟨u3,rfl,hr,kk⟩;obtain⟨J,RR1,RR2⟩:=lH3 (J.out.trans kk) (RR1.out.kept kk) (RR2.out.kept kk);have hr2:=hr;obtain⟨x3,q3,rfl,-,-,-⟩:=hr2;rw[hn] at hr;try rw[hn]
 have RR3:=lH hr;clear hr kk;refine Ky.out _ _ (HS.out _ J.out) (fun _=>?_);clear Ky K9;try simp only[nP]
 refine tkI 9 ?_;try simp only[nP]
 have H9:=lH (HH.out.kept J.out);obtain⟨z0,z1,z2⟩:=H9.out.at3;have f0:=H9.out.free 0;have f1:=H9.out.free 1;have f2:=H9.out.free 2;have PP:=lH (j5 (vs:=[.slice x1 len q1,.slice x2 m q2,.slice x3 n q3]) H9.out rfl);refine rd1 10 fun K9 Ky=>?_;go_simp;obtain⟨WE,hWE⟩:=eX (w3.setCells (w.heap.size+1) 0 [.slice x1 len q1,.slice x2 m q2,.slice x3 n q3])
 have hWE2:(((w3.setCell ⟨(w.heap.size+1),0,none⟩ (.slice x1 len q1)).setCell ⟨(w.heap.size+1),1,none⟩ (.slice x2 m q2)).setCell ⟨(w.heap.size+1),2,none⟩ (.slice x3 n q3))=WE:=hWE;rw[hWE] at PP;try rw[hWE2]
 obtain⟨PC,hsz,hbl,hkp⟩:=PP.out;skip;refine Ky.out _ _ (U9.out _ _ hbl J.out) (fun _=>?_);clear Ky K9 z0 z1 z2 f0 f1 f2;try simp only[nP]
 refine wpAnyH_done (by kernel_rfl) ?_ _;go_wp2;refine bodyPost_ret (by simp[results,Tryz.results8,go_sem,PC.at_ 0 _ rfl,PC.at_ 1 _ rfl,PC.at_ 2 _ rfl];try rfl) rfl ?_;have SL:=NH.out _ J.out;exact⟨_,rfl,⟨_,_,_,rfl,jbY hsz hbl SL RR1.out,jcT hsz hbl SL RR2.out,jda hsz hbl SL RR3.out⟩,hkp _ _ (Nat.le_succ _) (Vc.out.trans J.out)⟩
theorem jmc {n:Pd} (h:JF n=true):JM n:=by
 obtain⟨-,-,-,-,h1,h2,h3,h4⟩:=jgK h;refine⟨?_,?_,?_,?_⟩
 · unfold Vec.YT at h1;simp only[Bool.and_eq_true,decide_eq_true_eq] at h1;omega
 · have:=(ji5 h2).1;omega
 · have:=(jiz h3).1;omega
 · have:=(jhq h4).1;omega
def ZS (s:Clu):Bool:=qf s&&decide (zO s=0)
theorem jfY {s:Clu} (h:qf s=true):jE s∧s.nodes.length≤34∧s.pods.length≤130∧s.buds.length≤20:=by
 unfold qf ZP at h;simp only[Bool.and_eq_true,decide_eq_true_eq,List.all_eq_true] at h;obtain⟨h1,h2,⟨h3,h4⟩,h5,h6⟩:=h;refine⟨⟨fun n hn=>jmz (h5 n hn),fun p hp=>jmc (h6 p hp),fun n hn=>?_,by omega,by omega,by omega⟩,by omega,by omega,by omega⟩;have:=h4 n hn;unfold Xy YD at this;simp only[Bool.and_eq_true,decide_eq_true_eq] at this;omega
theorem jlr {s:Clu} (h:ZS s=true):qf s=true:=by unfold ZS at h;exact(Bool.and_eq_true_iff.1 h).1
theorem XJ {s:Clu} (h:ZS s=true):zO s=0:=by unfold ZS at h;exact of_decide_eq_true (Bool.and_eq_true_iff.1 h).2
theorem jnb {v:Value} {s:Clu} {c:Bool} {w:World} (h:jC w v s) (hc:ZS s=c):Calls Tryz.prog 7 #[v] w (Say (.bool c) w):=by
 subst hc;have h0:=h;obtain⟨v1,v2,v3,rfl,⟨a,cap,rfl,-,-,-⟩,⟨b,cp,rfl,-,-,-⟩,⟨d,cb,rfl,-,-,-⟩⟩:=h0;obtain⟨len,hl1⟩:=eX (s.nodes.length)
 obtain⟨m,hl2⟩:=eX (s.pods.length)
 obtain⟨n,hl3⟩:=eX (s.buds.length)
 rw[hl1,hl2,hl3] at h ⊢;clear hl1 hl2 hl3;obtain⟨Z,hZ⟩:=eX (w.alloc (.cells #[.slice a len cap,.slice b m cp,.slice d n cb] 26))
 have hkz:Kept w Z:=by rw[←hZ];exact ja _ _
 obtain⟨HC,HV,Vc⟩:=lH3 (show jf w.heap.size [.slice a len cap,.slice b m cp,.slice d n cb] Z from jc w (.slice a len cap) [.slice b m cp,.slice d n cb] 26 Z (by rw[hZ];exact Kept.refl _)) (h.kept hkz) hkz;obtain⟨e1,he1⟩:=eX (qf s)
 have UE:=lH he1;have HG:=lH (show ZS s=(e1&&decide (zO s=0)) by unfold ZS;rw[he1]);rw[HG.out];clear h hkz;have cq0:=(HC.out.kept (Kept.refl _)).at_ 0 _ rfl;have cq1:=(HC.out.kept (Kept.refl _)).at_ 1 _ rfl;have cq2:=(HC.out.kept (Kept.refl _)).at_ 2 _ rfl;go_enter Tryz.func7,Tryz.ntmps7;go_wp2_with fail
 try rw[hZ]
 clear hZ;refine(jnL HV.out he1).mono ?_;rintro e w1 ⟨rfl,kk⟩;have K:=lH kk;clear kk he1 cq0 cq1 cq2;have cq0:=(HC.out.kept K.out).at_ 0 _ rfl;have cq1:=(HC.out.kept K.out).at_ 1 _ rfl;have cq2:=(HC.out.kept K.out).at_ 2 _ rfl
 cases e1 with
 | false =>
  go_wp2;go_ret;exact⟨rfl,Vc.out.trans K.out⟩
 | true =>
  obtain⟨L1,L2,L3,L4⟩:=jfY UE.out;have HL:=lH L1;clear L1;go_wp2_with fail
  refine(jop (HV.out.kept K.out) HL.out (by omega) (by omega) (by omega)).mono ?_;rintro e w2 ⟨x9,rfl,hx,kk⟩;have K2:=lH (K.out.trans kk);have HX:=lH hx;clear hx kk cq0 cq1 cq2;go_wp2_with fail
  obtain⟨c,hc⟩:=eX (zO s)
  refine(jjO HX.out hc).mono ?_;rintro e w3 ⟨rfl,kk⟩;have K3:=lH (K2.out.trans kk);have Ul:=lH hc;clear kk;rw[hc];clear hc;obtain⟨t,ht⟩:=eX (decide (c=0))
  have ht':(c==0)=t:=ht;go_wp2;go_ret;exact⟨by rw[Ul.out,ht];rfl,Vc.out.trans K3.out⟩
def Asc (l:List Pd):Prop:=l.Pairwise fun x y=>ltS x.name y.name=true
theorem jeY:∀{prev:Option ByteArray} {l:List Pd},jW prev l=0→(∀q,prev=some q→∀x ∈ l,ltS q x.name=true)∧Asc l
 | _,[],_=>⟨fun q _ x h=>absurd h (by simp),.nil⟩
 | prev,n::t,h=>by
  by_cases z:zG n=0
  · by_cases y:Vec.jK prev n.name=true
    · rw[Xz z y] at h;cases h
    · have y:Vec.jK prev n.name=false:=by simpa using y
      rw[ZT z y] at h;obtain⟨h2,h3⟩:=jeY h;refine⟨fun q hq x hx=>?_,List.pairwise_cons.2 ⟨fun x hx=>h2 _ rfl x hx,h3⟩⟩;subst hq;have hlt:ltS q n.name=true:=Vec.XZ y;rcases List.mem_cons.1 hx with rfl | hx
      · exact hlt
      · exact Vec.Ja hlt (h2 _ rfl x hx)
  · rw[jan z] at h;exact absurd h z
theorem jf9 {s:Clu} (h:ZS s=true):Asc s.pods:=by
 have hc:=XJ h;have h0:or3 (jI s.nodes) (jD s.pods) (jH s.buds)=0:=Decidable.byContradiction fun g=>g ((jay (nl:=s.nodes) (pl:=s.pods) (bl:=s.buds) rfl g).symm.trans hc);have ho:jD s.pods=0:=by
  unfold or3 at h0;split at h0
  · rename_i h1;exact absurd h0 h1
  · split at h0
    · exact h0
    · rename_i h1;exact Decidable.of_not_not h1
 unfold jD at ho;split at ho
 · cases ho
 · exact(jeY ho).2
theorem qZ:∀{l:List Pd} {p:Pd},Asc l→p ∈ l→JN l p.name=some p
 | [],_,_,h=>by cases h
 | x::t,p,h,hp=>by
  unfold JN;rcases List.mem_cons.1 hp with hp | hp
  · subst hp;exact List.find?_cons_of_pos (p:=fun n:Pd=>eqS n.name p.name) (zh _)
  · have hlt:=(List.pairwise_cons.1 h).1 p hp;exact(List.find?_cons_of_neg (p:=fun n:Pd=>eqS n.name p.name) (fun e=>Vec.Yd hlt (jR.1 e))).trans (qZ (List.pairwise_cons.1 h).2 hp)
theorem jko {l:List Pd} {x:ByteArray}:JN l x=none↔∀q ∈ l,q.name≠x:=by
 unfold JN;rw[List.find?_eq_none];exact⟨fun h q hq e=>h q hq (jR.2 e),fun h q hq e=>h q hq (jR.1 e)⟩
theorem jni {l:List Pd} {x:ByteArray} {p:Pd} (h:JN l x=some p):p ∈ l∧p.name=x :=
 ⟨List.mem_of_find?_eq_some h,jR.1 (List.find?_some (p:=fun n:Pd=>eqS n.name x) h)⟩
theorem jgj {x:ByteArray}:∀{l:List Pd},(∀q ∈ l,q.name≠x)→zc x l=l
 | [],_=>rfl
 | p::t,h=>by
  have hp:=h p (List.mem_cons_self ..);rw[zc,if_neg (fun e=>hp (jR.1 e)),jgj fun q hq=>h q (List.mem_cons_of_mem _ hq)]
theorem Zk {x:ByteArray}:∀{l:List Pd} {q:Pd},q ∈ zc x l→q ∈ l
 | p::t,q,h=>by
  rw[zc] at h;split at h
  · exact List.mem_cons_of_mem _ h
  · rcases List.mem_cons.1 h with rfl | h
    · exact List.mem_cons_self ..
    · exact List.mem_cons_of_mem _ (Zk h)
theorem jdX {x:ByteArray}:∀{l:List Pd},Asc l→∀q ∈ zc x l,q.name≠x
 | p::t,h,q,hq=>by
  obtain⟨h1,h2⟩:=List.pairwise_cons.1 h;rw[zc] at hq;split at hq
  · rename_i e;have e:=jR.1 e;have:=Vec.Yd (h1 q hq);rw[e] at this;exact fun e=>this e.symm
  · rename_i e;rcases List.mem_cons.1 hq with rfl | hq
    · exact fun e'=>e (jR.2 e')
    · exact jdX h2 q hq
theorem jfG {x:ByteArray}:∀{l:List Pd},Asc l→Asc (zc x l)
 | [],h=>h
 | p::t,h=>by
  obtain⟨h1,h2⟩:=List.pairwise_cons.1 h;rw[zc];split
  · exact h2
  · exact List.pairwise_cons.2 ⟨fun q hq=>h1 q (Zk hq),jfG h2⟩
theorem jcH {x:ByteArray}:∀{l:List Pd},(zc x l).length+(if (JN l x).isSome=true then 1 else 0)=l.length
 | []=>rfl
 | p::t=>by
  by_cases e:eqS p.name x=true
  · have hf:JN (p::t) x=some p:=by unfold JN;exact List.find?_cons_of_pos (p:=fun n:Pd=>eqS n.name x) e
    rw[zc,if_pos e,hf];simp
  · have hf:JN (p::t) x=JN t x:=by unfold JN;exact List.find?_cons_of_neg (p:=fun n:Pd=>eqS n.name x) e
    rw[zc,if_neg e,hf];have:=jcH (x:=x) (l:=t);simp only[List.length_cons];omega
theorem ins_mem {p:Pd}:∀{l:List Pd} {q:Pd},q ∈ JY p l→q=p∨q ∈ l
 | [],q,h=>by
  have:=List.mem_singleton.1 (show q ∈ [p] from h);exact .inl this
 | r::t,q,h=>by
  rw[JY] at h;split at h
  · rcases List.mem_cons.1 h with rfl | h
    · exact .inl rfl
    · exact .inr h
  · rcases List.mem_cons.1 h with rfl | h
    · exact .inr (List.mem_cons_self ..)
    · exact(ins_mem h).imp id (List.mem_cons_of_mem _)
theorem jdr (p:Pd):∀l:List Pd,(JY p l).length=l.length+1
 | []=>rfl
 | r::t=>by
  rw[JY];split
  · rfl
  · rw[List.length_cons,jdr p t,List.length_cons]
theorem jht {p:Pd}:∀{l:List Pd},Asc l→(∀q ∈ l,q.name≠p.name)→Asc (JY p l)
 | [],_,_=>List.pairwise_singleton ..
 | r::t,h,hn=>by
  obtain⟨h1,h2⟩:=List.pairwise_cons.1 h;rw[JY];split
  · rename_i e;refine List.pairwise_cons.2 ⟨fun q hq=>?_,h⟩;rcases List.mem_cons.1 hq with rfl | hq
    · exact e
    · exact Vec.Ja e (h1 q hq)
  · rename_i e;have e:ltS p.name r.name=false:=by simpa using e
    refine List.pairwise_cons.2 ⟨fun q hq=>?_,jht h2 fun q hq=>hn q (List.mem_cons_of_mem _ hq)⟩;rcases ins_mem hq with rfl | hq
    · cases g:ltS r.name q.name with
      | true=>rfl
      | false=>exact absurd (Vec.Y1 g e) (hn r (List.mem_cons_self ..))
    · exact h1 q hq
theorem jhU {s:Clu} (h:Asc s.pods) (p:Pd):Asc (Jv s p).pods:=jht (jfG h) (jdX h)
theorem jdx {s:Clu} (p:Pd):(Jv s p).pods.length=(zF s p.name).pods.length+1:=jdr p _
theorem X4 (s:Clu) (x:ByteArray):(zF s x).pods.length+(if (JN s.pods x).isSome=true then 1 else 0)=s.pods.length:=jcH
def zK (l:Vec.V):Prop:=Vec.Gd l∧l.length≤8
theorem zK.nil:zK []:=⟨Vec.Gd.nil,by decide⟩
theorem jhI {l:Vec.V} (h:Vec.jv l=0) (hf:Vec.Js l):zK l:=⟨Vec.YU h hf,Vec.Z5 h⟩
theorem Xt {f g:ByteArray→Int} {r:Vec.V} (h:∀n,f n=g n):Vec.Made f r↔Vec.Made g r:=by rw[funext h]
theorem add_step {v p:Vec.V} (hv:zK v) (hp:zK p) :
 (∃q,Vec.jj Vec.jG v p=(0,q)∧zK q∧∀n,Vec.jh q n=Vec.jh v n+Vec.jh p n) ∨
 (∃c,c≠0∧Vec.jj Vec.jG v p=(c,[])∧∀(r:Vec.V) (f:ByteArray→Int),(∀n,0≤f n)→Vec.Made (fun n=>Vec.jh v n+Vec.jh p n+f n) r→r.length≤8→False):=by
 rcases Vec.merged_spec Vec.jkB hv.1 hp.1 hv.2 hp.2 with ⟨⟨n,hn⟩,hb⟩ | ⟨hn,q,hm,⟨h8,hb⟩ | ⟨h8,hb⟩⟩
 · refine .inr ⟨5,by decide,hb,fun r f hf hr _=>hn ((Vec.X2 _ _).2 ?_)⟩;have h1:=(Vec.Jz n hr.1).2;have h2:=hf n;rw[hr.2 n] at h1;dsimp only at h1;omega
 · refine .inr ⟨4,by decide,hb,fun r f hf hr h9=>?_⟩;have hl:q.length≤r.length:=Vec.Gd.len hm.1 hr.1 fun n hne e=>hne (by
    rw[hm.2 n];show (Vec.jG _ _).1=0;rw[Vec.jb2 ((Vec.X2 _ _).1 (hn n))];have h1:=hf n;have h2:=Vec.Jz n hv.1;have h3:=Vec.Jz n hp.1;rw[hr.2 n] at e;dsimp only at e ⊢;omega)
   omega
 · exact .inl ⟨q,hb,⟨hm.1,h8⟩,fun n=>by rw[hm.2 n];show (Vec.jG _ _).1=_;rw[Vec.jb2 ((Vec.X2 _ _).1 (hn n))]⟩
def Zn (x:ByteArray) (p:Pd) (n:ByteArray):Int:=if eqS p.node x=true then Vec.jh p.need n else 0
def Jj (x:ByteArray):List Pd→ByteArray→Int
 | [],_=>0
 | p::t,n=>Zn x p n+Jj x t n
theorem je4 {x:ByteArray} {p:Pd} (h:zK p.need) (n:ByteArray):0≤Zn x p n:=by
 unfold Zn;split
 · exact(Vec.Jz n h.1).1
 · exact Int.le_refl _
theorem jb7 {x:ByteArray}:∀{l:List Pd},(∀p ∈ l,zK p.need)→∀n,0≤Jj x l n
 | [],_,n=>Int.le_refl _
 | p::t,h,n=>Int.add_nonneg (je4 (h p (List.mem_cons_self ..)) n) (jb7 (fun q hq=>h q (List.mem_cons_of_mem _ hq)) n)
theorem jcf {x:ByteArray}:∀{l:List Pd} {v r:Vec.V},(∀p ∈ l,zK p.need)→zK v→(jJ x l v=(0,r)↔Vec.Made (fun n=>Vec.jh v n+Jj x l n) r∧r.length≤8)
 | [],v,r,_,hv=>by
  constructor
  · intro e
    cases e
    exact⟨⟨hv.1,fun n=>by show _=_+(0:Int);rw[Int.add_zero]⟩,hv.2⟩
  · rintro ⟨hm,_⟩;have e:v=r:=Vec.Gd.ext hv.1 hm.1 fun n=>by rw[hm.2 n];show _=_+(0:Int);rw[Int.add_zero]
    rw[e];rfl
 | p::t,v,r,hl,hv=>by
  have ht:∀q ∈ t,zK q.need:=fun q hq=>hl q (List.mem_cons_of_mem _ hq);have hp:=hl p (List.mem_cons_self ..)
  cases e:eqS p.node x with
  | false =>
   rw[jaW e,jcf ht hv];refine and_congr (Xt fun n=>?_) Iff.rfl;show _=_+(Zn x p n+Jj x t n);rw[Zn,if_neg (by rw[e];decide),Int.zero_add]
  | true =>
   have hone:∀n,Zn x p n=Vec.jh p.need n:=fun n=>by rw[Zn,if_pos e]
   rcases add_step hv hp with ⟨q,hq,fq,gq⟩ | ⟨c,hc,hq,no⟩
   · rw[jce e hq,jcf ht fq];refine and_congr (Xt fun n=>?_) Iff.rfl;show _=_+(Zn x p n+Jj x t n);rw[hone,gq,Int.add_assoc]
   · rw[jcq e hq hc];constructor
     · intro h;exact absurd (Prod.mk.inj h).1 hc
     · rintro ⟨hm,h8⟩;refine(no r (Jj x t) (jb7 ht) ((Xt fun n=>?_).1 hm) h8).elim;show _+(Zn x p n+Jj x t n)=_;rw[hone,Int.add_assoc]
theorem jb5 {x:ByteArray} {l:List Pd} {r:Vec.V} (hl:∀p ∈ l,zK p.need):jJ x l []=(0,r)↔Vec.Made (Jj x l) r∧r.length≤8:=by
 rw[jcf hl zK.nil];exact and_congr (Xt fun n=>by show (0:Int)+_=_;rw[Int.zero_add]) Iff.rfl
theorem jd0 {x y:ByteArray}:∀{l:List Pd} {p:Pd},JN l y=some p→∀n,Jj x (zc y l) n+Zn x p n=Jj x l n
 | q::t,p,h,n=>by
  by_cases e:eqS q.name y=true
  · have hq:JN (q::t) y=some q:=by unfold JN;exact List.find?_cons_of_pos (p:=fun n:Pd=>eqS n.name y) e
    rw[hq] at h;obtain rfl:=Option.some.inj h;rw[zc,if_pos e];show _=Zn x q n+Jj x t n;omega
  · have hq:JN (q::t) y=JN t y:=by unfold JN;exact List.find?_cons_of_neg (p:=fun n:Pd=>eqS n.name y) e
    rw[hq] at h;have:=jd0 (x:=x) h n;rw[zc,if_neg e];show Zn x q n+Jj x (zc y t) n+_=Zn x q n+Jj x t n;omega
structure qd (s:Clu):Prop where
 nodes:jI s.nodes=0
 pods:jD s.pods=0
 places:jA s.nodes s.pods=0
 rooms:jM s.pods s.nodes=0
 tot:(Jt s.nodes []).1=0
theorem jb9 {s:Clu} (h:zO s=0):qd s:=by
 have h0:or3 (jI s.nodes) (jD s.pods) (jH s.buds)=0:=Decidable.byContradiction fun g=>g ((jay (nl:=s.nodes) (pl:=s.pods) (bl:=s.buds) rfl g).symm.trans h);have h1:jA s.nodes s.pods=0:=Decidable.byContradiction fun g=>g ((jbm (nl:=s.nodes) (pl:=s.pods) (bl:=s.buds) h0 rfl g).symm.trans h);have h2:jM s.pods s.nodes=0:=Decidable.byContradiction fun g=>g ((XL (nl:=s.nodes) (pl:=s.pods) (bl:=s.buds) h0 h1 rfl g).symm.trans h);have h3:(Jt s.nodes []).1=0:=(jag (nl:=s.nodes) (pl:=s.pods) (bl:=s.buds) h0 h1 h2).symm.trans h;have ho:jI s.nodes=0∧jD s.pods=0:=by
  unfold or3 at h0;split at h0
  · rename_i h1;exact absurd h0 h1
  · rename_i g1;split at h0
    · rename_i g2;exact absurd h0 g2
    · rename_i g2;exact⟨Decidable.of_not_not g1,Decidable.of_not_not g2⟩
 exact⟨ho.1,ho.2,h1,h2,h3⟩
theorem jcS {pods:List Pd}:∀{l:List Nod},jM pods l=0→∀n ∈ l,∃u,jJ n.name pods []=(0,u)∧Vec.jB n.cap u=true
 | m::t,h,n,hn=>by
  obtain⟨c,u,hu⟩:∃c u,jJ m.name pods []=(c,u):=⟨_,_,rfl⟩
  by_cases hc:c=0
  · subst hc
    cases hf:Vec.jB m.cap u with
    | false=>rw[jaw hu hf] at h;cases h
    | true =>
     rw[XB hu hf] at h;rcases List.mem_cons.1 hn with rfl | hn
     · exact⟨u,hu,hf⟩
     · exact jcS h n hn
  · rw[jaX hu hc] at h;exact absurd h hc
def jn3 (l:List Nod):Prop:=l.Pairwise fun x y=>ltS x.name y.name=true
theorem Xp:∀{prev:Option ByteArray} {l:List Nod},j6 prev l=0→(∀q,prev=some q→∀x ∈ l,ltS q x.name=true)∧jn3 l∧∀n ∈ l,zk n=0
 | _,[],_=>⟨fun q _ x h=>absurd h (by simp),.nil,fun n h=>absurd h (by simp)⟩
 | prev,n::t,h=>by
  by_cases z:zk n=0
  · by_cases y:Vec.jK prev n.name=true
    · rw[qR z y] at h;cases h
    · have y:Vec.jK prev n.name=false:=by simpa using y
      rw[Xm z y] at h;obtain⟨h2,h3,h4⟩:=Xp h;refine⟨fun q hq x hx=>?_,List.pairwise_cons.2 ⟨fun x hx=>h2 _ rfl x hx,h3⟩,fun m hm=>?_⟩
      · subst hq;have hlt:ltS q n.name=true:=Vec.XZ y;rcases List.mem_cons.1 hx with rfl | hx
        · exact hlt
        · exact Vec.Ja hlt (h2 _ rfl x hx)
      · rcases List.mem_cons.1 hm with rfl | hm
        · exact z
        · exact h4 m hm
  · rw[jcl z] at h;exact absurd h z
theorem jdT:∀{l:List Nod} {p:Nod},jn3 l→p ∈ l→jl l p.name=some p
 | [],_,_,h=>by cases h
 | x::t,p,h,hp=>by
  unfold jl;rcases List.mem_cons.1 hp with hp | hp
  · subst hp;exact List.find?_cons_of_pos (p:=fun n:Nod=>eqS n.name p.name) (zh _)
  · have hlt:=(List.pairwise_cons.1 h).1 p hp;exact(List.find?_cons_of_neg (p:=fun n:Nod=>eqS n.name p.name) (fun e=>Vec.Yd hlt (jR.1 e))).trans (jdT (List.pairwise_cons.1 h).2 hp)
theorem qd.jl {s:Clu} (h:qd s) {n:Nod} (hn:n ∈ s.nodes):jl s.nodes n.name=some n:=by
 have ho:=h.nodes;unfold jI at ho;split at ho
 · cases ho
 · exact jdT (Xp ho).2.1 hn
theorem qd.cap0 {s:Clu} (h:qd s) {n:Nod} (hn:n ∈ s.nodes):Vec.jv n.cap=0:=by
 have ho:=h.nodes;unfold jI at ho;split at ho
 · cases ho
 · have hc:=(Xp ho).2.2 n hn;unfold zk at hc;split at hc
   · cases hc
   · split at hc
     · rename_i g;exact absurd hc g
     · rename_i g;exact Decidable.of_not_not g
theorem jby:∀{prev:Option ByteArray} {l:List Pd},jW prev l=0→∀n ∈ l,zG n=0
 | prev,m::t,h,n,hn=>by
  by_cases z:zG m=0
  · by_cases y:Vec.jK prev m.name=true
    · rw[Xz z y] at h;cases h
    · have y:Vec.jK prev m.name=false:=by simpa using y
      rw[ZT z y] at h;rcases List.mem_cons.1 hn with rfl | hn
      · exact z
      · exact jby h n hn
  · rw[jan z] at h;exact absurd h z
theorem jcs:∀{l:List Int},orL l=0→∀c ∈ l,c=0
 | x::t,h,c,hc=>by
  unfold orL at h;split at h
  · rename_i g;exact absurd h g
  · rename_i g;rcases List.mem_cons.1 hc with rfl | hc
    · exact Decidable.of_not_not g
    · exact jcs h c hc
theorem qd.need0 {s:Clu} (h:qd s) {n:Pd} (hn:n ∈ s.pods):Vec.jv n.need=0:=by
 have ho:=h.pods;unfold jD at ho;split at ho
 · cases ho
 · exact jcs (jby ho n hn) _ (by simp[qv])
structure Sound (s:Clu):Prop where
 parts:qd s
 asc:Asc s.pods
 need:∀p ∈ s.pods,zK p.need
 cap:∀n ∈ s.nodes,zK n.cap
theorem jgq {s:Clu} {w:World} {v:Value} (h:ZS s=true) (hr:jC w v s):Sound s:=by
 have hp:=jb9 (XJ h);obtain⟨v1,v2,v3,rfl,⟨a,cap,rfl,-,-,h1⟩,⟨b,cp,rfl,-,-,h2⟩,-⟩:=hr;refine⟨hp,jf9 h,fun p hm=>jhI (hp.need0 hm) ?_,fun n hm=>jhI (hp.cap0 hm) ?_⟩
 · obtain⟨k,hk,rfl⟩:=List.mem_iff_getElem.1 hm;rcases h2.2.2 with h0 | ⟨b,off,-,-,hc⟩
   · omega
   · obtain⟨v1,v2,v3,v4,-,-,-,-,-,-,-,-,-,-,-,hat⟩:=hc k _ (List.getElem?_eq_getElem hk);obtain⟨a9,c9,-,-,-,g⟩:=hat.need;exact g.2.2.1
 · obtain⟨k,hk,rfl⟩:=List.mem_iff_getElem.1 hm;rcases h1.2.2 with h0 | ⟨b,off,-,-,hc⟩
   · omega
   · obtain⟨a1,m1,c1,a2,m2,c2,a3,m3,c3,-,-,-,-,-,hat⟩:=hc k _ (List.getElem?_eq_getElem hk);obtain⟨a9,c9,-,-,-,g⟩:=hat.cap;exact g.2.2.1
theorem jmD {s:Clu} (h:Sound s) {n:Nod} (hn:n ∈ s.nodes):JU s n.name=jJ n.name s.pods []:=jaQ (h.parts.jl hn)
theorem jm2 {s:Clu} (h:Sound s) {n:Nod} (hn:n ∈ s.nodes):∃u f,JU s n.name=(0,u)∧ZY s n.name=(0,f)∧Vec.jj Vec.jG u f=(0,n.cap)∧zK u∧zK f∧Vec.Made (Jj n.name s.pods) u∧(∀m,Vec.jh f m=Vec.jh n.cap m-Vec.jh u m)∧∀m,Vec.jh u m≤Vec.jh n.cap m:=by
 obtain⟨u,hu,hf⟩:=jcS h.parts.rooms n hn;obtain⟨hm,hl⟩:=(jb5 h.need).1 hu;have hc:=h.cap n hn;have hle:=(Vec.Y7 hm.1 hc.1).1 hf;obtain⟨f,hs,hmf,hlf⟩:=Vec.jci hc.1 hm.1 hc.2 hl hle;have hget:∀m,Vec.jh f m=Vec.jh n.cap m-Vec.jh u m:=fun m=>hmf.2 m;refine⟨u,f,(jmD h hn).trans hu,?_,?_,⟨hm.1,hl⟩,⟨hmf.1,hlf⟩,hm,hget,hle⟩
 · unfold ZY;rw[h.parts.jl hn];dsimp only;rw[hu,if_pos rfl];exact hs
 · refine Vec.jlo hm.1 hmf.1 hl hlf (fun m=>?_) ⟨hc.1,fun m=>?_⟩ hc.2
   · have:=(Vec.Jz m hc.1).2;rw[hget];omega
   · show _=Vec.jh u m+Vec.jh f m;rw[hget];omega
def Xs (g:ByteArray→Int):Vec.V→Vec.V
 | []=>[]
 | x::t=>if g x.1=0 then Xs g t else (x.1,g x.1)::Xs g t
theorem XM {g:ByteArray→Int}:∀{l:Vec.V} {y:ByteArray×Int},y ∈ Xs g l→∃x ∈ l,y=(x.1,g x.1)∧g x.1≠0
 | x::t,y,h=>by
  rw[Xs] at h;split at h
  · obtain⟨z,hz,e⟩:=XM h;exact⟨z,by simp[hz],e⟩
  · rename_i hg;rcases List.mem_cons.1 h with rfl | h
    · exact⟨x,by simp,rfl,hg⟩
    · obtain⟨z,hz,e⟩:=XM h;exact⟨z,by simp[hz],e⟩
theorem jf2 (g:ByteArray→Int):∀l:Vec.V,(Xs g l).length≤l.length
 | []=>Nat.le_refl _
 | x::t=>by
  have:=jf2 g t;rw[Xs];split<;>simp only[List.length_cons]<;>omega
theorem jhy {g:ByteArray→Int}:∀{l:Vec.V},Vec.Gd l→(∀x ∈ l,0≤g x.1∧g x.1≤9223372036854775807)→Vec.Gd (Xs g l)
 | [],_,_=>Vec.Gd.nil
 | x::t,h,hb=>by
  obtain⟨h1,h2,h3⟩:=Vec.Gd.cons.1 h;have ih:=jhy h3 fun y hy=>hb y (by simp[hy]);rw[Xs];split
  · exact ih
  · rename_i hg;have:=hb x (by simp);refine Vec.Gd.cons.2 ⟨⟨h1.1,by dsimp only;omega,this.2⟩,fun y hy=>?_,ih⟩;obtain⟨z,hz,rfl,_⟩:=XM hy;exact h2 z hz
theorem jcr {g:ByteArray→Int} {n:ByteArray}:∀{l:Vec.V},Vec.Gd l→(∃x ∈ l,x.1=n)→Vec.jh (Xs g l) n=g n
 | [],_,h=>by obtain⟨x,hx,_⟩:=h;cases hx
 | y::t,h,he=>by
  obtain⟨h1,h2,h3⟩:=Vec.Gd.cons.1 h;by_cases e:y.1=n
  · rw[Xs];split
    · rename_i hg;rw[←e,hg];refine Vec.XF fun z hz=>?_;obtain⟨q,hq,rfl,_⟩:=XM hz;exact fun e2=>Vec.Yd (h2 q hq) e2.symm
    · rw[←e];exact Vec.Jr _ _
  · have ht:∃x ∈ t,x.1=n:=by
     obtain⟨x,hx,e2⟩:=he;rcases List.mem_cons.1 hx with rfl | hx
     · exact absurd e2 e
     · exact⟨x,hx,e2⟩
    rw[Xs];split
    · exact jcr h3 ht
    · rw[Vec.JB _ (by exact e)];exact jcr h3 ht
theorem jlu {g:ByteArray→Int} {u:Vec.V} (hu:zK u) (h0:∀n,0≤g n) (h1:∀n,g n≤Vec.jh u n):∃r,Vec.Made g r∧r.length≤8:=by
 refine⟨Xs g u,⟨jhy hu.1 fun x hx=>⟨h0 _,Int.le_trans (h1 _) (Vec.Jz _ hu.1).2⟩,fun n=>?_⟩,Nat.le_trans (jf2 g u) hu.2⟩;by_cases e:∃x ∈ u,x.1=n
 · exact jcr hu.1 e
 · have hz:Vec.jh u n=0:=Vec.XF fun y hy e2=>e ⟨y,hy,e2⟩;have h2:=h0 n;have h3:=h1 n;rw[show g n=0 by omega];refine Vec.XF fun y hy e2=>?_;obtain⟨x,hx,rfl,_⟩:=XM hy;exact e ⟨x,hx,e2⟩
theorem jkD {x:ByteArray} {cap:Vec.V} {l:List Pd} (hc:zK cap) (hp:∀p ∈ l,zK p.need) (hs:∀m,Jj x l m≤Vec.jh cap m):∃u,jJ x l []=(0,u)∧zK u∧(∀m,Vec.jh u m=Jj x l m)∧Vec.jB cap u=true:=by
 obtain⟨u,hu,hu8⟩:=jlu hc (jb7 hp) hs;exact⟨u,(jb5 hp).2 ⟨hu,hu8⟩,⟨hu.1,hu8⟩,hu.2,(Vec.Y7 hu.1 hc.1).2 fun m=>by rw[hu.2 m];exact hs m⟩
theorem jhQ {s:Clu} {n:Nod} (hf:jl s.nodes n.name=some n) (hc:zK n.cap) (hp:∀p ∈ s.pods,zK p.need) (hs:∀m,Jj n.name s.pods m≤Vec.jh n.cap m):∃b,ZY s n.name=(0,b)∧zK b∧∀m,Vec.jh b m=Vec.jh n.cap m-Jj n.name s.pods m:=by
 obtain⟨u,h1,h2,h3,h4⟩:=jkD hc hp hs;obtain⟨b,hb,hmb,hlb⟩:=Vec.jci hc.1 h2.1 hc.2 h2.2 fun m=>by rw[h3 m];exact hs m
 refine⟨b,?_,⟨hmb.1,hlb⟩,fun m=>by
  have h9:Vec.jh b m=Vec.jh n.cap m-Vec.jh u m:=hmb.2 m;rw[h9,h3 m]⟩
 unfold ZY;rw[hf];dsimp only;rw[h1,if_pos rfl];exact hb
theorem jlO {s:Clu} {n:Nod} (hf:jl s.nodes n.name=some n) (hc:zK n.cap) (hp:∀p ∈ s.pods,zK p.need) (h:(ZY s n.name).1=0):∀m,Jj n.name s.pods m≤Vec.jh n.cap m:=by
 unfold ZY at h;rw[hf] at h;dsimp only at h;obtain⟨c,u,hu⟩:∃c u,jJ n.name s.pods []=(c,u):=⟨_,_,rfl⟩
 rw[hu] at h;by_cases hz:c=0
 · subst hz;rw[if_pos rfl] at h;obtain⟨hm,h8⟩:=(jb5 hp).1 hu;have:=(Vec.Y7 hm.1 hc.1).1 ((Vec.jl5 hc.1 hm.1 hc.2 h8).1 h);intro m;rw[←hm.2 m];exact this m
 · rw[if_neg hz] at h;exact absurd h hz
theorem jls {s:Clu} {p:Pd} {n:Nod} (hf:jl s.nodes n.name=some n) (hc:zK n.cap) (hp:∀p ∈ s.pods,zK p.need) (hq:zK p.need):YS s p n.name=true↔∀m,Jj n.name s.pods m+Vec.jh p.need m≤Vec.jh n.cap m:=by
 unfold YS;rw[Bool.and_eq_true,decide_eq_true_iff];constructor
 · rintro ⟨h1,h2⟩ m;have hs:=jlO hf hc hp h1;obtain⟨b,hb,fb,gb⟩:=jhQ hf hc hp hs;rw[hb] at h2;have:=(Vec.Y7 hq.1 fb.1).1 h2 m;rw[gb] at this;omega
 · intro h;obtain⟨b,hb,fb,gb⟩:=jhQ hf hc hp fun m=>by have:=h m;have:=(Vec.Jz m hq.1).1;omega
   rw[hb];refine⟨rfl,(Vec.Y7 hq.1 fb.1).2 fun m=>?_⟩;rw[gb];have:=h m;omega
theorem jlc {x y:ByteArray} (l:List Pd) (hl:∀p ∈ l,zK p.need) (m:ByteArray):Jj x (zc y l) m≤Jj x l m:=by
 cases h:JN l y with
 | none=>rw[jgj (jko.1 h)];exact Int.le_refl _
 | some p =>
  have h1:=jd0 (x:=x) h m;have h2:=je4 (x:=x) (hl p (jni h).1) m;omega
theorem Sound.sum {s:Clu} (h:Sound s) {n:Nod} (hn:n ∈ s.nodes) (m:ByteArray):Jj n.name s.pods m≤Vec.jh n.cap m:=by
 obtain⟨u,f,-,-,-,-,-,hm,-,hle⟩:=jm2 h hn;rw[←hm.2 m];exact hle m
theorem jjR {s:Clu} (h:∀p ∈ s.pods,zK p.need) (x:ByteArray):∀p ∈ (zF s x).pods,zK p.need:=fun p hp=>h p (Zk hp)
theorem jeq {nodes:List Nod}:∀{l:List Pd},jA nodes l=0→∀p ∈ l,zo p.node=false→(jl nodes p.node).isSome=true
 | q::t,h,p,hp,hn=>by
  by_cases g:zo q.node=false∧(jl nodes q.node).isSome=false
  · rw[qL g.1 g.2] at h;cases h
  · have h2:jA nodes t=0:=by rw[jA,if_neg g] at h;exact h
    rcases List.mem_cons.1 hp with rfl | hp
    · cases e:(jl nodes p.node).isSome with
      | false=>exact absurd ⟨hn,e⟩ g
      | true=>rfl
    · exact jeq h2 p hp hn
end Go.Proofs.YtibepooajeakfaaGreat
