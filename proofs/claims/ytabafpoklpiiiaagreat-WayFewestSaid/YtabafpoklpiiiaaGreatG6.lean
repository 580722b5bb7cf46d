/- C. -/
import Derived.Test.YtabafpoklpiiiaaGreatG0
import Derived.Test.YtabafpoklpiiiaaGreatG1
import Derived.Test.YtabafpoklpiiiaaGreatG2
import Derived.Test.YtabafpoklpiiiaaGreatG3
import Derived.Test.YtabafpoklpiiiaaGreatG4
import Derived.Test.YtabafpoklpiiiaaGreatG5
set_option linter.unusedVariables false
set_option maxRecDepth 100000
set_option maxHeartbeats 25600000
namespace Go.Proofs.YtabafpoklpiiiaaGreat
open Go.RowKit
theorem jbl (x:ByteArray):∀l:List Pd,(jL x l).length≤l.length
 | []=>Nat.le_refl _
 | p::t=>by
  rw[jL];split
  · simp
  · have:=jbl x t;simp;omega
theorem J9 {S:Nat→Prop} {B i len cap vb vc:Nat} {ap:Option Addr} {w:World} {v1 v3:Value} {s:Clu} (h:ju S B w v1 (.slice ap len cap) v3 s) (z:PX) (hi:i≤len) (hlen:len≤100000) (hB:B≤w.heap.size) (hS:∀k,S k→k<w.heap.size) (hvs:w.heap[vb]?=some (.cells (PodLay0.cs z).toArray 41)) (hvb:(Value.slice ap len cap).ownBlock≠some vb)
 (hz:Off (fun b=>S b∨(Value.slice ap len cap).ownBlock=some b) w fun u=>At4 u z) :
 Calls Tryz.prog 34 #[.slice ap len cap,.int .i64 i,.slice (some ⟨vb,0,none⟩) 1 vc] w fun e w'=>∃g c,e=.returned (.slice (some ⟨g,0,none⟩) (len+1) c)∧ju S B w' v1 (.slice (some ⟨g,0,none⟩) (len+1) c) v3 { s with pods:=s.pods.take i++z.1::s.pods.drop i }∧jb (fun b=>(Value.slice ap len cap).ownBlock=some b) w w':=by
 obtain⟨lx,hmap,hown,hd⟩:=h.pods;obtain⟨a',c',e',_⟩:=hown.at_;have hll:lx.length=len:=by cases e';rfl
 have hx:jd PodLay0 (lx.take i++z::lx.drop i)=(jd PodLay0 lx).take (i*11)++PodLay0.cs z++(jd PodLay0 lx).drop (i*11):=by
  rw[show z::lx.drop i=[z]++lx.drop i from rfl,zI,zI,ZE,Y2];unfold jd;simp[PodLay0]
 refine(jbR _ len i vb vc B (jd PodLay0 lx) (PodLay0.cs z) w (by have:=hown.1;rw[hll] at this;exact this) hB hi (zl _ _) rfl (X5 z) hvs hvb hlen).mono ?_;rintro e w' ⟨g,c,rfl,ho,hg,hn⟩;have hn':∀k,(Value.slice (some ⟨g,0,none⟩) (len+1) c).ownBlock=some k→(Value.slice ap len cap).ownBlock=some k∨w.heap.size≤k:=fun k hk=>by
  obtain rfl:g=k:=Option.some.inj hk;exact hn
 have hd':∀y ∈ lx.take i++z::lx.drop i,Off (fun b=>S b∨(Value.slice ap len cap).ownBlock=some b) w fun u=>At4 u y:=fun y hy=>by
  rcases List.mem_append.1 hy with hy | hy
  · exact hd y (List.mem_of_mem_take hy)
  · rcases List.mem_cons.1 hy with rfl | hy
    · exact hz
    · exact hd y (List.mem_of_mem_drop hy)
 refine⟨g,c,rfl,h.turn hg hn' hS ⟨lx.take i++z::lx.drop i,by rw[List.map_append,List.map_cons,List.map_take,List.map_drop,hmap],⟨?_,fun x hx=>trivial⟩,ju.els (B:=B) hd' hg hn'⟩,hg⟩;have h2:(lx.take i++z::lx.drop i).length=len+1:=by rw[List.length_append,List.length_cons,List.length_take,List.length_drop,hll];omega
 rw[h2,hx];exact ho
theorem jet (a b d:Option Addr) (len cap m c n e:Nat) (nl:List Nod) (pl:List Pd) (bl:List Bd) (p:Pd) (s1 s2 s3 s4:Option Addr) (t1 u1 t2 u2 t3 u3 t4 u4:Nat) (w:World) (hn:jt w a len nl) (hp:jv w b m pl) (hb:zu w d n bl) (h1:len≤cap) (h2:cap≤maxLen) (h3:m≤c) (h4:c≤maxLen) (h5:n≤e) (h6:e≤maxLen) (hl:jn ⟨nl,pl,bl⟩) (hP:jq w (.slice s1 t1 u1) (.slice s2 t2 u2) (.slice s3 t3 u3) (.slice s4 t4 u4) p) (hLP:ZG p) :
 Calls Tryz.prog 9 #[.agg #[.slice a len cap,.slice b m c,.slice d n e],jo p (.slice s1 t1 u1) (.slice s2 t2 u2) (.slice s3 t3 u3) (.slice s4 t4 u4)] w fun e w'=>∃a1 n1 c1 a2 n2 c2 a3 n3 c3,e=.returned (.agg #[.slice a1 n1 c1,.slice a2 n2 c2,.slice a3 n3 c3])∧ju (fun b=>b<w.heap.size) w.heap.size w' (.slice a1 n1 c1) (.slice a2 n2 c2) (.slice a3 n3 c3) (zo ⟨nl,pl,bl⟩ p)∧Kept w w':=by
 obtain⟨p0,p1,p2,q1,q2,q3,q4,p3,p4,p5,p6⟩:=p;obtain⟨Z,hZ⟩:=eX (((w.alloc (.cells #[.slice a len cap,.slice b m c,.slice d n e] 35)).alloc (.cells #[.string p0,.string p1,.int .i64 p2,.slice s1 t1 u1,.slice s2 t2 u2,.slice s3 t3 u3,.slice s4 t4 u4,.string p3,.int .i64 p4,.string p5,.bool p6] 41)).alloc (.cells #[.slice none 0 0,.slice none 0 0,.slice none 0 0] 35))
 have hkz:Kept w Z:=by rw[←hZ];exact(ji _ _ _).trans (ja _ _)
 have hzs:Z.heap.size=w.heap.size+3:=by rw[←hZ];simp
 have cc:=jc w (.slice a len cap) [.slice b m c,.slice d n e] 35 Z (by rw[←hZ];exact ji _ _ _);have o0:=cc.at_ 0 _ rfl;have o1:=cc.at_ 1 _ rfl;have o2:=cc.at_ 2 _ rfl;have Vk:=lH (show je (w.heap.size+1) [.string p0,.string p1,.int .i64 p2,.slice s1 t1 u1,.slice s2 t2 u2,.slice s3 t3 u3,.slice s4 t4 u4,.string p3,.int .i64 p4,.string p5,.bool p6] Z by
  have dd:=jc (w.alloc (.cells #[.slice a len cap,.slice b m c,.slice d n e] 35)) (.string p0) [.string p1,.int .i64 p2,.slice s1 t1 u1,.slice s2 t2 u2,.slice s3 t3 u3,.slice s4 t4 u4,.string p3,.int .i64 p4,.string p5,.bool p6] 41 Z (by rw[←hZ];exact ja _ _);rw[World.size_alloc] at dd;exact dd)
 have HQ:=lH (show je (w.heap.size+2) [.slice none 0 0,.slice none 0 0,.slice none 0 0] Z by
  have dd:=jc ((w.alloc (.cells #[.slice a len cap,.slice b m c,.slice d n e] 35)).alloc (.cells #[.string p0,.string p1,.int .i64 p2,.slice s1 t1 u1,.slice s2 t2 u2,.slice s3 t3 u3,.slice s4 t4 u4,.string p3,.int .i64 p4,.string p5,.bool p6] 41)) (.slice none 0 0) [.slice none 0 0,.slice none 0 0] 35 Z (by rw[hZ];exact Kept.refl _);rw[World.size_alloc,World.size_alloc] at dd;exact dd)
 have y0:=Vk.out.at_ 0 _ rfl;obtain⟨HO,Vd,Vc,VY,UX,TN⟩:=lH6 (YR a b d len cap m c n e nl pl bl p0 Z (hn.kept hkz) (hp.kept hkz) (hb.kept hkz) h1 h2 h3 h4 h5 h6 hl) hkz hzs hl.podsN (hP.kept hkz) hLP;clear hn hp hb h1 h2 h3 h4 h5 h6 hl hkz hzs cc hP hLP;unfold jo;dsimp only;go_enter Tryz.func9,Tryz.ntmps9;go_wp2_with fail
 try rw[hZ]
 go_wp2_with fail
 try rw[hZ]
 clear hZ o0 o1 o2 y0;refine HO.out.mono ?_;rintro e1 w1 ⟨a1,n1,c1,a2,n2,c2,a3,n3,c3,rfl,ho,k1⟩;obtain⟨W1,hW1⟩:=eX (w1.alloc (.cells #[.slice a1 n1 c1,.slice a2 n2 c2,.slice a3 n3 c3] 35))
 have hkw:Kept w1 W1:=by rw[←hW1];exact ja _ _
 obtain⟨HC,HW,HQ,Vk,UX,K,Ve⟩:=lH7 (ho.more (q:=w1.heap.size) hkw (Nat.le_refl _)) (show je w1.heap.size [.slice a1 n1 c1,.slice a2 n2 c2,.slice a3 n3 c3] W1 from jc w1 (.slice a1 n1 c1) [.slice a2 n2 c2,.slice a3 n3 c3] 35 W1 (by rw[hW1];exact Kept.refl _)) (HQ.out.kept (k1.trans hkw)) (Vk.out.kept (k1.trans hkw)) (UX.out.kept (k1.trans hkw)) (k1.trans hkw) (show Z.heap.size≤w1.heap.size∧w1.heap.size<W1.heap.size from⟨k1.size,by rw[←hW1,World.size_alloc];exact Nat.lt_succ_self _⟩);clear ho k1 hkw;obtain⟨v1,v2,v3,hu,hat⟩:=HC.out.toR
 cases hu
 obtain⟨ap,cp,ep,l1,l2,hpat⟩:=hat.pods
 cases ep
 have Ul:=lH hpat;clear hat l1 l2;have UJ:=lH (show (jw ⟨nl,pl,bl⟩ p0).pods.length≤100000 from Nat.le_trans (jbl p0 pl) VY.out);obtain⟨l9,hl9⟩:=eX ((jw ⟨nl,pl,bl⟩ p0).pods)
 obtain⟨len9,hlen9⟩:=eX (l9.length)
 have UY:=lH (show l9=jL p0 pl by rw[←hl9];rfl);have UW:=lH hlen9;skip;rw[hl9] at Ul UJ HW HC ⊢;rw[hlen9] at Ul UJ HW HC ⊢;try rw[hl9] at hW1
 try rw[hlen9] at hW1
 have Np:=lH (show (jw ⟨nl,pl,bl⟩ p0)=⟨nl,l9,bl⟩ by rw[UY.out];rfl);rw[Np.out] at HC;clear hl9 hlen9 hpat;go_wp2_with fail
 try rw[hW1]
 try clear hW1
 have HS:=lH (show ∀W,je (w.heap.size+1) [.string p0,.string p1,.int .i64 p2,.slice s1 t1 u1,.slice s2 t2 u2,.slice s3 t3 u3,.slice s4 t4 u4,.string p3,.int .i64 p4,.string p5,.bool p6] W→W.cell? ⟨w.heap.size+1,0,none⟩=some (.string p0)∧W.cell? ⟨w.heap.size+1,1,none⟩=some (.string p1)∧W.cell? ⟨w.heap.size+1,2,none⟩=some (.int .i64 p2)∧W.cell? ⟨w.heap.size+1,3,none⟩=some (.slice s1 t1 u1)∧W.cell? ⟨w.heap.size+1,4,none⟩=some (.slice s2 t2 u2)∧W.cell? ⟨w.heap.size+1,5,none⟩=some (.slice s3 t3 u3)∧W.cell? ⟨w.heap.size+1,6,none⟩=some (.slice s4 t4 u4)∧W.cell? ⟨w.heap.size+1,7,none⟩=some (.string p3)∧W.cell? ⟨w.heap.size+1,8,none⟩=some (.int .i64 p4)∧W.cell? ⟨w.heap.size+1,9,none⟩=some (.string p5)∧W.cell? ⟨w.heap.size+1,10,none⟩=some (.bool p6) from fun W h=>⟨h.at_ 0 _ rfl,h.at_ 1 _ rfl,h.at_ 2 _ rfl,h.at_ 3 _ rfl,h.at_ 4 _ rfl,h.at_ 5 _ rfl,h.at_ 6 _ rfl,h.at_ 7 _ rfl,h.at_ 8 _ rfl,h.at_ 9 _ rfl,h.at_ 10 _ rfl⟩);have Vp:=lH (fun W (k:Kept W1 W)=>Vk.out.kept k);skip;refine wp_region_held_drew (S:=fun W=>W.cell? ⟨w.heap.size+1,0,none⟩=some (.string p0)∧W.cell? ⟨w.heap.size+1,1,none⟩=some (.string p1)∧W.cell? ⟨w.heap.size+1,2,none⟩=some (.int .i64 p2)∧W.cell? ⟨w.heap.size+1,3,none⟩=some (.slice s1 t1 u1)∧W.cell? ⟨w.heap.size+1,4,none⟩=some (.slice s2 t2 u2)∧W.cell? ⟨w.heap.size+1,5,none⟩=some (.slice s3 t3 u3)∧W.cell? ⟨w.heap.size+1,6,none⟩=some (.slice s4 t4 u4)∧W.cell? ⟨w.heap.size+1,7,none⟩=some (.string p3)∧W.cell? ⟨w.heap.size+1,8,none⟩=some (.int .i64 p4)∧W.cell? ⟨w.heap.size+1,9,none⟩=some (.string p5)∧W.cell? ⟨w.heap.size+1,10,none⟩=some (.bool p6)) (by kernel_rfl) (HS.out _ (Vp.out _ (Kept.drew _))) (fun hHeld=>?_);refine tR 0 rfl (by kernel_rfl) (fun _ _ _=>id) (Or.inl ⟨by rfl,by rintro W ⟨o0,o1,o2,o3,o4,o5,o6,o7,o8,o9,o10⟩;go_simp<;>with_reducible rfl⟩) ‹_› ?_;refine tR 2 rfl (by kernel_rfl) (fun _ _ _=>id) (Or.inl ⟨by rfl,by rintro W ⟨o0,o1,o2,o3,o4,o5,o6,o7,o8,o9,o10⟩;go_simp<;>with_reducible rfl⟩) ‹_› ?_;refine tR 4 rfl (by kernel_rfl) (fun _ _ _=>id) (Or.inl ⟨by rfl,by rintro W ⟨o0,o1,o2,o3,o4,o5,o6,o7,o8,o9,o10⟩;go_simp<;>with_reducible rfl⟩) ‹_› ?_;refine tR 5 rfl (by kernel_rfl) (fun _ _ _=>id) (Or.inl ⟨by rfl,by rintro W ⟨o0,o1,o2,o3,o4,o5,o6,o7,o8,o9,o10⟩;go_simp<;>with_reducible rfl⟩) ‹_› ?_;refine tR 7 rfl (by kernel_rfl) (fun _ _ _=>id) (Or.inl ⟨by rfl,by rintro W ⟨o0,o1,o2,o3,o4,o5,o6,o7,o8,o9,o10⟩;go_simp<;>with_reducible rfl⟩) ‹_› ?_;try simp only[nA,nB,nC,nD,nE]
 refine wpAnyH_ready  (rs:=[1,3]) (by kernel_rfl) (by simp) (AllReadyH.cons  (by rw[List.getElem?_toArray];exact rfl) (fun K9 Ky=>?_) (AllReadyH.cons  (by rw[List.getElem?_toArray];exact rfl) (fun K9 Ky=>?_) AllReadyH.nil))
 · skip;have yq:W1.drew.cell? ⟨w1.heap.size,1,none⟩=some (.slice a2 len9 c2):=(HW.out.kept (Kept.drew W1)).at_ 1 _ rfl;go_simp;refine Ky.out _ _ (HS.out _ (Vp.out _ (Kept.drew W1))) (fun _=>?_);clear Ky K9 yq;try simp only[nA,nB,nC,nD,nE]
   have yq:W1.drew.cell? ⟨w1.heap.size,1,none⟩=some (.slice a2 len9 c2):=HW.out.at_ 1 _ rfl;refine rd1 3 fun K9 Ky=>?_;go_simp;refine Ky.out _ _ (HS.out _ (Vp.out _ (Kept.drew _))) (fun _=>?_);clear Ky K9 yq;try simp only[nA,nB,nC,nD,nE]
   refine rd1 6 fun K9 Ky=>?_;go_simp;refine(Yq a2 len9 c2 l9 p0 _ (Ul.out.kept (Kept.drew _))).mono ?_;rintro e2 w2 ⟨rfl,kk⟩;have J1:=lH ((Kept.drew W1).trans kk);clear kk;refine Ky.out _ _ (HS.out _ (Vp.out _ J1.out)) (fun _=>?_);clear Ky K9;try simp only[nA,nB,nC,nD,nE]
   refine rd1 8 fun K9 Ky=>?_;go_simp;have Vs:=Ji ⟨p0,p1,p2,q1,q2,q3,q4,p3,p4,p5,p6⟩ (.slice s1 t1 u1) (.slice s2 t2 u2) (.slice s3 t3 u3) (.slice s4 t4 u4) w2 (UX.out.kept J1.out) TN.out;unfold jo at Vs;dsimp only at Vs;refine Vs.mono ?_;clear Vs;rintro e3 w3 ⟨v,rfl,hv,kk⟩;have J2:=lH (J1.out.trans kk);obtain⟨x1,y1,z1,x2,y2,z2,x3,y3,z3,x4,y4,z4,hv9,sp,g1,g2,g3,g4⟩:=hv;have hv9:v=.agg #[.string p0,.string p1,.int .i64 p2,.slice x1 y1 z1,.slice x2 y2 z2,.slice x3 y3 z3,.slice x4 y4 z4,.string p3,.int .i64 p4,.string p5,.bool p6]:=hv9;subst hv9;have HG:=lH (show Z.heap.size≤w1.heap.size∧w1.heap.size<w2.heap.size from⟨Ve.out.1,Nat.lt_of_lt_of_le Ve.out.2 J1.out.size⟩);have Vo:=lH (show Off (fun b=>(b<Z.heap.size∨b=w1.heap.size)∨(Value.slice a2 len9 c2).ownBlock=some b) w3 fun u=>At4 u (⟨p0,p1,p2,q1,q2,q3,q4,p3,p4,p5,p6⟩,(x1,y1,z1),(x2,y2,z2),(x3,y3,z3),(x4,y4,z4)) from jq.off (B:=w2.heap.size) sp g1 g2 g3 g4 (fun b hb h=>by
    have h1:=HG.out;rcases h with (h | h) | h
    · omega
    · omega
    · have:=((HC.out.kept J1.out).lt b h).2;omega))
   clear kk sp g1 g2 g3 g4;refine Ky.out _ _ (HS.out _ (Vp.out _ J2.out)) (fun _=>?_);clear Ky K9;try simp only[nA,nB,nC,nD,nE]
   refine rd1 9 fun K9 Ky=>?_;go_simp;obtain⟨J3,HV,Vo⟩:=lH3 (J2.out.trans (ja w3 (.cells #[.string p0,.string p1,.int .i64 p2,.slice x1 y1 z1,.slice x2 y2 z2,.slice x3 y3 z3,.slice x4 y4 z4,.string p3,.int .i64 p4,.string p5,.bool p6] 41))) (show (w3.alloc (.cells #[.string p0,.string p1,.int .i64 p2,.slice x1 y1 z1,.slice x2 y2 z2,.slice x3 y3 z3,.slice x4 y4 z4,.string p3,.int .i64 p4,.string p5,.bool p6] 41)).heap[w3.heap.size]?=some (.cells #[.string p0,.string p1,.int .i64 p2,.slice x1 y1 z1,.slice x2 y2 z2,.slice x3 y3 z3,.slice x4 y4 z4,.string p3,.int .i64 p4,.string p5,.bool p6] 41) from World.alloc_heap_new w3 _) (Vo.out.step (jb.of (ja w3 (.cells #[.string p0,.string p1,.int .i64 p2,.slice x1 y1 z1,.slice x2 y2 z2,.slice x3 y3 z3,.slice x4 y4 z4,.string p3,.int .i64 p4,.string p5,.bool p6] 41))));refine Ky.out _ _ (HS.out _ (Vp.out _ J3.out)) (fun _=>?_);clear Ky K9;try simp only[nA,nB,nC,nD,nE]
   obtain⟨w4,hw4⟩:=eX (w3.alloc (.cells #[.string p0,.string p1,.int .i64 p2,.slice x1 y1 z1,.slice x2 y2 z2,.slice x3 y3 z3,.slice x4 y4 z4,.string p3,.int .i64 p4,.string p5,.bool p6] 41))
   rw[hw4] at J3 HV Vo ⊢;clear hw4;refine rd1 10 fun K9 Ky=>?_;go_simp;refine(J9 (HC.out.kept J3.out) (⟨p0,p1,p2,q1,q2,q3,q4,p3,p4,p5,p6⟩,(x1,y1,z1),(x2,y2,z2),(x3,y3,z3),(x4,y4,z4)) (i:=placeN p0 l9) (by have:=ZW p0 l9;rw[UW.out] at this;exact this) UJ.out (by have:=J3.out.size;have:=Ve.out;omega) (fun b hb=>by have:=J3.out.size;have:=Ve.out;rcases hb with hb | hb<;>omega) HV.out (fun e=>by have h1:=((HC.out.kept J2.out).lt _ e).2;omega) Vo.out).mono ?_;rintro e5 w5 ⟨g,c9,rfl,hc5,hg5⟩;obtain⟨Un,VC,Ua,VF,K5⟩:=lH5 hc5 (((HW.out.kept J3.out)).block (hg5.block _ (by have:=J3.out.size;have:=Ve.out;omega) (fun e=>HC.out.sep _ e (.inr rfl)))) ((HQ.out.kept J3.out).block (hg5.block _ (by have:=J3.out.size;have:=Ve.out;have:=Vc.out;omega) (fun e=>HC.out.sep _ e (.inl (by have:=Vc.out;omega))))) ((Vp.out _ J3.out).block (hg5.block _ (by have:=J3.out.size;have:=Ve.out;have:=Vc.out;omega) (fun e=>HC.out.sep _ e (.inl (by have:=Vc.out;omega))))) (show Kept w w5 from Below.trans (Vd.out.trans (K.out.trans J3.out)) (hg5.at_below (B:=w.heap.size) (fun q e=>by have:=(HC.out.lt q e).1;have:=Vc.out;omega) (Vd.out.trans (K.out.trans J3.out)).size));clear hc5 hg5;refine Ky.out _ _ (HS.out _ VF.out) (fun _=>?_);clear Ky K9;try simp only[nA,nB,nC,nD,nE]
   refine tR 11 rfl (by kernel_rfl) (fun _ _ _=>id) (Or.inl ⟨by rfl,by rintro W ⟨o0,o1,o2,o3,o4,o5,o6,o7,o8,o9,o10⟩;go_simp<;>with_reducible rfl⟩) ‹_› ?_;try simp only[nA,nB,nC,nD,nE]
   have q1:=VC.out.at_ 1 _ rfl;have f1:=VC.out.free 1;refine rd1 12 fun K9 Ky=>?_;go_simp;obtain⟨Uo,Vr,VU,Up,K6⟩:=lH5 (VF.out.other (p:=w1.heap.size) (j:=1) (u:=.slice (some ⟨g,0,none⟩) (len9+1) c9) (by have:=Ve.out;have:=Vc.out;omega)) (Ua.out.other (p:=w1.heap.size) (j:=1) (u:=.slice (some ⟨g,0,none⟩) (len9+1) c9) (by have:=Ve.out;have:=Vc.out;omega)) (show je w1.heap.size [.slice a1 n1 c1,.slice (some ⟨g,0,none⟩) (len9+1) c9,.slice a3 n3 c3] (w5.setCell ⟨w1.heap.size,1,none⟩ (.slice (some ⟨g,0,none⟩) (len9+1) c9)) from VC.out.set (j:=1) (by simp)) (Un.out.step (jb.cell (S:=fun b=>b<Z.heap.size∨b=w1.heap.size) w1.heap.size 1 (.slice (some ⟨g,0,none⟩) (len9+1) c9) (.inr rfl))) (show Kept w (w5.setCell ⟨w1.heap.size,1,none⟩ (.slice (some ⟨g,0,none⟩) (len9+1) c9)) from K5.out.setCell (p:=⟨w1.heap.size,1,none⟩) (by have:=Ve.out;have:=Vc.out;show w.heap.size≤w1.heap.size;omega) _);refine Ky.out _ _ (HS.out _ Uo.out) (fun _=>?_);clear Ky K9 q1 f1;try simp only[nA,nB,nC,nD,nE]
   refine wpAnyH_done (by kernel_rfl) ?_ _;obtain⟨y0,y1,y2⟩:=VU.out.at3;obtain⟨z0,z1,z2⟩:=Vr.out.at3;have f0:=Vr.out.free 0;have f1:=Vr.out.free 1;have f2:=Vr.out.free 2;have PP:=lH (jW (vs:=[.slice a1 n1 c1,.slice (some ⟨g,0,none⟩) (len9+1) c9,.slice a3 n3 c3]) Vr.out rfl);go_wp2;obtain⟨WE,hWE⟩:=eX ((w5.setCell ⟨w1.heap.size,1,none⟩ (.slice (some ⟨g,0,none⟩) (len9+1) c9)).setCells (w.heap.size+2) 0 [.slice a1 n1 c1,.slice (some ⟨g,0,none⟩) (len9+1) c9,.slice a3 n3 c3])
   have hWE2:((((w5.setCell ⟨w1.heap.size,1,none⟩ (.slice (some ⟨g,0,none⟩) (len9+1) c9)).setCell ⟨(w.heap.size+2),0,none⟩ (.slice a1 n1 c1)).setCell ⟨(w.heap.size+2),1,none⟩ (.slice (some ⟨g,0,none⟩) (len9+1) c9)).setCell ⟨(w.heap.size+2),2,none⟩ (.slice a3 n3 c3))=WE:=hWE;rw[hWE] at PP;try rw[hWE2]
   have GE:=lH (show jb (fun b=>b<Z.heap.size∨b=w1.heap.size) (w5.setCell ⟨w1.heap.size,1,none⟩ (.slice (some ⟨g,0,none⟩) (len9+1) c9)) WE by rw[←hWE];exact jb.cells (S:=fun b=>b<Z.heap.size∨b=w1.heap.size) _ (.inl (by have:=Vc.out;omega)) _ _ _);clear hWE hWE2;obtain⟨PCC,hsz,hbl,hkp⟩:=PP.out;refine bodyPost_ret (by simp[results,Tryz.results9,go_sem,PCC.at_ 0 _ rfl,PCC.at_ 1 _ rfl,PCC.at_ 2 _ rfl];try rfl) rfl ?_;have Vf:=(Up.out.step GE.out).less (B':=w.heap.size) (S':=fun b=>b<w.heap.size) Vd.out.size (fun b hb=>.inl (Nat.lt_of_lt_of_le hb Vd.out.size));rw[show l9.take (placeN p0 l9)++⟨p0,p1,p2,q1,q2,q3,q4,p3,p4,p5,p6⟩::l9.drop (placeN p0 l9)=zR ⟨p0,p1,p2,q1,q2,q3,q4,p3,p4,p5,p6⟩ (jL p0 pl) by rw[←UY.out];exact J8 (p:=⟨p0,p1,p2,q1,q2,q3,q4,p3,p4,p5,p6⟩) (l:=l9)] at Vf;exact⟨_,_,_,_,_,_,_,_,_,rfl,Vf,hkp _ _ (by omega) K6.out⟩
 · skip;have yq:W1.drew.cell? ⟨w1.heap.size,1,none⟩=some (.slice a2 len9 c2):=HW.out.at_ 1 _ rfl;go_simp;refine Ky.out _ _ (HS.out _ (Vp.out _ (Kept.drew _))) (fun _=>?_);clear Ky K9 yq;try simp only[nA,nB,nC,nD,nE]
   refine wpAnyH_ready  (rs:=[1,6]) (by kernel_rfl) (by simp) (AllReadyH.cons  (by rw[List.getElem?_toArray];exact rfl) (fun K9 Ky=>?_) (AllReadyH.cons  (by rw[List.getElem?_toArray];exact rfl) (fun K9 Ky=>?_) AllReadyH.nil))
   · skip;have yq:W1.drew.cell? ⟨w1.heap.size,1,none⟩=some (.slice a2 len9 c2):=(HW.out.kept (Kept.drew W1)).at_ 1 _ rfl;go_simp;refine Ky.out _ _ (HS.out _ (Vp.out _ (Kept.drew W1))) (fun _=>?_);clear Ky K9 yq;try simp only[nA,nB,nC,nD,nE]
     refine rd1 6 fun K9 Ky=>?_;go_simp;refine(Yq a2 len9 c2 l9 p0 _ (Ul.out.kept (Kept.drew _))).mono ?_;rintro e2 w2 ⟨rfl,kk⟩;have J1:=lH ((Kept.drew W1).trans kk);clear kk;refine Ky.out _ _ (HS.out _ (Vp.out _ J1.out)) (fun _=>?_);clear Ky K9;try simp only[nA,nB,nC,nD,nE]
     refine rd1 8 fun K9 Ky=>?_;go_simp;have Vs:=Ji ⟨p0,p1,p2,q1,q2,q3,q4,p3,p4,p5,p6⟩ (.slice s1 t1 u1) (.slice s2 t2 u2) (.slice s3 t3 u3) (.slice s4 t4 u4) w2 (UX.out.kept J1.out) TN.out;unfold jo at Vs;dsimp only at Vs;refine Vs.mono ?_;clear Vs;rintro e3 w3 ⟨v,rfl,hv,kk⟩;have J2:=lH (J1.out.trans kk);obtain⟨x1,y1,z1,x2,y2,z2,x3,y3,z3,x4,y4,z4,hv9,sp,g1,g2,g3,g4⟩:=hv;have hv9:v=.agg #[.string p0,.string p1,.int .i64 p2,.slice x1 y1 z1,.slice x2 y2 z2,.slice x3 y3 z3,.slice x4 y4 z4,.string p3,.int .i64 p4,.string p5,.bool p6]:=hv9;subst hv9;have HG:=lH (show Z.heap.size≤w1.heap.size∧w1.heap.size<w2.heap.size from⟨Ve.out.1,Nat.lt_of_lt_of_le Ve.out.2 J1.out.size⟩);have Vo:=lH (show Off (fun b=>(b<Z.heap.size∨b=w1.heap.size)∨(Value.slice a2 len9 c2).ownBlock=some b) w3 fun u=>At4 u (⟨p0,p1,p2,q1,q2,q3,q4,p3,p4,p5,p6⟩,(x1,y1,z1),(x2,y2,z2),(x3,y3,z3),(x4,y4,z4)) from jq.off (B:=w2.heap.size) sp g1 g2 g3 g4 (fun b hb h=>by
      have h1:=HG.out;rcases h with (h | h) | h
      · omega
      · omega
      · have:=((HC.out.kept J1.out).lt b h).2;omega))
     clear kk sp g1 g2 g3 g4;refine Ky.out _ _ (HS.out _ (Vp.out _ J2.out)) (fun _=>?_);clear Ky K9;try simp only[nA,nB,nC,nD,nE]
     refine rd1 9 fun K9 Ky=>?_;go_simp;obtain⟨J3,HV,Vo⟩:=lH3 (J2.out.trans (ja w3 (.cells #[.string p0,.string p1,.int .i64 p2,.slice x1 y1 z1,.slice x2 y2 z2,.slice x3 y3 z3,.slice x4 y4 z4,.string p3,.int .i64 p4,.string p5,.bool p6] 41))) (show (w3.alloc (.cells #[.string p0,.string p1,.int .i64 p2,.slice x1 y1 z1,.slice x2 y2 z2,.slice x3 y3 z3,.slice x4 y4 z4,.string p3,.int .i64 p4,.string p5,.bool p6] 41)).heap[w3.heap.size]?=some (.cells #[.string p0,.string p1,.int .i64 p2,.slice x1 y1 z1,.slice x2 y2 z2,.slice x3 y3 z3,.slice x4 y4 z4,.string p3,.int .i64 p4,.string p5,.bool p6] 41) from World.alloc_heap_new w3 _) (Vo.out.step (jb.of (ja w3 (.cells #[.string p0,.string p1,.int .i64 p2,.slice x1 y1 z1,.slice x2 y2 z2,.slice x3 y3 z3,.slice x4 y4 z4,.string p3,.int .i64 p4,.string p5,.bool p6] 41))));refine Ky.out _ _ (HS.out _ (Vp.out _ J3.out)) (fun _=>?_);clear Ky K9;try simp only[nA,nB,nC,nD,nE]
     obtain⟨w4,hw4⟩:=eX (w3.alloc (.cells #[.string p0,.string p1,.int .i64 p2,.slice x1 y1 z1,.slice x2 y2 z2,.slice x3 y3 z3,.slice x4 y4 z4,.string p3,.int .i64 p4,.string p5,.bool p6] 41))
     rw[hw4] at J3 HV Vo ⊢;clear hw4;refine rd1 10 fun K9 Ky=>?_;go_simp;refine(J9 (HC.out.kept J3.out) (⟨p0,p1,p2,q1,q2,q3,q4,p3,p4,p5,p6⟩,(x1,y1,z1),(x2,y2,z2),(x3,y3,z3),(x4,y4,z4)) (i:=placeN p0 l9) (by have:=ZW p0 l9;rw[UW.out] at this;exact this) UJ.out (by have:=J3.out.size;have:=Ve.out;omega) (fun b hb=>by have:=J3.out.size;have:=Ve.out;rcases hb with hb | hb<;>omega) HV.out (fun e=>by have h1:=((HC.out.kept J2.out).lt _ e).2;omega) Vo.out).mono ?_;rintro e5 w5 ⟨g,c9,rfl,hc5,hg5⟩;obtain⟨Un,VC,Ua,VF,K5⟩:=lH5 hc5 (((HW.out.kept J3.out)).block (hg5.block _ (by have:=J3.out.size;have:=Ve.out;omega) (fun e=>HC.out.sep _ e (.inr rfl)))) ((HQ.out.kept J3.out).block (hg5.block _ (by have:=J3.out.size;have:=Ve.out;have:=Vc.out;omega) (fun e=>HC.out.sep _ e (.inl (by have:=Vc.out;omega))))) ((Vp.out _ J3.out).block (hg5.block _ (by have:=J3.out.size;have:=Ve.out;have:=Vc.out;omega) (fun e=>HC.out.sep _ e (.inl (by have:=Vc.out;omega))))) (show Kept w w5 from Below.trans (Vd.out.trans (K.out.trans J3.out)) (hg5.at_below (B:=w.heap.size) (fun q e=>by have:=(HC.out.lt q e).1;have:=Vc.out;omega) (Vd.out.trans (K.out.trans J3.out)).size));clear hc5 hg5;refine Ky.out _ _ (HS.out _ VF.out) (fun _=>?_);clear Ky K9;try simp only[nA,nB,nC,nD,nE]
     refine tR 11 rfl (by kernel_rfl) (fun _ _ _=>id) (Or.inl ⟨by rfl,by rintro W ⟨o0,o1,o2,o3,o4,o5,o6,o7,o8,o9,o10⟩;go_simp<;>with_reducible rfl⟩) ‹_› ?_;try simp only[nA,nB,nC,nD,nE]
     have q1:=VC.out.at_ 1 _ rfl;have f1:=VC.out.free 1;refine rd1 12 fun K9 Ky=>?_;go_simp;obtain⟨Uo,Vr,VU,Up,K6⟩:=lH5 (VF.out.other (p:=w1.heap.size) (j:=1) (u:=.slice (some ⟨g,0,none⟩) (len9+1) c9) (by have:=Ve.out;have:=Vc.out;omega)) (Ua.out.other (p:=w1.heap.size) (j:=1) (u:=.slice (some ⟨g,0,none⟩) (len9+1) c9) (by have:=Ve.out;have:=Vc.out;omega)) (show je w1.heap.size [.slice a1 n1 c1,.slice (some ⟨g,0,none⟩) (len9+1) c9,.slice a3 n3 c3] (w5.setCell ⟨w1.heap.size,1,none⟩ (.slice (some ⟨g,0,none⟩) (len9+1) c9)) from VC.out.set (j:=1) (by simp)) (Un.out.step (jb.cell (S:=fun b=>b<Z.heap.size∨b=w1.heap.size) w1.heap.size 1 (.slice (some ⟨g,0,none⟩) (len9+1) c9) (.inr rfl))) (show Kept w (w5.setCell ⟨w1.heap.size,1,none⟩ (.slice (some ⟨g,0,none⟩) (len9+1) c9)) from K5.out.setCell (p:=⟨w1.heap.size,1,none⟩) (by have:=Ve.out;have:=Vc.out;show w.heap.size≤w1.heap.size;omega) _);refine Ky.out _ _ (HS.out _ Uo.out) (fun _=>?_);clear Ky K9 q1 f1;try simp only[nA,nB,nC,nD,nE]
     refine wpAnyH_done (by kernel_rfl) ?_ _;obtain⟨y0,y1,y2⟩:=VU.out.at3;obtain⟨z0,z1,z2⟩:=Vr.out.at3;have f0:=Vr.out.free 0;have f1:=Vr.out.free 1;have f2:=Vr.out.free 2;have PP:=lH (jW (vs:=[.slice a1 n1 c1,.slice (some ⟨g,0,none⟩) (len9+1) c9,.slice a3 n3 c3]) Vr.out rfl);go_wp2;obtain⟨WE,hWE⟩:=eX ((w5.setCell ⟨w1.heap.size,1,none⟩ (.slice (some ⟨g,0,none⟩) (len9+1) c9)).setCells (w.heap.size+2) 0 [.slice a1 n1 c1,.slice (some ⟨g,0,none⟩) (len9+1) c9,.slice a3 n3 c3])
     have hWE2:((((w5.setCell ⟨w1.heap.size,1,none⟩ (.slice (some ⟨g,0,none⟩) (len9+1) c9)).setCell ⟨(w.heap.size+2),0,none⟩ (.slice a1 n1 c1)).setCell ⟨(w.heap.size+2),1,none⟩ (.slice (some ⟨g,0,none⟩) (len9+1) c9)).setCell ⟨(w.heap.size+2),2,none⟩ (.slice a3 n3 c3))=WE:=hWE;rw[hWE] at PP;try rw[hWE2]
     have GE:=lH (show jb (fun b=>b<Z.heap.size∨b=w1.heap.size) (w5.setCell ⟨w1.heap.size,1,none⟩ (.slice (some ⟨g,0,none⟩) (len9+1) c9)) WE by rw[←hWE];exact jb.cells (S:=fun b=>b<Z.heap.size∨b=w1.heap.size) _ (.inl (by have:=Vc.out;omega)) _ _ _);clear hWE hWE2;obtain⟨PCC,hsz,hbl,hkp⟩:=PP.out;refine bodyPost_ret (by simp[results,Tryz.results9,go_sem,PCC.at_ 0 _ rfl,PCC.at_ 1 _ rfl,PCC.at_ 2 _ rfl];try rfl) rfl ?_;have Vf:=(Up.out.step GE.out).less (B':=w.heap.size) (S':=fun b=>b<w.heap.size) Vd.out.size (fun b hb=>.inl (Nat.lt_of_lt_of_le hb Vd.out.size));rw[show l9.take (placeN p0 l9)++⟨p0,p1,p2,q1,q2,q3,q4,p3,p4,p5,p6⟩::l9.drop (placeN p0 l9)=zR ⟨p0,p1,p2,q1,q2,q3,q4,p3,p4,p5,p6⟩ (jL p0 pl) by rw[←UY.out];exact J8 (p:=⟨p0,p1,p2,q1,q2,q3,q4,p3,p4,p5,p6⟩) (l:=l9)] at Vf;exact⟨_,_,_,_,_,_,_,_,_,rfl,Vf,hkp _ _ (by omega) K6.out⟩
   · skip;go_simp;refine(Yq a2 len9 c2 l9 p0 _ (Ul.out.kept (Kept.drew _))).mono ?_;rintro e2 w2 ⟨rfl,kk⟩;have J1:=lH ((Kept.drew W1).trans kk);clear kk;refine Ky.out _ _ (HS.out _ (Vp.out _ J1.out)) (fun _=>?_);clear Ky K9;try simp only[nA,nB,nC,nD,nE]
     refine wpAnyH_ready  (rs:=[1,8]) (by kernel_rfl) (by simp) (AllReadyH.cons  (by rw[List.getElem?_toArray];exact rfl) (fun K9 Ky=>?_) (AllReadyH.cons  (by rw[List.getElem?_toArray];exact rfl) (fun K9 Ky=>?_) AllReadyH.nil))
     · skip;have yq:w2.cell? ⟨w1.heap.size,1,none⟩=some (.slice a2 len9 c2):=(HW.out.kept J1.out).at_ 1 _ rfl;go_simp;refine Ky.out _ _ (HS.out _ (Vp.out _ J1.out)) (fun _=>?_);clear Ky K9 yq;try simp only[nA,nB,nC,nD,nE]
       refine rd1 8 fun K9 Ky=>?_;go_simp;have Vs:=Ji ⟨p0,p1,p2,q1,q2,q3,q4,p3,p4,p5,p6⟩ (.slice s1 t1 u1) (.slice s2 t2 u2) (.slice s3 t3 u3) (.slice s4 t4 u4) w2 (UX.out.kept J1.out) TN.out;unfold jo at Vs;dsimp only at Vs;refine Vs.mono ?_;clear Vs;rintro e3 w3 ⟨v,rfl,hv,kk⟩;have J2:=lH (J1.out.trans kk);obtain⟨x1,y1,z1,x2,y2,z2,x3,y3,z3,x4,y4,z4,hv9,sp,g1,g2,g3,g4⟩:=hv;have hv9:v=.agg #[.string p0,.string p1,.int .i64 p2,.slice x1 y1 z1,.slice x2 y2 z2,.slice x3 y3 z3,.slice x4 y4 z4,.string p3,.int .i64 p4,.string p5,.bool p6]:=hv9;subst hv9;have HG:=lH (show Z.heap.size≤w1.heap.size∧w1.heap.size<w2.heap.size from⟨Ve.out.1,Nat.lt_of_lt_of_le Ve.out.2 J1.out.size⟩);have Vo:=lH (show Off (fun b=>(b<Z.heap.size∨b=w1.heap.size)∨(Value.slice a2 len9 c2).ownBlock=some b) w3 fun u=>At4 u (⟨p0,p1,p2,q1,q2,q3,q4,p3,p4,p5,p6⟩,(x1,y1,z1),(x2,y2,z2),(x3,y3,z3),(x4,y4,z4)) from jq.off (B:=w2.heap.size) sp g1 g2 g3 g4 (fun b hb h=>by
        have h1:=HG.out;rcases h with (h | h) | h
        · omega
        · omega
        · have:=((HC.out.kept J1.out).lt b h).2;omega))
       clear kk sp g1 g2 g3 g4;refine Ky.out _ _ (HS.out _ (Vp.out _ J2.out)) (fun _=>?_);clear Ky K9;try simp only[nA,nB,nC,nD,nE]
       refine rd1 9 fun K9 Ky=>?_;go_simp;obtain⟨J3,HV,Vo⟩:=lH3 (J2.out.trans (ja w3 (.cells #[.string p0,.string p1,.int .i64 p2,.slice x1 y1 z1,.slice x2 y2 z2,.slice x3 y3 z3,.slice x4 y4 z4,.string p3,.int .i64 p4,.string p5,.bool p6] 41))) (show (w3.alloc (.cells #[.string p0,.string p1,.int .i64 p2,.slice x1 y1 z1,.slice x2 y2 z2,.slice x3 y3 z3,.slice x4 y4 z4,.string p3,.int .i64 p4,.string p5,.bool p6] 41)).heap[w3.heap.size]?=some (.cells #[.string p0,.string p1,.int .i64 p2,.slice x1 y1 z1,.slice x2 y2 z2,.slice x3 y3 z3,.slice x4 y4 z4,.string p3,.int .i64 p4,.string p5,.bool p6] 41) from World.alloc_heap_new w3 _) (Vo.out.step (jb.of (ja w3 (.cells #[.string p0,.string p1,.int .i64 p2,.slice x1 y1 z1,.slice x2 y2 z2,.slice x3 y3 z3,.slice x4 y4 z4,.string p3,.int .i64 p4,.string p5,.bool p6] 41))));refine Ky.out _ _ (HS.out _ (Vp.out _ J3.out)) (fun _=>?_);clear Ky K9;try simp only[nA,nB,nC,nD,nE]
       obtain⟨w4,hw4⟩:=eX (w3.alloc (.cells #[.string p0,.string p1,.int .i64 p2,.slice x1 y1 z1,.slice x2 y2 z2,.slice x3 y3 z3,.slice x4 y4 z4,.string p3,.int .i64 p4,.string p5,.bool p6] 41))
       rw[hw4] at J3 HV Vo ⊢;clear hw4;refine rd1 10 fun K9 Ky=>?_;go_simp;refine(J9 (HC.out.kept J3.out) (⟨p0,p1,p2,q1,q2,q3,q4,p3,p4,p5,p6⟩,(x1,y1,z1),(x2,y2,z2),(x3,y3,z3),(x4,y4,z4)) (i:=placeN p0 l9) (by have:=ZW p0 l9;rw[UW.out] at this;exact this) UJ.out (by have:=J3.out.size;have:=Ve.out;omega) (fun b hb=>by have:=J3.out.size;have:=Ve.out;rcases hb with hb | hb<;>omega) HV.out (fun e=>by have h1:=((HC.out.kept J2.out).lt _ e).2;omega) Vo.out).mono ?_;rintro e5 w5 ⟨g,c9,rfl,hc5,hg5⟩;obtain⟨Un,VC,Ua,VF,K5⟩:=lH5 hc5 (((HW.out.kept J3.out)).block (hg5.block _ (by have:=J3.out.size;have:=Ve.out;omega) (fun e=>HC.out.sep _ e (.inr rfl)))) ((HQ.out.kept J3.out).block (hg5.block _ (by have:=J3.out.size;have:=Ve.out;have:=Vc.out;omega) (fun e=>HC.out.sep _ e (.inl (by have:=Vc.out;omega))))) ((Vp.out _ J3.out).block (hg5.block _ (by have:=J3.out.size;have:=Ve.out;have:=Vc.out;omega) (fun e=>HC.out.sep _ e (.inl (by have:=Vc.out;omega))))) (show Kept w w5 from Below.trans (Vd.out.trans (K.out.trans J3.out)) (hg5.at_below (B:=w.heap.size) (fun q e=>by have:=(HC.out.lt q e).1;have:=Vc.out;omega) (Vd.out.trans (K.out.trans J3.out)).size));clear hc5 hg5;refine Ky.out _ _ (HS.out _ VF.out) (fun _=>?_);clear Ky K9;try simp only[nA,nB,nC,nD,nE]
       refine tR 11 rfl (by kernel_rfl) (fun _ _ _=>id) (Or.inl ⟨by rfl,by rintro W ⟨o0,o1,o2,o3,o4,o5,o6,o7,o8,o9,o10⟩;go_simp<;>with_reducible rfl⟩) ‹_› ?_;try simp only[nA,nB,nC,nD,nE]
       have q1:=VC.out.at_ 1 _ rfl;have f1:=VC.out.free 1;refine rd1 12 fun K9 Ky=>?_;go_simp;obtain⟨Uo,Vr,VU,Up,K6⟩:=lH5 (VF.out.other (p:=w1.heap.size) (j:=1) (u:=.slice (some ⟨g,0,none⟩) (len9+1) c9) (by have:=Ve.out;have:=Vc.out;omega)) (Ua.out.other (p:=w1.heap.size) (j:=1) (u:=.slice (some ⟨g,0,none⟩) (len9+1) c9) (by have:=Ve.out;have:=Vc.out;omega)) (show je w1.heap.size [.slice a1 n1 c1,.slice (some ⟨g,0,none⟩) (len9+1) c9,.slice a3 n3 c3] (w5.setCell ⟨w1.heap.size,1,none⟩ (.slice (some ⟨g,0,none⟩) (len9+1) c9)) from VC.out.set (j:=1) (by simp)) (Un.out.step (jb.cell (S:=fun b=>b<Z.heap.size∨b=w1.heap.size) w1.heap.size 1 (.slice (some ⟨g,0,none⟩) (len9+1) c9) (.inr rfl))) (show Kept w (w5.setCell ⟨w1.heap.size,1,none⟩ (.slice (some ⟨g,0,none⟩) (len9+1) c9)) from K5.out.setCell (p:=⟨w1.heap.size,1,none⟩) (by have:=Ve.out;have:=Vc.out;show w.heap.size≤w1.heap.size;omega) _);refine Ky.out _ _ (HS.out _ Uo.out) (fun _=>?_);clear Ky K9 q1 f1;try simp only[nA,nB,nC,nD,nE]
       refine wpAnyH_done (by kernel_rfl) ?_ _;obtain⟨y0,y1,y2⟩:=VU.out.at3;obtain⟨z0,z1,z2⟩:=Vr.out.at3;have f0:=Vr.out.free 0;have f1:=Vr.out.free 1;have f2:=Vr.out.free 2;have PP:=lH (jW (vs:=[.slice a1 n1 c1,.slice (some ⟨g,0,none⟩) (len9+1) c9,.slice a3 n3 c3]) Vr.out rfl);go_wp2;obtain⟨WE,hWE⟩:=eX ((w5.setCell ⟨w1.heap.size,1,none⟩ (.slice (some ⟨g,0,none⟩) (len9+1) c9)).setCells (w.heap.size+2) 0 [.slice a1 n1 c1,.slice (some ⟨g,0,none⟩) (len9+1) c9,.slice a3 n3 c3])
       have hWE2:((((w5.setCell ⟨w1.heap.size,1,none⟩ (.slice (some ⟨g,0,none⟩) (len9+1) c9)).setCell ⟨(w.heap.size+2),0,none⟩ (.slice a1 n1 c1)).setCell ⟨(w.heap.size+2),1,none⟩ (.slice (some ⟨g,0,none⟩) (len9+1) c9)).setCell ⟨(w.heap.size+2),2,none⟩ (.slice a3 n3 c3))=WE:=hWE;rw[hWE] at PP;try rw[hWE2]
       have GE:=lH (show jb (fun b=>b<Z.heap.size∨b=w1.heap.size) (w5.setCell ⟨w1.heap.size,1,none⟩ (.slice (some ⟨g,0,none⟩) (len9+1) c9)) WE by rw[←hWE];exact jb.cells (S:=fun b=>b<Z.heap.size∨b=w1.heap.size) _ (.inl (by have:=Vc.out;omega)) _ _ _);clear hWE hWE2;obtain⟨PCC,hsz,hbl,hkp⟩:=PP.out;refine bodyPost_ret (by simp[results,Tryz.results9,go_sem,PCC.at_ 0 _ rfl,PCC.at_ 1 _ rfl,PCC.at_ 2 _ rfl];try rfl) rfl ?_;have Vf:=(Up.out.step GE.out).less (B':=w.heap.size) (S':=fun b=>b<w.heap.size) Vd.out.size (fun b hb=>.inl (Nat.lt_of_lt_of_le hb Vd.out.size));rw[show l9.take (placeN p0 l9)++⟨p0,p1,p2,q1,q2,q3,q4,p3,p4,p5,p6⟩::l9.drop (placeN p0 l9)=zR ⟨p0,p1,p2,q1,q2,q3,q4,p3,p4,p5,p6⟩ (jL p0 pl) by rw[←UY.out];exact J8 (p:=⟨p0,p1,p2,q1,q2,q3,q4,p3,p4,p5,p6⟩) (l:=l9)] at Vf;exact⟨_,_,_,_,_,_,_,_,_,rfl,Vf,hkp _ _ (by omega) K6.out⟩
     · skip;go_simp;have Vs:=Ji ⟨p0,p1,p2,q1,q2,q3,q4,p3,p4,p5,p6⟩ (.slice s1 t1 u1) (.slice s2 t2 u2) (.slice s3 t3 u3) (.slice s4 t4 u4) w2 (UX.out.kept J1.out) TN.out;unfold jo at Vs;dsimp only at Vs;refine Vs.mono ?_;clear Vs;rintro e3 w3 ⟨v,rfl,hv,kk⟩;have J2:=lH (J1.out.trans kk);obtain⟨x1,y1,z1,x2,y2,z2,x3,y3,z3,x4,y4,z4,hv9,sp,g1,g2,g3,g4⟩:=hv;have hv9:v=.agg #[.string p0,.string p1,.int .i64 p2,.slice x1 y1 z1,.slice x2 y2 z2,.slice x3 y3 z3,.slice x4 y4 z4,.string p3,.int .i64 p4,.string p5,.bool p6]:=hv9;subst hv9;have HG:=lH (show Z.heap.size≤w1.heap.size∧w1.heap.size<w2.heap.size from⟨Ve.out.1,Nat.lt_of_lt_of_le Ve.out.2 J1.out.size⟩);have Vo:=lH (show Off (fun b=>(b<Z.heap.size∨b=w1.heap.size)∨(Value.slice a2 len9 c2).ownBlock=some b) w3 fun u=>At4 u (⟨p0,p1,p2,q1,q2,q3,q4,p3,p4,p5,p6⟩,(x1,y1,z1),(x2,y2,z2),(x3,y3,z3),(x4,y4,z4)) from jq.off (B:=w2.heap.size) sp g1 g2 g3 g4 (fun b hb h=>by
        have h1:=HG.out;rcases h with (h | h) | h
        · omega
        · omega
        · have:=((HC.out.kept J1.out).lt b h).2;omega))
       clear kk sp g1 g2 g3 g4;refine Ky.out _ _ (HS.out _ (Vp.out _ J2.out)) (fun _=>?_);clear Ky K9;try simp only[nA,nB,nC,nD,nE]
       refine wpAnyH_ready  (rs:=[1,9]) (by kernel_rfl) (by simp) (AllReadyH.cons  (by rw[List.getElem?_toArray];exact rfl) (fun K9 Ky=>?_) (AllReadyH.cons  (by rw[List.getElem?_toArray];exact rfl) (fun K9 Ky=>?_) AllReadyH.nil))
       · skip;have yq:w3.cell? ⟨w1.heap.size,1,none⟩=some (.slice a2 len9 c2):=(HW.out.kept J2.out).at_ 1 _ rfl;go_simp;refine Ky.out _ _ (HS.out _ (Vp.out _ J2.out)) (fun _=>?_);clear Ky K9 yq;try simp only[nA,nB,nC,nD,nE]
         refine rd1 9 fun K9 Ky=>?_;go_simp;obtain⟨J3,HV,Vo⟩:=lH3 (J2.out.trans (ja w3 (.cells #[.string p0,.string p1,.int .i64 p2,.slice x1 y1 z1,.slice x2 y2 z2,.slice x3 y3 z3,.slice x4 y4 z4,.string p3,.int .i64 p4,.string p5,.bool p6] 41))) (show (w3.alloc (.cells #[.string p0,.string p1,.int .i64 p2,.slice x1 y1 z1,.slice x2 y2 z2,.slice x3 y3 z3,.slice x4 y4 z4,.string p3,.int .i64 p4,.string p5,.bool p6] 41)).heap[w3.heap.size]?=some (.cells #[.string p0,.string p1,.int .i64 p2,.slice x1 y1 z1,.slice x2 y2 z2,.slice x3 y3 z3,.slice x4 y4 z4,.string p3,.int .i64 p4,.string p5,.bool p6] 41) from World.alloc_heap_new w3 _) (Vo.out.step (jb.of (ja w3 (.cells #[.string p0,.string p1,.int .i64 p2,.slice x1 y1 z1,.slice x2 y2 z2,.slice x3 y3 z3,.slice x4 y4 z4,.string p3,.int .i64 p4,.string p5,.bool p6] 41))));refine Ky.out _ _ (HS.out _ (Vp.out _ J3.out)) (fun _=>?_);clear Ky K9;try simp only[nA,nB,nC,nD,nE]
         obtain⟨w4,hw4⟩:=eX (w3.alloc (.cells #[.string p0,.string p1,.int .i64 p2,.slice x1 y1 z1,.slice x2 y2 z2,.slice x3 y3 z3,.slice x4 y4 z4,.string p3,.int .i64 p4,.string p5,.bool p6] 41))
         rw[hw4] at J3 HV Vo ⊢;clear hw4;refine rd1 10 fun K9 Ky=>?_;go_simp;refine(J9 (HC.out.kept J3.out) (⟨p0,p1,p2,q1,q2,q3,q4,p3,p4,p5,p6⟩,(x1,y1,z1),(x2,y2,z2),(x3,y3,z3),(x4,y4,z4)) (i:=placeN p0 l9) (by have:=ZW p0 l9;rw[UW.out] at this;exact this) UJ.out (by have:=J3.out.size;have:=Ve.out;omega) (fun b hb=>by have:=J3.out.size;have:=Ve.out;rcases hb with hb | hb<;>omega) HV.out (fun e=>by have h1:=((HC.out.kept J2.out).lt _ e).2;omega) Vo.out).mono ?_;rintro e5 w5 ⟨g,c9,rfl,hc5,hg5⟩;obtain⟨Un,VC,Ua,VF,K5⟩:=lH5 hc5 (((HW.out.kept J3.out)).block (hg5.block _ (by have:=J3.out.size;have:=Ve.out;omega) (fun e=>HC.out.sep _ e (.inr rfl)))) ((HQ.out.kept J3.out).block (hg5.block _ (by have:=J3.out.size;have:=Ve.out;have:=Vc.out;omega) (fun e=>HC.out.sep _ e (.inl (by have:=Vc.out;omega))))) ((Vp.out _ J3.out).block (hg5.block _ (by have:=J3.out.size;have:=Ve.out;have:=Vc.out;omega) (fun e=>HC.out.sep _ e (.inl (by have:=Vc.out;omega))))) (show Kept w w5 from Below.trans (Vd.out.trans (K.out.trans J3.out)) (hg5.at_below (B:=w.heap.size) (fun q e=>by have:=(HC.out.lt q e).1;have:=Vc.out;omega) (Vd.out.trans (K.out.trans J3.out)).size));clear hc5 hg5;refine Ky.out _ _ (HS.out _ VF.out) (fun _=>?_);clear Ky K9;try simp only[nA,nB,nC,nD,nE]
         refine tR 11 rfl (by kernel_rfl) (fun _ _ _=>id) (Or.inl ⟨by rfl,by rintro W ⟨o0,o1,o2,o3,o4,o5,o6,o7,o8,o9,o10⟩;go_simp<;>with_reducible rfl⟩) ‹_› ?_;try simp only[nA,nB,nC,nD,nE]
         have q1:=VC.out.at_ 1 _ rfl;have f1:=VC.out.free 1;refine rd1 12 fun K9 Ky=>?_;go_simp;obtain⟨Uo,Vr,VU,Up,K6⟩:=lH5 (VF.out.other (p:=w1.heap.size) (j:=1) (u:=.slice (some ⟨g,0,none⟩) (len9+1) c9) (by have:=Ve.out;have:=Vc.out;omega)) (Ua.out.other (p:=w1.heap.size) (j:=1) (u:=.slice (some ⟨g,0,none⟩) (len9+1) c9) (by have:=Ve.out;have:=Vc.out;omega)) (show je w1.heap.size [.slice a1 n1 c1,.slice (some ⟨g,0,none⟩) (len9+1) c9,.slice a3 n3 c3] (w5.setCell ⟨w1.heap.size,1,none⟩ (.slice (some ⟨g,0,none⟩) (len9+1) c9)) from VC.out.set (j:=1) (by simp)) (Un.out.step (jb.cell (S:=fun b=>b<Z.heap.size∨b=w1.heap.size) w1.heap.size 1 (.slice (some ⟨g,0,none⟩) (len9+1) c9) (.inr rfl))) (show Kept w (w5.setCell ⟨w1.heap.size,1,none⟩ (.slice (some ⟨g,0,none⟩) (len9+1) c9)) from K5.out.setCell (p:=⟨w1.heap.size,1,none⟩) (by have:=Ve.out;have:=Vc.out;show w.heap.size≤w1.heap.size;omega) _);refine Ky.out _ _ (HS.out _ Uo.out) (fun _=>?_);clear Ky K9 q1 f1;try simp only[nA,nB,nC,nD,nE]
         refine wpAnyH_done (by kernel_rfl) ?_ _;obtain⟨y0,y1,y2⟩:=VU.out.at3;obtain⟨z0,z1,z2⟩:=Vr.out.at3;have f0:=Vr.out.free 0;have f1:=Vr.out.free 1;have f2:=Vr.out.free 2;have PP:=lH (jW (vs:=[.slice a1 n1 c1,.slice (some ⟨g,0,none⟩) (len9+1) c9,.slice a3 n3 c3]) Vr.out rfl);go_wp2;obtain⟨WE,hWE⟩:=eX ((w5.setCell ⟨w1.heap.size,1,none⟩ (.slice (some ⟨g,0,none⟩) (len9+1) c9)).setCells (w.heap.size+2) 0 [.slice a1 n1 c1,.slice (some ⟨g,0,none⟩) (len9+1) c9,.slice a3 n3 c3])
         have hWE2:((((w5.setCell ⟨w1.heap.size,1,none⟩ (.slice (some ⟨g,0,none⟩) (len9+1) c9)).setCell ⟨(w.heap.size+2),0,none⟩ (.slice a1 n1 c1)).setCell ⟨(w.heap.size+2),1,none⟩ (.slice (some ⟨g,0,none⟩) (len9+1) c9)).setCell ⟨(w.heap.size+2),2,none⟩ (.slice a3 n3 c3))=WE:=hWE;rw[hWE] at PP;try rw[hWE2]
         have GE:=lH (show jb (fun b=>b<Z.heap.size∨b=w1.heap.size) (w5.setCell ⟨w1.heap.size,1,none⟩ (.slice (some ⟨g,0,none⟩) (len9+1) c9)) WE by rw[←hWE];exact jb.cells (S:=fun b=>b<Z.heap.size∨b=w1.heap.size) _ (.inl (by have:=Vc.out;omega)) _ _ _);clear hWE hWE2;obtain⟨PCC,hsz,hbl,hkp⟩:=PP.out;refine bodyPost_ret (by simp[results,Tryz.results9,go_sem,PCC.at_ 0 _ rfl,PCC.at_ 1 _ rfl,PCC.at_ 2 _ rfl];try rfl) rfl ?_;have Vf:=(Up.out.step GE.out).less (B':=w.heap.size) (S':=fun b=>b<w.heap.size) Vd.out.size (fun b hb=>.inl (Nat.lt_of_lt_of_le hb Vd.out.size));rw[show l9.take (placeN p0 l9)++⟨p0,p1,p2,q1,q2,q3,q4,p3,p4,p5,p6⟩::l9.drop (placeN p0 l9)=zR ⟨p0,p1,p2,q1,q2,q3,q4,p3,p4,p5,p6⟩ (jL p0 pl) by rw[←UY.out];exact J8 (p:=⟨p0,p1,p2,q1,q2,q3,q4,p3,p4,p5,p6⟩) (l:=l9)] at Vf;exact⟨_,_,_,_,_,_,_,_,_,rfl,Vf,hkp _ _ (by omega) K6.out⟩
       · skip;go_simp;obtain⟨J3,HV,Vo⟩:=lH3 (J2.out.trans (ja w3 (.cells #[.string p0,.string p1,.int .i64 p2,.slice x1 y1 z1,.slice x2 y2 z2,.slice x3 y3 z3,.slice x4 y4 z4,.string p3,.int .i64 p4,.string p5,.bool p6] 41))) (show (w3.alloc (.cells #[.string p0,.string p1,.int .i64 p2,.slice x1 y1 z1,.slice x2 y2 z2,.slice x3 y3 z3,.slice x4 y4 z4,.string p3,.int .i64 p4,.string p5,.bool p6] 41)).heap[w3.heap.size]?=some (.cells #[.string p0,.string p1,.int .i64 p2,.slice x1 y1 z1,.slice x2 y2 z2,.slice x3 y3 z3,.slice x4 y4 z4,.string p3,.int .i64 p4,.string p5,.bool p6] 41) from World.alloc_heap_new w3 _) (Vo.out.step (jb.of (ja w3 (.cells #[.string p0,.string p1,.int .i64 p2,.slice x1 y1 z1,.slice x2 y2 z2,.slice x3 y3 z3,.slice x4 y4 z4,.string p3,.int .i64 p4,.string p5,.bool p6] 41))));refine Ky.out _ _ (HS.out _ (Vp.out _ J3.out)) (fun _=>?_);clear Ky K9;try simp only[nA,nB,nC,nD,nE]
         obtain⟨w4,hw4⟩:=eX (w3.alloc (.cells #[.string p0,.string p1,.int .i64 p2,.slice x1 y1 z1,.slice x2 y2 z2,.slice x3 y3 z3,.slice x4 y4 z4,.string p3,.int .i64 p4,.string p5,.bool p6] 41))
         rw[hw4] at J3 HV Vo ⊢;clear hw4;refine rd1 1 fun K9 Ky=>?_;have yq:w4.cell? ⟨w1.heap.size,1,none⟩=some (.slice a2 len9 c2):=(HW.out.kept J3.out).at_ 1 _ rfl;go_simp;refine Ky.out _ _ (HS.out _ (Vp.out _ J3.out)) (fun _=>?_);clear Ky K9 yq;try simp only[nA,nB,nC,nD,nE]
         refine rd1 10 fun K9 Ky=>?_;go_simp;refine(J9 (HC.out.kept J3.out) (⟨p0,p1,p2,q1,q2,q3,q4,p3,p4,p5,p6⟩,(x1,y1,z1),(x2,y2,z2),(x3,y3,z3),(x4,y4,z4)) (i:=placeN p0 l9) (by have:=ZW p0 l9;rw[UW.out] at this;exact this) UJ.out (by have:=J3.out.size;have:=Ve.out;omega) (fun b hb=>by have:=J3.out.size;have:=Ve.out;rcases hb with hb | hb<;>omega) HV.out (fun e=>by have h1:=((HC.out.kept J2.out).lt _ e).2;omega) Vo.out).mono ?_;rintro e5 w5 ⟨g,c9,rfl,hc5,hg5⟩;obtain⟨Un,VC,Ua,VF,K5⟩:=lH5 hc5 (((HW.out.kept J3.out)).block (hg5.block _ (by have:=J3.out.size;have:=Ve.out;omega) (fun e=>HC.out.sep _ e (.inr rfl)))) ((HQ.out.kept J3.out).block (hg5.block _ (by have:=J3.out.size;have:=Ve.out;have:=Vc.out;omega) (fun e=>HC.out.sep _ e (.inl (by have:=Vc.out;omega))))) ((Vp.out _ J3.out).block (hg5.block _ (by have:=J3.out.size;have:=Ve.out;have:=Vc.out;omega) (fun e=>HC.out.sep _ e (.inl (by have:=Vc.out;omega))))) (show Kept w w5 from Below.trans (Vd.out.trans (K.out.trans J3.out)) (hg5.at_below (B:=w.heap.size) (fun q e=>by have:=(HC.out.lt q e).1;have:=Vc.out;omega) (Vd.out.trans (K.out.trans J3.out)).size));clear hc5 hg5;refine Ky.out _ _ (HS.out _ VF.out) (fun _=>?_);clear Ky K9;try simp only[nA,nB,nC,nD,nE]
         refine tR 11 rfl (by kernel_rfl) (fun _ _ _=>id) (Or.inl ⟨by rfl,by rintro W ⟨o0,o1,o2,o3,o4,o5,o6,o7,o8,o9,o10⟩;go_simp<;>with_reducible rfl⟩) ‹_› ?_;try simp only[nA,nB,nC,nD,nE]
         have q1:=VC.out.at_ 1 _ rfl;have f1:=VC.out.free 1;refine rd1 12 fun K9 Ky=>?_;go_simp;obtain⟨Uo,Vr,VU,Up,K6⟩:=lH5 (VF.out.other (p:=w1.heap.size) (j:=1) (u:=.slice (some ⟨g,0,none⟩) (len9+1) c9) (by have:=Ve.out;have:=Vc.out;omega)) (Ua.out.other (p:=w1.heap.size) (j:=1) (u:=.slice (some ⟨g,0,none⟩) (len9+1) c9) (by have:=Ve.out;have:=Vc.out;omega)) (show je w1.heap.size [.slice a1 n1 c1,.slice (some ⟨g,0,none⟩) (len9+1) c9,.slice a3 n3 c3] (w5.setCell ⟨w1.heap.size,1,none⟩ (.slice (some ⟨g,0,none⟩) (len9+1) c9)) from VC.out.set (j:=1) (by simp)) (Un.out.step (jb.cell (S:=fun b=>b<Z.heap.size∨b=w1.heap.size) w1.heap.size 1 (.slice (some ⟨g,0,none⟩) (len9+1) c9) (.inr rfl))) (show Kept w (w5.setCell ⟨w1.heap.size,1,none⟩ (.slice (some ⟨g,0,none⟩) (len9+1) c9)) from K5.out.setCell (p:=⟨w1.heap.size,1,none⟩) (by have:=Ve.out;have:=Vc.out;show w.heap.size≤w1.heap.size;omega) _);refine Ky.out _ _ (HS.out _ Uo.out) (fun _=>?_);clear Ky K9 q1 f1;try simp only[nA,nB,nC,nD,nE]
         refine wpAnyH_done (by kernel_rfl) ?_ _;obtain⟨y0,y1,y2⟩:=VU.out.at3;obtain⟨z0,z1,z2⟩:=Vr.out.at3;have f0:=Vr.out.free 0;have f1:=Vr.out.free 1;have f2:=Vr.out.free 2;have PP:=lH (jW (vs:=[.slice a1 n1 c1,.slice (some ⟨g,0,none⟩) (len9+1) c9,.slice a3 n3 c3]) Vr.out rfl);go_wp2;obtain⟨WE,hWE⟩:=eX ((w5.setCell ⟨w1.heap.size,1,none⟩ (.slice (some ⟨g,0,none⟩) (len9+1) c9)).setCells (w.heap.size+2) 0 [.slice a1 n1 c1,.slice (some ⟨g,0,none⟩) (len9+1) c9,.slice a3 n3 c3])
         have hWE2:((((w5.setCell ⟨w1.heap.size,1,none⟩ (.slice (some ⟨g,0,none⟩) (len9+1) c9)).setCell ⟨(w.heap.size+2),0,none⟩ (.slice a1 n1 c1)).setCell ⟨(w.heap.size+2),1,none⟩ (.slice (some ⟨g,0,none⟩) (len9+1) c9)).setCell ⟨(w.heap.size+2),2,none⟩ (.slice a3 n3 c3))=WE:=hWE;rw[hWE] at PP;try rw[hWE2]
         have GE:=lH (show jb (fun b=>b<Z.heap.size∨b=w1.heap.size) (w5.setCell ⟨w1.heap.size,1,none⟩ (.slice (some ⟨g,0,none⟩) (len9+1) c9)) WE by rw[←hWE];exact jb.cells (S:=fun b=>b<Z.heap.size∨b=w1.heap.size) _ (.inl (by have:=Vc.out;omega)) _ _ _);clear hWE hWE2;obtain⟨PCC,hsz,hbl,hkp⟩:=PP.out;refine bodyPost_ret (by simp[results,Tryz.results9,go_sem,PCC.at_ 0 _ rfl,PCC.at_ 1 _ rfl,PCC.at_ 2 _ rfl];try rfl) rfl ?_;have Vf:=(Up.out.step GE.out).less (B':=w.heap.size) (S':=fun b=>b<w.heap.size) Vd.out.size (fun b hb=>.inl (Nat.lt_of_lt_of_le hb Vd.out.size));rw[show l9.take (placeN p0 l9)++⟨p0,p1,p2,q1,q2,q3,q4,p3,p4,p5,p6⟩::l9.drop (placeN p0 l9)=zR ⟨p0,p1,p2,q1,q2,q3,q4,p3,p4,p5,p6⟩ (jL p0 pl) by rw[←UY.out];exact J8 (p:=⟨p0,p1,p2,q1,q2,q3,q4,p3,p4,p5,p6⟩) (l:=l9)] at Vf;exact⟨_,_,_,_,_,_,_,_,_,rfl,Vf,hkp _ _ (by omega) K6.out⟩
theorem jcA {x:ByteArray} {l:List Pd} {k:Nat} {n:Pd} (h:l[k]?=some n):(l.take (k+1)).filter (fun p=>eqS p.node x)=(l.take k).filter (fun p=>eqS p.node x)++(if eqS n.node x=true then [n] else []):=by
 rw[Yg h,List.filter_append];congr 1
 rw[List.filter_cons,List.filter_nil]
theorem jeE (a a8 a9:Option Addr) (len cap m8 c8 m9 c9:Nat) (l:List Pd) (x:ByteArray) (w:World) (hr:jv w a len l) (hlow:∀n ∈ l,ZG n) (hlen:len≤100000) :
 Calls Tryz.prog 21 #[.agg #[.slice a8 m8 c8,.slice a len cap,.slice a9 m9 c9],.string x] w fun e w'=>∃v,e=.returned v∧Jw w' v (onP x l)∧Kept w w':=by
 have hl:=hr.1;have hm:=hr.2.1;unfold maxLen at hm;obtain⟨i0,hi,hz0,hz1,hz2'⟩:=info_parts Z2;obtain⟨Z,hZ⟩:=eX (w.alloc (.cells #[.slice a8 m8 c8,.slice a len cap,.slice a9 m9 c9] 35))
 have hkz:Kept w Z:=by rw[←hZ];exact ja _ _
 have hst:Z.cell? ⟨w.heap.size,1,none⟩=some (.slice a len cap):=(jc w (.slice a8 m8 c8) [.slice a len cap,.slice a9 m9 c9] 35 Z (by rw[hZ];exact Kept.refl _)).at_ 1 _ rfl;obtain⟨HR,HL,Vq,Vd⟩:=lH4 (hr.kept hkz) hl hlow hkz;obtain⟨t,ht⟩:=eX ((x.toList==([]:List UInt8)))
 have To:=lH (show zq x=t by rw[Xb];exact ht);clear hr hl hkz hlow
 cases t with
 | true =>
  have HE:=lH (show onP x l=[] by unfold onP;rw[if_pos To.out]);go_enter Tryz.func21,Tryz.ntmps21;go_wp2;try rw[hZ]
  go_ret;exact⟨_,rfl,by rw[HE.out];exact⟨none,0,rfl,Nat.le_refl _,by decide,rfl,by decide,.inl rfl⟩,by first | exact Vd.out | (rw[hZ];exact Vd.out)⟩
 | false =>
  have HE:=lH (show onP x l=l.filter (fun p=>eqS p.node x) by unfold onP;rw[if_neg (by rw[To.out];decide)]);go_enter Tryz.func21,Tryz.ntmps21;go_wp2;try rw[hZ]
  clear hZ hst ht;go_loopw [5,13] (fun v i wr=>∃k:Nat,k≤len∧i=.int .i64 k∧∃lx:List PX,(lx.map fun z=>z.1)=(l.take k).filter (fun p=>eqS p.node x)∧lx.length≤k∧Deep PodLay0 41 At4 wr Z.heap.size v lx∧Kept Z wr) (fun _ i _=>len-(intOf i).toNat)
  case atStart=>exact⟨0,Nat.zero_le _,rfl,[],rfl,Nat.le_refl _,⟨Own.nil _ _ _,fun z h=>by cases h⟩,Kept.refl _⟩
  case round =>
   obtain⟨k,hk,rfl,lx,hlx,hll,hdp,hK⟩:=hrel;obtain⟨HX,UK,HD,HK⟩:=lH4 hlx hll hdp hK;by_cases hlt:k<len
   · obtain⟨b,off,rfl⟩:=HR.out.form.resolve_left (by omega);obtain⟨n,a1,m1,c1,a2,m2,c2,a3,m3,c3,a4,m4,c4,hn,hd,hb,p0,p1,p2,p3,p4,p5,p6,p7,p8,p9,p10,hat⟩:=(HR.out.kept hK).at_ hlt;have HN:=lH hn;have VM:=lH hat;obtain⟨t,ht⟩:=eX (eqS n.node x)
     have ht':(n.node.toList==x.toList)=t:=ht;have HT:=lH ht;have hkk:(k:Int)<(len:Int):=by omega
     clear hlx hll hdp hK hat hd hn ht
     cases t with
     | false =>
      have UC:=lH (show (lx.map fun z=>z.1)=(l.take (k+1)).filter (fun p=>eqS p.node x) by rw[jcA HN.out,if_neg (by rw[HT.out];decide),List.append_nil];exact HX.out);go_wp2;go_roundw
      case rel=>exact⟨k+1,by omega,by go_num,lx,UC.out,by have:=UK.out;omega,HD.out.kept (ja _ _),HK.out.trans (ja _ _)⟩
      case measure=>simp[intOf];omega
     | true =>
      have Vs:=lH (show ∀W,Kept wr W→_ from fun W kk=>Ji n (.slice a1 m1 c1) (.slice a2 m2 c2) (.slice a3 m3 c3) (.slice a4 m4 c4) W (VM.out.kept kk) (Vq.out n (List.mem_of_getElem? HN.out)));unfold jo at Vs;obtain⟨len1,hlen1⟩:=eX (lx.length)
      have Rd:=lH hlen1;rw[hlen1] at UK;clear hlen1;go_wp2_with fail
      refine(Vs.out _ (ja _ _)).mono ?_;rintro e w1 ⟨v,rfl,hv,kk⟩;obtain⟨x1,y1,z1,x2,y2,z2,x3,y3,z3,x4,y4,z4,hv9,sp,g1,g2,g3,g4⟩:=hv;have hv9:v=.agg #[.string n.name,.string n.owner,.int .i64 n.prio,.slice x1 y1 z1,.slice x2 y2 z2,.slice x3 y3 z3,.slice x4 y4 z4,.string n.key,.int .i64 n.most,.string n.node,.bool n.hold]:=hv9;subst hv9;have KW:=lH ((ja wr _).trans kk);have hbase:Z.heap.size≤wr.heap.size:=HK.out.size;have Vo:=lH (show Off (fun b=>u5.ownBlock=some b) w1 fun u=>At4 u (n,(x1,y1,z1),(x2,y2,z2),(x3,y3,z3),(x4,y4,z4)) from jq.off (B:=wr.heap.size+1) sp (by rw[World.size_alloc] at g1;exact g1) (by rw[World.size_alloc] at g2;exact g2) (by rw[World.size_alloc] at g3;exact g3) (by rw[World.size_alloc] at g4;exact g4) (fun b hb h=>by have:=(jR HD.out.own b h).2;omega));have RP:=lH (HD.out.kept KW.out);have Re:=lH (show w1.ownsRow Z.heap.size 41 11 u5 len1 (jd PodLay0 lx) by have:=RP.out.own.1;rw[Rd.out] at this;exact this);have hs1:wr.heap.size≤w1.heap.size:=KW.out.size;clear kk sp g1 g2 g3 g4;go_wp2_with (at_builtin;refine wpList_append_lies _ rfl _ _ _ rfl Z.heap.size 41 i0 _ 11 184 Tryz.underlying32 hi hz0 hz1 hz2' rfl (by decide) u5 len1 (jd PodLay0 lx) rfl (Re.out.alloc _) ⟨w1.heap.size,0,none⟩ 1 1 (PodLay0.cs (n,(x1,y1,z1),(x2,y2,z2),(x3,y3,z3),(x4,y4,z4))) rfl rfl (World.news_of_block (cs:=#[.string n.name,.string n.owner,.int .i64 n.prio,.slice x1 y1 z1,.slice x2 y2 z2,.slice x3 y3 z3,.slice x4 y4 z4,.string n.key,.int .i64 n.most,.string n.node,.bool n.hold]) (t:=41) (fr:=(0,0)) (heap_alloc_new w1 _)) (X5 _) (by decide) (by unfold maxLen;have:=UK.out;omega) (by have:=UK.out;omega) (by simp;omega) (w1.heap.size+1) (by simp) ?_;intro gg cap1 w2 hown1 hgrow hat hlt1)
      have GG:=lH (jb.grown (S:=fun b=>u5.ownBlock=some b) hgrow fun q e=>e);have hnn:∀q,(Value.slice (some ⟨gg,0,none⟩) (len1+1) cap1).ownBlock=some q→u5.ownBlock=some q∨(w1.alloc (.cells #[.string n.name,.string n.owner,.int .i64 n.prio,.slice x1 y1 z1,.slice x2 y2 z2,.slice x3 y3 z3,.slice x4 y4 z4,.string n.key,.int .i64 n.most,.string n.node,.bool n.hold] 41)).heap.size≤q:=fun q hq=>by
       obtain rfl:gg=q:=Option.some.inj hq;exact hat.imp id fun e=>by rw[World.size_alloc];omega
      have Nq:=lH (show Deep PodLay0 41 At4 w2 Z.heap.size (.slice (some ⟨gg,0,none⟩) (len1+1) cap1) (lx++[(n,(x1,y1,z1),(x2,y2,z2),(x3,y3,z3),(x4,y4,z4))]) from⟨Own.snoc hown1 (by rw[Rd.out]) HD.out.own.2 trivial,fun z hz=>by
       rcases List.mem_append.1 hz with hz | hz
       · exact(((RP.out.off z hz).step (jb.of (ja w1 (.cells #[.string n.name,.string n.owner,.int .i64 n.prio,.slice x1 y1 z1,.slice x2 y2 z2,.slice x3 y3 z3,.slice x4 y4 z4,.string n.key,.int .i64 n.most,.string n.node,.bool n.hold] 41)))).new GG.out fun b e=>hnn b e)
       · obtain rfl:=List.mem_singleton.1 hz;exact((Vo.out.step (jb.of (ja w1 (.cells #[.string n.name,.string n.owner,.int .i64 n.prio,.slice x1 y1 z1,.slice x2 y2 z2,.slice x3 y3 z3,.slice x4 y4 z4,.string n.key,.int .i64 n.most,.string n.node,.bool n.hold] 41)))).new GG.out fun b e=>hnn b e)⟩)
      have Nr:=lH (show Kept Z w2 from Below.mono (show Below Z.heap.size Z w2 from Below.trans (HK.out.trans (KW.out.trans (ja w1 (.cells #[.string n.name,.string n.owner,.int .i64 n.prio,.slice x1 y1 z1,.slice x2 y2 z2,.slice x3 y3 z3,.slice x4 y4 z4,.string n.key,.int .i64 n.most,.string n.node,.bool n.hold] 41)))) (GG.out.at_below (B:=Z.heap.size) (fun q e=>(jR HD.out.own q e).1) (by have h1:=HK.out.size;rw[World.size_alloc];omega))) (Nat.le_refl _));have UC:=lH (show ((lx++[(n,(x1,y1,z1),(x2,y2,z2),(x3,y3,z3),(x4,y4,z4))]).map fun z=>z.1)=(l.take (k+1)).filter (fun p=>eqS p.node x) by rw[jcA HN.out,if_pos HT.out,List.map_append,HX.out];rfl);clear hown1 hgrow hat hlt1 hnn hs1 hbase;go_wp2;go_roundw
      case rel=>exact⟨k+1,by omega,by go_num,_,UC.out,by rw[List.length_append,Rd.out];have:=UK.out;simp;omega,Nq.out,Nr.out⟩
      case measure=>simp[intOf];omega
   · have TO:=lH (show l.take k=l by rw[List.take_of_length_le (by rw[HL.out];omega)]);have Rf:=lH (show Jw wr u5 (onP x l) by have:=qz HD.out;rw[HX.out,TO.out,←HE.out] at this;exact this);clear hlx hll hdp hK;go_wp2;go_ret;exact⟨_,rfl,Rf.out,Vd.out.trans HK.out⟩
def Ys (x:ByteArray) (c:Int):Nod:=⟨x,[(⟨#[99,112,117]⟩,c)],[],[],false⟩
def jbw (x:ByteArray) (c:Int) (y:ByteArray):Pd:=⟨x,⟨#[]⟩,0,[(⟨#[99,112,117]⟩,c)],[],[],[],⟨#[]⟩,0,y,false⟩
theorem qp (w:World) (c:Int) (h:-9223372036854775808≤c∧c≤9223372036854775807) (W:World) (k:Kept (w.alloc (.cells #[.string ⟨#[99,112,117]⟩,.int .i64 c] 88)) W):Vec.Reads W (.slice (some ⟨w.heap.size,0,none⟩) 1 1) [(⟨#[99,112,117]⟩,c)]:=by
 have cc:=jc w (.string ⟨#[99,112,117]⟩) [.int .i64 c] 88 W k;refine⟨_,1,rfl,(by decide:(1:Nat)≤1),(by decide:(1:Nat)≤maxLen),rfl,(by decide:(1:Nat)≤maxLen),fun i hi=>?_,.inr ⟨w.heap.size,0,rfl,cc.lt,fun i hi=>?_⟩⟩
 · obtain rfl:i=0:=by simpa using hi
   exact⟨(by decide:(3:Nat)≤maxLen),h.1,h.2⟩
 · obtain rfl:i=0:=by simpa using hi
   exact⟨cc.at_ 0 _ rfl,cc.at_ 1 _ rfl⟩
theorem jfb (x:ByteArray) (c:Int) (hc:-9223372036854775808≤c∧c≤9223372036854775807) (hx:x.size≤maxLen) (w:World) :
 Calls Tryz.prog 8 #[.string x,.int .i64 c] w fun e w'=>∃b1 n1 d1,e=.returned (.agg #[.string x,.slice b1 n1 d1,.slice none 0 0,.slice none 0 0,.bool false])∧zA w' (.slice b1 n1 d1) (.slice none 0 0) (.slice none 0 0) (Ys x c)∧Kept w w'∧∀b o z,b1=some ⟨b,o,z⟩→w.heap.size<b:=by
 have cc:=jc w (.string ⟨#[]⟩) [.slice none 0 0,.slice none 0 0,.slice none 0 0,.bool false] 29 _ (Kept.refl _);obtain⟨W0,hW0⟩:=eX (w.alloc (.cells #[.string ⟨#[]⟩,.slice none 0 0,.slice none 0 0,.slice none 0 0,.bool false] 29))
 have hs:W0.heap.size=w.heap.size+1:=by rw[←hW0];simp
 rw[hW0] at cc;obtain⟨W1,hW1⟩:=eX (W0.alloc (.cells #[.string ⟨#[99,112,117]⟩,.int .i64 c] 88))
 have HR:=lH (qp W0 c hc W1 (by rw[hW1];exact Kept.refl _));rw[hs] at HR;have c1:=cc.kept (W':=W1) (by rw[←hW1];exact ja _ _);have KW:=lH (show Kept w W1 by rw[←hW1,←hW0];exact ji _ _ _);have y0:=c1.at_ 0 _ rfl;have y1:=c1.at_ 1 _ rfl;have y2:=c1.at_ 2 _ rfl;have y3:=c1.at_ 3 _ rfl;have y4:=c1.at_ 4 _ rfl;have f0:=c1.free 0;have f1:=c1.free 1;have f2:=c1.free 2;have f3:=c1.free 3;have f4:=c1.free 4;have P:=lH (jW (vs:=[.string x,.slice (some ⟨w.heap.size+1,0,none⟩) 1 1,.slice none 0 0,.slice none 0 0,.bool false]) c1 rfl);clear c1 cc;go_enter Tryz.func8,Tryz.ntmps8;go_wp2;try rw[hW0]
 try rw[hW1]
 obtain⟨WE,hWE⟩:=eX (W1.setCells w.heap.size 0 [.string x,.slice (some ⟨w.heap.size+1,0,none⟩) 1 1,.slice none 0 0,.slice none 0 0,.bool false])
 have hWE2:(((((W1.setCell ⟨w.heap.size,0,none⟩ (.string x)).setCell ⟨w.heap.size,1,none⟩ (.slice (some ⟨w.heap.size+1,0,none⟩) 1 1)).setCell ⟨w.heap.size,2,none⟩ (.slice none 0 0)).setCell ⟨w.heap.size,3,none⟩ (.slice none 0 0)).setCell ⟨w.heap.size,4,none⟩ (.bool false))=WE:=hWE;rw[hWE] at P;try rw[hWE2]
 clear hWE hWE2;obtain⟨PC,hsz,hbl,hkp⟩:=P.out;refine bodyPost_ret (by simp[results,Tryz.results8,go_sem,PC.at_ 0 _ rfl,PC.at_ 1 _ rfl,PC.at_ 2 _ rfl,PC.at_ 3 _ rfl,PC.at_ 4 _ rfl];try rfl) rfl ?_;exact⟨_,_,_,rfl,⟨hx,(HR.out.far hsz (fun b o s e=>hbl b (by cases e;omega))),Reads.nil _,Reads.nil _⟩,hkp _ _ (Nat.le_refl _) KW.out,fun b o z e=>by cases e;omega⟩
theorem YD (x:ByteArray) (c:Int) (hc:-9223372036854775808≤c∧c≤9223372036854775807) (hx:x.size≤maxLen) (w:World) :
 Calls Tryz.prog 8 #[.string x,.int .i64 c] w fun e w'=>∃b1 n1 d1,e=.returned (.agg #[.string x,.slice b1 n1 d1,.slice none 0 0,.slice none 0 0,.bool false])∧zA w' (.slice b1 n1 d1) (.slice none 0 0) (.slice none 0 0) (Ys x c)∧Kept w w' :=
 (jfb x c hc hx w).mono fun e w' ⟨b,n,d,h1,h2,h3,_⟩=>⟨b,n,d,h1,h2,h3⟩
theorem jbJ (x:ByteArray) (c:Int) (y:ByteArray) (hc:-9223372036854775808≤c∧c≤9223372036854775807) (hx:x.size≤maxLen) (hy:y.size≤maxLen) (w:World) :
 Calls Tryz.prog 11 #[.string x,.int .i64 c,.string y] w fun e w'=>∃b1 n1 d1,e=.returned (.agg #[.string x,.string ⟨#[]⟩,.int .i64 0,.slice b1 n1 d1,.slice none 0 0,.slice none 0 0,.slice none 0 0,.string ⟨#[]⟩,.int .i64 0,.string y,.bool false])∧jq w' (.slice b1 n1 d1) (.slice none 0 0) (.slice none 0 0) (.slice none 0 0) (jbw x c y)∧Kept w w'∧∀b o z,b1=some ⟨b,o,z⟩→w.heap.size<b:=by
 have cc:=jc w (.string ⟨#[]⟩) [.string ⟨#[]⟩,.int .i64 0,.slice none 0 0,.slice none 0 0,.slice none 0 0,.slice none 0 0,.string ⟨#[]⟩,.int .i64 0,.string ⟨#[]⟩,.bool false] 41 _ (Kept.refl _);obtain⟨W0,hW0⟩:=eX (w.alloc (.cells #[.string ⟨#[]⟩,.string ⟨#[]⟩,.int .i64 0,.slice none 0 0,.slice none 0 0,.slice none 0 0,.slice none 0 0,.string ⟨#[]⟩,.int .i64 0,.string ⟨#[]⟩,.bool false] 41))
 have hs:W0.heap.size=w.heap.size+1:=by rw[←hW0];simp
 rw[hW0] at cc;obtain⟨W1,hW1⟩:=eX (W0.alloc (.cells #[.string ⟨#[99,112,117]⟩,.int .i64 c] 88))
 have HR:=lH (qp W0 c hc W1 (by rw[hW1];exact Kept.refl _));rw[hs] at HR;have c1:=cc.kept (W':=W1) (by rw[←hW1];exact ja _ _);have KW:=lH (show Kept w W1 by rw[←hW1,←hW0];exact ji _ _ _);have y0:=c1.at_ 0 _ rfl;have y1:=c1.at_ 1 _ rfl;have y2:=c1.at_ 2 _ rfl;have y3:=c1.at_ 3 _ rfl;have y4:=c1.at_ 4 _ rfl;have y5:=c1.at_ 5 _ rfl;have y6:=c1.at_ 6 _ rfl;have y7:=c1.at_ 7 _ rfl;have y8:=c1.at_ 8 _ rfl;have y9:=c1.at_ 9 _ rfl;have y10:=c1.at_ 10 _ rfl;have f0:=c1.free 0;have f1:=c1.free 1;have f2:=c1.free 2;have f3:=c1.free 3;have f4:=c1.free 4;have f5:=c1.free 5;have f6:=c1.free 6;have f7:=c1.free 7;have f8:=c1.free 8;have f9:=c1.free 9;have f10:=c1.free 10;have P:=lH (jW (vs:=[.string x,.string ⟨#[]⟩,.int .i64 0,.slice (some ⟨w.heap.size+1,0,none⟩) 1 1,.slice none 0 0,.slice none 0 0,.slice none 0 0,.string ⟨#[]⟩,.int .i64 0,.string y,.bool false]) c1 rfl);clear c1 cc;go_enter Tryz.func11,Tryz.ntmps11;go_wp2;try rw[hW0]
 try rw[hW1]
 obtain⟨WE,hWE⟩:=eX (W1.setCells w.heap.size 0 [.string x,.string ⟨#[]⟩,.int .i64 0,.slice (some ⟨w.heap.size+1,0,none⟩) 1 1,.slice none 0 0,.slice none 0 0,.slice none 0 0,.string ⟨#[]⟩,.int .i64 0,.string y,.bool false])
 have hWE2:(((((((((((W1.setCell ⟨w.heap.size,0,none⟩ (.string x)).setCell ⟨w.heap.size,1,none⟩ (.string ⟨#[]⟩)).setCell ⟨w.heap.size,2,none⟩ (.int .i64 0)).setCell ⟨w.heap.size,3,none⟩ (.slice (some ⟨w.heap.size+1,0,none⟩) 1 1)).setCell ⟨w.heap.size,4,none⟩ (.slice none 0 0)).setCell ⟨w.heap.size,5,none⟩ (.slice none 0 0)).setCell ⟨w.heap.size,6,none⟩ (.slice none 0 0)).setCell ⟨w.heap.size,7,none⟩ (.string ⟨#[]⟩)).setCell ⟨w.heap.size,8,none⟩ (.int .i64 0)).setCell ⟨w.heap.size,9,none⟩ (.string y)).setCell ⟨w.heap.size,10,none⟩ (.bool false))=WE:=hWE;rw[hWE] at P;try rw[hWE2]
 clear hWE hWE2;obtain⟨PC,hsz,hbl,hkp⟩:=P.out;refine bodyPost_ret (by simp[results,Tryz.results11,go_sem,PC.at_ 0 _ rfl,PC.at_ 1 _ rfl,PC.at_ 2 _ rfl,PC.at_ 3 _ rfl,PC.at_ 4 _ rfl,PC.at_ 5 _ rfl,PC.at_ 6 _ rfl,PC.at_ 7 _ rfl,PC.at_ 8 _ rfl,PC.at_ 9 _ rfl,PC.at_ 10 _ rfl];try rfl) rfl ?_;exact⟨_,_,_,rfl,⟨hx,(by decide:(0:Nat)≤maxLen),(by decide:(0:Nat)≤maxLen),hy,(by decide:(-9223372036854775808:Int)≤0∧(0:Int)≤9223372036854775807),(by decide:(-9223372036854775808:Int)≤0∧(0:Int)≤9223372036854775807),(HR.out.far hsz (fun b o s e=>hbl b (by cases e;omega))),Reads.nil _,Reads.nil _,Reads.nil _⟩,hkp _ _ (Nat.le_refl _) KW.out,fun b o z e=>by cases e;omega⟩
theorem Xu {X:Type} {L:Lay X} {lx:List X} {q:Nat} {v:Value} {vs:List Value} {W:World} (hc:jd L lx=v::vs) (c:je q (v::vs) W) (hf:∀x ∈ lx,L.fine x) (hm:lx.length≤maxLen):jk L W (some ⟨q,0,none⟩) lx.length lx :=
 ⟨rfl,hm,hf,.inr ⟨q,0,rfl,c.lt,fun i x j u hi hj=>by
  have:=Zs L lx i x j u hi hj;rw[hc] at this;rw[Nat.zero_add];exact c.at_ _ u this⟩⟩
theorem jaa {w:World} {a:Option Addr} {len:Nat} {lx:List NX} (h:jk zH w a len lx) (hf:∀z ∈ lx,At3 w z):jt w a len (lx.map fun z=>z.1):=by
 obtain⟨g0,g1,g2,g3⟩:=h;refine⟨by rw[List.length_map];exact g0,g1,g3.imp id ?_⟩;rintro ⟨b,off,rfl,hb,hc⟩;refine⟨b,off,rfl,hb,fun i n hi=>?_⟩;rw[List.getElem?_map] at hi;obtain⟨z,hz,rfl⟩:=Option.map_eq_some_iff.1 hi;exact⟨_,_,_,_,_,_,_,_,_,hc i z 0 _ hz rfl,hc i z 1 _ hz rfl,hc i z 2 _ hz rfl,hc i z 3 _ hz rfl,hc i z 4 _ hz rfl,hf z (List.mem_of_getElem? hz)⟩
theorem jfj {w:World} {a:Option Addr} {len:Nat} {lx:List PX} (h:jk PodLay0 w a len lx) (hf:∀z ∈ lx,At4 w z):jv w a len (lx.map fun z=>z.1):=by
 obtain⟨g0,g1,g2,g3⟩:=h;refine⟨by rw[List.length_map];exact g0,g1,g3.imp id ?_⟩;rintro ⟨b,off,rfl,hb,hc⟩;refine⟨b,off,rfl,hb,fun i n hi=>?_⟩;rw[List.getElem?_map] at hi;obtain⟨z,hz,rfl⟩:=Option.map_eq_some_iff.1 hi;exact⟨_,_,_,_,hc i z 0 _ hz rfl,hc i z 1 _ hz rfl,hc i z 2 _ hz rfl,hc i z 3 _ hz rfl,hc i z 4 _ hz rfl,hc i z 5 _ hz rfl,hc i z 6 _ hz rfl,hc i z 7 _ hz rfl,hc i z 8 _ hz rfl,hc i z 9 _ hz rfl,hc i z 10 _ hz rfl,hf z (List.mem_of_getElem? hz)⟩
theorem YG (x:ByteArray) (c:Int) (y:ByteArray) (hc:-9223372036854775808≤c∧c≤9223372036854775807) (hx:x.size≤maxLen) (hy:y.size≤maxLen) (w:World) :
 Calls Tryz.prog 11 #[.string x,.int .i64 c,.string y] w fun e w'=>∃b1 n1 d1,e=.returned (.agg #[.string x,.string ⟨#[]⟩,.int .i64 0,.slice b1 n1 d1,.slice none 0 0,.slice none 0 0,.slice none 0 0,.string ⟨#[]⟩,.int .i64 0,.string y,.bool false])∧jq w' (.slice b1 n1 d1) (.slice none 0 0) (.slice none 0 0) (.slice none 0 0) (jbw x c y)∧Kept w w' :=
 (jbJ x c y hc hx hy w).mono fun e w' ⟨b,n,d,h1,h2,h3,_⟩=>⟨b,n,d,h1,h2,h3⟩
def Asc (l:List Pd):Prop:=l.Pairwise fun x y=>ltS x.name y.name=true
theorem YT:∀{l:List Pd} {p:Pd},Asc l→p ∈ l→zC l p.name=some p
 | [],_,_,h=>by cases h
 | x::t,p,h,hp=>by
  unfold zC;rcases List.mem_cons.1 hp with hp | hp
  · subst hp;exact List.find?_cons_of_pos (p:=fun n:Pd=>eqS n.name p.name) (Jz _)
  · have hlt:=(List.pairwise_cons.1 h).1 p hp;exact(List.find?_cons_of_neg (p:=fun n:Pd=>eqS n.name p.name) (fun e=>Vec.ZM hlt (jI.1 e))).trans (YT (List.pairwise_cons.1 h).2 hp)
theorem jd1 {l:List Pd} {x:ByteArray}:zC l x=none↔∀q ∈ l,q.name≠x:=by
 unfold zC;rw[List.find?_eq_none];exact⟨fun h q hq e=>h q hq (jI.2 e),fun h q hq e=>h q hq (jI.1 e)⟩
theorem jf3 {l:List Pd} {x:ByteArray} {p:Pd} (h:zC l x=some p):p ∈ l∧p.name=x :=
 ⟨List.mem_of_find?_eq_some h,jI.1 (List.find?_some (p:=fun n:Pd=>eqS n.name x) h)⟩
theorem jbk {x:ByteArray}:∀{l:List Pd},(∀q ∈ l,q.name≠x)→jL x l=l
 | [],_=>rfl
 | p::t,h=>by
  have hp:=h p (List.mem_cons_self ..);rw[jL,if_neg (fun e=>hp (jI.1 e)),jbk fun q hq=>h q (List.mem_cons_of_mem _ hq)]
theorem Jn {x:ByteArray}:∀{l:List Pd} {q:Pd},q ∈ jL x l→q ∈ l
 | p::t,q,h=>by
  rw[jL] at h;split at h
  · exact List.mem_cons_of_mem _ h
  · rcases List.mem_cons.1 h with rfl | h
    · exact List.mem_cons_self ..
    · exact List.mem_cons_of_mem _ (Jn h)
theorem qZ {x:ByteArray}:∀{l:List Pd},Asc l→∀q ∈ jL x l,q.name≠x
 | p::t,h,q,hq=>by
  obtain⟨h1,h2⟩:=List.pairwise_cons.1 h;rw[jL] at hq;split at hq
  · rename_i e;have e:=jI.1 e;have:=Vec.ZM (h1 q hq);rw[e] at this;exact fun e=>this e.symm
  · rename_i e;rcases List.mem_cons.1 hq with rfl | hq
    · exact fun e'=>e (jI.2 e')
    · exact qZ h2 q hq
theorem jbp {x:ByteArray}:∀{l:List Pd},Asc l→Asc (jL x l)
 | [],h=>h
 | p::t,h=>by
  obtain⟨h1,h2⟩:=List.pairwise_cons.1 h;rw[jL];split
  · exact h2
  · exact List.pairwise_cons.2 ⟨fun q hq=>h1 q (Jn hq),jbp h2⟩
theorem ql {x:ByteArray}:∀{l:List Pd},(jL x l).length+(if (zC l x).isSome=true then 1 else 0)=l.length
 | []=>rfl
 | p::t=>by
  by_cases e:eqS p.name x=true
  · have hf:zC (p::t) x=some p:=by unfold zC;exact List.find?_cons_of_pos (p:=fun n:Pd=>eqS n.name x) e
    rw[jL,if_pos e,hf];simp
  · have hf:zC (p::t) x=zC t x:=by unfold zC;exact List.find?_cons_of_neg (p:=fun n:Pd=>eqS n.name x) e
    rw[jL,if_neg e,hf];have:=ql (x:=x) (l:=t);simp only[List.length_cons];omega
theorem ins_mem {p:Pd}:∀{l:List Pd} {q:Pd},q ∈ zR p l→q=p∨q ∈ l
 | [],q,h=>by
  have:=List.mem_singleton.1 (show q ∈ [p] from h);exact .inl this
 | r::t,q,h=>by
  rw[zR] at h;split at h
  · rcases List.mem_cons.1 h with rfl | h
    · exact .inl rfl
    · exact .inr h
  · rcases List.mem_cons.1 h with rfl | h
    · exact .inr (List.mem_cons_self ..)
    · exact(ins_mem h).imp id (List.mem_cons_of_mem _)
theorem jcw (p:Pd):∀l:List Pd,(zR p l).length=l.length+1
 | []=>rfl
 | r::t=>by
  rw[zR];split
  · rfl
  · rw[List.length_cons,jcw p t,List.length_cons]
theorem jcr {p:Pd}:∀{l:List Pd},Asc l→(∀q ∈ l,q.name≠p.name)→Asc (zR p l)
 | [],_,_=>List.pairwise_singleton ..
 | r::t,h,hn=>by
  obtain⟨h1,h2⟩:=List.pairwise_cons.1 h;rw[zR];split
  · rename_i e;refine List.pairwise_cons.2 ⟨fun q hq=>?_,h⟩;rcases List.mem_cons.1 hq with rfl | hq
    · exact e
    · exact Vec.zD e (h1 q hq)
  · rename_i e;have e:ltS p.name r.name=false:=by simpa using e
    refine List.pairwise_cons.2 ⟨fun q hq=>?_,jcr h2 fun q hq=>hn q (List.mem_cons_of_mem _ hq)⟩;rcases ins_mem hq with rfl | hq
    · cases g:ltS r.name q.name with
      | true=>rfl
      | false=>exact absurd (Vec.ZP g e) (hn r (List.mem_cons_self ..))
    · exact h1 q hq
theorem jck {s:Clu} (h:Asc s.pods) (p:Pd):Asc (zo s p).pods:=jcr (jbp h) (qZ h)
theorem qV {s:Clu} (p:Pd):(zo s p).pods.length=(jw s p.name).pods.length+1:=jcw p _
theorem Zx (s:Clu) (x:ByteArray):(jw s x).pods.length+(if (zC s.pods x).isSome=true then 1 else 0)=s.pods.length:=ql
def j6 (l:Vec.V):Prop:=Vec.Gd l∧l.length≤8
theorem j6.nil:j6 []:=⟨Vec.Gd.nil,by decide⟩
theorem ZI {f g:ByteArray→Int} {r:Vec.V} (h:∀n,f n=g n):Vec.Made f r↔Vec.Made g r:=by rw[funext h]
theorem add_step {v p:Vec.V} (hv:j6 v) (hp:j6 p) :
 (∃q,Vec.jg Vec.jB v p=(0,q)∧j6 q∧∀n,Vec.jf q n=Vec.jf v n+Vec.jf p n) ∨
 (∃c,c≠0∧Vec.jg Vec.jB v p=(c,[])∧∀(r:Vec.V) (f:ByteArray→Int),(∀n,0≤f n)→Vec.Made (fun n=>Vec.jf v n+Vec.jf p n+f n) r→r.length≤8→False):=by
 rcases Vec.merged_spec Vec.jdY hv.1 hp.1 hv.2 hp.2 with ⟨⟨n,hn⟩,hb⟩ | ⟨hn,q,hm,⟨h8,hb⟩ | ⟨h8,hb⟩⟩
 · refine .inr ⟨5,by decide,hb,fun r f hf hr _=>hn ((Vec.Yl _ _).2 ?_)⟩;have h1:=(Vec.Jh n hr.1).2;have h2:=hf n;rw[hr.2 n] at h1;dsimp only at h1;omega
 · refine .inr ⟨4,by decide,hb,fun r f hf hr h9=>?_⟩;have hl:q.length≤r.length:=Vec.Gd.len hm.1 hr.1 fun n hne e=>hne (by
    rw[hm.2 n];show (Vec.jB _ _).1=0;rw[Vec.X4 ((Vec.Yl _ _).1 (hn n))];have h1:=hf n;have h2:=Vec.Jh n hv.1;have h3:=Vec.Jh n hp.1;rw[hr.2 n] at e;dsimp only at e ⊢;omega)
   omega
 · exact .inl ⟨q,hb,⟨hm.1,h8⟩,fun n=>by rw[hm.2 n];show (Vec.jB _ _).1=_;rw[Vec.X4 ((Vec.Yl _ _).1 (hn n))]⟩
def zX (x:ByteArray) (p:Pd) (n:ByteArray):Int:=if eqS p.node x=true then Vec.jf p.need n else 0
def zj (x:ByteArray):List Pd→ByteArray→Int
 | [],_=>0
 | p::t,n=>zX x p n+zj x t n
theorem jbn {x:ByteArray} {p:Pd} (h:j6 p.need) (n:ByteArray):0≤zX x p n:=by
 unfold zX;split
 · exact(Vec.Jh n h.1).1
 · exact Int.le_refl _
theorem XS {x:ByteArray}:∀{l:List Pd},(∀p ∈ l,j6 p.need)→∀n,0≤zj x l n
 | [],_,n=>Int.le_refl _
 | p::t,h,n=>Int.add_nonneg (jbn (h p (List.mem_cons_self ..)) n) (XS (fun q hq=>h q (List.mem_cons_of_mem _ hq)) n)
theorem X6 {x:ByteArray}:∀{l:List Pd} {v r:Vec.V},(∀p ∈ l,j6 p.need)→j6 v→(jD x l v=(0,r)↔Vec.Made (fun n=>Vec.jf v n+zj x l n) r∧r.length≤8)
 | [],v,r,_,hv=>by
  constructor
  · intro e
    cases e
    exact⟨⟨hv.1,fun n=>by show _=_+(0:Int);rw[Int.add_zero]⟩,hv.2⟩
  · rintro ⟨hm,_⟩;have e:v=r:=Vec.Gd.ext hv.1 hm.1 fun n=>by rw[hm.2 n];show _=_+(0:Int);rw[Int.add_zero]
    rw[e];rfl
 | p::t,v,r,hl,hv=>by
  have ht:∀q ∈ t,j6 q.need:=fun q hq=>hl q (List.mem_cons_of_mem _ hq);have hp:=hl p (List.mem_cons_self ..)
  cases e:eqS p.node x with
  | false =>
   rw[jap e,X6 ht hv];refine and_congr (ZI fun n=>?_) Iff.rfl;show _=_+(zX x p n+zj x t n);rw[zX,if_neg (by rw[e];decide),Int.zero_add]
  | true =>
   have hone:∀n,zX x p n=Vec.jf p.need n:=fun n=>by rw[zX,if_pos e]
   rcases add_step hv hp with ⟨q,hq,fq,gq⟩ | ⟨c,hc,hq,no⟩
   · rw[jaY e hq,X6 ht fq];refine and_congr (ZI fun n=>?_) Iff.rfl;show _=_+(zX x p n+zj x t n);rw[hone,gq,Int.add_assoc]
   · rw[jaZ e hq hc];constructor
     · intro h;exact absurd (Prod.mk.inj h).1 hc
     · rintro ⟨hm,h8⟩;refine(no r (zj x t) (XS ht) ((ZI fun n=>?_).1 hm) h8).elim;show _+(zX x p n+zj x t n)=_;rw[hone,Int.add_assoc]
theorem X0 {x:ByteArray} {l:List Pd} {r:Vec.V} (hl:∀p ∈ l,j6 p.need):jD x l []=(0,r)↔Vec.Made (zj x l) r∧r.length≤8:=by
 rw[X6 hl j6.nil];exact and_congr (ZI fun n=>by show (0:Int)+_=_;rw[Int.zero_add]) Iff.rfl
theorem jas {x y:ByteArray}:∀{l:List Pd} {p:Pd},zC l y=some p→∀n,zj x (jL y l) n+zX x p n=zj x l n
 | q::t,p,h,n=>by
  by_cases e:eqS q.name y=true
  · have hq:zC (q::t) y=some q:=by unfold zC;exact List.find?_cons_of_pos (p:=fun n:Pd=>eqS n.name y) e
    rw[hq] at h;obtain rfl:=Option.some.inj h;rw[jL,if_pos e];show _=zX x q n+zj x t n;omega
  · have hq:zC (q::t) y=zC t y:=by unfold zC;exact List.find?_cons_of_neg (p:=fun n:Pd=>eqS n.name y) e
    rw[hq] at h;have:=jas (x:=x) h n;rw[jL,if_neg e];show zX x q n+zj x (jL y t) n+_=zX x q n+zj x t n;omega
structure Xx (s:Clu):Prop where
 nodes:zx s.nodes=0
 pods:zw s.pods=0
 places:jU s.nodes s.pods=0
 rooms:jY s.pods s.nodes=0
 tot:(ja4 s.nodes []).1=0
theorem jeY {s:Clu} (h:JS s=0):Xx s:=by
 have h0:or3 (zx s.nodes) (zw s.pods) (Ja s.buds)=0:=Decidable.byContradiction fun g=>g ((jfF (nl:=s.nodes) (pl:=s.pods) (bl:=s.buds) rfl g).symm.trans h);have h1:jU s.nodes s.pods=0:=Decidable.byContradiction fun g=>g ((jew (nl:=s.nodes) (pl:=s.pods) (bl:=s.buds) h0 rfl g).symm.trans h);have h2:jY s.pods s.nodes=0:=Decidable.byContradiction fun g=>g ((jeL (nl:=s.nodes) (pl:=s.pods) (bl:=s.buds) h0 h1 rfl g).symm.trans h);have h3:(ja4 s.nodes []).1=0:=(jbA (nl:=s.nodes) (pl:=s.pods) (bl:=s.buds) h0 h1 h2).symm.trans h;have ho:zx s.nodes=0∧zw s.pods=0:=by
  unfold or3 at h0;split at h0
  · rename_i h1;exact absurd h0 h1
  · rename_i g1;split at h0
    · rename_i g2;exact absurd h0 g2
    · rename_i g2;exact⟨Decidable.of_not_not g1,Decidable.of_not_not g2⟩
 exact⟨ho.1,ho.2,h1,h2,h3⟩
theorem qF {pods:List Pd}:∀{l:List Nod},jY pods l=0→∀n ∈ l,∃u,jD n.name pods []=(0,u)∧Vec.jy n.cap u=true
 | m::t,h,n,hn=>by
  obtain⟨c,u,hu⟩:∃c u,jD m.name pods []=(c,u):=⟨_,_,rfl⟩
  by_cases hc:c=0
  · subst hc
    cases hf:Vec.jy m.cap u with
    | false=>rw[jcZ hu hf] at h;cases h
    | true =>
     rw[qI hu hf] at h;rcases List.mem_cons.1 hn with rfl | hn
     · exact⟨u,hu,hf⟩
     · exact qF h n hn
  · rw[jdR hu hc] at h;exact absurd h hc
def jgE (l:List Nod):Prop:=l.Pairwise fun x y=>ltS x.name y.name=true
theorem Zt:∀{prev:Option ByteArray} {l:List Nod},Jc prev l=0→(∀q,prev=some q→∀x ∈ l,ltS q x.name=true)∧jgE l∧∀n ∈ l,Jj n=0
 | _,[],_=>⟨fun q _ x h=>absurd h (by simp),.nil,fun n h=>absurd h (by simp)⟩
 | prev,n::t,h=>by
  by_cases z:Jj n=0
  · by_cases y:Vec.jJ prev n.name=true
    · rw[jcN z y] at h;cases h
    · have y:Vec.jJ prev n.name=false:=by simpa using y
      rw[jeo z y] at h;obtain⟨h2,h3,h4⟩:=Zt h;refine⟨fun q hq x hx=>?_,List.pairwise_cons.2 ⟨fun x hx=>h2 _ rfl x hx,h3⟩,fun m hm=>?_⟩
      · subst hq;have hlt:ltS q n.name=true:=Vec.jat y;rcases List.mem_cons.1 hx with rfl | hx
        · exact hlt
        · exact Vec.zD hlt (h2 _ rfl x hx)
      · rcases List.mem_cons.1 hm with rfl | hm
        · exact z
        · exact h4 m hm
  · rw[jfs z] at h;exact absurd h z
theorem jab:∀{l:List Nod} {p:Nod},jgE l→p ∈ l→jl l p.name=some p
 | [],_,_,h=>by cases h
 | x::t,p,h,hp=>by
  unfold jl;rcases List.mem_cons.1 hp with hp | hp
  · subst hp;exact List.find?_cons_of_pos (p:=fun n:Nod=>eqS n.name p.name) (Jz _)
  · have hlt:=(List.pairwise_cons.1 h).1 p hp;exact(List.find?_cons_of_neg (p:=fun n:Nod=>eqS n.name p.name) (fun e=>Vec.ZM hlt (jI.1 e))).trans (jab (List.pairwise_cons.1 h).2 hp)
theorem Xx.jl {s:Clu} (h:Xx s) {n:Nod} (hn:n ∈ s.nodes):jl s.nodes n.name=some n:=by
 have ho:=h.nodes;unfold zx at ho;split at ho
 · cases ho
 · exact jab (Zt ho).2.1 hn
theorem Xx.cap0 {s:Clu} (h:Xx s) {n:Nod} (hn:n ∈ s.nodes):Vec.jE n.cap=0:=by
 have ho:=h.nodes;unfold zx at ho;split at ho
 · cases ho
 · have hc:=(Zt ho).2.2 n hn;unfold Jj at hc;split at hc
   · cases hc
   · split at hc
     · rename_i g;exact absurd hc g
     · rename_i g;exact Decidable.of_not_not g
theorem qK:∀{prev:Option ByteArray} {l:List Pd},zQ prev l=0→∀n ∈ l,zJ n=0
 | prev,m::t,h,n,hn=>by
  by_cases z:zJ m=0
  · by_cases y:Vec.jJ prev m.name=true
    · rw[jdq z y] at h;cases h
    · have y:Vec.jJ prev m.name=false:=by simpa using y
      rw[jaA z y] at h;rcases List.mem_cons.1 hn with rfl | hn
      · exact z
      · exact qK h n hn
  · rw[jfy z] at h;exact absurd h z
theorem jbH:∀{l:List Int},orL l=0→∀c ∈ l,c=0
 | x::t,h,c,hc=>by
  unfold orL at h;split at h
  · rename_i g;exact absurd h g
  · rename_i g;rcases List.mem_cons.1 hc with rfl | hc
    · exact Decidable.of_not_not g
    · exact jbH h c hc
structure Sound (s:Clu):Prop where
 parts:Xx s
 asc:Asc s.pods
 need:∀p ∈ s.pods,j6 p.need
 cap:∀n ∈ s.nodes,j6 n.cap
theorem jga {s:Clu} (h:Sound s) {n:Nod} (hn:n ∈ s.nodes):Xg s n.name=jD n.name s.pods []:=jd8 (h.parts.jl hn)
theorem jfX {s:Clu} (h:Sound s) {n:Nod} (hn:n ∈ s.nodes):∃u f,Xg s n.name=(0,u)∧JA s n.name=(0,f)∧Vec.jg Vec.jB u f=(0,n.cap)∧j6 u∧j6 f∧Vec.Made (zj n.name s.pods) u∧(∀m,Vec.jf f m=Vec.jf n.cap m-Vec.jf u m)∧∀m,Vec.jf u m≤Vec.jf n.cap m:=by
 obtain⟨u,hu,hf⟩:=qF h.parts.rooms n hn;obtain⟨hm,hl⟩:=(X0 h.need).1 hu;have hc:=h.cap n hn;have hle:=(Vec.Zl hm.1 hc.1).1 hf;obtain⟨f,hs,hmf,hlf⟩:=Vec.XZ hc.1 hm.1 hc.2 hl hle;have hget:∀m,Vec.jf f m=Vec.jf n.cap m-Vec.jf u m:=fun m=>hmf.2 m;refine⟨u,f,(jga h hn).trans hu,?_,?_,⟨hm.1,hl⟩,⟨hmf.1,hlf⟩,hm,hget,hle⟩
 · unfold JA;rw[h.parts.jl hn];dsimp only;rw[hu,if_pos rfl];exact hs
 · refine Vec.jfu hm.1 hmf.1 hl hlf (fun m=>?_) ⟨hc.1,fun m=>?_⟩ hc.2
   · have:=(Vec.Jh m hc.1).2;rw[hget];omega
   · show _=Vec.jf u m+Vec.jf f m;rw[hget];omega
def ZD (g:ByteArray→Int):Vec.V→Vec.V
 | []=>[]
 | x::t=>if g x.1=0 then ZD g t else (x.1,g x.1)::ZD g t
theorem ZT {g:ByteArray→Int}:∀{l:Vec.V} {y:ByteArray×Int},y ∈ ZD g l→∃x ∈ l,y=(x.1,g x.1)∧g x.1≠0
 | x::t,y,h=>by
  rw[ZD] at h;split at h
  · obtain⟨z,hz,e⟩:=ZT h;exact⟨z,by simp[hz],e⟩
  · rename_i hg;rcases List.mem_cons.1 h with rfl | h
    · exact⟨x,by simp,rfl,hg⟩
    · obtain⟨z,hz,e⟩:=ZT h;exact⟨z,by simp[hz],e⟩
theorem jbB (g:ByteArray→Int):∀l:Vec.V,(ZD g l).length≤l.length
 | []=>Nat.le_refl _
 | x::t=>by
  have:=jbB g t;rw[ZD];split<;>simp only[List.length_cons]<;>omega
theorem jcz {g:ByteArray→Int}:∀{l:Vec.V},Vec.Gd l→(∀x ∈ l,0≤g x.1∧g x.1≤9223372036854775807)→Vec.Gd (ZD g l)
 | [],_,_=>Vec.Gd.nil
 | x::t,h,hb=>by
  obtain⟨h1,h2,h3⟩:=Vec.Gd.cons.1 h;have ih:=jcz h3 fun y hy=>hb y (by simp[hy]);rw[ZD];split
  · exact ih
  · rename_i hg;have:=hb x (by simp);refine Vec.Gd.cons.2 ⟨⟨h1.1,by dsimp only;omega,this.2⟩,fun y hy=>?_,ih⟩;obtain⟨z,hz,rfl,_⟩:=ZT hy;exact h2 z hz
theorem X1 {g:ByteArray→Int} {n:ByteArray}:∀{l:Vec.V},Vec.Gd l→(∃x ∈ l,x.1=n)→Vec.jf (ZD g l) n=g n
 | [],_,h=>by obtain⟨x,hx,_⟩:=h;cases hx
 | y::t,h,he=>by
  obtain⟨h1,h2,h3⟩:=Vec.Gd.cons.1 h;by_cases e:y.1=n
  · rw[ZD];split
    · rename_i hg;rw[←e,hg];refine Vec.Z9 fun z hz=>?_;obtain⟨q,hq,rfl,_⟩:=ZT hz;exact fun e2=>Vec.ZM (h2 q hq) e2.symm
    · rw[←e];exact Vec.zy _ _
  · have ht:∃x ∈ t,x.1=n:=by
     obtain⟨x,hx,e2⟩:=he;rcases List.mem_cons.1 hx with rfl | hx
     · exact absurd e2 e
     · exact⟨x,hx,e2⟩
    rw[ZD];split
    · exact X1 h3 ht
    · rw[Vec.zG _ (by exact e)];exact X1 h3 ht
theorem jfq {g:ByteArray→Int} {u:Vec.V} (hu:j6 u) (h0:∀n,0≤g n) (h1:∀n,g n≤Vec.jf u n):∃r,Vec.Made g r∧r.length≤8:=by
 refine⟨ZD g u,⟨jcz hu.1 fun x hx=>⟨h0 _,Int.le_trans (h1 _) (Vec.Jh _ hu.1).2⟩,fun n=>?_⟩,Nat.le_trans (jbB g u) hu.2⟩;by_cases e:∃x ∈ u,x.1=n
 · exact X1 hu.1 e
 · have hz:Vec.jf u n=0:=Vec.Z9 fun y hy e2=>e ⟨y,hy,e2⟩;have h2:=h0 n;have h3:=h1 n;rw[show g n=0 by omega];refine Vec.Z9 fun y hy e2=>?_;obtain⟨x,hx,rfl,_⟩:=ZT hy;exact e ⟨x,hx,e2⟩
theorem jeu {x:ByteArray} {cap:Vec.V} {l:List Pd} (hc:j6 cap) (hp:∀p ∈ l,j6 p.need) (hs:∀m,zj x l m≤Vec.jf cap m):∃u,jD x l []=(0,u)∧j6 u∧(∀m,Vec.jf u m=zj x l m)∧Vec.jy cap u=true:=by
 obtain⟨u,hu,hu8⟩:=jfq hc (XS hp) hs;exact⟨u,(X0 hp).2 ⟨hu,hu8⟩,⟨hu.1,hu8⟩,hu.2,(Vec.Zl hu.1 hc.1).2 fun m=>by rw[hu.2 m];exact hs m⟩
theorem jcq {s:Clu} {n:Nod} (hf:jl s.nodes n.name=some n) (hc:j6 n.cap) (hp:∀p ∈ s.pods,j6 p.need) (hs:∀m,zj n.name s.pods m≤Vec.jf n.cap m):∃b,JA s n.name=(0,b)∧j6 b∧∀m,Vec.jf b m=Vec.jf n.cap m-zj n.name s.pods m:=by
 obtain⟨u,h1,h2,h3,h4⟩:=jeu hc hp hs;obtain⟨b,hb,hmb,hlb⟩:=Vec.XZ hc.1 h2.1 hc.2 h2.2 fun m=>by rw[h3 m];exact hs m
 refine⟨b,?_,⟨hmb.1,hlb⟩,fun m=>by
  have h9:Vec.jf b m=Vec.jf n.cap m-Vec.jf u m:=hmb.2 m;rw[h9,h3 m]⟩
 unfold JA;rw[hf];dsimp only;rw[h1,if_pos rfl];exact hb
theorem jeO {s:Clu} {n:Nod} (hf:jl s.nodes n.name=some n) (hc:j6 n.cap) (hp:∀p ∈ s.pods,j6 p.need) (h:(JA s n.name).1=0):∀m,zj n.name s.pods m≤Vec.jf n.cap m:=by
 unfold JA at h;rw[hf] at h;dsimp only at h;obtain⟨c,u,hu⟩:∃c u,jD n.name s.pods []=(c,u):=⟨_,_,rfl⟩
 rw[hu] at h;by_cases hz:c=0
 · subst hz;rw[if_pos rfl] at h;obtain⟨hm,h8⟩:=(X0 hp).1 hu;have:=(Vec.Zl hm.1 hc.1).1 ((Vec.jfl hc.1 hm.1 hc.2 h8).1 h);intro m;rw[←hm.2 m];exact this m
 · rw[if_neg hz] at h;exact absurd h hz
theorem jeN {s:Clu} {p:Pd} {n:Nod} (hf:jl s.nodes n.name=some n) (hc:j6 n.cap) (hp:∀p ∈ s.pods,j6 p.need) (hq:j6 p.need):Zf s p n.name=true↔∀m,zj n.name s.pods m+Vec.jf p.need m≤Vec.jf n.cap m:=by
 unfold Zf;rw[Bool.and_eq_true,decide_eq_true_iff];constructor
 · rintro ⟨h1,h2⟩ m;have hs:=jeO hf hc hp h1;obtain⟨b,hb,fb,gb⟩:=jcq hf hc hp hs;rw[hb] at h2;have:=(Vec.Zl hq.1 fb.1).1 h2 m;rw[gb] at this;omega
 · intro h;obtain⟨b,hb,fb,gb⟩:=jcq hf hc hp fun m=>by have:=h m;have:=(Vec.Jh m hq.1).1;omega
   rw[hb];refine⟨rfl,(Vec.Zl hq.1 fb.1).2 fun m=>?_⟩;rw[gb];have:=h m;omega
theorem jeM {x y:ByteArray} (l:List Pd) (hl:∀p ∈ l,j6 p.need) (m:ByteArray):zj x (jL y l) m≤zj x l m:=by
 cases h:zC l y with
 | none=>rw[jbk (jd1.1 h)];exact Int.le_refl _
 | some p =>
  have h1:=jas (x:=x) h m;have h2:=jbn (x:=x) (hl p (jf3 h).1) m;omega
theorem Sound.sum {s:Clu} (h:Sound s) {n:Nod} (hn:n ∈ s.nodes) (m:ByteArray):zj n.name s.pods m≤Vec.jf n.cap m:=by
 obtain⟨u,f,-,-,-,-,-,hm,-,hle⟩:=jfX h hn;rw[←hm.2 m];exact hle m
theorem jdr {s:Clu} (h:∀p ∈ s.pods,j6 p.need) (x:ByteArray):∀p ∈ (jw s x).pods,j6 p.need:=fun p hp=>h p (Jn hp)
theorem jak {nodes:List Nod}:∀{l:List Pd},jU nodes l=0→∀p ∈ l,zq p.node=false→(jl nodes p.node).isSome=true
 | q::t,h,p,hp,hn=>by
  by_cases g:zq q.node=false∧(jl nodes q.node).isSome=false
  · rw[jc1 g.1 g.2] at h;cases h
  · have h2:jU nodes t=0:=by rw[jU,if_neg g] at h;exact h
    rcases List.mem_cons.1 hp with rfl | hp
    · cases e:(jl nodes p.node).isSome with
      | false=>exact absurd ⟨hn,e⟩ g
      | true=>rfl
    · exact jak h2 p hp hn
theorem jbc {x:ByteArray} {p:Pd}:∀(l:List Pd) (m:ByteArray),zj x (zR p l) m=zX x p m+zj x l m
 | [],m=>rfl
 | q::t,m=>by
  rw[zR];split
  · rfl
  · show zX x q m+zj x (zR p t) m=zX x p m+(zX x q m+zj x t m);rw[jbc t m];omega
theorem jcv:∀{prev:Option ByteArray} {l:List Pd},Asc l→(∀p ∈ l,zJ p=0)→(∀q,prev=some q→∀x ∈ l,ltS q x.name=true)→zQ prev l=0
 | _,[],_,_,_=>rfl
 | prev,n::t,h,hc,hb=>by
  obtain⟨h1,h2⟩:=List.pairwise_cons.1 h;have b:Vec.jJ prev n.name=false:=by
   cases prev with
   | none=>rfl
   | some q=>exact Vec.Xa (hb q rfl n (by simp))
  rw[jaA (hc n (by simp)) b];exact jcv h2 (fun p hp=>hc p (by simp[hp])) fun q hq x hx=>by cases hq;exact h1 x hx
theorem jaj {nodes:List Nod}:∀{l:List Pd},(∀p ∈ l,zq p.node=false→(jl nodes p.node).isSome=true)→jU nodes l=0
 | [],_=>rfl
 | q::t,h=>by
  rw[jU,if_neg fun g=>by have:=h q (by simp) g.1;rw[g.2] at this;cases this];exact jaj fun p hp=>h p (by simp[hp])
theorem ja3 {pods:List Pd}:∀{l:List Nod},(∀n ∈ l,∃u,jD n.name pods []=(0,u)∧Vec.jy n.cap u=true)→jY pods l=0
 | [],_=>rfl
 | n::t,h=>by
  obtain⟨u,h1,h2⟩:=h n (by simp);rw[qI h1 h2];exact ja3 fun m hm=>h m (by simp[hm])
theorem jdT:∀{l:List Int},(∀c ∈ l,c=0)→orL l=0
 | [],_=>rfl
 | x::t,h=>by rw[orL,if_neg (by rw[h x (by simp)];decide)];exact jdT fun c hc=>h c (by simp[hc])
theorem jau {n:Nod} (h:Jj n=0):isName n.name=true:=by
 unfold Jj at h;split at h
 · cases h
 · rename_i h1;simpa using h1
theorem jeq {p:Pd} {x:ByteArray} (h:zJ p=0) (hx:isName x=true):zJ { p with node:=x }=0:=by
 have hz:=jbH (l:=qX p) h;unfold zJ;refine jdT fun c hc=>?_;unfold qX at hc hz;simp only[List.mem_cons,List.not_mem_nil,or_false] at hc hz;rcases hc with rfl | rfl | rfl | rfl | rfl | rfl | rfl | rfl
 · exact hz _ (.inl rfl)
 · exact hz _ (.inr (.inl rfl))
 · exact hz _ (.inr (.inr (.inl rfl)))
 · exact hz _ (.inr (.inr (.inr (.inl rfl))))
 · exact hz _ (.inr (.inr (.inr (.inr (.inl rfl)))))
 · exact hz _ (.inr (.inr (.inr (.inr (.inr (.inl rfl))))))
 · exact hz _ (.inr (.inr (.inr (.inr (.inr (.inr (.inl rfl)))))))
 · unfold jcy qy;rw[hx];simp
theorem jcJ {s:Clu} {p:Pd} {x:ByteArray} (hg:JS s=0) (hs:Sound s) (hp:zJ p=0) (hq:j6 p.need) (hl:(jw s p.name).pods.length<128) (h:Zd s p x=0):JS (zo s { p with node:=x })=0:=by
 obtain⟨n,hf,hz⟩:=jb8 h;obtain⟨-,-,-,h4⟩:=ja8 hz;obtain⟨hm,rfl⟩:=jee hf;have h5:=(jeN (s:=jw s p.name) hf (hs.cap n hm) (jdr hs.need p.name) hq).1 h4;have h0:or3 (zx s.nodes) (zw s.pods) (Ja s.buds)=0:=Decidable.byContradiction fun g=>g ((jfF (nl:=s.nodes) (pl:=s.pods) (bl:=s.buds) rfl g).symm.trans hg);have hN:=hs.parts.nodes;have hP:=hs.parts.pods;have hB:Ja s.buds=0:=by
  unfold or3 at h0;rw[if_neg (by rw[hN];decide),if_neg (by rw[hP];decide)] at h0;exact h0
 have hnodes:∀m ∈ s.nodes,Jj m=0:=by
  unfold zx at hN;split at hN
  · cases hN
  · exact(Zt hN).2.2
 have hpods:∀q ∈ s.pods,zJ q=0:=by
  unfold zw at hP;split at hP
  · cases hP
  · exact qK hP
 have hp':zJ { p with node:=n.name }=0:=jeq hp (jau (hnodes n hm));have hP':zw (zo s { p with node:=n.name }).pods=0:=by
  have e1:=qV (s:=s) { p with node:=n.name };have e2:=Zx s p.name;unfold zw;rw[if_neg (by
   have e3:(zo s { p with node:=n.name }).pods.length=(jw s p.name).pods.length+1:=e1;omega)]
  refine jcv (jck hs.asc _) (fun q hq=>?_) fun q hq=>by cases hq
  rcases ins_mem hq with rfl | hq
  · exact hp'
  · exact hpods q (Jn hq)
 have hpl:jU s.nodes (zo s { p with node:=n.name }).pods=0:=jaj fun q hq hn=>by
  rcases ins_mem hq with rfl | hq
  · show (jl s.nodes n.name).isSome=true;have:jl s.nodes n.name=some n:=hf;rw[this];rfl
  · exact jak hs.parts.places q (Jn hq) hn
 have hneed:∀q ∈ (zo s { p with node:=n.name }).pods,j6 q.need:=fun q hq9=>by
  rcases ins_mem hq9 with rfl | hq9
  · exact hq
  · exact hs.need q (Jn hq9)
 have hro:jY (zo s { p with node:=n.name }).pods s.nodes=0:=ja3 fun k hk=>by
  obtain⟨u,h1,-,-,h2⟩:=jeu (x:=k.name) (l:=(zo s { p with node:=n.name }).pods) (hs.cap k hk) hneed fun m=>by
   show zj k.name (zR { p with node:=n.name } (jL p.name s.pods)) m≤_;rw[jbc];by_cases e:k.name=n.name
   · have hkn:k=n:=by
      have e1:=hs.parts.jl hk;rw[e] at e1;have e2:jl s.nodes n.name=some n:=hf;rw[e2] at e1;exact(Option.some.inj e1).symm
     subst hkn;have e3:zX k.name { p with node:=k.name } m=Vec.jf p.need m:=by unfold zX;rw[if_pos (Jz _)]
     have:=h5 m;have h6:zj k.name (jL p.name s.pods) m+Vec.jf p.need m≤Vec.jf k.cap m:=this;omega
   · have e3:zX k.name { p with node:=n.name } m=0:=by unfold zX;rw[if_neg fun g=>e (jI.1 g).symm]
     have h7:=hs.sum hk m;have h8:=jeM (x:=k.name) (y:=p.name) s.pods hs.need m;omega
  exact⟨u,h1,h2⟩
 have ho:or3 (zx s.nodes) (zw (zo s { p with node:=n.name }).pods) (Ja s.buds)=0:=by rw[hN,hP',hB];rfl
 exact(jbA (nl:=s.nodes) (pl:=(zo s { p with node:=n.name }).pods) (bl:=s.buds) ho hpl hro).trans hs.parts.tot
def jbi (s:Clu) (w:World) (e:Ending) (w':World):Prop:=∃y,e=.returned y∧jC w' y s∧Kept w w'
theorem jcs {v:Value} {s:Clu} {w:World} (h:jC w v s) (x:ByteArray) (hl:jn s):Calls Tryz.prog 17 #[v,.string x] w (jbi (jw s x) w):=by
 obtain⟨v1,v2,v3,rfl,⟨a,cap,rfl,l1,m1,h1⟩,⟨b,cp,rfl,l2,m2,h2⟩,⟨d,cb,rfl,l3,m3,h3⟩⟩:=h;refine(YR a b d _ cap _ cp _ cb s.nodes s.pods s.buds x w h1 h2 h3 l1 m1 l2 m2 l3 m3 hl).mono ?_;rintro e w' ⟨_,_,_,_,_,_,_,_,_,rfl,ho,kk⟩;exact⟨_,rfl,ho.toR,kk⟩
theorem jbx {a:Option Addr} {n c:Nat} {l:List Pd} {w:World} (h:Jw w (.slice a n c) l):jv w a n l:=by
 obtain⟨a',cap',e,_,_,h⟩:=h
 cases e
 exact h
theorem qO {s:Clu} {p:Pd} (h:jn s) (hp:ZG p) (hn:s.pods.length≤1000):jn (zo s p) :=
 ⟨h.nodes,fun q hq=>by rcases ins_mem hq with rfl | hq;exact hp;exact h.pods q (Jn hq),h.buds,h.nodesN,by
  have h1:=qV (s:=s) p;have h2:=Zx s p.name;omega,h.budsN⟩
theorem Z6 {s:Clu} (h:jn s) (x:ByteArray):jn (jw s x) :=
 ⟨h.nodes,fun q hq=>h.pods q (Jn hq),h.buds,h.nodesN,by
  have h2:=Zx s x;have:=h.podsN;omega,h.budsN⟩
end Go.Proofs.YtabafpoklpiiiaaGreat
