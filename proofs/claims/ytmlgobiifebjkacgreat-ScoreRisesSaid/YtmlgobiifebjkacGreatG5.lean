/- What serves all packages,and package by package the contracts of the functions that the law calls. -/
import Derived.Test.YtmlgobiifebjkacGreatG0
import Derived.Test.YtmlgobiifebjkacGreatG1
import Derived.Test.YtmlgobiifebjkacGreatG2
import Derived.Test.YtmlgobiifebjkacGreatG3
import Derived.Test.YtmlgobiifebjkacGreatG4
import Derived.Sort.KeysCollected
set_option linter.unusedVariables false
set_option maxRecDepth 100000
set_option maxHeartbeats 25600000
namespace Go.Proofs.YtmlgobiifebjkacGreat
open Go.RowKit
theorem drop_len (x:ByteArray):∀l:List Pd,(dropP x l).length≤l.length
 | []=>Nat.le_refl _
 | p::t=>by
  rw[dropP];split
  · simp
  · have:=drop_len x t;simp;omega
theorem insClu_any {S:Nat→Prop} {B i len cap vb vc:Nat} {ap:Option Addr} {w:World} {v1 v3:Value} {s:Clu} (h:OwnClu S B w v1 (.slice ap len cap) v3 s) (z:PX) (hi:i≤len) (hlen:len≤100000) (hB:B≤w.heap.size) (hS:∀k,S k→k<w.heap.size) (hvs:w.heap[vb]?=some (.cells (PodLay0.cs z).toArray 35)) (hvb:(Value.slice ap len cap).ownBlock≠some vb)
 (hz:Off (fun b=>S b∨(Value.slice ap len cap).ownBlock=some b) w fun u=>At4 u z) :
 Calls Tryz.prog 84 #[.slice ap len cap,.int .i64 i,.slice (some ⟨vb,0,none⟩) 1 vc] w fun e w'=>∃g c,e=.returned (.slice (some ⟨g,0,none⟩) (len+1) c)∧OwnClu S B w' v1 (.slice (some ⟨g,0,none⟩) (len+1) c) v3 { s with pods:=s.pods.take i++z.1::s.pods.drop i }∧GOff (fun b=>(Value.slice ap len cap).ownBlock=some b) w w':=by
 obtain⟨lx,hmap,hown,hd⟩:=h.pods;obtain⟨a',c',e',_⟩:=hown.at_;have hll:lx.length=len:=by cases e';rfl
 have hx:rowCells PodLay0 (lx.take i++z::lx.drop i)=(rowCells PodLay0 lx).take (i*11)++PodLay0.cs z++(rowCells PodLay0 lx).drop (i*11):=by
  rw[show z::lx.drop i=[z]++lx.drop i from rfl,rowCells_append,rowCells_append,rowCells_take,rowCells_drop];unfold rowCells;simp[PodLay0]
 refine(insertP_any _ len i vb vc B (rowCells PodLay0 lx) (PodLay0.cs z) w (by have:=hown.1;rw[hll] at this;exact this) hB hi (rowCells_one _ _) rfl (one_pod0 z) hvs hvb hlen).mono ?_;rintro e w' ⟨g,c,rfl,ho,hg,hn⟩;have hn':∀k,(Value.slice (some ⟨g,0,none⟩) (len+1) c).ownBlock=some k→(Value.slice ap len cap).ownBlock=some k∨w.heap.size≤k:=fun k hk=>by
  obtain rfl:g=k:=Option.some.inj hk;exact hn
 have hd':∀y ∈ lx.take i++z::lx.drop i,Off (fun b=>S b∨(Value.slice ap len cap).ownBlock=some b) w fun u=>At4 u y:=fun y hy=>by
  rcases List.mem_append.1 hy with hy | hy
  · exact hd y (List.mem_of_mem_take hy)
  · rcases List.mem_cons.1 hy with rfl | hy
    · exact hz
    · exact hd y (List.mem_of_mem_drop hy)
 refine⟨g,c,rfl,h.turn hg hn' hS ⟨lx.take i++z::lx.drop i,by rw[List.map_append,List.map_cons,List.map_take,List.map_drop,hmap],⟨?_,fun x hx=>trivial⟩,OwnClu.els (B:=B) hd' hg hn'⟩,hg⟩;have h2:(lx.take i++z::lx.drop i).length=len+1:=by rw[List.length_append,List.length_cons,List.length_take,List.length_drop,hll];omega
 rw[h2,hx];exact ho
theorem putSt_any (a b d:Option Addr) (len cap m c n e:Nat) (nl:List Nod) (pl:List Pd) (bl:List Bd) (p:Pd) (s1 s2 s3 s4:Option Addr) (t1 u1 t2 u2 t3 u3 t4 u4:Nat) (w:World) (hn:NodesAt w a len nl) (hp:PodsAt w b m pl) (hb:BudsAt w d n bl) (h1:len≤cap) (h2:cap≤maxLen) (h3:m≤c) (h4:c≤maxLen) (h5:n≤e) (h6:e≤maxLen) (hl:LowClu ⟨nl,pl,bl⟩) (hP:PodAt w (.slice s1 t1 u1) (.slice s2 t2 u2) (.slice s3 t3 u3) (.slice s4 t4 u4) p) (hLP:LowPd p) :
 Calls Tryz.prog 48 #[.agg #[.slice a len cap,.slice b m c,.slice d n e],PodV p (.slice s1 t1 u1) (.slice s2 t2 u2) (.slice s3 t3 u3) (.slice s4 t4 u4)] w fun e w'=>∃a1 n1 c1 a2 n2 c2 a3 n3 c3,e=.returned (.agg #[.slice a1 n1 c1,.slice a2 n2 c2,.slice a3 n3 c3])∧OwnClu (fun b=>b<w.heap.size) w.heap.size w' (.slice a1 n1 c1) (.slice a2 n2 c2) (.slice a3 n3 c3) (putSt ⟨nl,pl,bl⟩ p)∧Kept w w':=by
 obtain⟨p0,p1,p2,q1,q2,q3,q4,p3,p4,p5,p6⟩:=p;obtain⟨Z,hZ⟩:∃Z,((w.alloc (.cells #[.slice a len cap,.slice b m c,.slice d n e] 26)).alloc (.cells #[.string p0,.string p1,.int .i64 p2,.slice s1 t1 u1,.slice s2 t2 u2,.slice s3 t3 u3,.slice s4 t4 u4,.string p3,.int .i64 p4,.string p5,.bool p6] 35)).alloc (.cells #[.slice none 0 0,.slice none 0 0,.slice none 0 0] 26)=Z:=⟨_,rfl⟩
 have hkz:Kept w Z:=by rw[←hZ];exact(kept_two _ _ _).trans (kept_alloc _ _)
 have hzs:Z.heap.size=w.heap.size+3:=by rw[←hZ];simp
 have cc:=freshN w (.slice a len cap) [.slice b m c,.slice d n e] 26 Z (by rw[←hZ];exact kept_two _ _ _);have o0:=cc.at_ 0 _ rfl;have o1:=cc.at_ 1 _ rfl;have o2:=cc.at_ 2 _ rfl;have HPB:=lH (show CellsN (w.heap.size+1) [.string p0,.string p1,.int .i64 p2,.slice s1 t1 u1,.slice s2 t2 u2,.slice s3 t3 u3,.slice s4 t4 u4,.string p3,.int .i64 p4,.string p5,.bool p6] Z by
  have dd:=freshN (w.alloc (.cells #[.slice a len cap,.slice b m c,.slice d n e] 26)) (.string p0) [.string p1,.int .i64 p2,.slice s1 t1 u1,.slice s2 t2 u2,.slice s3 t3 u3,.slice s4 t4 u4,.string p3,.int .i64 p4,.string p5,.bool p6] 35 Z (by rw[←hZ];exact kept_alloc _ _);rw[World.size_alloc] at dd;exact dd)
 have HQ:=lH (show CellsN (w.heap.size+2) [.slice none 0 0,.slice none 0 0,.slice none 0 0] Z by
  have dd:=freshN ((w.alloc (.cells #[.slice a len cap,.slice b m c,.slice d n e] 26)).alloc (.cells #[.string p0,.string p1,.int .i64 p2,.slice s1 t1 u1,.slice s2 t2 u2,.slice s3 t3 u3,.slice s4 t4 u4,.string p3,.int .i64 p4,.string p5,.bool p6] 35)) (.slice none 0 0) [.slice none 0 0,.slice none 0 0] 26 Z (by rw[hZ];exact Kept.refl _);rw[World.size_alloc,World.size_alloc] at dd;exact dd)
 have y0:=HPB.out.at_ 0 _ rfl;have HO:=lH (dropSt_any a b d len cap m c n e nl pl bl p0 Z (hn.kept hkz) (hp.kept hkz) (hb.kept hkz) h1 h2 h3 h4 h5 h6 hl);have HKZ:=lH hkz;have HZS:=lH hzs;have HPN:=lH hl.podsN;have HPP:=lH (hP.kept hkz);have HLP:=lH hLP;clear hn hp hb h1 h2 h3 h4 h5 h6 hl hkz hzs cc hP hLP;unfold PodV;dsimp only;go_enter Tryz.func48,Tryz.ntmps48;go_wp2_with fail
 try rw[hZ]
 go_wp2_with fail
 try rw[hZ]
 clear hZ o0 o1 o2 y0;refine HO.out.mono ?_;rintro e1 w1 ⟨a1,n1,c1,a2,n2,c2,a3,n3,c3,rfl,ho,k1⟩;obtain⟨W1,hW1⟩:∃W,w1.alloc (.cells #[.slice a1 n1 c1,.slice a2 n2 c2,.slice a3 n3 c3] 26)=W:=⟨_,rfl⟩
 have hkw:Kept w1 W1:=by rw[←hW1];exact kept_alloc _ _
 have HC:=lH (ho.more (q:=w1.heap.size) hkw (Nat.le_refl _));have HW:=lH (show CellsN w1.heap.size [.slice a1 n1 c1,.slice a2 n2 c2,.slice a3 n3 c3] W1 from freshN w1 (.slice a1 n1 c1) [.slice a2 n2 c2,.slice a3 n3 c3] 26 W1 (by rw[hW1];exact Kept.refl _));have HQ:=lH (HQ.out.kept (k1.trans hkw));have HPB:=lH (HPB.out.kept (k1.trans hkw));have HPP:=lH (HPP.out.kept (k1.trans hkw));have K:=lH (k1.trans hkw);have HS1:=lH (show Z.heap.size≤w1.heap.size∧w1.heap.size<W1.heap.size from⟨k1.size,by rw[←hW1,World.size_alloc];exact Nat.lt_succ_self _⟩);clear ho k1 hkw;obtain⟨v1,v2,v3,hu,hat⟩:=HC.out.toR
 cases hu
 obtain⟨ap,cp,ep,l1,l2,hpat⟩:=hat.pods
 cases ep
 have HPA:=lH hpat;clear hat l1 l2;have HDL:=lH (show (dropSt ⟨nl,pl,bl⟩ p0).pods.length≤100000 from Nat.le_trans (drop_len p0 pl) HPN.out);obtain⟨l9,hl9⟩:∃l,(dropSt ⟨nl,pl,bl⟩ p0).pods=l:=⟨_,rfl⟩
 obtain⟨len9,hlen9⟩:∃q,l9.length=q:=⟨_,rfl⟩
 have HE9:=lH (show l9=dropP p0 pl by rw[←hl9];rfl);have HL9:=lH hlen9;skip;rw[hl9] at HPA HDL HW HC ⊢;rw[hlen9] at HPA HDL HW HC ⊢;try rw[hl9] at hW1
 try rw[hlen9] at hW1
 have HCN:=lH (show (dropSt ⟨nl,pl,bl⟩ p0)=⟨nl,l9,bl⟩ by rw[HE9.out];rfl);rw[HCN.out] at HC;clear hl9 hlen9 hpat;go_wp2_with fail
 try rw[hW1]
 try clear hW1
 have HS:=lH (show ∀W,CellsN (w.heap.size+1) [.string p0,.string p1,.int .i64 p2,.slice s1 t1 u1,.slice s2 t2 u2,.slice s3 t3 u3,.slice s4 t4 u4,.string p3,.int .i64 p4,.string p5,.bool p6] W→W.cell? ⟨w.heap.size+1,0,none⟩=some (.string p0)∧W.cell? ⟨w.heap.size+1,1,none⟩=some (.string p1)∧W.cell? ⟨w.heap.size+1,2,none⟩=some (.int .i64 p2)∧W.cell? ⟨w.heap.size+1,3,none⟩=some (.slice s1 t1 u1)∧W.cell? ⟨w.heap.size+1,4,none⟩=some (.slice s2 t2 u2)∧W.cell? ⟨w.heap.size+1,5,none⟩=some (.slice s3 t3 u3)∧W.cell? ⟨w.heap.size+1,6,none⟩=some (.slice s4 t4 u4)∧W.cell? ⟨w.heap.size+1,7,none⟩=some (.string p3)∧W.cell? ⟨w.heap.size+1,8,none⟩=some (.int .i64 p4)∧W.cell? ⟨w.heap.size+1,9,none⟩=some (.string p5)∧W.cell? ⟨w.heap.size+1,10,none⟩=some (.bool p6) from fun W h=>⟨h.at_ 0 _ rfl,h.at_ 1 _ rfl,h.at_ 2 _ rfl,h.at_ 3 _ rfl,h.at_ 4 _ rfl,h.at_ 5 _ rfl,h.at_ 6 _ rfl,h.at_ 7 _ rfl,h.at_ 8 _ rfl,h.at_ 9 _ rfl,h.at_ 10 _ rfl⟩);have HP2:=lH (fun W (k:Kept W1 W)=>HPB.out.kept k);skip;refine wp_region_held_drew (S:=fun W=>W.cell? ⟨w.heap.size+1,0,none⟩=some (.string p0)∧W.cell? ⟨w.heap.size+1,1,none⟩=some (.string p1)∧W.cell? ⟨w.heap.size+1,2,none⟩=some (.int .i64 p2)∧W.cell? ⟨w.heap.size+1,3,none⟩=some (.slice s1 t1 u1)∧W.cell? ⟨w.heap.size+1,4,none⟩=some (.slice s2 t2 u2)∧W.cell? ⟨w.heap.size+1,5,none⟩=some (.slice s3 t3 u3)∧W.cell? ⟨w.heap.size+1,6,none⟩=some (.slice s4 t4 u4)∧W.cell? ⟨w.heap.size+1,7,none⟩=some (.string p3)∧W.cell? ⟨w.heap.size+1,8,none⟩=some (.int .i64 p4)∧W.cell? ⟨w.heap.size+1,9,none⟩=some (.string p5)∧W.cell? ⟨w.heap.size+1,10,none⟩=some (.bool p6)) (by kernel_rfl) (HS.out _ (HP2.out _ (Kept.drew _))) (fun hHeld=>?_);refine wpAnyH_take  (i:=0) (v:=?_) (by rw[List.getElem?_toArray];exact rfl) (by kernel_rfl) (by kernel_rfl) (by kernel_rfl) (by exact fun _ _ _ h=>h) (Or.inl ⟨by rfl,(by rintro W ⟨o0,o1,o2,o3,o4,o5,o6,o7,o8,o9,o10⟩;go_simp<;>with_reducible rfl)⟩) (by assumption) ?_;try simp only  [Act.put,List.setIfInBounds_toArray,List.set_cons_zero,List.set_cons_succ]
 refine wpAnyH_take  (i:=2) (v:=?_) (by rw[List.getElem?_toArray];exact rfl) (by kernel_rfl) (by kernel_rfl) (by kernel_rfl) (by exact fun _ _ _ h=>h) (Or.inl ⟨by rfl,(by rintro W ⟨o0,o1,o2,o3,o4,o5,o6,o7,o8,o9,o10⟩;go_simp<;>with_reducible rfl)⟩) (by assumption) ?_;try simp only  [Act.put,List.setIfInBounds_toArray,List.set_cons_zero,List.set_cons_succ]
 refine wpAnyH_take  (i:=4) (v:=?_) (by rw[List.getElem?_toArray];exact rfl) (by kernel_rfl) (by kernel_rfl) (by kernel_rfl) (by exact fun _ _ _ h=>h) (Or.inl ⟨by rfl,(by rintro W ⟨o0,o1,o2,o3,o4,o5,o6,o7,o8,o9,o10⟩;go_simp<;>with_reducible rfl)⟩) (by assumption) ?_;try simp only  [Act.put,List.setIfInBounds_toArray,List.set_cons_zero,List.set_cons_succ]
 refine wpAnyH_take  (i:=5) (v:=?_) (by rw[List.getElem?_toArray];exact rfl) (by kernel_rfl) (by kernel_rfl) (by kernel_rfl) (by exact fun _ _ _ h=>h) (Or.inl ⟨by rfl,(by rintro W ⟨o0,o1,o2,o3,o4,o5,o6,o7,o8,o9,o10⟩;go_simp<;>with_reducible rfl)⟩) (by assumption) ?_;try simp only  [Act.put,List.setIfInBounds_toArray,List.set_cons_zero,List.set_cons_succ]
 refine wpAnyH_take  (i:=7) (v:=?_) (by rw[List.getElem?_toArray];exact rfl) (by kernel_rfl) (by kernel_rfl) (by kernel_rfl) (by exact fun _ _ _ h=>h) (Or.inl ⟨by rfl,(by rintro W ⟨o0,o1,o2,o3,o4,o5,o6,o7,o8,o9,o10⟩;go_simp<;>with_reducible rfl)⟩) (by assumption) ?_;try simp only  [Act.put,List.setIfInBounds_toArray,List.set_cons_zero,List.set_cons_succ]
 refine wpAnyH_ready  (rs:=[1,3]) (by kernel_rfl) (by simp) (AllReadyH.cons  (by rw[List.getElem?_toArray];exact rfl) (fun K9 Ky=>?_) (AllReadyH.cons  (by rw[List.getElem?_toArray];exact rfl) (fun K9 Ky=>?_) AllReadyH.nil))
 · skip;have yq:W1.drew.cell? ⟨w1.heap.size,1,none⟩=some (.slice a2 len9 c2):=(HW.out.kept (Kept.drew W1)).at_ 1 _ rfl;go_simp;refine Ky.out _ _ (HS.out _ (HP2.out _ (Kept.drew W1))) (fun _=>?_);clear Ky K9 yq;try simp only  [Act.put,List.setIfInBounds_toArray,List.set_cons_zero,List.set_cons_succ]
   have yq:W1.drew.cell? ⟨w1.heap.size,1,none⟩=some (.slice a2 len9 c2):=HW.out.at_ 1 _ rfl;refine wpAnyH_ready  (rs:=[3]) (by kernel_rfl) (by simp) (AllReadyH.cons  (by rw[List.getElem?_toArray];exact rfl) (fun K9 Ky=>?_) AllReadyH.nil);go_simp;refine Ky.out _ _ (HS.out _ (HP2.out _ (Kept.drew _))) (fun _=>?_);clear Ky K9 yq;try simp only  [Act.put,List.setIfInBounds_toArray,List.set_cons_zero,List.set_cons_succ]
   refine wpAnyH_ready  (rs:=[6]) (by kernel_rfl) (by simp) (AllReadyH.cons  (by rw[List.getElem?_toArray];exact rfl) (fun K9 Ky=>?_) AllReadyH.nil);go_simp;refine(placeOf_any a2 len9 c2 l9 p0 _ (HPA.out.kept (Kept.drew _))).mono ?_;rintro e2 w2 ⟨rfl,kk⟩;have J1:=lH ((Kept.drew W1).trans kk);clear kk;refine Ky.out _ _ (HS.out _ (HP2.out _ J1.out)) (fun _=>?_);clear Ky K9;try simp only  [Act.put,List.setIfInBounds_toArray,List.set_cons_zero,List.set_cons_succ]
   refine wpAnyH_ready  (rs:=[8]) (by kernel_rfl) (by simp) (AllReadyH.cons  (by rw[List.getElem?_toArray];exact rfl) (fun K9 Ky=>?_) AllReadyH.nil);go_simp;have HOW:=ownedPod_any ⟨p0,p1,p2,q1,q2,q3,q4,p3,p4,p5,p6⟩ (.slice s1 t1 u1) (.slice s2 t2 u2) (.slice s3 t3 u3) (.slice s4 t4 u4) w2 (HPP.out.kept J1.out) HLP.out;unfold PodV at HOW;dsimp only at HOW;refine HOW.mono ?_;clear HOW;rintro e3 w3 ⟨v,rfl,hv,kk⟩;have J2:=lH (J1.out.trans kk);obtain⟨x1,y1,z1,x2,y2,z2,x3,y3,z3,x4,y4,z4,hv9,sp,g1,g2,g3,g4⟩:=hv;have hv9:v=.agg #[.string p0,.string p1,.int .i64 p2,.slice x1 y1 z1,.slice x2 y2 z2,.slice x3 y3 z3,.slice x4 y4 z4,.string p3,.int .i64 p4,.string p5,.bool p6]:=hv9;subst hv9;have HG:=lH (show Z.heap.size≤w1.heap.size∧w1.heap.size<w2.heap.size from⟨HS1.out.1,Nat.lt_of_lt_of_le HS1.out.2 J1.out.size⟩);have HOF:=lH (show Off (fun b=>(b<Z.heap.size∨b=w1.heap.size)∨(Value.slice a2 len9 c2).ownBlock=some b) w3 fun u=>At4 u (⟨p0,p1,p2,q1,q2,q3,q4,p3,p4,p5,p6⟩,(x1,y1,z1),(x2,y2,z2),(x3,y3,z3),(x4,y4,z4)) from PodAt.off (B:=w2.heap.size) sp g1 g2 g3 g4 (fun b hb h=>by
    have h1:=HG.out;rcases h with (h | h) | h
    · omega
    · omega
    · have:=((HC.out.kept J1.out).lt b h).2;omega))
   clear kk sp g1 g2 g3 g4;refine Ky.out _ _ (HS.out _ (HP2.out _ J2.out)) (fun _=>?_);clear Ky K9;try simp only  [Act.put,List.setIfInBounds_toArray,List.set_cons_zero,List.set_cons_succ]
   refine wpAnyH_ready  (rs:=[9]) (by kernel_rfl) (by simp) (AllReadyH.cons  (by rw[List.getElem?_toArray];exact rfl) (fun K9 Ky=>?_) AllReadyH.nil);go_simp;have J3:=lH (J2.out.trans (kept_alloc w3 (.cells #[.string p0,.string p1,.int .i64 p2,.slice x1 y1 z1,.slice x2 y2 z2,.slice x3 y3 z3,.slice x4 y4 z4,.string p3,.int .i64 p4,.string p5,.bool p6] 35)));have HV:=lH (show (w3.alloc (.cells #[.string p0,.string p1,.int .i64 p2,.slice x1 y1 z1,.slice x2 y2 z2,.slice x3 y3 z3,.slice x4 y4 z4,.string p3,.int .i64 p4,.string p5,.bool p6] 35)).heap[w3.heap.size]?=some (.cells #[.string p0,.string p1,.int .i64 p2,.slice x1 y1 z1,.slice x2 y2 z2,.slice x3 y3 z3,.slice x4 y4 z4,.string p3,.int .i64 p4,.string p5,.bool p6] 35) from World.alloc_heap_new w3 _);have HOF:=lH (HOF.out.step (GOff.of (kept_alloc w3 (.cells #[.string p0,.string p1,.int .i64 p2,.slice x1 y1 z1,.slice x2 y2 z2,.slice x3 y3 z3,.slice x4 y4 z4,.string p3,.int .i64 p4,.string p5,.bool p6] 35))));refine Ky.out _ _ (HS.out _ (HP2.out _ J3.out)) (fun _=>?_);clear Ky K9;try simp only  [Act.put,List.setIfInBounds_toArray,List.set_cons_zero,List.set_cons_succ]
   obtain⟨w4,hw4⟩:∃W,w3.alloc (.cells #[.string p0,.string p1,.int .i64 p2,.slice x1 y1 z1,.slice x2 y2 z2,.slice x3 y3 z3,.slice x4 y4 z4,.string p3,.int .i64 p4,.string p5,.bool p6] 35)=W:=⟨_,rfl⟩
   rw[hw4] at J3 HV HOF ⊢;clear hw4;refine wpAnyH_ready  (rs:=[10]) (by kernel_rfl) (by simp) (AllReadyH.cons  (by rw[List.getElem?_toArray];exact rfl) (fun K9 Ky=>?_) AllReadyH.nil);go_simp;refine(insClu_any (HC.out.kept J3.out) (⟨p0,p1,p2,q1,q2,q3,q4,p3,p4,p5,p6⟩,(x1,y1,z1),(x2,y2,z2),(x3,y3,z3),(x4,y4,z4)) (i:=placeN p0 l9) (by have:=place_le p0 l9;rw[HL9.out] at this;exact this) HDL.out (by have:=J3.out.size;have:=HS1.out;omega) (fun b hb=>by have:=J3.out.size;have:=HS1.out;rcases hb with hb | hb<;>omega) HV.out (fun e=>by have h1:=((HC.out.kept J2.out).lt _ e).2;omega) HOF.out).mono ?_;rintro e5 w5 ⟨g,c9,rfl,hc5,hg5⟩;have HC5:=lH hc5;have HWX:=lH (((HW.out.kept J3.out)).block (hg5.block _ (by have:=J3.out.size;have:=HS1.out;omega) (fun e=>HC.out.sep _ e (.inr rfl))));have HQX:=lH ((HQ.out.kept J3.out).block (hg5.block _ (by have:=J3.out.size;have:=HS1.out;have:=HZS.out;omega) (fun e=>HC.out.sep _ e (.inl (by have:=HZS.out;omega)))));have HPX:=lH ((HP2.out _ J3.out).block (hg5.block _ (by have:=J3.out.size;have:=HS1.out;have:=HZS.out;omega) (fun e=>HC.out.sep _ e (.inl (by have:=HZS.out;omega)))));have K5:=lH (show Kept w w5 from Below.trans (HKZ.out.trans (K.out.trans J3.out)) (hg5.at_below (B:=w.heap.size) (fun q e=>by have:=(HC.out.lt q e).1;have:=HZS.out;omega) (HKZ.out.trans (K.out.trans J3.out)).size));clear hc5 hg5;refine Ky.out _ _ (HS.out _ HPX.out) (fun _=>?_);clear Ky K9;try simp only  [Act.put,List.setIfInBounds_toArray,List.set_cons_zero,List.set_cons_succ]
   refine wpAnyH_take  (i:=11) (v:=?_) (by rw[List.getElem?_toArray];exact rfl) (by kernel_rfl) (by kernel_rfl) (by kernel_rfl) (by exact fun _ _ _ h=>h) (Or.inl ⟨by rfl,(by rintro W ⟨o0,o1,o2,o3,o4,o5,o6,o7,o8,o9,o10⟩;go_simp<;>with_reducible rfl)⟩) (by assumption) ?_;try simp only  [Act.put,List.setIfInBounds_toArray,List.set_cons_zero,List.set_cons_succ]
   have q1:=HWX.out.at_ 1 _ rfl;have f1:=HWX.out.free 1;refine wpAnyH_ready  (rs:=[12]) (by kernel_rfl) (by simp) (AllReadyH.cons  (by rw[List.getElem?_toArray];exact rfl) (fun K9 Ky=>?_) AllReadyH.nil);go_simp;have HPY:=lH (HPX.out.other (p:=w1.heap.size) (j:=1) (u:=.slice (some ⟨g,0,none⟩) (len9+1) c9) (by have:=HS1.out;have:=HZS.out;omega));have HQY:=lH (HQX.out.other (p:=w1.heap.size) (j:=1) (u:=.slice (some ⟨g,0,none⟩) (len9+1) c9) (by have:=HS1.out;have:=HZS.out;omega));have HWY:=lH (show CellsN w1.heap.size [.slice a1 n1 c1,.slice (some ⟨g,0,none⟩) (len9+1) c9,.slice a3 n3 c3] (w5.setCell ⟨w1.heap.size,1,none⟩ (.slice (some ⟨g,0,none⟩) (len9+1) c9)) from HWX.out.set (j:=1) (by simp));have HC6:=lH (HC5.out.step (GOff.cell (S:=fun b=>b<Z.heap.size∨b=w1.heap.size) w1.heap.size 1 (.slice (some ⟨g,0,none⟩) (len9+1) c9) (.inr rfl)));have K6:=lH (show Kept w (w5.setCell ⟨w1.heap.size,1,none⟩ (.slice (some ⟨g,0,none⟩) (len9+1) c9)) from K5.out.setCell (p:=⟨w1.heap.size,1,none⟩) (by have:=HS1.out;have:=HZS.out;show w.heap.size≤w1.heap.size;omega) _);refine Ky.out _ _ (HS.out _ HPY.out) (fun _=>?_);clear Ky K9 q1 f1;try simp only  [Act.put,List.setIfInBounds_toArray,List.set_cons_zero,List.set_cons_succ]
   refine wpAnyH_done (by kernel_rfl) ?_ _;have y0:=HWY.out.at_ 0 _ rfl;have y1:=HWY.out.at_ 1 _ rfl;have y2:=HWY.out.at_ 2 _ rfl;have z0:=HQY.out.at_ 0 _ rfl;have z1:=HQY.out.at_ 1 _ rfl;have z2:=HQY.out.at_ 2 _ rfl;have f0:=HQY.out.free 0;have f1:=HQY.out.free 1;have f2:=HQY.out.free 2;have PP:=lH (putN (vs:=[.slice a1 n1 c1,.slice (some ⟨g,0,none⟩) (len9+1) c9,.slice a3 n3 c3]) HQY.out rfl);go_wp2;obtain⟨WE,hWE⟩:∃W,(w5.setCell ⟨w1.heap.size,1,none⟩ (.slice (some ⟨g,0,none⟩) (len9+1) c9)).setCells (w.heap.size+2) 0 [.slice a1 n1 c1,.slice (some ⟨g,0,none⟩) (len9+1) c9,.slice a3 n3 c3]=W:=⟨_,rfl⟩
   have hWE2:((((w5.setCell ⟨w1.heap.size,1,none⟩ (.slice (some ⟨g,0,none⟩) (len9+1) c9)).setCell ⟨(w.heap.size+2),0,none⟩ (.slice a1 n1 c1)).setCell ⟨(w.heap.size+2),1,none⟩ (.slice (some ⟨g,0,none⟩) (len9+1) c9)).setCell ⟨(w.heap.size+2),2,none⟩ (.slice a3 n3 c3))=WE:=hWE;rw[hWE] at PP;try rw[hWE2]
   have GE:=lH (show GOff (fun b=>b<Z.heap.size∨b=w1.heap.size) (w5.setCell ⟨w1.heap.size,1,none⟩ (.slice (some ⟨g,0,none⟩) (len9+1) c9)) WE by rw[←hWE];exact GOff.cells (S:=fun b=>b<Z.heap.size∨b=w1.heap.size) _ (.inl (by have:=HZS.out;omega)) _ _ _);clear hWE hWE2;obtain⟨PCC,hsz,hbl,hkp⟩:=PP.out;refine bodyPost_ret (by simp[results,Tryz.results48,go_sem,PCC.at_ 0 _ rfl,PCC.at_ 1 _ rfl,PCC.at_ 2 _ rfl];try rfl) rfl ?_;have HFIN:=(HC6.out.step GE.out).less (B':=w.heap.size) (S':=fun b=>b<w.heap.size) HKZ.out.size (fun b hb=>.inl (Nat.lt_of_lt_of_le hb HKZ.out.size));rw[show l9.take (placeN p0 l9)++⟨p0,p1,p2,q1,q2,q3,q4,p3,p4,p5,p6⟩::l9.drop (placeN p0 l9)=insP ⟨p0,p1,p2,q1,q2,q3,q4,p3,p4,p5,p6⟩ (dropP p0 pl) by rw[←HE9.out];exact place_ins (p:=⟨p0,p1,p2,q1,q2,q3,q4,p3,p4,p5,p6⟩) (l:=l9)] at HFIN;exact⟨_,_,_,_,_,_,_,_,_,rfl,HFIN,hkp _ _ (by omega) K6.out⟩
 · skip;have yq:W1.drew.cell? ⟨w1.heap.size,1,none⟩=some (.slice a2 len9 c2):=HW.out.at_ 1 _ rfl;go_simp;refine Ky.out _ _ (HS.out _ (HP2.out _ (Kept.drew _))) (fun _=>?_);clear Ky K9 yq;try simp only  [Act.put,List.setIfInBounds_toArray,List.set_cons_zero,List.set_cons_succ]
   refine wpAnyH_ready  (rs:=[1,6]) (by kernel_rfl) (by simp) (AllReadyH.cons  (by rw[List.getElem?_toArray];exact rfl) (fun K9 Ky=>?_) (AllReadyH.cons  (by rw[List.getElem?_toArray];exact rfl) (fun K9 Ky=>?_) AllReadyH.nil))
   · skip;have yq:W1.drew.cell? ⟨w1.heap.size,1,none⟩=some (.slice a2 len9 c2):=(HW.out.kept (Kept.drew W1)).at_ 1 _ rfl;go_simp;refine Ky.out _ _ (HS.out _ (HP2.out _ (Kept.drew W1))) (fun _=>?_);clear Ky K9 yq;try simp only  [Act.put,List.setIfInBounds_toArray,List.set_cons_zero,List.set_cons_succ]
     refine wpAnyH_ready  (rs:=[6]) (by kernel_rfl) (by simp) (AllReadyH.cons  (by rw[List.getElem?_toArray];exact rfl) (fun K9 Ky=>?_) AllReadyH.nil);go_simp;refine(placeOf_any a2 len9 c2 l9 p0 _ (HPA.out.kept (Kept.drew _))).mono ?_;rintro e2 w2 ⟨rfl,kk⟩;have J1:=lH ((Kept.drew W1).trans kk);clear kk;refine Ky.out _ _ (HS.out _ (HP2.out _ J1.out)) (fun _=>?_);clear Ky K9;try simp only  [Act.put,List.setIfInBounds_toArray,List.set_cons_zero,List.set_cons_succ]
     refine wpAnyH_ready  (rs:=[8]) (by kernel_rfl) (by simp) (AllReadyH.cons  (by rw[List.getElem?_toArray];exact rfl) (fun K9 Ky=>?_) AllReadyH.nil);go_simp;have HOW:=ownedPod_any ⟨p0,p1,p2,q1,q2,q3,q4,p3,p4,p5,p6⟩ (.slice s1 t1 u1) (.slice s2 t2 u2) (.slice s3 t3 u3) (.slice s4 t4 u4) w2 (HPP.out.kept J1.out) HLP.out;unfold PodV at HOW;dsimp only at HOW;refine HOW.mono ?_;clear HOW;rintro e3 w3 ⟨v,rfl,hv,kk⟩;have J2:=lH (J1.out.trans kk);obtain⟨x1,y1,z1,x2,y2,z2,x3,y3,z3,x4,y4,z4,hv9,sp,g1,g2,g3,g4⟩:=hv;have hv9:v=.agg #[.string p0,.string p1,.int .i64 p2,.slice x1 y1 z1,.slice x2 y2 z2,.slice x3 y3 z3,.slice x4 y4 z4,.string p3,.int .i64 p4,.string p5,.bool p6]:=hv9;subst hv9;have HG:=lH (show Z.heap.size≤w1.heap.size∧w1.heap.size<w2.heap.size from⟨HS1.out.1,Nat.lt_of_lt_of_le HS1.out.2 J1.out.size⟩);have HOF:=lH (show Off (fun b=>(b<Z.heap.size∨b=w1.heap.size)∨(Value.slice a2 len9 c2).ownBlock=some b) w3 fun u=>At4 u (⟨p0,p1,p2,q1,q2,q3,q4,p3,p4,p5,p6⟩,(x1,y1,z1),(x2,y2,z2),(x3,y3,z3),(x4,y4,z4)) from PodAt.off (B:=w2.heap.size) sp g1 g2 g3 g4 (fun b hb h=>by
      have h1:=HG.out;rcases h with (h | h) | h
      · omega
      · omega
      · have:=((HC.out.kept J1.out).lt b h).2;omega))
     clear kk sp g1 g2 g3 g4;refine Ky.out _ _ (HS.out _ (HP2.out _ J2.out)) (fun _=>?_);clear Ky K9;try simp only  [Act.put,List.setIfInBounds_toArray,List.set_cons_zero,List.set_cons_succ]
     refine wpAnyH_ready  (rs:=[9]) (by kernel_rfl) (by simp) (AllReadyH.cons  (by rw[List.getElem?_toArray];exact rfl) (fun K9 Ky=>?_) AllReadyH.nil);go_simp;have J3:=lH (J2.out.trans (kept_alloc w3 (.cells #[.string p0,.string p1,.int .i64 p2,.slice x1 y1 z1,.slice x2 y2 z2,.slice x3 y3 z3,.slice x4 y4 z4,.string p3,.int .i64 p4,.string p5,.bool p6] 35)));have HV:=lH (show (w3.alloc (.cells #[.string p0,.string p1,.int .i64 p2,.slice x1 y1 z1,.slice x2 y2 z2,.slice x3 y3 z3,.slice x4 y4 z4,.string p3,.int .i64 p4,.string p5,.bool p6] 35)).heap[w3.heap.size]?=some (.cells #[.string p0,.string p1,.int .i64 p2,.slice x1 y1 z1,.slice x2 y2 z2,.slice x3 y3 z3,.slice x4 y4 z4,.string p3,.int .i64 p4,.string p5,.bool p6] 35) from World.alloc_heap_new w3 _);have HOF:=lH (HOF.out.step (GOff.of (kept_alloc w3 (.cells #[.string p0,.string p1,.int .i64 p2,.slice x1 y1 z1,.slice x2 y2 z2,.slice x3 y3 z3,.slice x4 y4 z4,.string p3,.int .i64 p4,.string p5,.bool p6] 35))));refine Ky.out _ _ (HS.out _ (HP2.out _ J3.out)) (fun _=>?_);clear Ky K9;try simp only  [Act.put,List.setIfInBounds_toArray,List.set_cons_zero,List.set_cons_succ]
     obtain⟨w4,hw4⟩:∃W,w3.alloc (.cells #[.string p0,.string p1,.int .i64 p2,.slice x1 y1 z1,.slice x2 y2 z2,.slice x3 y3 z3,.slice x4 y4 z4,.string p3,.int .i64 p4,.string p5,.bool p6] 35)=W:=⟨_,rfl⟩
     rw[hw4] at J3 HV HOF ⊢;clear hw4;refine wpAnyH_ready  (rs:=[10]) (by kernel_rfl) (by simp) (AllReadyH.cons  (by rw[List.getElem?_toArray];exact rfl) (fun K9 Ky=>?_) AllReadyH.nil);go_simp;refine(insClu_any (HC.out.kept J3.out) (⟨p0,p1,p2,q1,q2,q3,q4,p3,p4,p5,p6⟩,(x1,y1,z1),(x2,y2,z2),(x3,y3,z3),(x4,y4,z4)) (i:=placeN p0 l9) (by have:=place_le p0 l9;rw[HL9.out] at this;exact this) HDL.out (by have:=J3.out.size;have:=HS1.out;omega) (fun b hb=>by have:=J3.out.size;have:=HS1.out;rcases hb with hb | hb<;>omega) HV.out (fun e=>by have h1:=((HC.out.kept J2.out).lt _ e).2;omega) HOF.out).mono ?_;rintro e5 w5 ⟨g,c9,rfl,hc5,hg5⟩;have HC5:=lH hc5;have HWX:=lH (((HW.out.kept J3.out)).block (hg5.block _ (by have:=J3.out.size;have:=HS1.out;omega) (fun e=>HC.out.sep _ e (.inr rfl))));have HQX:=lH ((HQ.out.kept J3.out).block (hg5.block _ (by have:=J3.out.size;have:=HS1.out;have:=HZS.out;omega) (fun e=>HC.out.sep _ e (.inl (by have:=HZS.out;omega)))));have HPX:=lH ((HP2.out _ J3.out).block (hg5.block _ (by have:=J3.out.size;have:=HS1.out;have:=HZS.out;omega) (fun e=>HC.out.sep _ e (.inl (by have:=HZS.out;omega)))));have K5:=lH (show Kept w w5 from Below.trans (HKZ.out.trans (K.out.trans J3.out)) (hg5.at_below (B:=w.heap.size) (fun q e=>by have:=(HC.out.lt q e).1;have:=HZS.out;omega) (HKZ.out.trans (K.out.trans J3.out)).size));clear hc5 hg5;refine Ky.out _ _ (HS.out _ HPX.out) (fun _=>?_);clear Ky K9;try simp only  [Act.put,List.setIfInBounds_toArray,List.set_cons_zero,List.set_cons_succ]
     refine wpAnyH_take  (i:=11) (v:=?_) (by rw[List.getElem?_toArray];exact rfl) (by kernel_rfl) (by kernel_rfl) (by kernel_rfl) (by exact fun _ _ _ h=>h) (Or.inl ⟨by rfl,(by rintro W ⟨o0,o1,o2,o3,o4,o5,o6,o7,o8,o9,o10⟩;go_simp<;>with_reducible rfl)⟩) (by assumption) ?_;try simp only  [Act.put,List.setIfInBounds_toArray,List.set_cons_zero,List.set_cons_succ]
     have q1:=HWX.out.at_ 1 _ rfl;have f1:=HWX.out.free 1;refine wpAnyH_ready  (rs:=[12]) (by kernel_rfl) (by simp) (AllReadyH.cons  (by rw[List.getElem?_toArray];exact rfl) (fun K9 Ky=>?_) AllReadyH.nil);go_simp;have HPY:=lH (HPX.out.other (p:=w1.heap.size) (j:=1) (u:=.slice (some ⟨g,0,none⟩) (len9+1) c9) (by have:=HS1.out;have:=HZS.out;omega));have HQY:=lH (HQX.out.other (p:=w1.heap.size) (j:=1) (u:=.slice (some ⟨g,0,none⟩) (len9+1) c9) (by have:=HS1.out;have:=HZS.out;omega));have HWY:=lH (show CellsN w1.heap.size [.slice a1 n1 c1,.slice (some ⟨g,0,none⟩) (len9+1) c9,.slice a3 n3 c3] (w5.setCell ⟨w1.heap.size,1,none⟩ (.slice (some ⟨g,0,none⟩) (len9+1) c9)) from HWX.out.set (j:=1) (by simp));have HC6:=lH (HC5.out.step (GOff.cell (S:=fun b=>b<Z.heap.size∨b=w1.heap.size) w1.heap.size 1 (.slice (some ⟨g,0,none⟩) (len9+1) c9) (.inr rfl)));have K6:=lH (show Kept w (w5.setCell ⟨w1.heap.size,1,none⟩ (.slice (some ⟨g,0,none⟩) (len9+1) c9)) from K5.out.setCell (p:=⟨w1.heap.size,1,none⟩) (by have:=HS1.out;have:=HZS.out;show w.heap.size≤w1.heap.size;omega) _);refine Ky.out _ _ (HS.out _ HPY.out) (fun _=>?_);clear Ky K9 q1 f1;try simp only  [Act.put,List.setIfInBounds_toArray,List.set_cons_zero,List.set_cons_succ]
     refine wpAnyH_done (by kernel_rfl) ?_ _;have y0:=HWY.out.at_ 0 _ rfl;have y1:=HWY.out.at_ 1 _ rfl;have y2:=HWY.out.at_ 2 _ rfl;have z0:=HQY.out.at_ 0 _ rfl;have z1:=HQY.out.at_ 1 _ rfl;have z2:=HQY.out.at_ 2 _ rfl;have f0:=HQY.out.free 0;have f1:=HQY.out.free 1;have f2:=HQY.out.free 2;have PP:=lH (putN (vs:=[.slice a1 n1 c1,.slice (some ⟨g,0,none⟩) (len9+1) c9,.slice a3 n3 c3]) HQY.out rfl);go_wp2;obtain⟨WE,hWE⟩:∃W,(w5.setCell ⟨w1.heap.size,1,none⟩ (.slice (some ⟨g,0,none⟩) (len9+1) c9)).setCells (w.heap.size+2) 0 [.slice a1 n1 c1,.slice (some ⟨g,0,none⟩) (len9+1) c9,.slice a3 n3 c3]=W:=⟨_,rfl⟩
     have hWE2:((((w5.setCell ⟨w1.heap.size,1,none⟩ (.slice (some ⟨g,0,none⟩) (len9+1) c9)).setCell ⟨(w.heap.size+2),0,none⟩ (.slice a1 n1 c1)).setCell ⟨(w.heap.size+2),1,none⟩ (.slice (some ⟨g,0,none⟩) (len9+1) c9)).setCell ⟨(w.heap.size+2),2,none⟩ (.slice a3 n3 c3))=WE:=hWE;rw[hWE] at PP;try rw[hWE2]
     have GE:=lH (show GOff (fun b=>b<Z.heap.size∨b=w1.heap.size) (w5.setCell ⟨w1.heap.size,1,none⟩ (.slice (some ⟨g,0,none⟩) (len9+1) c9)) WE by rw[←hWE];exact GOff.cells (S:=fun b=>b<Z.heap.size∨b=w1.heap.size) _ (.inl (by have:=HZS.out;omega)) _ _ _);clear hWE hWE2;obtain⟨PCC,hsz,hbl,hkp⟩:=PP.out;refine bodyPost_ret (by simp[results,Tryz.results48,go_sem,PCC.at_ 0 _ rfl,PCC.at_ 1 _ rfl,PCC.at_ 2 _ rfl];try rfl) rfl ?_;have HFIN:=(HC6.out.step GE.out).less (B':=w.heap.size) (S':=fun b=>b<w.heap.size) HKZ.out.size (fun b hb=>.inl (Nat.lt_of_lt_of_le hb HKZ.out.size));rw[show l9.take (placeN p0 l9)++⟨p0,p1,p2,q1,q2,q3,q4,p3,p4,p5,p6⟩::l9.drop (placeN p0 l9)=insP ⟨p0,p1,p2,q1,q2,q3,q4,p3,p4,p5,p6⟩ (dropP p0 pl) by rw[←HE9.out];exact place_ins (p:=⟨p0,p1,p2,q1,q2,q3,q4,p3,p4,p5,p6⟩) (l:=l9)] at HFIN;exact⟨_,_,_,_,_,_,_,_,_,rfl,HFIN,hkp _ _ (by omega) K6.out⟩
   · skip;go_simp;refine(placeOf_any a2 len9 c2 l9 p0 _ (HPA.out.kept (Kept.drew _))).mono ?_;rintro e2 w2 ⟨rfl,kk⟩;have J1:=lH ((Kept.drew W1).trans kk);clear kk;refine Ky.out _ _ (HS.out _ (HP2.out _ J1.out)) (fun _=>?_);clear Ky K9;try simp only  [Act.put,List.setIfInBounds_toArray,List.set_cons_zero,List.set_cons_succ]
     refine wpAnyH_ready  (rs:=[1,8]) (by kernel_rfl) (by simp) (AllReadyH.cons  (by rw[List.getElem?_toArray];exact rfl) (fun K9 Ky=>?_) (AllReadyH.cons  (by rw[List.getElem?_toArray];exact rfl) (fun K9 Ky=>?_) AllReadyH.nil))
     · skip;have yq:w2.cell? ⟨w1.heap.size,1,none⟩=some (.slice a2 len9 c2):=(HW.out.kept J1.out).at_ 1 _ rfl;go_simp;refine Ky.out _ _ (HS.out _ (HP2.out _ J1.out)) (fun _=>?_);clear Ky K9 yq;try simp only  [Act.put,List.setIfInBounds_toArray,List.set_cons_zero,List.set_cons_succ]
       refine wpAnyH_ready  (rs:=[8]) (by kernel_rfl) (by simp) (AllReadyH.cons  (by rw[List.getElem?_toArray];exact rfl) (fun K9 Ky=>?_) AllReadyH.nil);go_simp;have HOW:=ownedPod_any ⟨p0,p1,p2,q1,q2,q3,q4,p3,p4,p5,p6⟩ (.slice s1 t1 u1) (.slice s2 t2 u2) (.slice s3 t3 u3) (.slice s4 t4 u4) w2 (HPP.out.kept J1.out) HLP.out;unfold PodV at HOW;dsimp only at HOW;refine HOW.mono ?_;clear HOW;rintro e3 w3 ⟨v,rfl,hv,kk⟩;have J2:=lH (J1.out.trans kk);obtain⟨x1,y1,z1,x2,y2,z2,x3,y3,z3,x4,y4,z4,hv9,sp,g1,g2,g3,g4⟩:=hv;have hv9:v=.agg #[.string p0,.string p1,.int .i64 p2,.slice x1 y1 z1,.slice x2 y2 z2,.slice x3 y3 z3,.slice x4 y4 z4,.string p3,.int .i64 p4,.string p5,.bool p6]:=hv9;subst hv9;have HG:=lH (show Z.heap.size≤w1.heap.size∧w1.heap.size<w2.heap.size from⟨HS1.out.1,Nat.lt_of_lt_of_le HS1.out.2 J1.out.size⟩);have HOF:=lH (show Off (fun b=>(b<Z.heap.size∨b=w1.heap.size)∨(Value.slice a2 len9 c2).ownBlock=some b) w3 fun u=>At4 u (⟨p0,p1,p2,q1,q2,q3,q4,p3,p4,p5,p6⟩,(x1,y1,z1),(x2,y2,z2),(x3,y3,z3),(x4,y4,z4)) from PodAt.off (B:=w2.heap.size) sp g1 g2 g3 g4 (fun b hb h=>by
        have h1:=HG.out;rcases h with (h | h) | h
        · omega
        · omega
        · have:=((HC.out.kept J1.out).lt b h).2;omega))
       clear kk sp g1 g2 g3 g4;refine Ky.out _ _ (HS.out _ (HP2.out _ J2.out)) (fun _=>?_);clear Ky K9;try simp only  [Act.put,List.setIfInBounds_toArray,List.set_cons_zero,List.set_cons_succ]
       refine wpAnyH_ready  (rs:=[9]) (by kernel_rfl) (by simp) (AllReadyH.cons  (by rw[List.getElem?_toArray];exact rfl) (fun K9 Ky=>?_) AllReadyH.nil);go_simp;have J3:=lH (J2.out.trans (kept_alloc w3 (.cells #[.string p0,.string p1,.int .i64 p2,.slice x1 y1 z1,.slice x2 y2 z2,.slice x3 y3 z3,.slice x4 y4 z4,.string p3,.int .i64 p4,.string p5,.bool p6] 35)));have HV:=lH (show (w3.alloc (.cells #[.string p0,.string p1,.int .i64 p2,.slice x1 y1 z1,.slice x2 y2 z2,.slice x3 y3 z3,.slice x4 y4 z4,.string p3,.int .i64 p4,.string p5,.bool p6] 35)).heap[w3.heap.size]?=some (.cells #[.string p0,.string p1,.int .i64 p2,.slice x1 y1 z1,.slice x2 y2 z2,.slice x3 y3 z3,.slice x4 y4 z4,.string p3,.int .i64 p4,.string p5,.bool p6] 35) from World.alloc_heap_new w3 _);have HOF:=lH (HOF.out.step (GOff.of (kept_alloc w3 (.cells #[.string p0,.string p1,.int .i64 p2,.slice x1 y1 z1,.slice x2 y2 z2,.slice x3 y3 z3,.slice x4 y4 z4,.string p3,.int .i64 p4,.string p5,.bool p6] 35))));refine Ky.out _ _ (HS.out _ (HP2.out _ J3.out)) (fun _=>?_);clear Ky K9;try simp only  [Act.put,List.setIfInBounds_toArray,List.set_cons_zero,List.set_cons_succ]
       obtain⟨w4,hw4⟩:∃W,w3.alloc (.cells #[.string p0,.string p1,.int .i64 p2,.slice x1 y1 z1,.slice x2 y2 z2,.slice x3 y3 z3,.slice x4 y4 z4,.string p3,.int .i64 p4,.string p5,.bool p6] 35)=W:=⟨_,rfl⟩
       rw[hw4] at J3 HV HOF ⊢;clear hw4;refine wpAnyH_ready  (rs:=[10]) (by kernel_rfl) (by simp) (AllReadyH.cons  (by rw[List.getElem?_toArray];exact rfl) (fun K9 Ky=>?_) AllReadyH.nil);go_simp;refine(insClu_any (HC.out.kept J3.out) (⟨p0,p1,p2,q1,q2,q3,q4,p3,p4,p5,p6⟩,(x1,y1,z1),(x2,y2,z2),(x3,y3,z3),(x4,y4,z4)) (i:=placeN p0 l9) (by have:=place_le p0 l9;rw[HL9.out] at this;exact this) HDL.out (by have:=J3.out.size;have:=HS1.out;omega) (fun b hb=>by have:=J3.out.size;have:=HS1.out;rcases hb with hb | hb<;>omega) HV.out (fun e=>by have h1:=((HC.out.kept J2.out).lt _ e).2;omega) HOF.out).mono ?_;rintro e5 w5 ⟨g,c9,rfl,hc5,hg5⟩;have HC5:=lH hc5;have HWX:=lH (((HW.out.kept J3.out)).block (hg5.block _ (by have:=J3.out.size;have:=HS1.out;omega) (fun e=>HC.out.sep _ e (.inr rfl))));have HQX:=lH ((HQ.out.kept J3.out).block (hg5.block _ (by have:=J3.out.size;have:=HS1.out;have:=HZS.out;omega) (fun e=>HC.out.sep _ e (.inl (by have:=HZS.out;omega)))));have HPX:=lH ((HP2.out _ J3.out).block (hg5.block _ (by have:=J3.out.size;have:=HS1.out;have:=HZS.out;omega) (fun e=>HC.out.sep _ e (.inl (by have:=HZS.out;omega)))));have K5:=lH (show Kept w w5 from Below.trans (HKZ.out.trans (K.out.trans J3.out)) (hg5.at_below (B:=w.heap.size) (fun q e=>by have:=(HC.out.lt q e).1;have:=HZS.out;omega) (HKZ.out.trans (K.out.trans J3.out)).size));clear hc5 hg5;refine Ky.out _ _ (HS.out _ HPX.out) (fun _=>?_);clear Ky K9;try simp only  [Act.put,List.setIfInBounds_toArray,List.set_cons_zero,List.set_cons_succ]
       refine wpAnyH_take  (i:=11) (v:=?_) (by rw[List.getElem?_toArray];exact rfl) (by kernel_rfl) (by kernel_rfl) (by kernel_rfl) (by exact fun _ _ _ h=>h) (Or.inl ⟨by rfl,(by rintro W ⟨o0,o1,o2,o3,o4,o5,o6,o7,o8,o9,o10⟩;go_simp<;>with_reducible rfl)⟩) (by assumption) ?_;try simp only  [Act.put,List.setIfInBounds_toArray,List.set_cons_zero,List.set_cons_succ]
       have q1:=HWX.out.at_ 1 _ rfl;have f1:=HWX.out.free 1;refine wpAnyH_ready  (rs:=[12]) (by kernel_rfl) (by simp) (AllReadyH.cons  (by rw[List.getElem?_toArray];exact rfl) (fun K9 Ky=>?_) AllReadyH.nil);go_simp;have HPY:=lH (HPX.out.other (p:=w1.heap.size) (j:=1) (u:=.slice (some ⟨g,0,none⟩) (len9+1) c9) (by have:=HS1.out;have:=HZS.out;omega));have HQY:=lH (HQX.out.other (p:=w1.heap.size) (j:=1) (u:=.slice (some ⟨g,0,none⟩) (len9+1) c9) (by have:=HS1.out;have:=HZS.out;omega));have HWY:=lH (show CellsN w1.heap.size [.slice a1 n1 c1,.slice (some ⟨g,0,none⟩) (len9+1) c9,.slice a3 n3 c3] (w5.setCell ⟨w1.heap.size,1,none⟩ (.slice (some ⟨g,0,none⟩) (len9+1) c9)) from HWX.out.set (j:=1) (by simp));have HC6:=lH (HC5.out.step (GOff.cell (S:=fun b=>b<Z.heap.size∨b=w1.heap.size) w1.heap.size 1 (.slice (some ⟨g,0,none⟩) (len9+1) c9) (.inr rfl)));have K6:=lH (show Kept w (w5.setCell ⟨w1.heap.size,1,none⟩ (.slice (some ⟨g,0,none⟩) (len9+1) c9)) from K5.out.setCell (p:=⟨w1.heap.size,1,none⟩) (by have:=HS1.out;have:=HZS.out;show w.heap.size≤w1.heap.size;omega) _);refine Ky.out _ _ (HS.out _ HPY.out) (fun _=>?_);clear Ky K9 q1 f1;try simp only  [Act.put,List.setIfInBounds_toArray,List.set_cons_zero,List.set_cons_succ]
       refine wpAnyH_done (by kernel_rfl) ?_ _;have y0:=HWY.out.at_ 0 _ rfl;have y1:=HWY.out.at_ 1 _ rfl;have y2:=HWY.out.at_ 2 _ rfl;have z0:=HQY.out.at_ 0 _ rfl;have z1:=HQY.out.at_ 1 _ rfl;have z2:=HQY.out.at_ 2 _ rfl;have f0:=HQY.out.free 0;have f1:=HQY.out.free 1;have f2:=HQY.out.free 2;have PP:=lH (putN (vs:=[.slice a1 n1 c1,.slice (some ⟨g,0,none⟩) (len9+1) c9,.slice a3 n3 c3]) HQY.out rfl);go_wp2;obtain⟨WE,hWE⟩:∃W,(w5.setCell ⟨w1.heap.size,1,none⟩ (.slice (some ⟨g,0,none⟩) (len9+1) c9)).setCells (w.heap.size+2) 0 [.slice a1 n1 c1,.slice (some ⟨g,0,none⟩) (len9+1) c9,.slice a3 n3 c3]=W:=⟨_,rfl⟩
       have hWE2:((((w5.setCell ⟨w1.heap.size,1,none⟩ (.slice (some ⟨g,0,none⟩) (len9+1) c9)).setCell ⟨(w.heap.size+2),0,none⟩ (.slice a1 n1 c1)).setCell ⟨(w.heap.size+2),1,none⟩ (.slice (some ⟨g,0,none⟩) (len9+1) c9)).setCell ⟨(w.heap.size+2),2,none⟩ (.slice a3 n3 c3))=WE:=hWE;rw[hWE] at PP;try rw[hWE2]
       have GE:=lH (show GOff (fun b=>b<Z.heap.size∨b=w1.heap.size) (w5.setCell ⟨w1.heap.size,1,none⟩ (.slice (some ⟨g,0,none⟩) (len9+1) c9)) WE by rw[←hWE];exact GOff.cells (S:=fun b=>b<Z.heap.size∨b=w1.heap.size) _ (.inl (by have:=HZS.out;omega)) _ _ _);clear hWE hWE2;obtain⟨PCC,hsz,hbl,hkp⟩:=PP.out;refine bodyPost_ret (by simp[results,Tryz.results48,go_sem,PCC.at_ 0 _ rfl,PCC.at_ 1 _ rfl,PCC.at_ 2 _ rfl];try rfl) rfl ?_;have HFIN:=(HC6.out.step GE.out).less (B':=w.heap.size) (S':=fun b=>b<w.heap.size) HKZ.out.size (fun b hb=>.inl (Nat.lt_of_lt_of_le hb HKZ.out.size));rw[show l9.take (placeN p0 l9)++⟨p0,p1,p2,q1,q2,q3,q4,p3,p4,p5,p6⟩::l9.drop (placeN p0 l9)=insP ⟨p0,p1,p2,q1,q2,q3,q4,p3,p4,p5,p6⟩ (dropP p0 pl) by rw[←HE9.out];exact place_ins (p:=⟨p0,p1,p2,q1,q2,q3,q4,p3,p4,p5,p6⟩) (l:=l9)] at HFIN;exact⟨_,_,_,_,_,_,_,_,_,rfl,HFIN,hkp _ _ (by omega) K6.out⟩
     · skip;go_simp;have HOW:=ownedPod_any ⟨p0,p1,p2,q1,q2,q3,q4,p3,p4,p5,p6⟩ (.slice s1 t1 u1) (.slice s2 t2 u2) (.slice s3 t3 u3) (.slice s4 t4 u4) w2 (HPP.out.kept J1.out) HLP.out;unfold PodV at HOW;dsimp only at HOW;refine HOW.mono ?_;clear HOW;rintro e3 w3 ⟨v,rfl,hv,kk⟩;have J2:=lH (J1.out.trans kk);obtain⟨x1,y1,z1,x2,y2,z2,x3,y3,z3,x4,y4,z4,hv9,sp,g1,g2,g3,g4⟩:=hv;have hv9:v=.agg #[.string p0,.string p1,.int .i64 p2,.slice x1 y1 z1,.slice x2 y2 z2,.slice x3 y3 z3,.slice x4 y4 z4,.string p3,.int .i64 p4,.string p5,.bool p6]:=hv9;subst hv9;have HG:=lH (show Z.heap.size≤w1.heap.size∧w1.heap.size<w2.heap.size from⟨HS1.out.1,Nat.lt_of_lt_of_le HS1.out.2 J1.out.size⟩);have HOF:=lH (show Off (fun b=>(b<Z.heap.size∨b=w1.heap.size)∨(Value.slice a2 len9 c2).ownBlock=some b) w3 fun u=>At4 u (⟨p0,p1,p2,q1,q2,q3,q4,p3,p4,p5,p6⟩,(x1,y1,z1),(x2,y2,z2),(x3,y3,z3),(x4,y4,z4)) from PodAt.off (B:=w2.heap.size) sp g1 g2 g3 g4 (fun b hb h=>by
        have h1:=HG.out;rcases h with (h | h) | h
        · omega
        · omega
        · have:=((HC.out.kept J1.out).lt b h).2;omega))
       clear kk sp g1 g2 g3 g4;refine Ky.out _ _ (HS.out _ (HP2.out _ J2.out)) (fun _=>?_);clear Ky K9;try simp only  [Act.put,List.setIfInBounds_toArray,List.set_cons_zero,List.set_cons_succ]
       refine wpAnyH_ready  (rs:=[1,9]) (by kernel_rfl) (by simp) (AllReadyH.cons  (by rw[List.getElem?_toArray];exact rfl) (fun K9 Ky=>?_) (AllReadyH.cons  (by rw[List.getElem?_toArray];exact rfl) (fun K9 Ky=>?_) AllReadyH.nil))
       · skip;have yq:w3.cell? ⟨w1.heap.size,1,none⟩=some (.slice a2 len9 c2):=(HW.out.kept J2.out).at_ 1 _ rfl;go_simp;refine Ky.out _ _ (HS.out _ (HP2.out _ J2.out)) (fun _=>?_);clear Ky K9 yq;try simp only  [Act.put,List.setIfInBounds_toArray,List.set_cons_zero,List.set_cons_succ]
         refine wpAnyH_ready  (rs:=[9]) (by kernel_rfl) (by simp) (AllReadyH.cons  (by rw[List.getElem?_toArray];exact rfl) (fun K9 Ky=>?_) AllReadyH.nil);go_simp;have J3:=lH (J2.out.trans (kept_alloc w3 (.cells #[.string p0,.string p1,.int .i64 p2,.slice x1 y1 z1,.slice x2 y2 z2,.slice x3 y3 z3,.slice x4 y4 z4,.string p3,.int .i64 p4,.string p5,.bool p6] 35)));have HV:=lH (show (w3.alloc (.cells #[.string p0,.string p1,.int .i64 p2,.slice x1 y1 z1,.slice x2 y2 z2,.slice x3 y3 z3,.slice x4 y4 z4,.string p3,.int .i64 p4,.string p5,.bool p6] 35)).heap[w3.heap.size]?=some (.cells #[.string p0,.string p1,.int .i64 p2,.slice x1 y1 z1,.slice x2 y2 z2,.slice x3 y3 z3,.slice x4 y4 z4,.string p3,.int .i64 p4,.string p5,.bool p6] 35) from World.alloc_heap_new w3 _);have HOF:=lH (HOF.out.step (GOff.of (kept_alloc w3 (.cells #[.string p0,.string p1,.int .i64 p2,.slice x1 y1 z1,.slice x2 y2 z2,.slice x3 y3 z3,.slice x4 y4 z4,.string p3,.int .i64 p4,.string p5,.bool p6] 35))));refine Ky.out _ _ (HS.out _ (HP2.out _ J3.out)) (fun _=>?_);clear Ky K9;try simp only  [Act.put,List.setIfInBounds_toArray,List.set_cons_zero,List.set_cons_succ]
         obtain⟨w4,hw4⟩:∃W,w3.alloc (.cells #[.string p0,.string p1,.int .i64 p2,.slice x1 y1 z1,.slice x2 y2 z2,.slice x3 y3 z3,.slice x4 y4 z4,.string p3,.int .i64 p4,.string p5,.bool p6] 35)=W:=⟨_,rfl⟩
         rw[hw4] at J3 HV HOF ⊢;clear hw4;refine wpAnyH_ready  (rs:=[10]) (by kernel_rfl) (by simp) (AllReadyH.cons  (by rw[List.getElem?_toArray];exact rfl) (fun K9 Ky=>?_) AllReadyH.nil);go_simp;refine(insClu_any (HC.out.kept J3.out) (⟨p0,p1,p2,q1,q2,q3,q4,p3,p4,p5,p6⟩,(x1,y1,z1),(x2,y2,z2),(x3,y3,z3),(x4,y4,z4)) (i:=placeN p0 l9) (by have:=place_le p0 l9;rw[HL9.out] at this;exact this) HDL.out (by have:=J3.out.size;have:=HS1.out;omega) (fun b hb=>by have:=J3.out.size;have:=HS1.out;rcases hb with hb | hb<;>omega) HV.out (fun e=>by have h1:=((HC.out.kept J2.out).lt _ e).2;omega) HOF.out).mono ?_;rintro e5 w5 ⟨g,c9,rfl,hc5,hg5⟩;have HC5:=lH hc5;have HWX:=lH (((HW.out.kept J3.out)).block (hg5.block _ (by have:=J3.out.size;have:=HS1.out;omega) (fun e=>HC.out.sep _ e (.inr rfl))));have HQX:=lH ((HQ.out.kept J3.out).block (hg5.block _ (by have:=J3.out.size;have:=HS1.out;have:=HZS.out;omega) (fun e=>HC.out.sep _ e (.inl (by have:=HZS.out;omega)))));have HPX:=lH ((HP2.out _ J3.out).block (hg5.block _ (by have:=J3.out.size;have:=HS1.out;have:=HZS.out;omega) (fun e=>HC.out.sep _ e (.inl (by have:=HZS.out;omega)))));have K5:=lH (show Kept w w5 from Below.trans (HKZ.out.trans (K.out.trans J3.out)) (hg5.at_below (B:=w.heap.size) (fun q e=>by have:=(HC.out.lt q e).1;have:=HZS.out;omega) (HKZ.out.trans (K.out.trans J3.out)).size));clear hc5 hg5;refine Ky.out _ _ (HS.out _ HPX.out) (fun _=>?_);clear Ky K9;try simp only  [Act.put,List.setIfInBounds_toArray,List.set_cons_zero,List.set_cons_succ]
         refine wpAnyH_take  (i:=11) (v:=?_) (by rw[List.getElem?_toArray];exact rfl) (by kernel_rfl) (by kernel_rfl) (by kernel_rfl) (by exact fun _ _ _ h=>h) (Or.inl ⟨by rfl,(by rintro W ⟨o0,o1,o2,o3,o4,o5,o6,o7,o8,o9,o10⟩;go_simp<;>with_reducible rfl)⟩) (by assumption) ?_;try simp only  [Act.put,List.setIfInBounds_toArray,List.set_cons_zero,List.set_cons_succ]
         have q1:=HWX.out.at_ 1 _ rfl;have f1:=HWX.out.free 1;refine wpAnyH_ready  (rs:=[12]) (by kernel_rfl) (by simp) (AllReadyH.cons  (by rw[List.getElem?_toArray];exact rfl) (fun K9 Ky=>?_) AllReadyH.nil);go_simp;have HPY:=lH (HPX.out.other (p:=w1.heap.size) (j:=1) (u:=.slice (some ⟨g,0,none⟩) (len9+1) c9) (by have:=HS1.out;have:=HZS.out;omega));have HQY:=lH (HQX.out.other (p:=w1.heap.size) (j:=1) (u:=.slice (some ⟨g,0,none⟩) (len9+1) c9) (by have:=HS1.out;have:=HZS.out;omega));have HWY:=lH (show CellsN w1.heap.size [.slice a1 n1 c1,.slice (some ⟨g,0,none⟩) (len9+1) c9,.slice a3 n3 c3] (w5.setCell ⟨w1.heap.size,1,none⟩ (.slice (some ⟨g,0,none⟩) (len9+1) c9)) from HWX.out.set (j:=1) (by simp));have HC6:=lH (HC5.out.step (GOff.cell (S:=fun b=>b<Z.heap.size∨b=w1.heap.size) w1.heap.size 1 (.slice (some ⟨g,0,none⟩) (len9+1) c9) (.inr rfl)));have K6:=lH (show Kept w (w5.setCell ⟨w1.heap.size,1,none⟩ (.slice (some ⟨g,0,none⟩) (len9+1) c9)) from K5.out.setCell (p:=⟨w1.heap.size,1,none⟩) (by have:=HS1.out;have:=HZS.out;show w.heap.size≤w1.heap.size;omega) _);refine Ky.out _ _ (HS.out _ HPY.out) (fun _=>?_);clear Ky K9 q1 f1;try simp only  [Act.put,List.setIfInBounds_toArray,List.set_cons_zero,List.set_cons_succ]
         refine wpAnyH_done (by kernel_rfl) ?_ _;have y0:=HWY.out.at_ 0 _ rfl;have y1:=HWY.out.at_ 1 _ rfl;have y2:=HWY.out.at_ 2 _ rfl;have z0:=HQY.out.at_ 0 _ rfl;have z1:=HQY.out.at_ 1 _ rfl;have z2:=HQY.out.at_ 2 _ rfl;have f0:=HQY.out.free 0;have f1:=HQY.out.free 1;have f2:=HQY.out.free 2;have PP:=lH (putN (vs:=[.slice a1 n1 c1,.slice (some ⟨g,0,none⟩) (len9+1) c9,.slice a3 n3 c3]) HQY.out rfl);go_wp2;obtain⟨WE,hWE⟩:∃W,(w5.setCell ⟨w1.heap.size,1,none⟩ (.slice (some ⟨g,0,none⟩) (len9+1) c9)).setCells (w.heap.size+2) 0 [.slice a1 n1 c1,.slice (some ⟨g,0,none⟩) (len9+1) c9,.slice a3 n3 c3]=W:=⟨_,rfl⟩
         have hWE2:((((w5.setCell ⟨w1.heap.size,1,none⟩ (.slice (some ⟨g,0,none⟩) (len9+1) c9)).setCell ⟨(w.heap.size+2),0,none⟩ (.slice a1 n1 c1)).setCell ⟨(w.heap.size+2),1,none⟩ (.slice (some ⟨g,0,none⟩) (len9+1) c9)).setCell ⟨(w.heap.size+2),2,none⟩ (.slice a3 n3 c3))=WE:=hWE;rw[hWE] at PP;try rw[hWE2]
         have GE:=lH (show GOff (fun b=>b<Z.heap.size∨b=w1.heap.size) (w5.setCell ⟨w1.heap.size,1,none⟩ (.slice (some ⟨g,0,none⟩) (len9+1) c9)) WE by rw[←hWE];exact GOff.cells (S:=fun b=>b<Z.heap.size∨b=w1.heap.size) _ (.inl (by have:=HZS.out;omega)) _ _ _);clear hWE hWE2;obtain⟨PCC,hsz,hbl,hkp⟩:=PP.out;refine bodyPost_ret (by simp[results,Tryz.results48,go_sem,PCC.at_ 0 _ rfl,PCC.at_ 1 _ rfl,PCC.at_ 2 _ rfl];try rfl) rfl ?_;have HFIN:=(HC6.out.step GE.out).less (B':=w.heap.size) (S':=fun b=>b<w.heap.size) HKZ.out.size (fun b hb=>.inl (Nat.lt_of_lt_of_le hb HKZ.out.size));rw[show l9.take (placeN p0 l9)++⟨p0,p1,p2,q1,q2,q3,q4,p3,p4,p5,p6⟩::l9.drop (placeN p0 l9)=insP ⟨p0,p1,p2,q1,q2,q3,q4,p3,p4,p5,p6⟩ (dropP p0 pl) by rw[←HE9.out];exact place_ins (p:=⟨p0,p1,p2,q1,q2,q3,q4,p3,p4,p5,p6⟩) (l:=l9)] at HFIN;exact⟨_,_,_,_,_,_,_,_,_,rfl,HFIN,hkp _ _ (by omega) K6.out⟩
       · skip;go_simp;have J3:=lH (J2.out.trans (kept_alloc w3 (.cells #[.string p0,.string p1,.int .i64 p2,.slice x1 y1 z1,.slice x2 y2 z2,.slice x3 y3 z3,.slice x4 y4 z4,.string p3,.int .i64 p4,.string p5,.bool p6] 35)));have HV:=lH (show (w3.alloc (.cells #[.string p0,.string p1,.int .i64 p2,.slice x1 y1 z1,.slice x2 y2 z2,.slice x3 y3 z3,.slice x4 y4 z4,.string p3,.int .i64 p4,.string p5,.bool p6] 35)).heap[w3.heap.size]?=some (.cells #[.string p0,.string p1,.int .i64 p2,.slice x1 y1 z1,.slice x2 y2 z2,.slice x3 y3 z3,.slice x4 y4 z4,.string p3,.int .i64 p4,.string p5,.bool p6] 35) from World.alloc_heap_new w3 _);have HOF:=lH (HOF.out.step (GOff.of (kept_alloc w3 (.cells #[.string p0,.string p1,.int .i64 p2,.slice x1 y1 z1,.slice x2 y2 z2,.slice x3 y3 z3,.slice x4 y4 z4,.string p3,.int .i64 p4,.string p5,.bool p6] 35))));refine Ky.out _ _ (HS.out _ (HP2.out _ J3.out)) (fun _=>?_);clear Ky K9;try simp only  [Act.put,List.setIfInBounds_toArray,List.set_cons_zero,List.set_cons_succ]
         obtain⟨w4,hw4⟩:∃W,w3.alloc (.cells #[.string p0,.string p1,.int .i64 p2,.slice x1 y1 z1,.slice x2 y2 z2,.slice x3 y3 z3,.slice x4 y4 z4,.string p3,.int .i64 p4,.string p5,.bool p6] 35)=W:=⟨_,rfl⟩
         rw[hw4] at J3 HV HOF ⊢;clear hw4;refine wpAnyH_ready  (rs:=[1]) (by kernel_rfl) (by simp) (AllReadyH.cons  (by rw[List.getElem?_toArray];exact rfl) (fun K9 Ky=>?_) AllReadyH.nil);have yq:w4.cell? ⟨w1.heap.size,1,none⟩=some (.slice a2 len9 c2):=(HW.out.kept J3.out).at_ 1 _ rfl;go_simp;refine Ky.out _ _ (HS.out _ (HP2.out _ J3.out)) (fun _=>?_);clear Ky K9 yq;try simp only  [Act.put,List.setIfInBounds_toArray,List.set_cons_zero,List.set_cons_succ]
         refine wpAnyH_ready  (rs:=[10]) (by kernel_rfl) (by simp) (AllReadyH.cons  (by rw[List.getElem?_toArray];exact rfl) (fun K9 Ky=>?_) AllReadyH.nil);go_simp;refine(insClu_any (HC.out.kept J3.out) (⟨p0,p1,p2,q1,q2,q3,q4,p3,p4,p5,p6⟩,(x1,y1,z1),(x2,y2,z2),(x3,y3,z3),(x4,y4,z4)) (i:=placeN p0 l9) (by have:=place_le p0 l9;rw[HL9.out] at this;exact this) HDL.out (by have:=J3.out.size;have:=HS1.out;omega) (fun b hb=>by have:=J3.out.size;have:=HS1.out;rcases hb with hb | hb<;>omega) HV.out (fun e=>by have h1:=((HC.out.kept J2.out).lt _ e).2;omega) HOF.out).mono ?_;rintro e5 w5 ⟨g,c9,rfl,hc5,hg5⟩;have HC5:=lH hc5;have HWX:=lH (((HW.out.kept J3.out)).block (hg5.block _ (by have:=J3.out.size;have:=HS1.out;omega) (fun e=>HC.out.sep _ e (.inr rfl))));have HQX:=lH ((HQ.out.kept J3.out).block (hg5.block _ (by have:=J3.out.size;have:=HS1.out;have:=HZS.out;omega) (fun e=>HC.out.sep _ e (.inl (by have:=HZS.out;omega)))));have HPX:=lH ((HP2.out _ J3.out).block (hg5.block _ (by have:=J3.out.size;have:=HS1.out;have:=HZS.out;omega) (fun e=>HC.out.sep _ e (.inl (by have:=HZS.out;omega)))));have K5:=lH (show Kept w w5 from Below.trans (HKZ.out.trans (K.out.trans J3.out)) (hg5.at_below (B:=w.heap.size) (fun q e=>by have:=(HC.out.lt q e).1;have:=HZS.out;omega) (HKZ.out.trans (K.out.trans J3.out)).size));clear hc5 hg5;refine Ky.out _ _ (HS.out _ HPX.out) (fun _=>?_);clear Ky K9;try simp only  [Act.put,List.setIfInBounds_toArray,List.set_cons_zero,List.set_cons_succ]
         refine wpAnyH_take  (i:=11) (v:=?_) (by rw[List.getElem?_toArray];exact rfl) (by kernel_rfl) (by kernel_rfl) (by kernel_rfl) (by exact fun _ _ _ h=>h) (Or.inl ⟨by rfl,(by rintro W ⟨o0,o1,o2,o3,o4,o5,o6,o7,o8,o9,o10⟩;go_simp<;>with_reducible rfl)⟩) (by assumption) ?_;try simp only  [Act.put,List.setIfInBounds_toArray,List.set_cons_zero,List.set_cons_succ]
         have q1:=HWX.out.at_ 1 _ rfl;have f1:=HWX.out.free 1;refine wpAnyH_ready  (rs:=[12]) (by kernel_rfl) (by simp) (AllReadyH.cons  (by rw[List.getElem?_toArray];exact rfl) (fun K9 Ky=>?_) AllReadyH.nil);go_simp;have HPY:=lH (HPX.out.other (p:=w1.heap.size) (j:=1) (u:=.slice (some ⟨g,0,none⟩) (len9+1) c9) (by have:=HS1.out;have:=HZS.out;omega));have HQY:=lH (HQX.out.other (p:=w1.heap.size) (j:=1) (u:=.slice (some ⟨g,0,none⟩) (len9+1) c9) (by have:=HS1.out;have:=HZS.out;omega));have HWY:=lH (show CellsN w1.heap.size [.slice a1 n1 c1,.slice (some ⟨g,0,none⟩) (len9+1) c9,.slice a3 n3 c3] (w5.setCell ⟨w1.heap.size,1,none⟩ (.slice (some ⟨g,0,none⟩) (len9+1) c9)) from HWX.out.set (j:=1) (by simp));have HC6:=lH (HC5.out.step (GOff.cell (S:=fun b=>b<Z.heap.size∨b=w1.heap.size) w1.heap.size 1 (.slice (some ⟨g,0,none⟩) (len9+1) c9) (.inr rfl)));have K6:=lH (show Kept w (w5.setCell ⟨w1.heap.size,1,none⟩ (.slice (some ⟨g,0,none⟩) (len9+1) c9)) from K5.out.setCell (p:=⟨w1.heap.size,1,none⟩) (by have:=HS1.out;have:=HZS.out;show w.heap.size≤w1.heap.size;omega) _);refine Ky.out _ _ (HS.out _ HPY.out) (fun _=>?_);clear Ky K9 q1 f1;try simp only  [Act.put,List.setIfInBounds_toArray,List.set_cons_zero,List.set_cons_succ]
         refine wpAnyH_done (by kernel_rfl) ?_ _;have y0:=HWY.out.at_ 0 _ rfl;have y1:=HWY.out.at_ 1 _ rfl;have y2:=HWY.out.at_ 2 _ rfl;have z0:=HQY.out.at_ 0 _ rfl;have z1:=HQY.out.at_ 1 _ rfl;have z2:=HQY.out.at_ 2 _ rfl;have f0:=HQY.out.free 0;have f1:=HQY.out.free 1;have f2:=HQY.out.free 2;have PP:=lH (putN (vs:=[.slice a1 n1 c1,.slice (some ⟨g,0,none⟩) (len9+1) c9,.slice a3 n3 c3]) HQY.out rfl);go_wp2;obtain⟨WE,hWE⟩:∃W,(w5.setCell ⟨w1.heap.size,1,none⟩ (.slice (some ⟨g,0,none⟩) (len9+1) c9)).setCells (w.heap.size+2) 0 [.slice a1 n1 c1,.slice (some ⟨g,0,none⟩) (len9+1) c9,.slice a3 n3 c3]=W:=⟨_,rfl⟩
         have hWE2:((((w5.setCell ⟨w1.heap.size,1,none⟩ (.slice (some ⟨g,0,none⟩) (len9+1) c9)).setCell ⟨(w.heap.size+2),0,none⟩ (.slice a1 n1 c1)).setCell ⟨(w.heap.size+2),1,none⟩ (.slice (some ⟨g,0,none⟩) (len9+1) c9)).setCell ⟨(w.heap.size+2),2,none⟩ (.slice a3 n3 c3))=WE:=hWE;rw[hWE] at PP;try rw[hWE2]
         have GE:=lH (show GOff (fun b=>b<Z.heap.size∨b=w1.heap.size) (w5.setCell ⟨w1.heap.size,1,none⟩ (.slice (some ⟨g,0,none⟩) (len9+1) c9)) WE by rw[←hWE];exact GOff.cells (S:=fun b=>b<Z.heap.size∨b=w1.heap.size) _ (.inl (by have:=HZS.out;omega)) _ _ _);clear hWE hWE2;obtain⟨PCC,hsz,hbl,hkp⟩:=PP.out;refine bodyPost_ret (by simp[results,Tryz.results48,go_sem,PCC.at_ 0 _ rfl,PCC.at_ 1 _ rfl,PCC.at_ 2 _ rfl];try rfl) rfl ?_;have HFIN:=(HC6.out.step GE.out).less (B':=w.heap.size) (S':=fun b=>b<w.heap.size) HKZ.out.size (fun b hb=>.inl (Nat.lt_of_lt_of_le hb HKZ.out.size));rw[show l9.take (placeN p0 l9)++⟨p0,p1,p2,q1,q2,q3,q4,p3,p4,p5,p6⟩::l9.drop (placeN p0 l9)=insP ⟨p0,p1,p2,q1,q2,q3,q4,p3,p4,p5,p6⟩ (dropP p0 pl) by rw[←HE9.out];exact place_ins (p:=⟨p0,p1,p2,q1,q2,q3,q4,p3,p4,p5,p6⟩) (l:=l9)] at HFIN;exact⟨_,_,_,_,_,_,_,_,_,rfl,HFIN,hkp _ _ (by omega) K6.out⟩
theorem on_snoc {x:ByteArray} {l:List Pd} {k:Nat} {n:Pd} (h:l[k]?=some n):(l.take (k+1)).filter (fun p=>eqS p.node x)=(l.take k).filter (fun p=>eqS p.node x)++(if eqS n.node x=true then [n] else []):=by
 rw[take_snoc h,List.filter_append];congr 1
 rw[List.filter_cons,List.filter_nil]
theorem onSt_any (a a8 a9:Option Addr) (len cap m8 c8 m9 c9:Nat) (l:List Pd) (x:ByteArray) (w:World) (hr:PodsAt w a len l) (hlow:∀n ∈ l,LowPd n) (hlen:len≤100000) :
 Calls Tryz.prog 87 #[.agg #[.slice a8 m8 c8,.slice a len cap,.slice a9 m9 c9],.string x] w fun e w'=>∃v,e=.returned v∧PodsR w' v (onP x l)∧Kept w w':=by
 have hl:=hr.1;have hm:=hr.2.1;unfold maxLen at hm;obtain⟨i0,hi,hz0,hz1,hz2'⟩:=info_parts infoPd;obtain⟨Z,hZ⟩:∃Z,w.alloc (.cells #[.slice a8 m8 c8,.slice a len cap,.slice a9 m9 c9] 26)=Z:=⟨_,rfl⟩
 have hkz:Kept w Z:=by rw[←hZ];exact kept_alloc _ _
 have hst:Z.cell? ⟨w.heap.size,1,none⟩=some (.slice a len cap):=(freshN w (.slice a8 m8 c8) [.slice a len cap,.slice a9 m9 c9] 26 Z (by rw[hZ];exact Kept.refl _)).at_ 1 _ rfl;have HR:=lH (hr.kept hkz);have HL:=lH hl;have HLOW:=lH hlow;have HKZ:=lH hkz;obtain⟨t,ht⟩:∃t,(x.toList==([]:List UInt8))=t:=⟨_,rfl⟩
 have HNO:=lH (show isNo x=t by rw[no_iff];exact ht);clear hr hl hkz hlow
 cases t with
 | true =>
  have HE:=lH (show onP x l=[] by unfold onP;rw[if_pos HNO.out]);go_enter Tryz.func87,Tryz.ntmps87;go_wp2;try rw[hZ]
  go_ret;exact⟨_,rfl,by rw[HE.out];exact⟨none,0,rfl,Nat.le_refl _,by decide,rfl,by decide,.inl rfl⟩,by first | exact HKZ.out | (rw[hZ];exact HKZ.out)⟩
 | false =>
  have HE:=lH (show onP x l=l.filter (fun p=>eqS p.node x) by unfold onP;rw[if_neg (by rw[HNO.out];decide)]);go_enter Tryz.func87,Tryz.ntmps87;go_wp2;try rw[hZ]
  clear hZ hst ht;go_loopw [5,13] (fun v i wr=>∃k:Nat,k≤len∧i=.int .i64 k∧∃lx:List PX,(lx.map fun z=>z.1)=(l.take k).filter (fun p=>eqS p.node x)∧lx.length≤k∧Deep PodLay0 35 At4 wr Z.heap.size v lx∧Kept Z wr) (fun _ i _=>len-(intOf i).toNat)
  case atStart=>exact⟨0,Nat.zero_le _,rfl,[],rfl,Nat.le_refl _,⟨Own.nil _ _ _,fun z h=>by cases h⟩,Kept.refl _⟩
  case round =>
   obtain⟨k,hk,rfl,lx,hlx,hll,hdp,hK⟩:=hrel;have HX:=lH hlx;have HLL:=lH hll;have HD:=lH hdp;have HK:=lH hK;by_cases hlt:k<len
   · obtain⟨b,off,rfl⟩:=HR.out.form.resolve_left (by omega);obtain⟨n,a1,m1,c1,a2,m2,c2,a3,m3,c3,a4,m4,c4,hn,hd,hb,p0,p1,p2,p3,p4,p5,p6,p7,p8,p9,p10,hat⟩:=(HR.out.kept hK).at_ hlt;have HN:=lH hn;have HAT:=lH hat;obtain⟨t,ht⟩:∃t,eqS n.node x=t:=⟨_,rfl⟩
     have ht':(n.node.toList==x.toList)=t:=ht;have HT:=lH ht;have hkk:(k:Int)<(len:Int):=by omega
     clear hlx hll hdp hK hat hd hn ht
     cases t with
     | false =>
      have HX2:=lH (show (lx.map fun z=>z.1)=(l.take (k+1)).filter (fun p=>eqS p.node x) by rw[on_snoc HN.out,if_neg (by rw[HT.out];decide),List.append_nil];exact HX.out);go_wp2;go_roundw
      case rel=>exact⟨k+1,by omega,by go_num,lx,HX2.out,by have:=HLL.out;omega,HD.out.kept (kept_alloc _ _),HK.out.trans (kept_alloc _ _)⟩
      case measure=>simp[intOf];omega
     | true =>
      have HOW:=lH (show ∀W,Kept wr W→_ from fun W kk=>ownedPod_any n (.slice a1 m1 c1) (.slice a2 m2 c2) (.slice a3 m3 c3) (.slice a4 m4 c4) W (HAT.out.kept kk) (HLOW.out n (List.mem_of_getElem? HN.out)));unfold PodV at HOW;obtain⟨len1,hlen1⟩:∃q,lx.length=q:=⟨_,rfl⟩
      have HL1:=lH hlen1;rw[hlen1] at HLL;clear hlen1;go_wp2_with fail
      refine(HOW.out _ (kept_alloc _ _)).mono ?_;rintro e w1 ⟨v,rfl,hv,kk⟩;obtain⟨x1,y1,z1,x2,y2,z2,x3,y3,z3,x4,y4,z4,hv9,sp,g1,g2,g3,g4⟩:=hv;have hv9:v=.agg #[.string n.name,.string n.owner,.int .i64 n.prio,.slice x1 y1 z1,.slice x2 y2 z2,.slice x3 y3 z3,.slice x4 y4 z4,.string n.key,.int .i64 n.most,.string n.node,.bool n.hold]:=hv9;subst hv9;have KW:=lH ((kept_alloc wr _).trans kk);have hbase:Z.heap.size≤wr.heap.size:=HK.out.size;have HOF:=lH (show Off (fun b=>u5.ownBlock=some b) w1 fun u=>At4 u (n,(x1,y1,z1),(x2,y2,z2),(x3,y3,z3),(x4,y4,z4)) from PodAt.off (B:=wr.heap.size+1) sp (by rw[World.size_alloc] at g1;exact g1) (by rw[World.size_alloc] at g2;exact g2) (by rw[World.size_alloc] at g3;exact g3) (by rw[World.size_alloc] at g4;exact g4) (fun b hb h=>by have:=(own_lt HD.out.own b h).2;omega));have HD1:=lH (HD.out.kept KW.out);have HOWN:=lH (show w1.ownsRow Z.heap.size 35 11 u5 len1 (rowCells PodLay0 lx) by have:=HD1.out.own.1;rw[HL1.out] at this;exact this);have hs1:wr.heap.size≤w1.heap.size:=KW.out.size;clear kk sp g1 g2 g3 g4;go_wp2_with (at_builtin;refine wpList_append_lies _ rfl _ _ _ rfl Z.heap.size 35 i0 _ 11 184 Tryz.underlying23 hi hz0 hz1 hz2' rfl (by decide) u5 len1 (rowCells PodLay0 lx) rfl (HOWN.out.alloc _) ⟨w1.heap.size,0,none⟩ 1 1 (PodLay0.cs (n,(x1,y1,z1),(x2,y2,z2),(x3,y3,z3),(x4,y4,z4))) rfl rfl (World.news_of_block (cs:=#[.string n.name,.string n.owner,.int .i64 n.prio,.slice x1 y1 z1,.slice x2 y2 z2,.slice x3 y3 z3,.slice x4 y4 z4,.string n.key,.int .i64 n.most,.string n.node,.bool n.hold]) (t:=35) (fr:=(0,0)) (heap_alloc_new w1 _)) (one_pod0 _) (by decide) (by unfold maxLen;have:=HLL.out;omega) (by have:=HLL.out;omega) (by simp;omega) (w1.heap.size+1) (by simp) ?_;intro gg cap1 w2 hown1 hgrow hat hlt1)
      have GG:=lH (GOff.grown (S:=fun b=>u5.ownBlock=some b) hgrow fun q e=>e);have hnn:∀q,(Value.slice (some ⟨gg,0,none⟩) (len1+1) cap1).ownBlock=some q→u5.ownBlock=some q∨(w1.alloc (.cells #[.string n.name,.string n.owner,.int .i64 n.prio,.slice x1 y1 z1,.slice x2 y2 z2,.slice x3 y3 z3,.slice x4 y4 z4,.string n.key,.int .i64 n.most,.string n.node,.bool n.hold] 35)).heap.size≤q:=fun q hq=>by
       obtain rfl:gg=q:=Option.some.inj hq;exact hat.imp id fun e=>by rw[World.size_alloc];omega
      have HDN:=lH (show Deep PodLay0 35 At4 w2 Z.heap.size (.slice (some ⟨gg,0,none⟩) (len1+1) cap1) (lx++[(n,(x1,y1,z1),(x2,y2,z2),(x3,y3,z3),(x4,y4,z4))]) from⟨Own.snoc hown1 (by rw[HL1.out]) HD.out.own.2 trivial,fun z hz=>by
       rcases List.mem_append.1 hz with hz | hz
       · exact(((HD1.out.off z hz).step (GOff.of (kept_alloc w1 (.cells #[.string n.name,.string n.owner,.int .i64 n.prio,.slice x1 y1 z1,.slice x2 y2 z2,.slice x3 y3 z3,.slice x4 y4 z4,.string n.key,.int .i64 n.most,.string n.node,.bool n.hold] 35)))).new GG.out fun b e=>hnn b e)
       · obtain rfl:=List.mem_singleton.1 hz;exact((HOF.out.step (GOff.of (kept_alloc w1 (.cells #[.string n.name,.string n.owner,.int .i64 n.prio,.slice x1 y1 z1,.slice x2 y2 z2,.slice x3 y3 z3,.slice x4 y4 z4,.string n.key,.int .i64 n.most,.string n.node,.bool n.hold] 35)))).new GG.out fun b e=>hnn b e)⟩)
      have HKN:=lH (show Kept Z w2 from Below.mono (show Below Z.heap.size Z w2 from Below.trans (HK.out.trans (KW.out.trans (kept_alloc w1 (.cells #[.string n.name,.string n.owner,.int .i64 n.prio,.slice x1 y1 z1,.slice x2 y2 z2,.slice x3 y3 z3,.slice x4 y4 z4,.string n.key,.int .i64 n.most,.string n.node,.bool n.hold] 35)))) (GG.out.at_below (B:=Z.heap.size) (fun q e=>(own_lt HD.out.own q e).1) (by have h1:=HK.out.size;rw[World.size_alloc];omega))) (Nat.le_refl _));have HX2:=lH (show ((lx++[(n,(x1,y1,z1),(x2,y2,z2),(x3,y3,z3),(x4,y4,z4))]).map fun z=>z.1)=(l.take (k+1)).filter (fun p=>eqS p.node x) by rw[on_snoc HN.out,if_pos HT.out,List.map_append,HX.out];rfl);clear hown1 hgrow hat hlt1 hnn hs1 hbase;go_wp2;go_roundw
      case rel=>exact⟨k+1,by omega,by go_num,_,HX2.out,by rw[List.length_append,HL1.out];have:=HLL.out;simp;omega,HDN.out,HKN.out⟩
      case measure=>simp[intOf];omega
   · have HK9:=lH (show l.take k=l by rw[List.take_of_length_le (by rw[HL.out];omega)]);have HRES:=lH (show PodsR wr u5 (onP x l) by have:=ownAt_pods HD.out;rw[HX.out,HK9.out,←HE.out] at this;exact this);clear hlx hll hdp hK;go_wp2;go_ret;exact⟨_,rfl,HRES.out,HKZ.out.trans HK.out⟩
def nodK (x:ByteArray) (c:Int):Nod:=⟨x,[(⟨#[99,112,117]⟩,c)],[],[],false⟩
def podK (x:ByteArray) (c:Int) (y:ByteArray):Pd:=⟨x,⟨#[]⟩,0,[(⟨#[99,112,117]⟩,c)],[],[],[],⟨#[]⟩,0,y,false⟩
theorem one_amount (w:World) (c:Int) (h:-9223372036854775808≤c∧c≤9223372036854775807) (W:World) (k:Kept (w.alloc (.cells #[.string ⟨#[99,112,117]⟩,.int .i64 c] 103)) W):Vec.Reads W (.slice (some ⟨w.heap.size,0,none⟩) 1 1) [(⟨#[99,112,117]⟩,c)]:=by
 have cc:=freshN w (.string ⟨#[99,112,117]⟩) [.int .i64 c] 103 W k;refine⟨_,1,rfl,(by decide:(1:Nat)≤1),(by decide:(1:Nat)≤maxLen),rfl,(by decide:(1:Nat)≤maxLen),fun i hi=>?_,.inr ⟨w.heap.size,0,rfl,cc.lt,fun i hi=>?_⟩⟩
 · obtain rfl:i=0:=by simpa using hi
   exact⟨(by decide:(3:Nat)≤maxLen),h.1,h.2⟩
 · obtain rfl:i=0:=by simpa using hi
   exact⟨cc.at_ 0 _ rfl,cc.at_ 1 _ rfl⟩
theorem lawN_far (x:ByteArray) (c:Int) (hc:-9223372036854775808≤c∧c≤9223372036854775807) (hx:x.size≤maxLen) (w:World) :
 Calls Tryz.prog 16 #[.string x,.int .i64 c] w fun e w'=>∃b1 n1 d1,e=.returned (.agg #[.string x,.slice b1 n1 d1,.slice none 0 0,.slice none 0 0,.bool false])∧NodAt w' (.slice b1 n1 d1) (.slice none 0 0) (.slice none 0 0) (nodK x c)∧Kept w w'∧∀b o z,b1=some ⟨b,o,z⟩→w.heap.size<b:=by
 have cc:=freshN w (.string ⟨#[]⟩) [.slice none 0 0,.slice none 0 0,.slice none 0 0,.bool false] 55 _ (Kept.refl _);obtain⟨W0,hW0⟩:∃W,w.alloc (.cells #[.string ⟨#[]⟩,.slice none 0 0,.slice none 0 0,.slice none 0 0,.bool false] 55)=W:=⟨_,rfl⟩
 have hs:W0.heap.size=w.heap.size+1:=by rw[←hW0];simp
 rw[hW0] at cc;obtain⟨W1,hW1⟩:∃W,W0.alloc (.cells #[.string ⟨#[99,112,117]⟩,.int .i64 c] 103)=W:=⟨_,rfl⟩
 have HR:=lH (one_amount W0 c hc W1 (by rw[hW1];exact Kept.refl _));rw[hs] at HR;have c1:=cc.kept (W':=W1) (by rw[←hW1];exact kept_alloc _ _);have KW:=lH (show Kept w W1 by rw[←hW1,←hW0];exact kept_two _ _ _);have y0:=c1.at_ 0 _ rfl;have y1:=c1.at_ 1 _ rfl;have y2:=c1.at_ 2 _ rfl;have y3:=c1.at_ 3 _ rfl;have y4:=c1.at_ 4 _ rfl;have f0:=c1.free 0;have f1:=c1.free 1;have f2:=c1.free 2;have f3:=c1.free 3;have f4:=c1.free 4;have P:=lH (putN (vs:=[.string x,.slice (some ⟨w.heap.size+1,0,none⟩) 1 1,.slice none 0 0,.slice none 0 0,.bool false]) c1 rfl);clear c1 cc;go_enter Tryz.func16,Tryz.ntmps16;go_wp2;try rw[hW0]
 try rw[hW1]
 obtain⟨WE,hWE⟩:∃W,W1.setCells w.heap.size 0 [.string x,.slice (some ⟨w.heap.size+1,0,none⟩) 1 1,.slice none 0 0,.slice none 0 0,.bool false]=W:=⟨_,rfl⟩
 have hWE2:(((((W1.setCell ⟨w.heap.size,0,none⟩ (.string x)).setCell ⟨w.heap.size,1,none⟩ (.slice (some ⟨w.heap.size+1,0,none⟩) 1 1)).setCell ⟨w.heap.size,2,none⟩ (.slice none 0 0)).setCell ⟨w.heap.size,3,none⟩ (.slice none 0 0)).setCell ⟨w.heap.size,4,none⟩ (.bool false))=WE:=hWE;rw[hWE] at P;try rw[hWE2]
 clear hWE hWE2;obtain⟨PC,hsz,hbl,hkp⟩:=P.out;refine bodyPost_ret (by simp[results,Tryz.results16,go_sem,PC.at_ 0 _ rfl,PC.at_ 1 _ rfl,PC.at_ 2 _ rfl,PC.at_ 3 _ rfl,PC.at_ 4 _ rfl];try rfl) rfl ?_;exact⟨_,_,_,rfl,⟨hx,(HR.out.far hsz (fun b o s e=>hbl b (by cases e;omega))),Reads.nil _,Reads.nil _⟩,hkp _ _ (Nat.le_refl _) KW.out,fun b o z e=>by cases e;omega⟩
theorem lawN_any (x:ByteArray) (c:Int) (hc:-9223372036854775808≤c∧c≤9223372036854775807) (hx:x.size≤maxLen) (w:World) :
 Calls Tryz.prog 16 #[.string x,.int .i64 c] w fun e w'=>∃b1 n1 d1,e=.returned (.agg #[.string x,.slice b1 n1 d1,.slice none 0 0,.slice none 0 0,.bool false])∧NodAt w' (.slice b1 n1 d1) (.slice none 0 0) (.slice none 0 0) (nodK x c)∧Kept w w' :=
 (lawN_far x c hc hx w).mono fun e w' ⟨b,n,d,h1,h2,h3,_⟩=>⟨b,n,d,h1,h2,h3⟩
theorem lawP_far (x:ByteArray) (c:Int) (y:ByteArray) (hc:-9223372036854775808≤c∧c≤9223372036854775807) (hx:x.size≤maxLen) (hy:y.size≤maxLen) (w:World) :
 Calls Tryz.prog 17 #[.string x,.int .i64 c,.string y] w fun e w'=>∃b1 n1 d1,e=.returned (.agg #[.string x,.string ⟨#[]⟩,.int .i64 0,.slice b1 n1 d1,.slice none 0 0,.slice none 0 0,.slice none 0 0,.string ⟨#[]⟩,.int .i64 0,.string y,.bool false])∧PodAt w' (.slice b1 n1 d1) (.slice none 0 0) (.slice none 0 0) (.slice none 0 0) (podK x c y)∧Kept w w'∧∀b o z,b1=some ⟨b,o,z⟩→w.heap.size<b:=by
 have cc:=freshN w (.string ⟨#[]⟩) [.string ⟨#[]⟩,.int .i64 0,.slice none 0 0,.slice none 0 0,.slice none 0 0,.slice none 0 0,.string ⟨#[]⟩,.int .i64 0,.string ⟨#[]⟩,.bool false] 35 _ (Kept.refl _);obtain⟨W0,hW0⟩:∃W,w.alloc (.cells #[.string ⟨#[]⟩,.string ⟨#[]⟩,.int .i64 0,.slice none 0 0,.slice none 0 0,.slice none 0 0,.slice none 0 0,.string ⟨#[]⟩,.int .i64 0,.string ⟨#[]⟩,.bool false] 35)=W:=⟨_,rfl⟩
 have hs:W0.heap.size=w.heap.size+1:=by rw[←hW0];simp
 rw[hW0] at cc;obtain⟨W1,hW1⟩:∃W,W0.alloc (.cells #[.string ⟨#[99,112,117]⟩,.int .i64 c] 103)=W:=⟨_,rfl⟩
 have HR:=lH (one_amount W0 c hc W1 (by rw[hW1];exact Kept.refl _));rw[hs] at HR;have c1:=cc.kept (W':=W1) (by rw[←hW1];exact kept_alloc _ _);have KW:=lH (show Kept w W1 by rw[←hW1,←hW0];exact kept_two _ _ _);have y0:=c1.at_ 0 _ rfl;have y1:=c1.at_ 1 _ rfl;have y2:=c1.at_ 2 _ rfl;have y3:=c1.at_ 3 _ rfl;have y4:=c1.at_ 4 _ rfl;have y5:=c1.at_ 5 _ rfl;have y6:=c1.at_ 6 _ rfl;have y7:=c1.at_ 7 _ rfl;have y8:=c1.at_ 8 _ rfl;have y9:=c1.at_ 9 _ rfl;have y10:=c1.at_ 10 _ rfl;have f0:=c1.free 0;have f1:=c1.free 1;have f2:=c1.free 2;have f3:=c1.free 3;have f4:=c1.free 4;have f5:=c1.free 5;have f6:=c1.free 6;have f7:=c1.free 7;have f8:=c1.free 8;have f9:=c1.free 9;have f10:=c1.free 10;have P:=lH (putN (vs:=[.string x,.string ⟨#[]⟩,.int .i64 0,.slice (some ⟨w.heap.size+1,0,none⟩) 1 1,.slice none 0 0,.slice none 0 0,.slice none 0 0,.string ⟨#[]⟩,.int .i64 0,.string y,.bool false]) c1 rfl);clear c1 cc;go_enter Tryz.func17,Tryz.ntmps17;go_wp2;try rw[hW0]
 try rw[hW1]
 obtain⟨WE,hWE⟩:∃W,W1.setCells w.heap.size 0 [.string x,.string ⟨#[]⟩,.int .i64 0,.slice (some ⟨w.heap.size+1,0,none⟩) 1 1,.slice none 0 0,.slice none 0 0,.slice none 0 0,.string ⟨#[]⟩,.int .i64 0,.string y,.bool false]=W:=⟨_,rfl⟩
 have hWE2:(((((((((((W1.setCell ⟨w.heap.size,0,none⟩ (.string x)).setCell ⟨w.heap.size,1,none⟩ (.string ⟨#[]⟩)).setCell ⟨w.heap.size,2,none⟩ (.int .i64 0)).setCell ⟨w.heap.size,3,none⟩ (.slice (some ⟨w.heap.size+1,0,none⟩) 1 1)).setCell ⟨w.heap.size,4,none⟩ (.slice none 0 0)).setCell ⟨w.heap.size,5,none⟩ (.slice none 0 0)).setCell ⟨w.heap.size,6,none⟩ (.slice none 0 0)).setCell ⟨w.heap.size,7,none⟩ (.string ⟨#[]⟩)).setCell ⟨w.heap.size,8,none⟩ (.int .i64 0)).setCell ⟨w.heap.size,9,none⟩ (.string y)).setCell ⟨w.heap.size,10,none⟩ (.bool false))=WE:=hWE;rw[hWE] at P;try rw[hWE2]
 clear hWE hWE2;obtain⟨PC,hsz,hbl,hkp⟩:=P.out;refine bodyPost_ret (by simp[results,Tryz.results17,go_sem,PC.at_ 0 _ rfl,PC.at_ 1 _ rfl,PC.at_ 2 _ rfl,PC.at_ 3 _ rfl,PC.at_ 4 _ rfl,PC.at_ 5 _ rfl,PC.at_ 6 _ rfl,PC.at_ 7 _ rfl,PC.at_ 8 _ rfl,PC.at_ 9 _ rfl,PC.at_ 10 _ rfl];try rfl) rfl ?_;exact⟨_,_,_,rfl,⟨hx,(by decide:(0:Nat)≤maxLen),(by decide:(0:Nat)≤maxLen),hy,(by decide:(-9223372036854775808:Int)≤0∧(0:Int)≤9223372036854775807),(by decide:(-9223372036854775808:Int)≤0∧(0:Int)≤9223372036854775807),(HR.out.far hsz (fun b o s e=>hbl b (by cases e;omega))),Reads.nil _,Reads.nil _,Reads.nil _⟩,hkp _ _ (Nat.le_refl _) KW.out,fun b o z e=>by cases e;omega⟩
theorem row_fresh {X:Type} {L:Lay X} {lx:List X} {q:Nat} {v:Value} {vs:List Value} {W:World} (hc:rowCells L lx=v::vs) (c:CellsN q (v::vs) W) (hf:∀x ∈ lx,L.fine x) (hm:lx.length≤maxLen):RowAt L W (some ⟨q,0,none⟩) lx.length lx :=
 ⟨rfl,hm,hf,.inr ⟨q,0,rfl,c.lt,fun i x j u hi hj=>by
  have:=rowCells_at L lx i x j u hi hj;rw[hc] at this;rw[Nat.zero_add];exact c.at_ _ u this⟩⟩
theorem nodes_row {w:World} {a:Option Addr} {len:Nat} {lx:List NX} (h:RowAt NodLay0 w a len lx) (hf:∀z ∈ lx,At3 w z):NodesAt w a len (lx.map fun z=>z.1):=by
 obtain⟨g0,g1,g2,g3⟩:=h;refine⟨by rw[List.length_map];exact g0,g1,g3.imp id ?_⟩;rintro ⟨b,off,rfl,hb,hc⟩;refine⟨b,off,rfl,hb,fun i n hi=>?_⟩;rw[List.getElem?_map] at hi;obtain⟨z,hz,rfl⟩:=Option.map_eq_some_iff.1 hi;exact⟨_,_,_,_,_,_,_,_,_,hc i z 0 _ hz rfl,hc i z 1 _ hz rfl,hc i z 2 _ hz rfl,hc i z 3 _ hz rfl,hc i z 4 _ hz rfl,hf z (List.mem_of_getElem? hz)⟩
theorem pods_row {w:World} {a:Option Addr} {len:Nat} {lx:List PX} (h:RowAt PodLay0 w a len lx) (hf:∀z ∈ lx,At4 w z):PodsAt w a len (lx.map fun z=>z.1):=by
 obtain⟨g0,g1,g2,g3⟩:=h;refine⟨by rw[List.length_map];exact g0,g1,g3.imp id ?_⟩;rintro ⟨b,off,rfl,hb,hc⟩;refine⟨b,off,rfl,hb,fun i n hi=>?_⟩;rw[List.getElem?_map] at hi;obtain⟨z,hz,rfl⟩:=Option.map_eq_some_iff.1 hi;exact⟨_,_,_,_,hc i z 0 _ hz rfl,hc i z 1 _ hz rfl,hc i z 2 _ hz rfl,hc i z 3 _ hz rfl,hc i z 4 _ hz rfl,hc i z 5 _ hz rfl,hc i z 6 _ hz rfl,hc i z 7 _ hz rfl,hc i z 8 _ hz rfl,hc i z 9 _ hz rfl,hc i z 10 _ hz rfl,hf z (List.mem_of_getElem? hz)⟩
theorem buds_none (w:World):BudsAt w none 0 []:=⟨rfl,by decide,.inl rfl⟩
theorem lawP_any (x:ByteArray) (c:Int) (y:ByteArray) (hc:-9223372036854775808≤c∧c≤9223372036854775807) (hx:x.size≤maxLen) (hy:y.size≤maxLen) (w:World) :
 Calls Tryz.prog 17 #[.string x,.int .i64 c,.string y] w fun e w'=>∃b1 n1 d1,e=.returned (.agg #[.string x,.string ⟨#[]⟩,.int .i64 0,.slice b1 n1 d1,.slice none 0 0,.slice none 0 0,.slice none 0 0,.string ⟨#[]⟩,.int .i64 0,.string y,.bool false])∧PodAt w' (.slice b1 n1 d1) (.slice none 0 0) (.slice none 0 0) (.slice none 0 0) (podK x c y)∧Kept w w' :=
 (lawP_far x c y hc hx hy w).mono fun e w' ⟨b,n,d,h1,h2,h3,_⟩=>⟨b,n,d,h1,h2,h3⟩
def riN:List Nod:=[nodK ⟨#[97]⟩ 100,nodK ⟨#[98]⟩ 100]
def riPA (x:Nat):List Pd:=if x=0 then [] else [podK ⟨#[112]⟩ x ⟨#[97]⟩]
def riPB (y:Nat):List Pd:=if y=0 then [] else [podK ⟨#[113]⟩ y ⟨#[98]⟩]
def riS (x y:Nat):Clu:=⟨riN,riPA x++riPB y,[]⟩
def riZ (n:Nat):Pd:=if n=0 then { Pd.zero with name:=⟨#[122]⟩ } else podK ⟨#[122]⟩ n ⟨#[]⟩
def riU (t:Nat):Vec.V:=if t=0 then [] else [(⟨#[99,112,117]⟩,(t:Int))]
theorem riZ_need (n:Nat):(riZ n).need=riU n:=by unfold riZ riU;split<;>rfl
theorem riZ_name (n:Nat):(riZ n).name=⟨#[122]⟩:=by unfold riZ;split<;>rfl
theorem riZ_key (n:Nat):(riZ n).key=⟨#[]⟩:=by unfold riZ;split<;>rfl
theorem riZ_sel (n:Nat):(riZ n).sel=[]:=by unfold riZ;split<;>rfl
theorem riZ_tols (n:Nat):(riZ n).tols=[]:=by unfold riZ;split<;>rfl
theorem ri_add:∀x,x<40→∀n,n<20→Vec.mergedV Vec.addF (riU x) (riU n)=(0,riU (x+n)):=by decide +kernel
theorem ri_add0:∀x,x<40→Vec.mergedV Vec.addF [] (riU x)=(0,riU x):=by decide +kernel
theorem ri_sub:∀x,x<40→Vec.mergedV Vec.subF [(⟨#[99,112,117]⟩,100)] (riU x)=(0,[(⟨#[99,112,117]⟩,100-(x:Int))]):=by decide +kernel
theorem ri_fit:∀x:Nat,x<40→∀n,n<20→Vec.fitsFrom [(⟨#[99,112,117]⟩,100-(x:Int))] (riU n)=true:=by decide +kernel
theorem ri_get (t:Nat):Vec.getV (riU t) ⟨#[99,112,117]⟩=(t:Int):=by
 unfold riU;split
 · rename_i h;subst h;rfl
 · exact Vec.get_same _ _
theorem ri_useA {x y:Nat} (hx:x<40):useV ⟨#[97]⟩ (riS x y).pods []=(0,riU x):=by
 have hb:useV ⟨#[97]⟩ (riPB y) (riU x)=(0,riU x):=by
  unfold riPB;split
  · rfl
  · rw[useV_skip (show eqS ⟨#[98]⟩ ⟨#[97]⟩=false by decide +kernel)];rfl
 show useV ⟨#[97]⟩ (riPA x++riPB y) []=_;by_cases h:x=0
 · subst h;exact hb
 · rw[show riPA x=[podK ⟨#[112]⟩ x ⟨#[97]⟩] from if_neg h,List.singleton_append,useV_add (m:=riU x) (show eqS ⟨#[97]⟩ ⟨#[97]⟩=true by decide +kernel) (by rw[show (podK ⟨#[112]⟩ x ⟨#[97]⟩).need=riU x by unfold riU;rw[if_neg h];rfl];exact ri_add0 x hx),hb]
theorem ri_useB {x y:Nat} (hy:y<40):useV ⟨#[98]⟩ (riS x y).pods []=(0,riU y):=by
 have hb:useV ⟨#[98]⟩ (riPB y) []=(0,riU y):=by
  by_cases h:y=0
  · subst h;rfl
  · rw[show riPB y=[podK ⟨#[113]⟩ y ⟨#[98]⟩] from if_neg h,useV_add (m:=riU y) (show eqS ⟨#[98]⟩ ⟨#[98]⟩=true by decide +kernel) (by rw[show (podK ⟨#[113]⟩ y ⟨#[98]⟩).need=riU y by unfold riU;rw[if_neg h];rfl];exact ri_add0 y hy)];rfl
 show useV ⟨#[98]⟩ (riPA x++riPB y) []=_;by_cases h:x=0
 · subst h;exact hb
 · rw[show riPA x=[podK ⟨#[112]⟩ x ⟨#[97]⟩] from if_neg h,List.singleton_append,useV_skip (show eqS ⟨#[97]⟩ ⟨#[98]⟩=false by decide +kernel),hb]
theorem ri_drop (x y n:Nat):dropSt (riS x y) (riZ n).name=riS x y:=by
 rw[riZ_name];unfold riS dropSt;dsimp only;congr 1
 unfold riPA riPB;split<;>split<;>kernel_rfl
theorem ri_findA (x y:Nat):findN (riS x y).nodes ⟨#[97]⟩=some (nodK ⟨#[97]⟩ 100):=by kernel_rfl
theorem ri_fitsA {x y n:Nat} (hx:x<40) (hn:n<20):fitS (riS x y) (riZ n) ⟨#[97]⟩=0:=by
 have hf:=ri_findA x y;have hu:(useV (nodK ⟨#[97]⟩ 100).name (riS x y).pods [])=(0,riU x):=ri_useA hx;have hfr:freeSt (riS x y) ⟨#[97]⟩=(0,[(⟨#[99,112,117]⟩,100-(x:Int))]):=by
  unfold freeSt;rw[hf];dsimp only;rw[hu];exact(if_pos rfl).trans (ri_sub x hx)
 unfold fitS;rw[ri_drop,reason_some hf];refine reasonN_ok ?_ ?_ ?_ ?_
 · unfold wantedB;rw[riZ_sel];rfl
 · unfold borneB;rw[riZ_tols];rfl
 · unfold crowdB;rw[riZ_key];exact if_pos (by decide +kernel)
 · unfold roomB;rw[hfr,riZ_need];exact ri_fit x hx n hn
theorem ri_findB (x y:Nat):findN (riS x y).nodes ⟨#[98]⟩=some (nodK ⟨#[98]⟩ 100):=by kernel_rfl
theorem ri_fitsB {x y n:Nat} (hy:y<40) (hn:n<20):fitS (riS x y) (riZ n) ⟨#[98]⟩=0:=by
 have hf:=ri_findB x y;have hu:(useV (nodK ⟨#[98]⟩ 100).name (riS x y).pods [])=(0,riU y):=ri_useB hy;have hfr:freeSt (riS x y) ⟨#[98]⟩=(0,[(⟨#[99,112,117]⟩,100-(y:Int))]):=by
  unfold freeSt;rw[hf];dsimp only;rw[hu];exact(if_pos rfl).trans (ri_sub y hy)
 unfold fitS;rw[ri_drop,reason_some hf];refine reasonN_ok ?_ ?_ ?_ ?_
 · unfold wantedB;rw[riZ_sel];rfl
 · unfold borneB;rw[riZ_tols];rfl
 · unfold crowdB;rw[riZ_key];exact if_pos (by decide +kernel)
 · unfold roomB;rw[hfr,riZ_need];exact ri_fit y hy n hn
theorem ri_fitsL {x y n:Nat} (hx:x<40) (hy:y<40) (hn:n<20):fitsL (riS x y) (riZ n) (riS x y).nodes=[⟨#[97]⟩,⟨#[98]⟩]:=by
 unfold fitsL;show ((([nodK ⟨#[97]⟩ 100,nodK ⟨#[98]⟩ 100]:List Nod)).filter _).map _=_;rw[List.filter_cons_of_pos (by exact decide_eq_true (ri_fitsA (y:=y) hx hn)),List.filter_cons_of_pos (by exact decide_eq_true (ri_fitsB (x:=x) hy hn))];rfl
def riF (t:Nat):Option Nat:=meanO [ratN (t:Int) 100]
theorem ri_up:∀t,t<59→rankO (riF t)<rankO (riF (t+1)):=by decide +kernel
theorem ri_mono {s t:Nat} (h:s<t) (ht:t<60):rankO (riF s)<rankO (riF t):=by
 induction t with
 | zero=>omega
 | succ t ih =>
  have h1:=ri_up t (by omega);by_cases e:s=t
  · subst e;exact h1
  · exact Int.lt_trans (ih (by omega) (by omega)) h1
theorem ri_mean {T:Clu} {N:ByteArray} {t:Nat} (hf:findN T.nodes N=some (nodK N 100)) (hu:useV N T.pods []=(0,riU t)):meanS T N=riF t:=by
 unfold meanS nodeZ usageS nodeZ usedSt;rw[hf];show meanO [ratN (Vec.getV (useV N T.pods []).2 ⟨#[99,112,117]⟩) (Vec.getV [(⟨#[99,112,117]⟩,100)] ⟨#[99,112,117]⟩)]=_;rw[hu];show meanO [ratN (Vec.getV (riU t) ⟨#[99,112,117]⟩) _]=_;rw[ri_get,show Vec.getV [(⟨#[99,112,117]⟩,(100:Int))] ⟨#[99,112,117]⟩=100 from Vec.get_same _ _];rfl
theorem ri_onA (x y:Nat):aloneS (riS x y) ⟨#[97]⟩=⟨[nodK ⟨#[97]⟩ 100],riPA x,[]⟩:=by
 unfold aloneS nodeZ;rw[ri_findA];show (⟨[nodK ⟨#[97]⟩ 100],onP ⟨#[97]⟩ (riPA x++riPB y),[]⟩:Clu)=_;congr 1
 unfold riPA riPB;split<;>split<;>kernel_rfl
theorem ri_putA (x y n:Nat):putSt ⟨[nodK ⟨#[97]⟩ 100],riPA x,[]⟩ { riZ n with node:=⟨#[97]⟩ }=⟨[nodK ⟨#[97]⟩ 100],riPA x++[{ riZ n with node:=⟨#[97]⟩ }],[]⟩:=by
 unfold riZ;try unfold riPA
 try unfold riPB
 split<;>split<;>kernel_rfl
theorem ri_scoreA {x y n:Nat} (hx:x<40) (hn:n<20):scoreS (riS x y) (riZ n) ⟨#[97]⟩=riF (x+n):=by
 unfold scoreS;rw[ri_onA,ri_putA x y n];refine ri_mean (by kernel_rfl) ?_;have hz:∀v m,Vec.mergedV Vec.addF v (riU n)=(0,m)→useV ⟨#[97]⟩ [{ riZ n with node:=⟨#[97]⟩ }] v=(0,m):=fun v m h=>by
  rw[useV_add (m:=m) (by exact eqS_self _) (by show Vec.mergedV Vec.addF v (riZ n).need=_;rw[riZ_need];exact h)];rfl
 show useV ⟨#[97]⟩ (riPA x++[{ riZ n with node:=⟨#[97]⟩ }]) []=_;by_cases h:x=0
 · subst h;rw[Nat.zero_add];exact hz [] _ (ri_add0 n (by omega))
 · rw[show riPA x=[podK ⟨#[112]⟩ x ⟨#[97]⟩] from if_neg h,List.singleton_append,useV_add (m:=riU x) (show eqS ⟨#[97]⟩ ⟨#[97]⟩=true by decide +kernel) (by rw[show (podK ⟨#[112]⟩ x ⟨#[97]⟩).need=riU x by unfold riU;rw[if_neg h];rfl];exact ri_add0 x hx)];exact hz _ _ (ri_add x hx n hn)
theorem ri_onB (x y:Nat):aloneS (riS x y) ⟨#[98]⟩=⟨[nodK ⟨#[98]⟩ 100],riPB y,[]⟩:=by
 unfold aloneS nodeZ;rw[ri_findB];show (⟨[nodK ⟨#[98]⟩ 100],onP ⟨#[98]⟩ (riPA x++riPB y),[]⟩:Clu)=_;congr 1
 unfold riPA riPB;split<;>split<;>kernel_rfl
theorem ri_putB (x y n:Nat):putSt ⟨[nodK ⟨#[98]⟩ 100],riPB y,[]⟩ { riZ n with node:=⟨#[98]⟩ }=⟨[nodK ⟨#[98]⟩ 100],riPB y++[{ riZ n with node:=⟨#[98]⟩ }],[]⟩:=by
 unfold riZ;try unfold riPA
 try unfold riPB
 split<;>split<;>kernel_rfl
theorem ri_scoreB {x y n:Nat} (hy:y<40) (hn:n<20):scoreS (riS x y) (riZ n) ⟨#[98]⟩=riF (y+n):=by
 unfold scoreS;rw[ri_onB,ri_putB x y n];refine ri_mean (by kernel_rfl) ?_;have hz:∀v m,Vec.mergedV Vec.addF v (riU n)=(0,m)→useV ⟨#[98]⟩ [{ riZ n with node:=⟨#[98]⟩ }] v=(0,m):=fun v m h=>by
  rw[useV_add (m:=m) (by exact eqS_self _) (by show Vec.mergedV Vec.addF v (riZ n).need=_;rw[riZ_need];exact h)];rfl
 show useV ⟨#[98]⟩ (riPB y++[{ riZ n with node:=⟨#[98]⟩ }]) []=_;by_cases h:y=0
 · subst h;rw[Nat.zero_add];exact hz [] _ (ri_add0 n (by omega))
 · rw[show riPB y=[podK ⟨#[113]⟩ y ⟨#[98]⟩] from if_neg h,List.singleton_append,useV_add (m:=riU y) (show eqS ⟨#[98]⟩ ⟨#[98]⟩=true by decide +kernel) (by rw[show (podK ⟨#[113]⟩ y ⟨#[98]⟩).need=riU y by unfold riU;rw[if_neg h];rfl];exact ri_add0 y hy)];exact hz _ _ (ri_add y hy n hn)
theorem ri_soft (x y n:Nat):softS (riS x y) (riZ n) ⟨#[97]⟩=0∧softS (riS x y) (riZ n) ⟨#[98]⟩=0:=by
 unfold softS nodeZ;rw[ri_findA,ri_findB,riZ_tols];exact⟨rfl,rfl⟩
theorem ri_ba:ltS ⟨#[98]⟩ ⟨#[97]⟩=false:=by decide +kernel
theorem ri_pair {r:ByteArray→ByteArray→Prop} {x y:ByteArray} (h:r x y):[x,y].Pairwise r:=List.Pairwise.cons (fun z hz=>by obtain rfl:=List.mem_singleton.1 hz;exact h) (List.Pairwise.cons (fun z hz=>by cases hz) List.Pairwise.nil)
theorem ri_ordAB {x y n:Nat} {pack:Bool} (hx:x<40) (hy:y<40) (hn:n<20) (h:kO pack (riF (x+n))≤kO pack (riF (y+n))):OrdS (riS x y) (riZ n) pack [⟨#[97]⟩,⟨#[98]⟩]:=by
 refine⟨by rw[ri_fitsL hx hy hn],ri_pair ?_⟩;obtain⟨h1,h2⟩:=ri_soft x y n;unfold aheadS;rw[h1,h2,ri_scoreA hx hn,ri_scoreB hy hn,aheadK_not,ri_ba];simp;omega
theorem ri_ordBA {x y n:Nat} {pack:Bool} (hx:x<40) (hy:y<40) (hn:n<20) (h:kO pack (riF (y+n))<kO pack (riF (x+n))):OrdS (riS x y) (riZ n) pack [⟨#[98]⟩,⟨#[97]⟩]:=by
 refine⟨by rw[ri_fitsL hx hy hn];exact List.Perm.swap _ _ _,ri_pair ?_⟩;obtain⟨h1,h2⟩:=ri_soft x y n;unfold aheadS;rw[h1,h2,ri_scoreA hx hn,ri_scoreB hy hn,aheadK_not];simp;omega
def riTo (x y:Nat):ByteArray:=if y<x then ⟨#[98]⟩ else ⟨#[97]⟩
def riIs (x y:Nat):ByteArray:=if x<y then ⟨#[98]⟩ else ⟨#[97]⟩
def riC (x y:Nat):Int:=if x<y then -1 else if x=y then 0 else 1
theorem kO_no (o:Option Nat):kO false o=rankO o:=if_neg (by decide)
theorem kO_yes (o:Option Nat):kO true o=-rankO o:=if_pos rfl
theorem ri_to {x y n:Nat} (hx:x<40) (hy:y<40) (hn:n<20):∃l,OrdS (riS x y) (riZ n) false l∧l.headD ⟨#[]⟩=riTo x y∧(!l.isEmpty)=true:=by
 unfold riTo;by_cases h:y<x
 · rw[if_pos h];exact⟨_,ri_ordBA hx hy hn (by rw[kO_no,kO_no];exact ri_mono (by omega) (by omega)),rfl,rfl⟩
 · rw[if_neg h];refine⟨_,ri_ordAB hx hy hn ?_,rfl,rfl⟩;rw[kO_no,kO_no];by_cases e:x=y
   · subst e;exact Int.le_refl _
   · exact Int.le_of_lt (ri_mono (by omega) (by omega))
theorem ri_is {x y n:Nat} (hx:x<40) (hy:y<40) (hn:n<20):∃l,OrdS (riS x y) (riZ n) true l∧l.headD ⟨#[]⟩=riIs x y∧(!l.isEmpty)=true:=by
 unfold riIs;by_cases h:x<y
 · rw[if_pos h];exact⟨_,ri_ordBA hx hy hn (by rw[kO_yes,kO_yes];have:=ri_mono (s:=x+n) (t:=y+n) (by omega) (by omega);omega),rfl,rfl⟩
 · rw[if_neg h];refine⟨_,ri_ordAB hx hy hn ?_,rfl,rfl⟩;rw[kO_yes,kO_yes];by_cases e:x=y
   · subst e;exact Int.le_refl _
   · have:=ri_mono (s:=y+n) (t:=x+n) (by omega) (by omega);omega
theorem ri_c {x y n r t:Nat} (hx:x<40) (hy:y<40) (hn:n<20) (h1:nrm r=scoreS (riS x y) (riZ n) ⟨#[97]⟩) (h2:nrm t=scoreS (riS x y) (riZ n) ⟨#[98]⟩):cp r t=riC x y:=by
 rw[ri_scoreA hx hn] at h1;rw[ri_scoreB hy hn] at h2;unfold cp riC;rw[key_nrm r,key_nrm t,h1,h2];by_cases h:x<y
 · rw[if_pos h,if_pos (ri_mono (by omega) (by omega))]
 · by_cases e:x=y
   · subst e;rw[if_neg h,if_neg (Int.lt_irrefl _),if_pos rfl,if_pos rfl]
   · have h3:=ri_mono (s:=y+n) (t:=x+n) (by omega) (by omega);rw[if_neg h,if_neg e,if_neg (by omega),if_neg (by omega)]
theorem ri_low (x y:Nat):LowClu (riS x y):=⟨fun n hn=>by
 have hn':n ∈ riN:=hn;unfold riN at hn';simp only[List.mem_cons,List.not_mem_nil,or_false] at hn';rcases hn' with rfl | rfl
 · exact⟨(by decide:(1:Nat)≤1000000),(by decide:(0:Nat)≤1000000),(by decide:(0:Nat)≤1000000)⟩
 · exact⟨(by decide:(1:Nat)≤1000000),(by decide:(0:Nat)≤1000000),(by decide:(0:Nat)≤1000000)⟩,
 fun n hn=>by
  have hn':n ∈ riPA x++riPB y:=hn;have hone:∃u v c,n=podK u c v:=by
   rcases List.mem_append.1 hn' with h | h
   · unfold riPA at h;split at h
     · cases h
     · exact⟨_,_,_,List.mem_singleton.1 h⟩
   · unfold riPB at h;split at h
     · cases h
     · exact⟨_,_,_,List.mem_singleton.1 h⟩
  obtain⟨u,v,c,rfl⟩:=hone;exact⟨(by decide:(1:Nat)≤1000000),(by decide:(0:Nat)≤1000000),(by decide:(0:Nat)≤1000000),(by decide:(0:Nat)≤1000000)⟩,(fun n h=>by cases h),(by decide:(2:Nat)≤100000),(by
   show (riPA x++riPB y).length≤100000;unfold riPA riPB;split<;>split<;>simp),(by decide:(0:Nat)≤100000)⟩
theorem ri_few (x y:Nat):(riS x y).pods.length+1≤100000:=by
 show (riPA x++riPB y).length+1≤100000;unfold riPA riPB;split<;>split<;>simp
theorem riZ_low (n:Nat):LowPd (riZ n):=by
 unfold riZ;split
 · exact⟨(by decide:(0:Nat)≤1000000),(by decide:(0:Nat)≤1000000),(by decide:(0:Nat)≤1000000),(by decide:(0:Nat)≤1000000)⟩
 · exact⟨(by decide:(1:Nat)≤1000000),(by decide:(0:Nat)≤1000000),(by decide:(0:Nat)≤1000000),(by decide:(0:Nat)≤1000000)⟩
def NodO (o:Option Nod) (w:World) (e:Ending) (w':World):Prop:=(∀n,o=some n→∃b1 k1 d1 b2 k2 d2 b3 k3 d3,e=.returned (NodV n (.slice b1 k1 d1) (.slice b2 k2 d2) (.slice b3 k3 d3))∧NodAt w' (.slice b1 k1 d1) (.slice b2 k2 d2) (.slice b3 k3 d3) n)∧(o=none→e=.panicked [perr 3])∧Kept w w'
theorem refuse_no (c:Int) (w:World):Calls Tryz.prog 107 #[.bool false,.int .i64 c] w fun e w'=>e=.returned (.tuple #[])∧w=w':=by
 go_enter Tryz.func107,Tryz.ntmps107;go_wp2;refine⟨rfl,.tuple #[],by simp[results,Tryz.results107,go_sem],?_⟩;exact⟨rfl,rfl⟩
theorem refuse_yes (c:Int) (w:World):Calls Tryz.prog 107 #[.bool true,.int .i64 c] w fun e w'=>e=.panicked [perr c]∧w=w':=by
 go_enter Tryz.func107,Tryz.ntmps107;go_wp2;exact⟨rfl,rfl,rfl⟩
theorem fnodeOf_any (s1 s2 s3:Option Addr) (n1 e1 n2 e2 n3 e3:Nat) (nodes:List Nod) (name:ByteArray) (w:World) (hn:NodesAt w s1 n1 nodes) (hb1:n1≤100000) :
 Calls Tryz.prog 106 #[.agg #[.slice s1 n1 e1,.slice s2 n2 e2,.slice s3 n3 e3],.string name] w (NodO (findN nodes name) w):=by
 obtain⟨Z,hZ⟩:∃Z,(w.alloc (.cells #[.slice s1 n1 e1,.slice s2 n2 e2,.slice s3 n3 e3] 26)).alloc (.cells #[.string ⟨#[]⟩,.slice none 0 0,.slice none 0 0,.slice none 0 0,.bool false] 55)=Z:=⟨_,rfl⟩
 have hkz:Kept w Z:=by rw[←hZ];exact kept_two _ _ _
 have HSB:=lH (freshN w (.slice s1 n1 e1) [.slice s2 n2 e2,.slice s3 n3 e3] 26 Z (by rw[←hZ];exact kept_alloc _ _));have hyb:CellsN (w.heap.size+1) [.string ⟨#[]⟩,.slice none 0 0,.slice none 0 0,.slice none 0 0,.bool false] Z:=by
  have dd:=freshN (w.alloc (.cells #[.slice s1 n1 e1,.slice s2 n2 e2,.slice s3 n3 e3] 26)) (.string ⟨#[]⟩) [.slice none 0 0,.slice none 0 0,.slice none 0 0,.bool false] 55 Z (by rw[hZ];exact Kept.refl _);rw[World.size_alloc] at dd;exact dd
 have HYB:=lH hyb;have HN:=lH hn;have HNL:=lH hn.1;have HKZ:=lH hkz;clear hn hkz hyb;go_enter Tryz.func106,Tryz.ntmps106;have y0:=HSB.out.at_ 0 _ rfl;go_upto_region 1 with fail
 try rw[hZ]
 clear hZ;go_wp2;clear y0;go_loopw [10] (fun i wr=>∃k:Nat,k≤n1∧i=.int .i64 k∧findN (nodes.drop k) name=findN nodes name∧Kept Z wr) (fun i _=>n1-(intOf i).toNat)
 case atStart=>exact⟨0,Nat.zero_le _,rfl,rfl,Kept.refl _⟩
 case round =>
  obtain⟨k,hk,rfl,hR,hK⟩:=hrel;have HR:=lH hR;have HK:=lH (HKZ.out.trans hK);have HKR:=lH hK;by_cases hlt:k<n1
  · obtain⟨g,off,rfl⟩:=HN.out.form.resolve_left (by omega);obtain⟨n,b1,k1,d1,b2,k2,d2,b3,k3,d3,hn,hd,hb,u0,u1,u2,u3,u4,hat⟩:=HN.out.at_ hlt;have HAT:=lH hat;have HD:=lH hd;have u0:=cell_later HK.out u0;have u1:=cell_later HK.out u1;have u2:=cell_later HK.out u2;have u3:=cell_later HK.out u3;have u4:=cell_later HK.out u4;have hkk:(k:Int)<(n1:Int):=by omega
    have hk0:¬(k:Int)<0:=by omega
    obtain⟨wx,hwx⟩:∃W,wr.alloc (.cells #[.string n.name,.slice b1 k1 d1,.slice b2 k2 d2,.slice b3 k3 d3,.bool n.cordon] 55)=W:=⟨_,rfl⟩
    have hkx:Kept wr wx:=by rw[←hwx];exact kept_alloc _ _
    have HQB:=lH (freshN wr (.string n.name) [.slice b1 k1 d1,.slice b2 k2 d2,.slice b3 k3 d3,.bool n.cordon] 55 wx (by rw[hwx];exact Kept.refl _));obtain⟨bq,hbq⟩:∃z,wr.heap.size=z:=⟨_,rfl⟩
    rw[hbq] at HQB;have KX:=lH hkx;go_upto_region 4 with fail
    try rw[hwx]
    try rw[hbq]
    clear hwx hbq hd hb hn hR hK hkx hk0 hkk hat u0 u1 u2 u3 u4;have t0:=HQB.out.at_ 0 _ rfl;have t1:=HQB.out.at_ 1 _ rfl;have t2:=HQB.out.at_ 2 _ rfl;have t3:=HQB.out.at_ 3 _ rfl;have t4:=HQB.out.at_ 4 _ rfl;obtain⟨t,ht⟩:∃t,(n.name.toList==name.toList)=t:=⟨_,rfl⟩
    have HT:=lH (show eqS n.name name=t from ht)
    cases t with
    | false =>
     have HX:=lH (show findN (nodes.drop (k+1)) name=findN nodes name by rw[←HR.out,HD.out];unfold findN;rw[List.find?_cons,HT.out]);go_wp2;go_roundw
     case rel=>exact⟨k+1,by omega,by go_num,HX.out,HKR.out.trans KX.out⟩
     case measure=>simp[intOf];omega
    | true =>
     have HX:=lH (show findN nodes name=some n by rw[←HR.out,HD.out];unfold findN;rw[List.find?_cons,HT.out]);have HYX:=lH (HYB.out.kept (HKR.out.trans KX.out));have z0:=HYX.out.at_ 0 _ rfl;have z1:=HYX.out.at_ 1 _ rfl;have z2:=HYX.out.at_ 2 _ rfl;have z3:=HYX.out.at_ 3 _ rfl;have z4:=HYX.out.at_ 4 _ rfl;have f0:=HYX.out.free 0;have f1:=HYX.out.free 1;have f2:=HYX.out.free 2;have f3:=HYX.out.free 3;have f4:=HYX.out.free 4;have P:=lH (put_at ⟨z0,z1,z2,z3,z4⟩ n.name b1 b2 b3 k1 d1 k2 d2 k3 d3 n.cordon);go_wp2;obtain⟨WE,hWE⟩:∃W,(((((wx.setCell ⟨w.heap.size+1,0,none⟩ (.string n.name)).setCell ⟨w.heap.size+1,1,none⟩ (.slice b1 k1 d1)).setCell ⟨w.heap.size+1,2,none⟩ (.slice b2 k2 d2)).setCell ⟨w.heap.size+1,3,none⟩ (.slice b3 k3 d3)).setCell ⟨w.heap.size+1,4,none⟩ (.bool n.cordon))=W:=⟨_,rfl⟩
     rw[hWE] at P ⊢;clear hWE z0 z1 z2 z3 z4 t0 t1 t2 t3 t4 f0 f1 f2 f3 f4;obtain⟨⟨d0,d1,d2,d3,d4⟩,hsz,hbl,hkp⟩:=P.out;refine bodyPost_ret (by simp[results,Tryz.results106,go_sem,d0,d1,d2,d3,d4];try rfl) rfl ?_;have KE:=hkp _ _ (Nat.le_succ _) (HK.out.trans KX.out);refine⟨fun m e=>?_,fun e=>?_,KE⟩
     · rw[HX.out] at e;cases e;exact⟨_,_,_,_,_,_,_,_,_,rfl,HAT.out.kept KE⟩
     · rw[HX.out] at e;cases e
  · have hge:¬(k:Int)<(n1:Int):=by omega
    have HO:=lH (show findN nodes name=none by rw[←HR.out,List.drop_of_length_le (by rw[HNL.out];omega)];rfl);clear hR hK;go_wp2;exact⟨rfl,(fun m e=>by rw[HO.out] at e;cases e),(fun _=>rfl),HK.out⟩
def DomRes (o:Option ByteArray) (w:World) (e:Ending) (w':World):Prop:=(∀d,o=some d→e=.returned (.string d))∧(o=none→e=.panicked [perr 3])∧Kept w w'
theorem DomRes.bad {o:Option ByteArray} {w w':World} (h:o=none) (k:Kept w w'):DomRes o w (.panicked [perr 3]) w':=⟨(fun d e=>by rw[h] at e;cases e),(fun _=>rfl),k⟩
theorem DomRes.good {o:Option ByteArray} {d:ByteArray} {w w':World} (h:o=some d) (k:Kept w w'):DomRes o w (.returned (.string d)) w':=⟨(fun c e=>by rw[h] at e;cases e;rfl),(fun e=>by rw[h] at e;cases e),k⟩
theorem valOf_any (a:Option Addr) (m c:Nat) (l:PL) (key:ByteArray) (w:World) (h:Reads PairLay w (.slice a m c) l):Calls Tryz.prog 203 #[.slice a m c,.string key] w (DomRes (getS l key) w):=by
 obtain⟨go,hgo⟩:∃z,getS l key=z:=⟨_,rfl⟩
 rw[hgo];have HG:=lH (getR h (x:=go.getD ByteArray.empty) (b:=go.isSome) (by unfold getT;rw[hgo]) (by unfold hasS;rw[hgo]));clear h hgo;go_enter Tryz.func203,Tryz.ntmps203;go_wp2_with fail
 refine HG.out.mono ?_;rintro e w1 ⟨rfl,kk⟩;have K:=lH kk;clear kk
 cases go with
 | none =>
  go_wp2;exact⟨rfl,DomRes.bad rfl K.out⟩
 | some d =>
  go_wp2;go_ret;exact DomRes.good rfl K.out
theorem domV_hit {key name:ByteArray} {n:Nod} {l:List Nod} (h:eqS n.name name=true):domV key name (n::l)=getS n.labels key:=by rw[domV,if_pos h]
theorem domV_miss {key name:ByteArray} {n:Nod} {l:List Nod} (h:eqS n.name name=false):domV key name (n::l)=domV key name l:=by rw[domV,if_neg (by rw[h];decide)]
theorem domainOf_any (s1 s2 s3:Option Addr) (n1 e1 n2 e2 n3 e3:Nat) (nodes:List Nod) (key name:ByteArray) (w:World) (hn:NodesAt w s1 n1 nodes) (hb1:n1≤100000) :
 Calls Tryz.prog 187 #[.agg #[.slice s1 n1 e1,.slice s2 n2 e2,.slice s3 n3 e3],.string key,.string name] w (DomRes (domV key name nodes) w):=by
 obtain⟨Z,hZ⟩:∃Z,w.alloc (.cells #[.slice s1 n1 e1,.slice s2 n2 e2,.slice s3 n3 e3] 26)=Z:=⟨_,rfl⟩
 have hkz:Kept w Z:=by rw[←hZ];exact kept_alloc _ _
 have HSB:=lH (freshN w (.slice s1 n1 e1) [.slice s2 n2 e2,.slice s3 n3 e3] 26 Z (by rw[hZ];exact Kept.refl _));have HN:=lH hn;have HNL:=lH hn.1;have HKZ:=lH hkz;clear hn hkz;go_enter Tryz.func187,Tryz.ntmps187;have y0:=HSB.out.at_ 0 _ rfl;go_upto_region 1 with fail
 try rw[hZ]
 clear hZ;go_wp2;clear y0;go_loopw [12] (fun i wr=>∃k:Nat,k≤n1∧i=.int .i64 k∧domV key name (nodes.drop k)=domV key name nodes∧Kept Z wr) (fun i _=>n1-(intOf i).toNat)
 case atStart=>exact⟨0,Nat.zero_le _,rfl,rfl,Kept.refl _⟩
 case round =>
  obtain⟨k,hk,rfl,hR,hK⟩:=hrel;have HR:=lH hR;have HK:=lH (HKZ.out.trans hK);have HKR:=lH hK;by_cases hlt:k<n1
  · obtain⟨g,off,rfl⟩:=HN.out.form.resolve_left (by omega);obtain⟨n,b1,k1,d1,b2,k2,d2,b3,k3,d3,hn,hd,hb,u0,u1,u2,u3,u4,hat⟩:=(HN.out.kept HK.out).at_ hlt;have HAT:=lH hat;have HD:=lH hd;have hkk:(k:Int)<(n1:Int):=by omega
    have hk0:¬(k:Int)<0:=by omega
    obtain⟨wx,hwx⟩:∃W,wr.alloc (.cells #[.string n.name,.slice b1 k1 d1,.slice b2 k2 d2,.slice b3 k3 d3,.bool n.cordon] 55)=W:=⟨_,rfl⟩
    have hkx:Kept wr wx:=by rw[←hwx];exact kept_alloc _ _
    have HQB:=lH (freshN wr (.string n.name) [.slice b1 k1 d1,.slice b2 k2 d2,.slice b3 k3 d3,.bool n.cordon] 55 wx (by rw[hwx];exact Kept.refl _));obtain⟨bq,hbq⟩:∃z,wr.heap.size=z:=⟨_,rfl⟩
    rw[hbq] at HQB;have KX:=lH hkx;go_upto_region 4 with fail
    try rw[hwx]
    try rw[hbq]
    clear hwx hbq hd hb hn hR hK hkx hk0 hkk hat u0 u1 u2 u3 u4;have t0:=HQB.out.at_ 0 _ rfl;have t2:=HQB.out.at_ 2 _ rfl;obtain⟨t,ht⟩:∃t,(n.name.toList==name.toList)=t:=⟨_,rfl⟩
    have HT:=lH (show eqS n.name name=t from ht)
    cases t with
    | false =>
     have HX:=lH (show domV key name (nodes.drop (k+1))=domV key name nodes by rw[←HR.out,HD.out,domV_miss HT.out]);go_wp2;go_roundw
     case rel=>exact⟨k+1,by omega,by go_num,HX.out,HKR.out.trans KX.out⟩
     case measure=>simp[intOf];omega
    | true =>
     have HX:=lH (show getS n.labels key=domV key name nodes by rw[←HR.out,HD.out,domV_hit HT.out]);go_wp2_with fail
     refine(valOf_any b2 k2 d2 n.labels key wx (HAT.out.labels.kept KX.out)).mono ?_;rintro e w3 ⟨h1,h2,kk⟩;have K3:=lH (HK.out.trans (KX.out.trans kk));clear kk;rw[HX.out] at h1 h2
     cases ho:domV key name nodes with
     | none =>
      obtain rfl:=h2 ho;have HO:=lH ho;clear h1 h2 ho;go_wp2;exact⟨rfl,DomRes.bad HO.out K3.out⟩
     | some d =>
      obtain rfl:=h1 d ho;have HO:=lH ho;clear h1 h2 ho;go_wp2;go_ret;exact DomRes.good HO.out K3.out
  · have hge:¬(k:Int)<(n1:Int):=by omega
    have HO:=lH (show domV key name nodes=none by rw[←HR.out,List.drop_of_length_le (by rw[HNL.out];omega)];rfl);clear hR hK;go_wp2;exact⟨rfl,DomRes.bad HO.out HK.out⟩
theorem beside_any (p q:Pd) (a1 a2 a3 a4 b1 b2 b3 b4:Option Addr) (m1 c1 m2 c2 m3 c3 m4 c4 k1 d1 k2 d2 k3 d3 k4 d4:Nat) (w:World):Calls Tryz.prog 204 #[PodV p (.slice a1 m1 c1) (.slice a2 m2 c2) (.slice a3 m3 c3) (.slice a4 m4 c4),PodV q (.slice b1 k1 d1) (.slice b2 k2 d2) (.slice b3 k3 d3) (.slice b4 k4 d4)] w (Say (.bool (besideB p q)) w):=by
 obtain⟨Z,hZ⟩:∃Z,(w.alloc (.cells #[.string p.name,.string p.owner,.int .i64 p.prio,.slice a1 m1 c1,.slice a2 m2 c2,.slice a3 m3 c3,.slice a4 m4 c4,.string p.key,.int .i64 p.most,.string p.node,.bool p.hold] 35)).alloc (.cells #[.string q.name,.string q.owner,.int .i64 q.prio,.slice b1 k1 d1,.slice b2 k2 d2,.slice b3 k3 d3,.slice b4 k4 d4,.string q.key,.int .i64 q.most,.string q.node,.bool q.hold] 35)=Z:=⟨_,rfl⟩
 have hkz:Kept w Z:=by rw[←hZ];exact kept_two _ _ _
 have hp:=freshN w (.string p.name) [.string p.owner,.int .i64 p.prio,.slice a1 m1 c1,.slice a2 m2 c2,.slice a3 m3 c3,.slice a4 m4 c4,.string p.key,.int .i64 p.most,.string p.node,.bool p.hold] 35 Z (by rw[←hZ];exact kept_alloc _ _);have hq:CellsN (w.heap.size+1) [.string q.name,.string q.owner,.int .i64 q.prio,.slice b1 k1 d1,.slice b2 k2 d2,.slice b3 k3 d3,.slice b4 k4 d4,.string q.key,.int .i64 q.most,.string q.node,.bool q.hold] Z:=by
  have dd:=freshN (w.alloc (.cells #[.string p.name,.string p.owner,.int .i64 p.prio,.slice a1 m1 c1,.slice a2 m2 c2,.slice a3 m3 c3,.slice a4 m4 c4,.string p.key,.int .i64 p.most,.string p.node,.bool p.hold] 35)) (.string q.name) [.string q.owner,.int .i64 q.prio,.slice b1 k1 d1,.slice b2 k2 d2,.slice b3 k3 d3,.slice b4 k4 d4,.string q.key,.int .i64 q.most,.string q.node,.bool q.hold] 35 Z (by rw[hZ];exact Kept.refl _);rw[World.size_alloc] at dd;exact dd
 have p0:=hp.at_ 0 _ rfl;have p1:=hp.at_ 1 _ rfl;have q0:=hq.at_ 0 _ rfl;have q1:=hq.at_ 1 _ rfl;have q10:=hq.at_ 10 _ rfl;have HK:=lH hkz;obtain⟨t0,h0⟩:∃t,(p.owner.toList==([]:List UInt8))=t:=⟨_,rfl⟩
 obtain⟨t1,h1⟩:∃t,(q.owner.toList==p.owner.toList)=t:=⟨_,rfl⟩
 obtain⟨t2,h2⟩:∃t,(q.name.toList==p.name.toList)=t:=⟨_,rfl⟩
 obtain⟨t3,h3⟩:∃t,q.hold=t:=⟨_,rfl⟩
 have HV:=lH (show besideB p q=(!t0&&(t1&&(!t3&&!t2))) by unfold besideB eqS;rw[no_iff,h0,h1,h2,h3]);rw[h3] at q10;rw[h3] at hZ;clear hp hq hkz;unfold PodV;rw[h3];clear h3;go_enter Tryz.func204,Tryz.ntmps204
 cases t0 with
 | true =>
  go_wp2;try rw[hZ]
  go_ret;exact⟨ret_bool (by rw[HV.out];rfl),by first | exact HK.out | (rw[hZ];exact HK.out)⟩
 | false =>
  cases t1 with
  | false =>
   go_wp2;try rw[hZ]
   go_ret;exact⟨ret_bool (by rw[HV.out];rfl),by first | exact HK.out | (rw[hZ];exact HK.out)⟩
  | true =>
   cases t3 with
   | true =>
    go_wp2;try rw[hZ]
    go_ret;exact⟨ret_bool (by rw[HV.out];rfl),by first | exact HK.out | (rw[hZ];exact HK.out)⟩
   | false =>
    cases t2 with
    | true =>
     go_wp2;try rw[hZ]
     go_ret;exact⟨ret_bool (by rw[HV.out];rfl),by first | exact HK.out | (rw[hZ];exact HK.out)⟩
    | false =>
     go_wp2;try rw[hZ]
     go_ret;exact⟨ret_bool (by rw[HV.out];rfl),by first | exact HK.out | (rw[hZ];exact HK.out)⟩
open Go.RowKit Go.Maps Go.WideShapes Go.WideMaps
theorem mapLaw:Keyed Tryz.prog 9:=string_keyed Tryz.underlying9
theorem mapZero (w:World):(zeroValue 3).run Tryz.prog w=.ok (.int .i64 0) w:=by kernel_rfl
abbrev mk9 (x:ByteArray):Lit:=.string x.data.toList
theorem mk9_inj {x y:ByteArray} (h:mk9 x=mk9 y):x=y:=by
 injection h with h
 cases x;cases y
 simp only at h;congr 1
 exact Array.toList_inj.1 h
structure MapD (w:World) (b n:Nat) (D:DataW Unit) (f:ByteArray→Int) (dom:ByteArray→Bool):Prop where
 own:w.ownsMap Tryz.prog 9 (plainElem Tryz.prog 3) b n D
 at_:∀x,D.atKey (mk9 x) (.lit (.int .i64 0))=.lit (.int .i64 (f x))
 has:∀x,Maps.has D (mk9 x)=dom x
 map:IsMap D
def MapIs (w:World) (b n:Nat) (f:ByteArray→Int) (dom:ByteArray→Bool):Prop:=∃D:DataW Unit,MapD w b n D f dom
theorem MapIs.made (w:World):MapIs (w.alloc (.map #[] 0)) w.heap.size 0 (fun _=>0) (fun _=>false) :=
 ⟨.map [],World.ownsMap_made w _ _ _,fun _=>rfl,fun _=>rfl,isMap_empty⟩
theorem MapIs.block {w w':World} {b n:Nat} {f:ByteArray→Int} {dom:ByteArray→Bool} (h:MapIs w b n f dom) (hb:w'.heap[b]?=w.heap[b]?):MapIs w' b n f dom:=by
 obtain⟨D,⟨es,clock,h1,h2⟩,h3,h4,h5⟩:=h;exact⟨D,⟨es,clock,hb.trans h1,h2⟩,h3,h4,h5⟩
theorem MapIs.lt {w:World} {b n:Nat} {f:ByteArray→Int} {dom:ByteArray→Bool} (h:MapIs w b n f dom):b<w.heap.size:=by
 obtain⟨D,h,-⟩:=h;exact h.lt
theorem MapIs.kept {w w':World} {b n:Nat} {f:ByteArray→Int} {dom:ByteArray→Bool} (h:MapIs w b n f dom) (k:Kept w w'):MapIs w' b n f dom:=h.block (k.block b h.lt)
theorem MapIs.eq {w:World} {b n:Nat} {f g:ByteArray→Int} {dom dem:ByteArray→Bool} (h:MapIs w b n f dom) (hf:∀x,f x=g x) (hd:∀x,dom x=dem x):MapIs w b n g dem:=by
 obtain⟨D,h1,h2,h3,h4⟩:=h;exact⟨D,h1,fun x=>by rw[h2,hf],fun x=>by rw[h3,hd],h4⟩
theorem MapIs.look {w:World} {b n:Nat} {f:ByteArray→Int} {dom:ByteArray→Bool} (h:MapIs w b n f dom) (x:ByteArray) (hx:x.size≤maxLen):(Instr.lookup 259 (.map (some b)) (.string x) false).run Tryz.prog w=.ok (.int .i64 (f x)) w:=by
 obtain⟨D,h1,h2,h3,h4⟩:=h;obtain⟨c,hrun,hat,-⟩:=h1.lookup_int (t:=259) mapLaw Tryz.underlying259 Tryz.underlying3 (mapZero _) (keyOf_string_mk Tryz.underlying9 hx);rw[hrun];have:=(h2 x).symm.trans hat;injection this with this;injection this with _ this;rw[this]
theorem MapIs.put {w:World} {b n:Nat} {f:ByteArray→Int} {dom:ByteArray→Bool} (h:MapIs w b n f dom) (hn:n<maxLen) (x:ByteArray) (hx:x.size≤maxLen) (c:Int) (hc:-9223372036854775808≤c∧c≤9223372036854775807) :
 ∃w',(Instr.mapUpdate 259 (.map (some b)) (.string x) (.int .i64 c)).run Tryz.prog w=.ok () w'∧MapIs w' b (n+1) (fun y=>if y=x then c else f y) (fun y=>if y=x then true else dom y)∧GOff (fun i=>i=b) w w':=by
 obtain⟨D,h1,h2,h3,h4⟩:=h;obtain⟨w',hrun,ho,hg⟩:=h1.update (t:=259) mapLaw Tryz.underlying259 hn (keyOf_string_mk Tryz.underlying9 hx) (plainElem_int (H:=Unit) Tryz.underlying3 (WalkArith.wf_i64 hc));refine⟨w',hrun,⟨_,ho,fun y=>?_,fun y=>?_,h4.put _ _⟩,GOff.grown hg fun k e=>by cases e;rfl⟩
 · by_cases e:y=x
   · subst e;rw[if_pos rfl,atKey_put_same h4 (show WideAt.IsKeyLit (.string _) from trivial)]
   · rw[if_neg e,atKey_put_other (fun g=>e (mk9_inj g)),h2]
 · by_cases e:y=x
   · subst e;rw[if_pos rfl,has_put_same h4 (show WideAt.IsKeyLit (.string _) from trivial)]
   · rw[if_neg e,has_put_other (fun g=>e (mk9_inj g)),h3]
end Go.Proofs.YtmlgobiifebjkacGreat
