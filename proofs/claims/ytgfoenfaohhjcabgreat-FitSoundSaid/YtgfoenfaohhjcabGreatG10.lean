/- What serves all packages,and package by package the contracts of the functions that the law calls. -/
import Derived.Test.YtgfoenfaohhjcabGreatG1
import Derived.Test.YtgfoenfaohhjcabGreatG2
import Derived.Test.YtgfoenfaohhjcabGreatG3
import Derived.Test.YtgfoenfaohhjcabGreatG5
import Derived.Test.YtgfoenfaohhjcabGreatG6
import Derived.Test.YtgfoenfaohhjcabGreatG7
import Derived.Test.YtgfoenfaohhjcabGreatG8
import Derived.Test.YtgfoenfaohhjcabGreatG9
set_option linter.unusedVariables false
set_option maxRecDepth 100000
set_option maxHeartbeats 25600000
namespace Go.Proofs.YtgfoenfaohhjcabGreat
open Go.RowKit
theorem jh8 {v:Value} {s:Clu} {w:World} (h:jU w v s) (hl:zw s) (e1:s.nodes.length≤1000) (e2:s.pods.length≤1000) (e3:s.buds.length≤1000):Calls Tryz.prog 18 #[v] w fun e w'=>∃v,e=.returned v∧jU w' v s∧Kept w w':=by
 obtain⟨v1,v2,v3,rfl,⟨a,cap,rfl,l1,m1,h1⟩,⟨b,cp,rfl,l2,m2,h2⟩,⟨d,cb,rfl,l3,m3,h3⟩⟩:=h;obtain⟨nl,pl,bl⟩:=s;dsimp only at *;obtain⟨len,hlen⟩:∃q,nl.length=q:=⟨_,rfl⟩
 obtain⟨m,hm⟩:∃q,pl.length=q:=⟨_,rfl⟩
 obtain⟨n,hn⟩:∃q,bl.length=q:=⟨_,rfl⟩
 rw[hlen] at h1 l1;rw[hm] at h2 l2;rw[hn] at h3 l3;try rw[hlen]
 try rw[hm]
 try rw[hn]
 obtain⟨Z,hZ⟩:∃Z,(w.alloc (.cells #[.slice a len cap,.slice b m cp,.slice d n cb] 26)).alloc (.cells #[.slice none 0 0,.slice none 0 0,.slice none 0 0] 61)=Z:=⟨_,rfl⟩
 have hkz:Kept w Z:=by rw[←hZ];exact jr _ _ _
 have cc:=jc w (.slice a len cap) [.slice b m cp,.slice d n cb] 26 Z (by rw[←hZ];exact ja _ _);have HH:=lH (show jd (w.heap.size+1) [.slice none 0 0,.slice none 0 0,.slice none 0 0] Z by
  have dd:=jc (w.alloc (.cells #[.slice a len cap,.slice b m cp,.slice d n cb] 26)) (.slice none 0 0) [.slice none 0 0,.slice none 0 0] 61 Z (by rw[hZ];exact Kept.refl _);rw[World.size_alloc] at dd;exact dd)
 have HN:=lH (fun W (k:Kept Z W)=>jhY (Xa l1 m1 (h1.kept (hkz.trans k))) hl.nodes e1);have HP:=lH (fun W (k:Kept Z W)=>jhk (jdr l2 m2 (h2.kept (hkz.trans k))) hl.pods e2);have HB:=lH (fun W (k:Kept Z W)=>jhA (jaS l3 m3 (h3.kept (hkz.trans k))) hl.buds e3);have HKZ:=lH hkz;have HSL:=lH (show ∀W,Kept Z W→Y9 W (w.heap.size+1) from fun W k=>by
  have hh:Z.heap[w.heap.size+1]?=some (.cells #[.slice none 0 0,.slice none 0 0,.slice none 0 0] 61):=by
   have:=(w.alloc (.cells #[.slice a len cap,.slice b m cp,.slice d n cb] 26)).alloc_heap_new (.cells #[.slice none 0 0,.slice none 0 0,.slice none 0 0] 61);rw[World.size_alloc,hZ] at this;exact this
  exact JD ((k.block _ (Array.getElem?_eq_some_iff.1 hh).1).trans hh))
 have HS:=lH (show ∀W,Kept Z W→W.cell? ⟨w.heap.size,0,none⟩=some (.slice a len cap)∧W.cell? ⟨w.heap.size,1,none⟩=some (.slice b m cp)∧W.cell? ⟨w.heap.size,2,none⟩=some (.slice d n cb) from fun W k=>⟨(cc.kept k).at_ 0 _ rfl,(cc.kept k).at_ 1 _ rfl,(cc.kept k).at_ 2 _ rfl⟩);have HS2:=lH (show ∀U W:World,(∀b,b≠w.heap.size+1→U.heap[b]?=W.heap[b]?)→Kept Z W→U.cell? ⟨w.heap.size,0,none⟩=some (.slice a len cap)∧U.cell? ⟨w.heap.size,1,none⟩=some (.slice b m cp)∧U.cell? ⟨w.heap.size,2,none⟩=some (.slice d n cb) from fun U W e k=>by
  have c:=(cc.kept k).block (e _ (by omega));exact⟨c.at_ 0 _ rfl,c.at_ 1 _ rfl,c.at_ 2 _ rfl⟩)
 clear h1 h2 h3 l1 l2 l3 m1 m2 m3 hkz cc hl e1 e2 e3;go_enter Tryz.func18,Tryz.ntmps18;go_wp2_with fail
 try rw[hZ]
 clear hZ;refine wp_region_held_drew (S:=fun W=>W.cell? ⟨w.heap.size,0,none⟩=some (.slice a len cap)∧W.cell? ⟨w.heap.size,1,none⟩=some (.slice b m cp)∧W.cell? ⟨w.heap.size,2,none⟩=some (.slice d n cb)) (by kernel_rfl) (HS.out _ (Kept.drew _)) (fun hHeld=>?_);refine wpAnyH_take  (i:=0) (v:=?_) (by rw[List.getElem?_toArray];exact rfl) (by kernel_rfl) (by kernel_rfl) (by kernel_rfl) (by exact fun _ _ _ h=>h) (Or.inl ⟨by rfl,(by rintro W ⟨o0,o1,o2⟩;go_simp<;>with_reducible rfl)⟩) (by assumption) ?_;try simp only  [Act.put,List.setIfInBounds_toArray,List.set_cons_zero,List.set_cons_succ]
 refine wpAnyH_take  (i:=1) (v:=?_) (by rw[List.getElem?_toArray];exact rfl) (by kernel_rfl) (by kernel_rfl) (by kernel_rfl) (by exact fun _ _ _ h=>h) (Or.inl ⟨by rfl,(by rintro W ⟨o0,o1,o2⟩;go_simp<;>with_reducible rfl)⟩) (by assumption) ?_;try simp only  [Act.put,List.setIfInBounds_toArray,List.set_cons_zero,List.set_cons_succ]
 refine wpAnyH_take  (i:=3) (v:=?_) (by rw[List.getElem?_toArray];exact rfl) (by kernel_rfl) (by kernel_rfl) (by kernel_rfl) (by exact fun _ _ _ h=>h) (Or.inl ⟨by rfl,(by rintro W ⟨o0,o1,o2⟩;go_simp<;>with_reducible rfl)⟩) (by assumption) ?_;try simp only  [Act.put,List.setIfInBounds_toArray,List.set_cons_zero,List.set_cons_succ]
 refine wpAnyH_take  (i:=4) (v:=?_) (by rw[List.getElem?_toArray];exact rfl) (by kernel_rfl) (by kernel_rfl) (by kernel_rfl) (by exact fun _ _ _ h=>h) (Or.inl ⟨by rfl,(by rintro W ⟨o0,o1,o2⟩;go_simp<;>with_reducible rfl)⟩) (by assumption) ?_;try simp only  [Act.put,List.setIfInBounds_toArray,List.set_cons_zero,List.set_cons_succ]
 refine wpAnyH_take  (i:=6) (v:=?_) (by rw[List.getElem?_toArray];exact rfl) (by kernel_rfl) (by kernel_rfl) (by kernel_rfl) (by exact fun _ _ _ h=>h) (Or.inl ⟨by rfl,(by rintro W ⟨o0,o1,o2⟩;go_simp<;>with_reducible rfl)⟩) (by assumption) ?_;try simp only  [Act.put,List.setIfInBounds_toArray,List.set_cons_zero,List.set_cons_succ]
 refine wpAnyH_take  (i:=7) (v:=?_) (by rw[List.getElem?_toArray];exact rfl) (by kernel_rfl) (by kernel_rfl) (by kernel_rfl) (by exact fun _ _ _ h=>h) (Or.inl ⟨by rfl,(by rintro W ⟨o0,o1,o2⟩;go_simp<;>with_reducible rfl)⟩) (by assumption) ?_;try simp only  [Act.put,List.setIfInBounds_toArray,List.set_cons_zero,List.set_cons_succ]
 have J:=lH (Kept.drew Z);refine wpAnyH_ready  (rs:=[2]) (by kernel_rfl) (by simp) (AllReadyH.cons  (by rw[List.getElem?_toArray];exact rfl) (fun K9 hK9=>?_) AllReadyH.nil);go_simp;refine(HN.out _ J.out).mono ?_;rintro e1 w1 ⟨u1,rfl,hr,kk⟩;have J:=lH (J.out.trans kk);have hr2:=hr;obtain⟨x1,q1,rfl,-,-,-⟩:=hr2;rw[hlen] at hr;try rw[hlen]
 have RR1:=lH hr;clear hr kk;refine hK9.out _ _ (HS.out _ J.out) (fun hHeld1=>?_);clear hK9 K9;try simp only  [Act.put,List.setIfInBounds_toArray,List.set_cons_zero,List.set_cons_succ]
 refine wpAnyH_ready  (rs:=[5]) (by kernel_rfl) (by simp) (AllReadyH.cons  (by rw[List.getElem?_toArray];exact rfl) (fun K9 hK9=>?_) AllReadyH.nil);go_simp;refine(HP.out _ J.out).mono ?_;rintro e2 w2 ⟨u2,rfl,hr,kk⟩;have J:=lH (J.out.trans kk);have RR1:=lH (RR1.out.kept kk);have hr2:=hr;obtain⟨x2,q2,rfl,-,-,-⟩:=hr2;rw[hm] at hr;try rw[hm]
 have RR2:=lH hr;clear hr kk;refine hK9.out _ _ (HS.out _ J.out) (fun hHeld2=>?_);clear hK9 K9;try simp only  [Act.put,List.setIfInBounds_toArray,List.set_cons_zero,List.set_cons_succ]
 refine wpAnyH_ready  (rs:=[8]) (by kernel_rfl) (by simp) (AllReadyH.cons  (by rw[List.getElem?_toArray];exact rfl) (fun K9 hK9=>?_) AllReadyH.nil);go_simp;refine(HB.out _ J.out).mono ?_;rintro e3 w3 ⟨u3,rfl,hr,kk⟩;have J:=lH (J.out.trans kk);have RR1:=lH (RR1.out.kept kk);have RR2:=lH (RR2.out.kept kk);have hr2:=hr;obtain⟨x3,q3,rfl,-,-,-⟩:=hr2;rw[hn] at hr;try rw[hn]
 have RR3:=lH hr;clear hr kk;refine hK9.out _ _ (HS.out _ J.out) (fun hHeld3=>?_);clear hK9 K9;try simp only  [Act.put,List.setIfInBounds_toArray,List.set_cons_zero,List.set_cons_succ]
 refine wpAnyH_take  (i:=9) (v:=?_) (by rw[List.getElem?_toArray];exact rfl) (by kernel_rfl) (by kernel_rfl) (by kernel_rfl) (by exact fun _ _ _ h=>h) (Or.inl ⟨by rfl,(by rintro W ⟨o0,o1,o2⟩;go_simp<;>with_reducible rfl)⟩) (by assumption) ?_;try simp only  [Act.put,List.setIfInBounds_toArray,List.set_cons_zero,List.set_cons_succ]
 have H9:=lH (HH.out.kept J.out);have z0:=H9.out.at_ 0 _ rfl;have z1:=H9.out.at_ 1 _ rfl;have z2:=H9.out.at_ 2 _ rfl;have f0:=H9.out.free 0;have f1:=H9.out.free 1;have f2:=H9.out.free 2;have PP:=lH (zg (vs:=[.slice x1 len q1,.slice x2 m q2,.slice x3 n q3]) H9.out rfl);refine wpAnyH_ready  (rs:=[10]) (by kernel_rfl) (by simp) (AllReadyH.cons  (by rw[List.getElem?_toArray];exact rfl) (fun K9 hK9=>?_) AllReadyH.nil);go_simp;obtain⟨WE,hWE⟩:∃W,w3.setCells (w.heap.size+1) 0 [.slice x1 len q1,.slice x2 m q2,.slice x3 n q3]=W:=⟨_,rfl⟩
 have hWE2:(((w3.setCell ⟨(w.heap.size+1),0,none⟩ (.slice x1 len q1)).setCell ⟨(w.heap.size+1),1,none⟩ (.slice x2 m q2)).setCell ⟨(w.heap.size+1),2,none⟩ (.slice x3 n q3))=WE:=hWE;rw[hWE] at PP;try rw[hWE2]
 obtain⟨PC,hsz,hbl,hkp⟩:=PP.out;skip;refine hK9.out _ _ (HS2.out _ _ hbl J.out) (fun hHeldS=>?_);clear hK9 K9 z0 z1 z2 f0 f1 f2;try simp only  [Act.put,List.setIfInBounds_toArray,List.set_cons_zero,List.set_cons_succ]
 refine wpAnyH_done (by kernel_rfl) ?_ _;go_wp2;refine bodyPost_ret (by simp[results,Tryz.results18,go_sem,PC.at_ 0 _ rfl,PC.at_ 1 _ rfl,PC.at_ 2 _ rfl];try rfl) rfl ?_;have SL:=HSL.out _ J.out;exact⟨_,rfl,⟨_,_,_,rfl,qu hsz hbl SL RR1.out,qV hsz hbl SL RR2.out,jam hsz hbl SL RR3.out⟩,hkp _ _ (Nat.le_succ _) (HKZ.out.trans J.out)⟩
theorem jcB {n:Pd} (h:zR n=true):Yc n:=by
 obtain⟨-,-,-,-,h1,h2,h3,h4⟩:=jcX h;refine⟨?_,?_,?_,?_⟩
 · unfold Vec.ZZ at h1;simp only[Bool.and_eq_true,decide_eq_true_eq] at h1;omega
 · have:=(jea h2).1;omega
 · have:=(jeB h3).1;omega
 · have:=(jdt h4).1;omega
def ZA (s:Clu):Bool:=YV s&&decide (zD s=0)
theorem qL {s:Clu} (h:YV s=true):zw s∧s.nodes.length≤34∧s.pods.length≤130∧s.buds.length≤20:=by
 unfold YV JV at h;simp only[Bool.and_eq_true,decide_eq_true_eq,List.all_eq_true] at h;obtain⟨h1,h2,⟨h3,h4⟩,h5,h6⟩:=h;refine⟨⟨fun n hn=>jhi (h5 n hn),fun p hp=>jcB (h6 p hp),fun n hn=>?_,by omega,by omega,by omega⟩,by omega,by omega,by omega⟩;have:=h4 n hn;unfold Ys ZK at this;simp only[Bool.and_eq_true,decide_eq_true_eq] at this;omega
theorem jbU {s:Clu} (h:ZA s=true):YV s=true:=by unfold ZA at h;exact(Bool.and_eq_true_iff.1 h).1
theorem qA {s:Clu} (h:ZA s=true):zD s=0:=by unfold ZA at h;exact of_decide_eq_true (Bool.and_eq_true_iff.1 h).2
theorem jhs {v:Value} {s:Clu} {c:Bool} {w:World} (h:jU w v s) (hc:ZA s=c):Calls Tryz.prog 8 #[v] w (Say (.bool c) w):=by
 subst hc;have h0:=h;obtain⟨v1,v2,v3,rfl,⟨a,cap,rfl,-,-,-⟩,⟨b,cp,rfl,-,-,-⟩,⟨d,cb,rfl,-,-,-⟩⟩:=h0;obtain⟨len,hl1⟩:∃q,s.nodes.length=q:=⟨_,rfl⟩
 obtain⟨m,hl2⟩:∃q,s.pods.length=q:=⟨_,rfl⟩
 obtain⟨n,hl3⟩:∃q,s.buds.length=q:=⟨_,rfl⟩
 rw[hl1,hl2,hl3] at h ⊢;clear hl1 hl2 hl3;obtain⟨Z,hZ⟩:∃Z,w.alloc (.cells #[.slice a len cap,.slice b m cp,.slice d n cb] 26)=Z:=⟨_,rfl⟩
 have hkz:Kept w Z:=by rw[←hZ];exact ja _ _
 have HC:=lH (show jd w.heap.size [.slice a len cap,.slice b m cp,.slice d n cb] Z from jc w (.slice a len cap) [.slice b m cp,.slice d n cb] 26 Z (by rw[hZ];exact Kept.refl _));have HV:=lH (h.kept hkz);have HKZ:=lH hkz;obtain⟨e1,he1⟩:∃e,YV s=e:=⟨_,rfl⟩
 have HE1:=lH he1;have HG:=lH (show ZA s=(e1&&decide (zD s=0)) by unfold ZA;rw[he1]);rw[HG.out];clear h hkz;have cq0:=(HC.out.kept (Kept.refl _)).at_ 0 _ rfl;have cq1:=(HC.out.kept (Kept.refl _)).at_ 1 _ rfl;have cq2:=(HC.out.kept (Kept.refl _)).at_ 2 _ rfl;go_enter Tryz.func8,Tryz.ntmps8;go_wp2_with fail
 try rw[hZ]
 clear hZ;refine(jhM HV.out he1).mono ?_;rintro e w1 ⟨rfl,kk⟩;have K:=lH kk;clear kk he1 cq0 cq1 cq2;have cq0:=(HC.out.kept K.out).at_ 0 _ rfl;have cq1:=(HC.out.kept K.out).at_ 1 _ rfl;have cq2:=(HC.out.kept K.out).at_ 2 _ rfl
 cases e1 with
 | false =>
  go_wp2;go_ret;exact⟨rfl,HKZ.out.trans K.out⟩
 | true =>
  obtain⟨L1,L2,L3,L4⟩:=qL HE1.out;have HL:=lH L1;clear L1;go_wp2_with fail
  refine(jh8 (HV.out.kept K.out) HL.out (by omega) (by omega) (by omega)).mono ?_;rintro e w2 ⟨x9,rfl,hx,kk⟩;have K2:=lH (K.out.trans kk);have HX:=lH hx;clear hx kk cq0 cq1 cq2;go_wp2_with fail
  obtain⟨c,hc⟩:∃c,zD s=c:=⟨_,rfl⟩
  refine(je6 HX.out hc).mono ?_;rintro e w3 ⟨rfl,kk⟩;have K3:=lH (K2.out.trans kk);have HCC:=lH hc;clear kk;rw[hc];clear hc;obtain⟨t,ht⟩:∃t,decide (c=0)=t:=⟨_,rfl⟩
  have ht':(c==0)=t:=ht;go_wp2;go_ret;exact⟨by rw[HCC.out,ht];rfl,HKZ.out.trans K3.out⟩
def Asc (l:List Pd):Prop:=l.Pairwise fun x y=>ltS x.name y.name=true
theorem jcG:∀{prev:Option ByteArray} {l:List Pd},jP prev l=0→(∀q,prev=some q→∀x ∈ l,ltS q x.name=true)∧Asc l
 | _,[],_=>⟨fun q _ x h=>absurd h (by simp),.nil⟩
 | prev,n::t,h=>by
  by_cases z:j8 n=0
  · by_cases y:Vec.jF prev n.name=true
    · rw[Yr z y] at h;cases h
    · have y:Vec.jF prev n.name=false:=by simpa using y
      rw[Zh z y] at h;obtain⟨h2,h3⟩:=jcG h;refine⟨fun q hq x hx=>?_,List.pairwise_cons.2 ⟨fun x hx=>h2 _ rfl x hx,h3⟩⟩;subst hq;have hlt:ltS q n.name=true:=Vec.YZ y;rcases List.mem_cons.1 hx with rfl | hx
      · exact hlt
      · exact Vec.Jf hlt (h2 _ rfl x hx)
  · rw[Xi z] at h;exact absurd h z
theorem jgw {s:Clu} (h:ZA s=true):Asc s.pods:=by
 have hc:=qA h;have h0:or3 (jA s.nodes) (jw s.pods) (jy s.buds)=0:=Decidable.byContradiction fun g=>g ((Xl (nl:=s.nodes) (pl:=s.pods) (bl:=s.buds) rfl g).symm.trans hc);have ho:jw s.pods=0:=by
  unfold or3 at h0;split at h0
  · rename_i h1;exact absurd h0 h1
  · split at h0
    · exact h0
    · rename_i h1;exact Decidable.of_not_not h1
 unfold jw at ho;split at ho
 · cases ho
 · exact(jcG ho).2
theorem jfh {l:List Pd} {x:ByteArray}:Jq l x=none↔∀q ∈ l,q.name≠x:=by
 unfold Jq;rw[List.find?_eq_none];exact⟨fun h q hq e=>h q hq (jW.2 e),fun h q hq e=>h q hq (jW.1 e)⟩
theorem jhw {l:List Pd} {x:ByteArray} {p:Pd} (h:Jq l x=some p):p ∈ l∧p.name=x :=
 ⟨List.mem_of_find?_eq_some h,jW.1 (List.find?_some (p:=fun n:Pd=>eqS n.name x) h)⟩
theorem jbP {x:ByteArray}:∀{l:List Pd},(∀q ∈ l,q.name≠x)→j0 x l=l
 | [],_=>rfl
 | p::t,h=>by
  have hp:=h p (List.mem_cons_self ..);rw[j0,if_neg (fun e=>hp (jW.1 e)),jbP fun q hq=>h q (List.mem_cons_of_mem _ hq)]
theorem ZL {x:ByteArray}:∀{l:List Pd} {q:Pd},q ∈ j0 x l→q ∈ l
 | p::t,q,h=>by
  rw[j0] at h;split at h
  · exact List.mem_cons_of_mem _ h
  · rcases List.mem_cons.1 h with rfl | h
    · exact List.mem_cons_self ..
    · exact List.mem_cons_of_mem _ (ZL h)
theorem jbp {x:ByteArray}:∀{l:List Pd},Asc l→∀q ∈ j0 x l,q.name≠x
 | p::t,h,q,hq=>by
  obtain⟨h1,h2⟩:=List.pairwise_cons.1 h;rw[j0] at hq;split at hq
  · rename_i e;have e:=jW.1 e;have:=Vec.ZD (h1 q hq);rw[e] at this;exact fun e=>this e.symm
  · rename_i e;rcases List.mem_cons.1 hq with rfl | hq
    · exact fun e'=>e (jW.2 e')
    · exact jbp h2 q hq
theorem jbO {x:ByteArray}:∀{l:List Pd},Asc l→Asc (j0 x l)
 | [],h=>h
 | p::t,h=>by
  obtain⟨h1,h2⟩:=List.pairwise_cons.1 h;rw[j0];split
  · exact h2
  · exact List.pairwise_cons.2 ⟨fun q hq=>h1 q (ZL hq),jbO h2⟩
theorem qY {x:ByteArray}:∀{l:List Pd},(j0 x l).length+(if (Jq l x).isSome=true then 1 else 0)=l.length
 | []=>rfl
 | p::t=>by
  by_cases e:eqS p.name x=true
  · have hf:Jq (p::t) x=some p:=by unfold Jq;exact List.find?_cons_of_pos (p:=fun n:Pd=>eqS n.name x) e
    rw[j0,if_pos e,hf];simp
  · have hf:Jq (p::t) x=Jq t x:=by unfold Jq;exact List.find?_cons_of_neg (p:=fun n:Pd=>eqS n.name x) e
    rw[j0,if_neg e,hf];have:=qY (x:=x) (l:=t);simp only[List.length_cons];omega
theorem ins_mem {p:Pd}:∀{l:List Pd} {q:Pd},q ∈ JM p l→q=p∨q ∈ l
 | [],q,h=>by
  have:=List.mem_singleton.1 (show q ∈ [p] from h);exact .inl this
 | r::t,q,h=>by
  rw[JM] at h;split at h
  · rcases List.mem_cons.1 h with rfl | h
    · exact .inl rfl
    · exact .inr h
  · rcases List.mem_cons.1 h with rfl | h
    · exact .inr (List.mem_cons_self ..)
    · exact(ins_mem h).imp id (List.mem_cons_of_mem _)
theorem jdU (p:Pd):∀l:List Pd,(JM p l).length=l.length+1
 | []=>rfl
 | r::t=>by
  rw[JM];split
  · rfl
  · rw[List.length_cons,jdU p t,List.length_cons]
theorem jdB {p:Pd}:∀{l:List Pd},Asc l→(∀q ∈ l,q.name≠p.name)→Asc (JM p l)
 | [],_,_=>List.pairwise_singleton ..
 | r::t,h,hn=>by
  obtain⟨h1,h2⟩:=List.pairwise_cons.1 h;rw[JM];split
  · rename_i e;refine List.pairwise_cons.2 ⟨fun q hq=>?_,h⟩;rcases List.mem_cons.1 hq with rfl | hq
    · exact e
    · exact Vec.Jf e (h1 q hq)
  · rename_i e;have e:ltS p.name r.name=false:=by simpa using e
    refine List.pairwise_cons.2 ⟨fun q hq=>?_,jdB h2 fun q hq=>hn q (List.mem_cons_of_mem _ hq)⟩;rcases ins_mem hq with rfl | hq
    · cases g:ltS r.name q.name with
      | true=>rfl
      | false=>exact absurd (Vec.Y7 g e) (hn r (List.mem_cons_self ..))
    · exact h1 q hq
theorem jhg {s:Clu} (h:Asc s.pods) (p:Pd):Asc (Zs s p).pods:=jdB (jbO h) (jbp h)
theorem jhu {s:Clu} (p:Pd):(Zs s p).pods.length=(zn s p.name).pods.length+1:=jdU p _
theorem jbg (s:Clu) (x:ByteArray):(zn s x).pods.length+(if (Jq s.pods x).isSome=true then 1 else 0)=s.pods.length:=qY
def zo (l:Vec.V):Prop:=Vec.Gd l∧l.length≤8
theorem zo.nil:zo []:=⟨Vec.Gd.nil,by decide⟩
theorem jaM {l:Vec.V} (h:Vec.jo l=0) (hf:Vec.zN l):zo l:=⟨Vec.ZW h hf,Vec.Za h⟩
theorem Yw {f g:ByteArray→Int} {r:Vec.V} (h:∀n,f n=g n):Vec.Made f r↔Vec.Made g r:=by rw[funext h]
theorem add_step {v p:Vec.V} (hv:zo v) (hp:zo p) :
 (∃q,Vec.jh Vec.jx v p=(0,q)∧zo q∧∀n,Vec.jg q n=Vec.jg v n+Vec.jg p n) ∨
 (∃c,c≠0∧Vec.jh Vec.jx v p=(c,[])∧∀(r:Vec.V) (f:ByteArray→Int),(∀n,0≤f n)→Vec.Made (fun n=>Vec.jg v n+Vec.jg p n+f n) r→r.length≤8→False):=by
 rcases Vec.merged_spec Vec.je2 hv.1 hp.1 hv.2 hp.2 with ⟨⟨n,hn⟩,hb⟩ | ⟨hn,q,hm,⟨h8,hb⟩ | ⟨h8,hb⟩⟩
 · refine .inr ⟨5,by decide,hb,fun r f hf hr _=>hn ((Vec.YN _ _).2 ?_)⟩;have h1:=(Vec.zU n hr.1).2;have h2:=hf n;rw[hr.2 n] at h1;dsimp only at h1;omega
 · refine .inr ⟨4,by decide,hb,fun r f hf hr h9=>?_⟩;have hl:q.length≤r.length:=Vec.Gd.len hm.1 hr.1 fun n hne e=>hne (by
    rw[hm.2 n];show (Vec.jx _ _).1=0;rw[Vec.qH ((Vec.YN _ _).1 (hn n))];have h1:=hf n;have h2:=Vec.zU n hv.1;have h3:=Vec.zU n hp.1;rw[hr.2 n] at e;dsimp only at e ⊢;omega)
   omega
 · exact .inl ⟨q,hb,⟨hm.1,h8⟩,fun n=>by rw[hm.2 n];show (Vec.jx _ _).1=_;rw[Vec.qH ((Vec.YN _ _).1 (hn n))]⟩
def Jy (x:ByteArray) (p:Pd) (n:ByteArray):Int:=if eqS p.node x=true then Vec.jg p.need n else 0
def zH (x:ByteArray):List Pd→ByteArray→Int
 | [],_=>0
 | p::t,n=>Jy x p n+zH x t n
theorem jbZ {x:ByteArray} {p:Pd} (h:zo p.need) (n:ByteArray):0≤Jy x p n:=by
 unfold Jy;split
 · exact(Vec.zU n h.1).1
 · exact Int.le_refl _
theorem qB {x:ByteArray}:∀{l:List Pd},(∀p ∈ l,zo p.need)→∀n,0≤zH x l n
 | [],_,n=>Int.le_refl _
 | p::t,h,n=>Int.add_nonneg (jbZ (h p (List.mem_cons_self ..)) n) (qB (fun q hq=>h q (List.mem_cons_of_mem _ hq)) n)
theorem qI {x:ByteArray}:∀{l:List Pd} {v r:Vec.V},(∀p ∈ l,zo p.need)→zo v→(jJ x l v=(0,r)↔Vec.Made (fun n=>Vec.jg v n+zH x l n) r∧r.length≤8)
 | [],v,r,_,hv=>by
  constructor
  · intro e
    cases e
    exact⟨⟨hv.1,fun n=>by show _=_+(0:Int);rw[Int.add_zero]⟩,hv.2⟩
  · rintro ⟨hm,_⟩;have e:v=r:=Vec.Gd.ext hv.1 hm.1 fun n=>by rw[hm.2 n];show _=_+(0:Int);rw[Int.add_zero]
    rw[e];rfl
 | p::t,v,r,hl,hv=>by
  have ht:∀q ∈ t,zo q.need:=fun q hq=>hl q (List.mem_cons_of_mem _ hq);have hp:=hl p (List.mem_cons_self ..)
  cases e:eqS p.node x with
  | false =>
   rw[X2 e,qI ht hv];refine and_congr (Yw fun n=>?_) Iff.rfl;show _=_+(Jy x p n+zH x t n);rw[Jy,if_neg (by rw[e];decide),Int.zero_add]
  | true =>
   have hone:∀n,Jy x p n=Vec.jg p.need n:=fun n=>by rw[Jy,if_pos e]
   rcases add_step hv hp with ⟨q,hq,fq,gq⟩ | ⟨c,hc,hq,no⟩
   · rw[qx e hq,qI ht fq];refine and_congr (Yw fun n=>?_) Iff.rfl;show _=_+(Jy x p n+zH x t n);rw[hone,gq,Int.add_assoc]
   · rw[qO e hq hc];constructor
     · intro h;exact absurd (Prod.mk.inj h).1 hc
     · rintro ⟨hm,h8⟩;refine(no r (zH x t) (qB ht) ((Yw fun n=>?_).1 hm) h8).elim;show _+(Jy x p n+zH x t n)=_;rw[hone,Int.add_assoc]
theorem qy {x:ByteArray} {l:List Pd} {r:Vec.V} (hl:∀p ∈ l,zo p.need):jJ x l []=(0,r)↔Vec.Made (zH x l) r∧r.length≤8:=by
 rw[qI hl zo.nil];exact and_congr (Yw fun n=>by show (0:Int)+_=_;rw[Int.zero_add]) Iff.rfl
theorem jba {x y:ByteArray}:∀{l:List Pd} {p:Pd},Jq l y=some p→∀n,zH x (j0 y l) n+Jy x p n=zH x l n
 | q::t,p,h,n=>by
  by_cases e:eqS q.name y=true
  · have hq:Jq (q::t) y=some q:=by unfold Jq;exact List.find?_cons_of_pos (p:=fun n:Pd=>eqS n.name y) e
    rw[hq] at h;obtain rfl:=Option.some.inj h;rw[j0,if_pos e];show _=Jy x q n+zH x t n;omega
  · have hq:Jq (q::t) y=Jq t y:=by unfold Jq;exact List.find?_cons_of_neg (p:=fun n:Pd=>eqS n.name y) e
    rw[hq] at h;have:=jba (x:=x) h n;rw[j0,if_neg e];show Jy x q n+zH x (j0 y t) n+_=Jy x q n+zH x t n;omega
structure YU (s:Clu):Prop where
 nodes:jA s.nodes=0
 pods:jw s.pods=0
 places:js s.nodes s.pods=0
 rooms:jH s.pods s.nodes=0
 tot:(zP s.nodes []).1=0
theorem jgg {s:Clu} (h:zD s=0):YU s:=by
 have h0:or3 (jA s.nodes) (jw s.pods) (jy s.buds)=0:=Decidable.byContradiction fun g=>g ((Xl (nl:=s.nodes) (pl:=s.pods) (bl:=s.buds) rfl g).symm.trans h);have h1:js s.nodes s.pods=0:=Decidable.byContradiction fun g=>g ((XN (nl:=s.nodes) (pl:=s.pods) (bl:=s.buds) h0 rfl g).symm.trans h);have h2:jH s.pods s.nodes=0:=Decidable.byContradiction fun g=>g ((YJ (nl:=s.nodes) (pl:=s.pods) (bl:=s.buds) h0 h1 rfl g).symm.trans h);have h3:(zP s.nodes []).1=0:=(Xc (nl:=s.nodes) (pl:=s.pods) (bl:=s.buds) h0 h1 h2).symm.trans h;have ho:jA s.nodes=0∧jw s.pods=0:=by
  unfold or3 at h0;split at h0
  · rename_i h1;exact absurd h0 h1
  · rename_i g1;split at h0
    · rename_i g2;exact absurd h0 g2
    · rename_i g2;exact⟨Decidable.of_not_not g1,Decidable.of_not_not g2⟩
 exact⟨ho.1,ho.2,h1,h2,h3⟩
theorem jas {pods:List Pd}:∀{l:List Nod},jH pods l=0→∀n ∈ l,∃u,jJ n.name pods []=(0,u)∧Vec.jv n.cap u=true
 | m::t,h,n,hn=>by
  obtain⟨c,u,hu⟩:∃c u,jJ m.name pods []=(c,u):=⟨_,_,rfl⟩
  by_cases hc:c=0
  · subst hc
    cases hf:Vec.jv m.cap u with
    | false=>rw[Xg hu hf] at h;cases h
    | true =>
     rw[Yt hu hf] at h;rcases List.mem_cons.1 hn with rfl | hn
     · exact⟨u,hu,hf⟩
     · exact jas h n hn
  · rw[XO hu hc] at h;exact absurd h hc
def jhZ (l:List Nod):Prop:=l.Pairwise fun x y=>ltS x.name y.name=true
theorem YO:∀{prev:Option ByteArray} {l:List Nod},jS prev l=0→(∀q,prev=some q→∀x ∈ l,ltS q x.name=true)∧jhZ l∧∀n ∈ l,j4 n=0
 | _,[],_=>⟨fun q _ x h=>absurd h (by simp),.nil,fun n h=>absurd h (by simp)⟩
 | prev,n::t,h=>by
  by_cases z:j4 n=0
  · by_cases y:Vec.jF prev n.name=true
    · rw[Xs z y] at h;cases h
    · have y:Vec.jF prev n.name=false:=by simpa using y
      rw[Ym z y] at h;obtain⟨h2,h3,h4⟩:=YO h;refine⟨fun q hq x hx=>?_,List.pairwise_cons.2 ⟨fun x hx=>h2 _ rfl x hx,h3⟩,fun m hm=>?_⟩
      · subst hq;have hlt:ltS q n.name=true:=Vec.YZ y;rcases List.mem_cons.1 hx with rfl | hx
        · exact hlt
        · exact Vec.Jf hlt (h2 _ rfl x hx)
      · rcases List.mem_cons.1 hm with rfl | hm
        · exact z
        · exact h4 m hm
  · rw[qE z] at h;exact absurd h z
theorem jbe:∀{l:List Nod} {p:Nod},jhZ l→p ∈ l→jl l p.name=some p
 | [],_,_,h=>by cases h
 | x::t,p,h,hp=>by
  unfold jl;rcases List.mem_cons.1 hp with hp | hp
  · subst hp;exact List.find?_cons_of_pos (p:=fun n:Nod=>eqS n.name p.name) (Yy _)
  · have hlt:=(List.pairwise_cons.1 h).1 p hp;exact(List.find?_cons_of_neg (p:=fun n:Nod=>eqS n.name p.name) (fun e=>Vec.ZD hlt (jW.1 e))).trans (jbe (List.pairwise_cons.1 h).2 hp)
theorem YU.jl {s:Clu} (h:YU s) {n:Nod} (hn:n ∈ s.nodes):jl s.nodes n.name=some n:=by
 have ho:=h.nodes;unfold jA at ho;split at ho
 · cases ho
 · exact jbe (YO ho).2.1 hn
theorem YU.cap0 {s:Clu} (h:YU s) {n:Nod} (hn:n ∈ s.nodes):Vec.jo n.cap=0:=by
 have ho:=h.nodes;unfold jA at ho;split at ho
 · cases ho
 · have hc:=(YO ho).2.2 n hn;unfold j4 at hc;split at hc
   · cases hc
   · split at hc
     · rename_i g;exact absurd hc g
     · rename_i g;exact Decidable.of_not_not g
theorem jaE:∀{prev:Option ByteArray} {l:List Pd},jP prev l=0→∀n ∈ l,j8 n=0
 | prev,m::t,h,n,hn=>by
  by_cases z:j8 m=0
  · by_cases y:Vec.jF prev m.name=true
    · rw[Yr z y] at h;cases h
    · have y:Vec.jF prev m.name=false:=by simpa using y
      rw[Zh z y] at h;rcases List.mem_cons.1 hn with rfl | hn
      · exact z
      · exact jaE h n hn
  · rw[Xi z] at h;exact absurd h z
theorem Xb:∀{l:List Int},orL l=0→∀c ∈ l,c=0
 | x::t,h,c,hc=>by
  unfold orL at h;split at h
  · rename_i g;exact absurd h g
  · rename_i g;rcases List.mem_cons.1 hc with rfl | hc
    · exact Decidable.of_not_not g
    · exact Xb h c hc
theorem YU.need0 {s:Clu} (h:YU s) {n:Pd} (hn:n ∈ s.pods):Vec.jo n.need=0:=by
 have ho:=h.pods;unfold jw at ho;split at ho
 · cases ho
 · exact Xb (jaE ho n hn) _ (by simp[Ya])
structure Sound (s:Clu):Prop where
 parts:YU s
 asc:Asc s.pods
 need:∀p ∈ s.pods,zo p.need
 cap:∀n ∈ s.nodes,zo n.cap
theorem jgb {s:Clu} {w:World} {v:Value} (h:ZA s=true) (hr:jU w v s):Sound s:=by
 have hp:=jgg (qA h);obtain⟨v1,v2,v3,rfl,⟨a,cap,rfl,-,-,h1⟩,⟨b,cp,rfl,-,-,h2⟩,-⟩:=hr;refine⟨hp,jgw h,fun p hm=>jaM (hp.need0 hm) ?_,fun n hm=>jaM (hp.cap0 hm) ?_⟩
 · obtain⟨k,hk,rfl⟩:=List.mem_iff_getElem.1 hm;rcases h2.2.2 with h0 | ⟨b,off,-,-,hc⟩
   · omega
   · obtain⟨v1,v2,v3,v4,-,-,-,-,-,-,-,-,-,-,-,hat⟩:=hc k _ (List.getElem?_eq_getElem hk);obtain⟨a9,c9,-,-,-,g⟩:=hat.need;exact g.2.2.1
 · obtain⟨k,hk,rfl⟩:=List.mem_iff_getElem.1 hm;rcases h1.2.2 with h0 | ⟨b,off,-,-,hc⟩
   · omega
   · obtain⟨a1,m1,c1,a2,m2,c2,a3,m3,c3,-,-,-,-,-,hat⟩:=hc k _ (List.getElem?_eq_getElem hk);obtain⟨a9,c9,-,-,-,g⟩:=hat.cap;exact g.2.2.1
theorem jg9 {s:Clu} (h:Sound s) {n:Nod} (hn:n ∈ s.nodes):ZB s n.name=jJ n.name s.pods []:=XQ (h.parts.jl hn)
theorem jhb {s:Clu} (h:Sound s) {n:Nod} (hn:n ∈ s.nodes):∃u f,ZB s n.name=(0,u)∧J9 s n.name=(0,f)∧Vec.jh Vec.jx u f=(0,n.cap)∧zo u∧zo f∧Vec.Made (zH n.name s.pods) u∧(∀m,Vec.jg f m=Vec.jg n.cap m-Vec.jg u m)∧∀m,Vec.jg u m≤Vec.jg n.cap m:=by
 obtain⟨u,hu,hf⟩:=jas h.parts.rooms n hn;obtain⟨hm,hl⟩:=(qy h.need).1 hu;have hc:=h.cap n hn;have hle:=(Vec.Z9 hm.1 hc.1).1 hf;obtain⟨f,hs,hmf,hlf⟩:=Vec.qK hc.1 hm.1 hc.2 hl hle;have hget:∀m,Vec.jg f m=Vec.jg n.cap m-Vec.jg u m:=fun m=>hmf.2 m;refine⟨u,f,(jg9 h hn).trans hu,?_,?_,⟨hm.1,hl⟩,⟨hmf.1,hlf⟩,hm,hget,hle⟩
 · unfold J9;rw[h.parts.jl hn];dsimp only;rw[hu,if_pos rfl];exact hs
 · refine Vec.jgj hm.1 hmf.1 hl hlf (fun m=>?_) ⟨hc.1,fun m=>?_⟩ hc.2
   · have:=(Vec.zU m hc.1).2;rw[hget];omega
   · show _=Vec.jg u m+Vec.jg f m;rw[hget];omega
def Yn (g:ByteArray→Int):Vec.V→Vec.V
 | []=>[]
 | x::t=>if g x.1=0 then Yn g t else (x.1,g x.1)::Yn g t
theorem YI {g:ByteArray→Int}:∀{l:Vec.V} {y:ByteArray×Int},y ∈ Yn g l→∃x ∈ l,y=(x.1,g x.1)∧g x.1≠0
 | x::t,y,h=>by
  rw[Yn] at h;split at h
  · obtain⟨z,hz,e⟩:=YI h;exact⟨z,by simp[hz],e⟩
  · rename_i hg;rcases List.mem_cons.1 h with rfl | h
    · exact⟨x,by simp,rfl,hg⟩
    · obtain⟨z,hz,e⟩:=YI h;exact⟨z,by simp[hz],e⟩
theorem jb4 (g:ByteArray→Int):∀l:Vec.V,(Yn g l).length≤l.length
 | []=>Nat.le_refl _
 | x::t=>by
  have:=jb4 g t;rw[Yn];split<;>simp only[List.length_cons]<;>omega
theorem jdy {g:ByteArray→Int}:∀{l:Vec.V},Vec.Gd l→(∀x ∈ l,0≤g x.1∧g x.1≤9223372036854775807)→Vec.Gd (Yn g l)
 | [],_,_=>Vec.Gd.nil
 | x::t,h,hb=>by
  obtain⟨h1,h2,h3⟩:=Vec.Gd.cons.1 h;have ih:=jdy h3 fun y hy=>hb y (by simp[hy]);rw[Yn];split
  · exact ih
  · rename_i hg;have:=hb x (by simp);refine Vec.Gd.cons.2 ⟨⟨h1.1,by dsimp only;omega,this.2⟩,fun y hy=>?_,ih⟩;obtain⟨z,hz,rfl,_⟩:=YI hy;exact h2 z hz
theorem qF {g:ByteArray→Int} {n:ByteArray}:∀{l:Vec.V},Vec.Gd l→(∃x ∈ l,x.1=n)→Vec.jg (Yn g l) n=g n
 | [],_,h=>by obtain⟨x,hx,_⟩:=h;cases hx
 | y::t,h,he=>by
  obtain⟨h1,h2,h3⟩:=Vec.Gd.cons.1 h;by_cases e:y.1=n
  · rw[Yn];split
    · rename_i hg;rw[←e,hg];refine Vec.YA fun z hz=>?_;obtain⟨q,hq,rfl,_⟩:=YI hz;exact fun e2=>Vec.ZD (h2 q hq) e2.symm
    · rw[←e];exact Vec.zQ _ _
  · have ht:∃x ∈ t,x.1=n:=by
     obtain⟨x,hx,e2⟩:=he;rcases List.mem_cons.1 hx with rfl | hx
     · exact absurd e2 e
     · exact⟨x,hx,e2⟩
    rw[Yn];split
    · exact qF h3 ht
    · rw[Vec.zT _ (by exact e)];exact qF h3 ht
theorem jgk {g:ByteArray→Int} {u:Vec.V} (hu:zo u) (h0:∀n,0≤g n) (h1:∀n,g n≤Vec.jg u n):∃r,Vec.Made g r∧r.length≤8:=by
 refine⟨Yn g u,⟨jdy hu.1 fun x hx=>⟨h0 _,Int.le_trans (h1 _) (Vec.zU _ hu.1).2⟩,fun n=>?_⟩,Nat.le_trans (jb4 g u) hu.2⟩;by_cases e:∃x ∈ u,x.1=n
 · exact qF hu.1 e
 · have hz:Vec.jg u n=0:=Vec.YA fun y hy e2=>e ⟨y,hy,e2⟩;have h2:=h0 n;have h3:=h1 n;rw[show g n=0 by omega];refine Vec.YA fun y hy e2=>?_;obtain⟨x,hx,rfl,_⟩:=YI hy;exact e ⟨x,hx,e2⟩
theorem jff {x:ByteArray} {cap:Vec.V} {l:List Pd} (hc:zo cap) (hp:∀p ∈ l,zo p.need) (hs:∀m,zH x l m≤Vec.jg cap m):∃u,jJ x l []=(0,u)∧zo u∧(∀m,Vec.jg u m=zH x l m)∧Vec.jv cap u=true:=by
 obtain⟨u,hu,hu8⟩:=jgk hc (qB hp) hs;exact⟨u,(qy hp).2 ⟨hu,hu8⟩,⟨hu.1,hu8⟩,hu.2,(Vec.Z9 hu.1 hc.1).2 fun m=>by rw[hu.2 m];exact hs m⟩
theorem jdL {s:Clu} {n:Nod} (hf:jl s.nodes n.name=some n) (hc:zo n.cap) (hp:∀p ∈ s.pods,zo p.need) (hs:∀m,zH n.name s.pods m≤Vec.jg n.cap m):∃b,J9 s n.name=(0,b)∧zo b∧∀m,Vec.jg b m=Vec.jg n.cap m-zH n.name s.pods m:=by
 obtain⟨u,h1,h2,h3,h4⟩:=jff hc hp hs;obtain⟨b,hb,hmb,hlb⟩:=Vec.qK hc.1 h2.1 hc.2 h2.2 fun m=>by rw[h3 m];exact hs m
 refine⟨b,?_,⟨hmb.1,hlb⟩,fun m=>by
  have h9:Vec.jg b m=Vec.jg n.cap m-Vec.jg u m:=hmb.2 m;rw[h9,h3 m]⟩
 unfold J9;rw[hf];dsimp only;rw[h1,if_pos rfl];exact hb
theorem jgL {s:Clu} {n:Nod} (hf:jl s.nodes n.name=some n) (hc:zo n.cap) (hp:∀p ∈ s.pods,zo p.need) (h:(J9 s n.name).1=0):∀m,zH n.name s.pods m≤Vec.jg n.cap m:=by
 unfold J9 at h;rw[hf] at h;dsimp only at h;obtain⟨c,u,hu⟩:∃c u,jJ n.name s.pods []=(c,u):=⟨_,_,rfl⟩
 rw[hu] at h;by_cases hz:c=0
 · subst hz;rw[if_pos rfl] at h;obtain⟨hm,h8⟩:=(qy hp).1 hu;have:=(Vec.Z9 hm.1 hc.1).1 ((Vec.jgm hc.1 hm.1 hc.2 h8).1 h);intro m;rw[←hm.2 m];exact this m
 · rw[if_neg hz] at h;exact absurd h hz
theorem jgy {s:Clu} {p:Pd} {n:Nod} (hf:jl s.nodes n.name=some n) (hc:zo n.cap) (hp:∀p ∈ s.pods,zo p.need) (hq:zo p.need):Z0 s p n.name=true↔∀m,zH n.name s.pods m+Vec.jg p.need m≤Vec.jg n.cap m:=by
 unfold Z0;rw[Bool.and_eq_true,decide_eq_true_iff];constructor
 · rintro ⟨h1,h2⟩ m;have hs:=jgL hf hc hp h1;obtain⟨b,hb,fb,gb⟩:=jdL hf hc hp hs;rw[hb] at h2;have:=(Vec.Z9 hq.1 fb.1).1 h2 m;rw[gb] at this;omega
 · intro h;obtain⟨b,hb,fb,gb⟩:=jdL hf hc hp fun m=>by have:=h m;have:=(Vec.zU m hq.1).1;omega
   rw[hb];refine⟨rfl,(Vec.Z9 hq.1 fb.1).2 fun m=>?_⟩;rw[gb];have:=h m;omega
theorem jf9 {x y:ByteArray} (l:List Pd) (hl:∀p ∈ l,zo p.need) (m:ByteArray):zH x (j0 y l) m≤zH x l m:=by
 cases h:Jq l y with
 | none=>rw[jbP (jfh.1 h)];exact Int.le_refl _
 | some p =>
  have h1:=jba (x:=x) h m;have h2:=jbZ (x:=x) (hl p (jhw h).1) m;omega
theorem Sound.sum {s:Clu} (h:Sound s) {n:Nod} (hn:n ∈ s.nodes) (m:ByteArray):zH n.name s.pods m≤Vec.jg n.cap m:=by
 obtain⟨u,f,-,-,-,-,-,hm,-,hle⟩:=jhb h hn;rw[←hm.2 m];exact hle m
theorem jfN {s:Clu} (h:∀p ∈ s.pods,zo p.need) (x:ByteArray):∀p ∈ (zn s x).pods,zo p.need:=fun p hp=>h p (ZL hp)
theorem jbn {nodes:List Nod}:∀{l:List Pd},js nodes l=0→∀p ∈ l,JB p.node=false→(jl nodes p.node).isSome=true
 | q::t,h,p,hp,hn=>by
  by_cases g:JB q.node=false∧(jl nodes q.node).isSome=false
  · rw[Xe g.1 g.2] at h;cases h
  · have h2:js nodes t=0:=by rw[js,if_neg g] at h;exact h
    rcases List.mem_cons.1 hp with rfl | hp
    · cases e:(jl nodes p.node).isSome with
      | false=>exact absurd ⟨hn,e⟩ g
      | true=>rfl
    · exact jbn h2 p hp hn
theorem jcq {x:ByteArray} {p:Pd}:∀(l:List Pd) (m:ByteArray),zH x (JM p l) m=Jy x p m+zH x l m
 | [],m=>rfl
 | q::t,m=>by
  rw[JM];split
  · rfl
  · show Jy x q m+zH x (JM p t) m=Jy x p m+(Jy x q m+zH x t m);rw[jcq t m];omega
theorem jdH:∀{prev:Option ByteArray} {l:List Pd},Asc l→(∀p ∈ l,j8 p=0)→(∀q,prev=some q→∀x ∈ l,ltS q x.name=true)→jP prev l=0
 | _,[],_,_,_=>rfl
 | prev,n::t,h,hc,hb=>by
  obtain⟨h1,h2⟩:=List.pairwise_cons.1 h;have b:Vec.jF prev n.name=false:=by
   cases prev with
   | none=>rfl
   | some q=>exact Vec.XV (hb q rfl n (by simp))
  rw[Zh (hc n (by simp)) b];exact jdH h2 (fun p hp=>hc p (by simp[hp])) fun q hq x hx=>by cases hq;exact h1 x hx
theorem ja3 {nodes:List Nod}:∀{l:List Pd},(∀p ∈ l,JB p.node=false→(jl nodes p.node).isSome=true)→js nodes l=0
 | [],_=>rfl
 | q::t,h=>by
  rw[js,if_neg fun g=>by have:=h q (by simp) g.1;rw[g.2] at this;cases this];exact ja3 fun p hp=>h p (by simp[hp])
theorem jcL {pods:List Pd}:∀{l:List Nod},(∀n ∈ l,∃u,jJ n.name pods []=(0,u)∧Vec.jv n.cap u=true)→jH pods l=0
 | [],_=>rfl
 | n::t,h=>by
  obtain⟨u,h1,h2⟩:=h n (by simp);rw[Yt h1 h2];exact jcL fun m hm=>h m (by simp[hm])
theorem jeK:∀{l:List Int},(∀c ∈ l,c=0)→orL l=0
 | [],_=>rfl
 | x::t,h=>by rw[orL,if_neg (by rw[h x (by simp)];decide)];exact jeK fun c hc=>h c (by simp[hc])
theorem jfk {n:Nod} (h:j4 n=0):isName n.name=true:=by
 unfold j4 at h;split at h
 · cases h
 · rename_i h1;simpa using h1
theorem je3 {p:Pd} {x:ByteArray} (h:j8 p=0) (hx:isName x=true):j8 { p with node:=x }=0:=by
 have hz:=Xb (l:=Ya p) h;unfold j8;refine jeK fun c hc=>?_;unfold Ya at hc hz;simp only[List.mem_cons,List.not_mem_nil,or_false] at hc hz;rcases hc with rfl | rfl | rfl | rfl | rfl | rfl | rfl | rfl
 · exact hz _ (.inl rfl)
 · exact hz _ (.inr (.inl rfl))
 · exact hz _ (.inr (.inr (.inl rfl)))
 · exact hz _ (.inr (.inr (.inr (.inl rfl))))
 · exact hz _ (.inr (.inr (.inr (.inr (.inl rfl)))))
 · exact hz _ (.inr (.inr (.inr (.inr (.inr (.inl rfl))))))
 · exact hz _ (.inr (.inr (.inr (.inr (.inr (.inr (.inl rfl)))))))
 · unfold Zt JP;rw[hx];simp
theorem jfF {s:Clu} {p:Pd} {x:ByteArray} (hg:zD s=0) (hs:Sound s) (hp:j8 p=0) (hq:zo p.need) (hl:s.pods.length<128) (h:Zw s p x=0):zD (Zs s { p with node:=x })=0:=by
 obtain⟨n,hf,hz⟩:=jdd h;obtain⟨-,-,-,h4⟩:=jb3 hz;obtain⟨hm,rfl⟩:=jfz hf;have h5:=(jgy (s:=zn s p.name) hf (hs.cap n hm) (jfN hs.need p.name) hq).1 h4;have h0:or3 (jA s.nodes) (jw s.pods) (jy s.buds)=0:=Decidable.byContradiction fun g=>g ((Xl (nl:=s.nodes) (pl:=s.pods) (bl:=s.buds) rfl g).symm.trans hg);have hN:=hs.parts.nodes;have hP:=hs.parts.pods;have hB:jy s.buds=0:=by
  unfold or3 at h0;rw[if_neg (by rw[hN];decide),if_neg (by rw[hP];decide)] at h0;exact h0
 have hnodes:∀m ∈ s.nodes,j4 m=0:=by
  unfold jA at hN;split at hN
  · cases hN
  · exact(YO hN).2.2
 have hpods:∀q ∈ s.pods,j8 q=0:=by
  unfold jw at hP;split at hP
  · cases hP
  · exact jaE hP
 have hp':j8 { p with node:=n.name }=0:=je3 hp (jfk (hnodes n hm));have hP':jw (Zs s { p with node:=n.name }).pods=0:=by
  have e1:=jhu (s:=s) { p with node:=n.name };have e2:=jbg s p.name;unfold jw;rw[if_neg (by
   have e3:(Zs s { p with node:=n.name }).pods.length=(zn s p.name).pods.length+1:=e1;omega)]
  refine jdH (jhg hs.asc _) (fun q hq=>?_) fun q hq=>by cases hq
  rcases ins_mem hq with rfl | hq
  · exact hp'
  · exact hpods q (ZL hq)
 have hpl:js s.nodes (Zs s { p with node:=n.name }).pods=0:=ja3 fun q hq hn=>by
  rcases ins_mem hq with rfl | hq
  · show (jl s.nodes n.name).isSome=true;have:jl s.nodes n.name=some n:=hf;rw[this];rfl
  · exact jbn hs.parts.places q (ZL hq) hn
 have hneed:∀q ∈ (Zs s { p with node:=n.name }).pods,zo q.need:=fun q hq9=>by
  rcases ins_mem hq9 with rfl | hq9
  · exact hq
  · exact hs.need q (ZL hq9)
 have hro:jH (Zs s { p with node:=n.name }).pods s.nodes=0:=jcL fun k hk=>by
  obtain⟨u,h1,-,-,h2⟩:=jff (x:=k.name) (l:=(Zs s { p with node:=n.name }).pods) (hs.cap k hk) hneed fun m=>by
   show zH k.name (JM { p with node:=n.name } (j0 p.name s.pods)) m≤_;rw[jcq];by_cases e:k.name=n.name
   · have hkn:k=n:=by
      have e1:=hs.parts.jl hk;rw[e] at e1;have e2:jl s.nodes n.name=some n:=hf;rw[e2] at e1;exact(Option.some.inj e1).symm
     subst hkn;have e3:Jy k.name { p with node:=k.name } m=Vec.jg p.need m:=by unfold Jy;rw[if_pos (Yy _)]
     have:=h5 m;have h6:zH k.name (j0 p.name s.pods) m+Vec.jg p.need m≤Vec.jg k.cap m:=this;omega
   · have e3:Jy k.name { p with node:=n.name } m=0:=by unfold Jy;rw[if_neg fun g=>e (jW.1 g).symm]
     have h7:=hs.sum hk m;have h8:=jf9 (x:=k.name) (y:=p.name) s.pods hs.need m;omega
  exact⟨u,h1,h2⟩
 have ho:or3 (jA s.nodes) (jw (Zs s { p with node:=n.name }).pods) (jy s.buds)=0:=by rw[hN,hP',hB];rfl
 exact(Xc (nl:=s.nodes) (pl:=(Zs s { p with node:=n.name }).pods) (bl:=s.buds) ho hpl hro).trans hs.parts.tot
def jiq (o:Option Nod) (w:World) (e:Ending) (w':World):Prop:=(∀n,o=some n→∃b1 k1 d1 b2 k2 d2 b3 k3 d3,e=.returned (zt n (.slice b1 k1 d1) (.slice b2 k2 d2) (.slice b3 k3 d3))∧zl w' (.slice b1 k1 d1) (.slice b2 k2 d2) (.slice b3 k3 d3) n)∧(o=none→e=.panicked [zb 3])∧Kept w w'
theorem YX (c:Int) (w:World):Calls Tryz.prog 120 #[.bool false,.int .i64 c] w fun e w'=>e=.returned (.tuple #[])∧w=w':=by
 go_enter Tryz.func120,Tryz.ntmps120;go_wp2;refine⟨rfl,.tuple #[],by simp[results,Tryz.results120,go_sem],?_⟩;exact⟨rfl,rfl⟩
theorem Yv (c:Int) (w:World):Calls Tryz.prog 120 #[.bool true,.int .i64 c] w fun e w'=>e=.panicked [zb c]∧w=w':=by
 go_enter Tryz.func120,Tryz.ntmps120;go_wp2;exact⟨rfl,rfl,rfl⟩
theorem jdl (s1 s2 s3:Option Addr) (n1 e1 n2 e2 n3 e3:Nat) (nodes:List Nod) (name:ByteArray) (w:World) (hn:jt w s1 n1 nodes) (hb1:n1≤100000) :
 Calls Tryz.prog 119 #[.agg #[.slice s1 n1 e1,.slice s2 n2 e2,.slice s3 n3 e3],.string name] w (jiq (jl nodes name) w):=by
 obtain⟨Z,hZ⟩:∃Z,(w.alloc (.cells #[.slice s1 n1 e1,.slice s2 n2 e2,.slice s3 n3 e3] 26)).alloc (.cells #[.string ⟨#[]⟩,.slice none 0 0,.slice none 0 0,.slice none 0 0,.bool false] 65)=Z:=⟨_,rfl⟩
 have hkz:Kept w Z:=by rw[←hZ];exact jr _ _ _
 have HSB:=lH (jc w (.slice s1 n1 e1) [.slice s2 n2 e2,.slice s3 n3 e3] 26 Z (by rw[←hZ];exact ja _ _));have hyb:jd (w.heap.size+1) [.string ⟨#[]⟩,.slice none 0 0,.slice none 0 0,.slice none 0 0,.bool false] Z:=by
  have dd:=jc (w.alloc (.cells #[.slice s1 n1 e1,.slice s2 n2 e2,.slice s3 n3 e3] 26)) (.string ⟨#[]⟩) [.slice none 0 0,.slice none 0 0,.slice none 0 0,.bool false] 65 Z (by rw[hZ];exact Kept.refl _);rw[World.size_alloc] at dd;exact dd
 have HYB:=lH hyb;have HN:=lH hn;have HNL:=lH hn.1;have HKZ:=lH hkz;clear hn hkz hyb;go_enter Tryz.func119,Tryz.ntmps119;have y0:=HSB.out.at_ 0 _ rfl;go_upto_region 1 with fail
 try rw[hZ]
 clear hZ;go_wp2;clear y0;go_loopw [10] (fun i wr=>∃k:Nat,k≤n1∧i=.int .i64 k∧jl (nodes.drop k) name=jl nodes name∧Kept Z wr) (fun i _=>n1-(intOf i).toNat)
 case atStart=>exact⟨0,Nat.zero_le _,rfl,rfl,Kept.refl _⟩
 case round =>
  obtain⟨k,hk,rfl,hR,hK⟩:=hrel;have HR:=lH hR;have HK:=lH (HKZ.out.trans hK);have HKR:=lH hK;by_cases hlt:k<n1
  · obtain⟨g,off,rfl⟩:=HN.out.form.resolve_left (by omega);obtain⟨n,b1,k1,d1,b2,k2,d2,b3,k3,d3,hn,hd,hb,u0,u1,u2,u3,u4,hat⟩:=HN.out.at_ hlt;have HAT:=lH hat;have HD:=lH hd;have u0:=cell_later HK.out u0;have u1:=cell_later HK.out u1;have u2:=cell_later HK.out u2;have u3:=cell_later HK.out u3;have u4:=cell_later HK.out u4;have hkk:(k:Int)<(n1:Int):=by omega
    have hk0:¬(k:Int)<0:=by omega
    obtain⟨wx,hwx⟩:∃W,wr.alloc (.cells #[.string n.name,.slice b1 k1 d1,.slice b2 k2 d2,.slice b3 k3 d3,.bool n.cordon] 65)=W:=⟨_,rfl⟩
    have hkx:Kept wr wx:=by rw[←hwx];exact ja _ _
    have HQB:=lH (jc wr (.string n.name) [.slice b1 k1 d1,.slice b2 k2 d2,.slice b3 k3 d3,.bool n.cordon] 65 wx (by rw[hwx];exact Kept.refl _));obtain⟨bq,hbq⟩:∃z,wr.heap.size=z:=⟨_,rfl⟩
    rw[hbq] at HQB;have KX:=lH hkx;go_upto_region 4 with fail
    try rw[hwx]
    try rw[hbq]
    clear hwx hbq hd hb hn hR hK hkx hk0 hkk hat u0 u1 u2 u3 u4;have t0:=HQB.out.at_ 0 _ rfl;have t1:=HQB.out.at_ 1 _ rfl;have t2:=HQB.out.at_ 2 _ rfl;have t3:=HQB.out.at_ 3 _ rfl;have t4:=HQB.out.at_ 4 _ rfl;obtain⟨t,ht⟩:∃t,(n.name.toList==name.toList)=t:=⟨_,rfl⟩
    have HT:=lH (show eqS n.name name=t from ht)
    cases t with
    | false =>
     have HX:=lH (show jl (nodes.drop (k+1)) name=jl nodes name by rw[←HR.out,HD.out];unfold jl;rw[List.find?_cons,HT.out]);go_wp2;go_roundw
     case rel=>exact⟨k+1,by omega,by go_num,HX.out,HKR.out.trans KX.out⟩
     case measure=>simp[intOf];omega
    | true =>
     have HX:=lH (show jl nodes name=some n by rw[←HR.out,HD.out];unfold jl;rw[List.find?_cons,HT.out]);have HYX:=lH (HYB.out.kept (HKR.out.trans KX.out));have z0:=HYX.out.at_ 0 _ rfl;have z1:=HYX.out.at_ 1 _ rfl;have z2:=HYX.out.at_ 2 _ rfl;have z3:=HYX.out.at_ 3 _ rfl;have z4:=HYX.out.at_ 4 _ rfl;have f0:=HYX.out.free 0;have f1:=HYX.out.free 1;have f2:=HYX.out.free 2;have f3:=HYX.out.free 3;have f4:=HYX.out.free 4;have P:=lH (ZX ⟨z0,z1,z2,z3,z4⟩ n.name b1 b2 b3 k1 d1 k2 d2 k3 d3 n.cordon);go_wp2;obtain⟨WE,hWE⟩:∃W,(((((wx.setCell ⟨w.heap.size+1,0,none⟩ (.string n.name)).setCell ⟨w.heap.size+1,1,none⟩ (.slice b1 k1 d1)).setCell ⟨w.heap.size+1,2,none⟩ (.slice b2 k2 d2)).setCell ⟨w.heap.size+1,3,none⟩ (.slice b3 k3 d3)).setCell ⟨w.heap.size+1,4,none⟩ (.bool n.cordon))=W:=⟨_,rfl⟩
     rw[hWE] at P ⊢;clear hWE z0 z1 z2 z3 z4 t0 t1 t2 t3 t4 f0 f1 f2 f3 f4;obtain⟨⟨d0,d1,d2,d3,d4⟩,hsz,hbl,hkp⟩:=P.out;refine bodyPost_ret (by simp[results,Tryz.results119,go_sem,d0,d1,d2,d3,d4];try rfl) rfl ?_;have KE:=hkp _ _ (Nat.le_succ _) (HK.out.trans KX.out);refine⟨fun m e=>?_,fun e=>?_,KE⟩
     · rw[HX.out] at e;cases e;exact⟨_,_,_,_,_,_,_,_,_,rfl,HAT.out.kept KE⟩
     · rw[HX.out] at e;cases e
  · have hge:¬(k:Int)<(n1:Int):=by omega
    have HO:=lH (show jl nodes name=none by rw[←HR.out,List.drop_of_length_le (by rw[HNL.out];omega)];rfl);clear hR hK;go_wp2;exact⟨rfl,(fun m e=>by rw[HO.out] at e;cases e),(fun _=>rfl),HK.out⟩
theorem jfU {r:Int×Vec.V} {w w':World} {e:Ending} (h:Vec.YC r w e w'):Yo r w e w':=by
 obtain⟨v,e,h,k⟩:=h;exact⟨v,e,h.at_,k⟩
theorem jik {v:Value} {s:Clu} {w:World} (h:jU w v s) (x:ByteArray) (hl:zw s):Calls Tryz.prog 158 #[v,.string x] w (Yo (J9 s x) w):=by
 obtain⟨v1,v2,v3,rfl,⟨a,cap,rfl,l1,m1,h1⟩,⟨b,cp,rfl,l2,m2,h2⟩,⟨d,cb,rfl,l3,m3,h3⟩⟩:=h;exact(jfu a b d _ cap _ cp _ cb s.nodes s.pods x w h1 h2 hl.nodes).mono fun _ _ h=>jfU h
theorem jU.nAt {w:World} {v2 v3:Value} {b:Option Addr} {m cp:Nat} {s:Clu} (h:jU w (Zu (.slice b m cp) v2 v3) s):jt w b m s.nodes∧m=s.nodes.length:=by
 obtain⟨_,_,_,e,g0⟩:=h
 cases e
 obtain⟨a',cap',e,_,_,h⟩:=g0.nodes
 cases e
 exact⟨h,rfl⟩
theorem jU.pAt {w:World} {v1 v3:Value} {b:Option Addr} {m cp:Nat} {s:Clu} (h:jU w (Zu v1 (.slice b m cp) v3) s):jz w b m s.pods∧m=s.pods.length:=by
 obtain⟨_,_,_,e,g0⟩:=h
 cases e
 obtain⟨a',cap',e,_,_,h⟩:=g0.pods
 cases e
 exact⟨h,rfl⟩
theorem jb1 (p:Pd) (n:Nod) (a1 a2 a3 a4:Option Addr) (m1 c1 m2 c2 m3 c3 m4 c4:Nat) (b1 b2 b3:Option Addr) (k1 d1 k2 d2 k3 d3:Nat) (w:World) (hp:jC w (.slice a1 m1 c1) (.slice a2 m2 c2) (.slice a3 m3 c3) (.slice a4 m4 c4) p) (hn:zl w (.slice b1 k1 d1) (.slice b2 k2 d2) (.slice b3 k3 d3) n):Calls Tryz.prog 121 #[jE p (.slice a1 m1 c1) (.slice a2 m2 c2) (.slice a3 m3 c3) (.slice a4 m4 c4),zt n (.slice b1 k1 d1) (.slice b2 k2 d2) (.slice b3 k3 d3)] w (Say (.bool (Jo p n)) w):=by
 obtain⟨t,ht⟩:∃t,J5 p.sel n.labels=t:=⟨_,rfl⟩
 have HM0:=lH (fun (W:World) (k:Kept w W)=>jhD (hp.sel.kept k) (hn.labels.kept k) ht);obtain⟨cd,hcd⟩:∃t,n.cordon=t:=⟨_,rfl⟩
 have HV:=lH (show Jo p n=(!cd&&t) by unfold Jo;rw[ht,hcd]);clear ht;obtain⟨Z,hZ⟩:∃Z,(w.alloc (.cells #[.string p.name,.string p.owner,.int .i64 p.prio,.slice a1 m1 c1,.slice a2 m2 c2,.slice a3 m3 c3,.slice a4 m4 c4,.string p.key,.int .i64 p.most,.string p.node,.bool p.hold] 35)).alloc (.cells #[.string n.name,.slice b1 k1 d1,.slice b2 k2 d2,.slice b3 k3 d3,.bool cd] 65)=Z:=⟨_,rfl⟩
 have hkz:Kept w Z:=by rw[←hZ];exact jr _ _ _
 have HB1:=lH (jc w (.string p.name) [.string p.owner,.int .i64 p.prio,.slice a1 m1 c1,.slice a2 m2 c2,.slice a3 m3 c3,.slice a4 m4 c4,.string p.key,.int .i64 p.most,.string p.node,.bool p.hold] 35 Z (by rw[←hZ];exact ja _ _));have HB2:=lH (show jd (w.heap.size+1) [.string n.name,.slice b1 k1 d1,.slice b2 k2 d2,.slice b3 k3 d3,.bool cd] Z by
  have dd:=jc (w.alloc (.cells #[.string p.name,.string p.owner,.int .i64 p.prio,.slice a1 m1 c1,.slice a2 m2 c2,.slice a3 m3 c3,.slice a4 m4 c4,.string p.key,.int .i64 p.most,.string p.node,.bool p.hold] 35)) (.string n.name) [.slice b1 k1 d1,.slice b2 k2 d2,.slice b3 k3 d3,.bool cd] 65 Z (by rw[hZ];exact Kept.refl _);rw[World.size_alloc] at dd;exact dd)
 have K:=lH hkz;have HM:=lH (HM0.out Z hkz);clear HM0 hp hn hkz;have r5:=HB1.out.at_ 5 _ rfl;have q2:=HB2.out.at_ 2 _ rfl;have q4:=HB2.out.at_ 4 _ rfl;unfold jE zt;rw[hcd];clear hcd;go_enter Tryz.func121,Tryz.ntmps121
 cases cd with
 | true =>
  go_wp2;try rw[hZ]
  go_ret;exact⟨je (by rw[HV.out];rfl),by first | exact K.out | (rw[hZ];exact K.out)⟩
 | false =>
  go_wp2_with fail
  try rw[hZ]
  refine HM.out.mono ?_;rintro e w1 ⟨rfl,kk⟩;have K:=lH (K.out.trans kk);clear kk hZ;go_wp2;go_ret;exact⟨je (by rw[HV.out];rfl),K.out⟩
theorem jdf (p:Pd) (n:Nod) (a1 a2 a3 a4:Option Addr) (m1 c1 m2 c2 m3 c3 m4 c4:Nat) (b1 b2 b3:Option Addr) (k1 d1 k2 d2 k3 d3:Nat) (w:World) (hp:jC w (.slice a1 m1 c1) (.slice a2 m2 c2) (.slice a3 m3 c3) (.slice a4 m4 c4) p) (hn:zl w (.slice b1 k1 d1) (.slice b2 k2 d2) (.slice b3 k3 d3) n):Calls Tryz.prog 122 #[jE p (.slice a1 m1 c1) (.slice a2 m2 c2) (.slice a3 m3 c3) (.slice a4 m4 c4),zt n (.slice b1 k1 d1) (.slice b2 k2 d2) (.slice b3 k3 d3)] w (Say (.bool (Zc p n)) w):=by
 obtain⟨t,ht⟩:∃t,(zI p.tols n.taints).isSome=t:=⟨_,rfl⟩
 obtain⟨⟨x,y,mm⟩,hx⟩:∃x,wT (zI p.tols n.taints)=x:=⟨_,rfl⟩
 have HM0:=lH (fun (W:World) (k:Kept w W)=>jhU (hp.tols.kept k) (hn.taints.kept k) hx ht);have HV:=lH (show Zc p n=(!t) by unfold Zc;rw[ht]);clear ht hx;obtain⟨Z,hZ⟩:∃Z,(w.alloc (.cells #[.string p.name,.string p.owner,.int .i64 p.prio,.slice a1 m1 c1,.slice a2 m2 c2,.slice a3 m3 c3,.slice a4 m4 c4,.string p.key,.int .i64 p.most,.string p.node,.bool p.hold] 35)).alloc (.cells #[.string n.name,.slice b1 k1 d1,.slice b2 k2 d2,.slice b3 k3 d3,.bool n.cordon] 65)=Z:=⟨_,rfl⟩
 have hkz:Kept w Z:=by rw[←hZ];exact jr _ _ _
 have HB1:=lH (jc w (.string p.name) [.string p.owner,.int .i64 p.prio,.slice a1 m1 c1,.slice a2 m2 c2,.slice a3 m3 c3,.slice a4 m4 c4,.string p.key,.int .i64 p.most,.string p.node,.bool p.hold] 35 Z (by rw[←hZ];exact ja _ _));have HB2:=lH (show jd (w.heap.size+1) [.string n.name,.slice b1 k1 d1,.slice b2 k2 d2,.slice b3 k3 d3,.bool n.cordon] Z by
  have dd:=jc (w.alloc (.cells #[.string p.name,.string p.owner,.int .i64 p.prio,.slice a1 m1 c1,.slice a2 m2 c2,.slice a3 m3 c3,.slice a4 m4 c4,.string p.key,.int .i64 p.most,.string p.node,.bool p.hold] 35)) (.string n.name) [.slice b1 k1 d1,.slice b2 k2 d2,.slice b3 k3 d3,.bool n.cordon] 65 Z (by rw[hZ];exact Kept.refl _);rw[World.size_alloc] at dd;exact dd)
 have K:=lH hkz;have HM:=lH (HM0.out Z hkz);clear HM0 hp hn hkz;have r6:=HB1.out.at_ 6 _ rfl;have q3:=HB2.out.at_ 3 _ rfl;unfold jE zt;go_enter Tryz.func122,Tryz.ntmps122;go_wp2_with fail
 try rw[hZ]
 refine HM.out.mono ?_;rintro e w1 ⟨rfl,kk⟩;have K:=lH (K.out.trans kk);clear kk hZ;go_wp2;go_ret;exact⟨je (by rw[HV.out]),K.out.trans (ja _ _)⟩
theorem jbs (s1 s2 s3:Option Addr) (n1 e1 n2 e2 n3 e3:Nat) (a1 a2 a3 a4:Option Addr) (m1 c1 m2 c2 m3 c3 m4 c4:Nat) (p:Pd) (s:Clu) (name:ByteArray) (w:World) (hs:jU w (Zu (.slice s1 n1 e1) (.slice s2 n2 e2) (.slice s3 n3 e3)) s) (hl:zw s):Calls Tryz.prog 123 #[.agg #[.slice s1 n1 e1,.slice s2 n2 e2,.slice s3 n3 e3],jE p (.slice a1 m1 c1) (.slice a2 m2 c2) (.slice a3 m3 c3) (.slice a4 m4 c4),.string name] w (Say (.bool (JR s p name)) w):=by
 have hn1:=hs.nAt.2;have hn2:=hs.pAt.2;have g1:=hl.nodesN;have g2:=hl.podsN;obtain⟨Z,hZ⟩:∃Z,(w.alloc (.cells #[.slice s1 n1 e1,.slice s2 n2 e2,.slice s3 n3 e3] 26)).alloc (.cells #[.string p.name,.string p.owner,.int .i64 p.prio,.slice a1 m1 c1,.slice a2 m2 c2,.slice a3 m3 c3,.slice a4 m4 c4,.string p.key,.int .i64 p.most,.string p.node,.bool p.hold] 35)=Z:=⟨_,rfl⟩
 have hkz:Kept w Z:=by rw[←hZ];exact jr _ _ _
 have HB1:=lH (jc w (.slice s1 n1 e1) [.slice s2 n2 e2,.slice s3 n3 e3] 26 Z (by rw[←hZ];exact ja _ _));have HB2:=lH (show jd (w.heap.size+1) [.string p.name,.string p.owner,.int .i64 p.prio,.slice a1 m1 c1,.slice a2 m2 c2,.slice a3 m3 c3,.slice a4 m4 c4,.string p.key,.int .i64 p.most,.string p.node,.bool p.hold] Z by
  have dd:=jc (w.alloc (.cells #[.slice s1 n1 e1,.slice s2 n2 e2,.slice s3 n3 e3] 26)) (.string p.name) [.string p.owner,.int .i64 p.prio,.slice a1 m1 c1,.slice a2 m2 c2,.slice a3 m3 c3,.slice a4 m4 c4,.string p.key,.int .i64 p.most,.string p.node,.bool p.hold] 35 Z (by rw[hZ];exact Kept.refl _);rw[World.size_alloc] at dd;exact dd)
 have K:=lH hkz;have HS:=lH (jgQ s1 s2 s3 a1 a2 a3 a4 n1 e1 n2 e2 n3 e3 m1 c1 m2 c2 m3 c3 m4 c4 p s name Z (hs.nAt.1.kept hkz) (hs.pAt.1.kept hkz) (by omega) (by omega));clear hs hkz hl hn1 hn2 g1 g2;obtain⟨t7,h7⟩:∃t,(p.key.toList==([]:List UInt8))=t:=⟨_,rfl⟩
 have H7:=lH (show JB p.key=t7 by rw[Jv,h7]);have y0:=HB1.out.at_ 0 _ rfl;have y1:=HB1.out.at_ 1 _ rfl;have y2:=HB1.out.at_ 2 _ rfl;have r0:=HB2.out.at_ 0 _ rfl;have r1:=HB2.out.at_ 1 _ rfl;have r2:=HB2.out.at_ 2 _ rfl;have r3:=HB2.out.at_ 3 _ rfl;have r4:=HB2.out.at_ 4 _ rfl;have r5:=HB2.out.at_ 5 _ rfl;have r6:=HB2.out.at_ 6 _ rfl;have r7:=HB2.out.at_ 7 _ rfl;have r8:=HB2.out.at_ 8 _ rfl;have r9:=HB2.out.at_ 9 _ rfl;have r10:=HB2.out.at_ 10 _ rfl;unfold jE at HS ⊢;go_enter Tryz.func123,Tryz.ntmps123
 cases t7 with
 | true =>
  have HV:=lH (show JR s p name=false by unfold JR;rw[if_pos H7.out]);go_wp2;try rw[hZ]
  go_ret;exact⟨je HV.out.symm,by first | exact K.out | (rw[hZ];exact K.out)⟩
 | false =>
  have HV:=lH (show JR s p name=(!(JX p s name).2||decide (p.most<(JX p s name).1)) by unfold JR;rw[if_neg (by rw[H7.out];decide)]);obtain⟨z,hz⟩:∃z,(JX p s name).1=z:=⟨_,rfl⟩
  obtain⟨b,hb⟩:∃z,(JX p s name).2=z:=⟨_,rfl⟩
  rw[hz,hb] at HS HV;clear hz hb;go_upto_region 3 with fail
  try rw[hZ]
  clear hZ;go_wp2_with fail
  refine HS.out.mono ?_;rintro e w1 ⟨rfl,kk⟩;have K:=lH (K.out.trans kk);have r8:=(HB2.out.kept kk).at_ 8 _ rfl;clear kk y0 y1 y2 r0 r1 r2 r3 r4 r5 r6 r7 r9 r10
  cases b with
  | false =>
   go_wp2;go_ret;exact⟨je (by rw[HV.out];rfl),K.out⟩
  | true =>
   by_cases hlt:p.most<z
   · have HLT:=lH hlt;go_wp2;go_ret;exact⟨je (by rw[HV.out,decide_eq_true HLT.out];rfl),K.out⟩
   · have HLT:=lH hlt;have hle:z≤p.most:=by omega
     clear hlt;go_wp2;go_ret;exact⟨je (by rw[HV.out,decide_eq_false (by have:=HLT.out;omega)];rfl),K.out⟩
theorem jc3 (s1 s2 s3:Option Addr) (n1 e1 n2 e2 n3 e3:Nat) (a1 a2 a3 a4:Option Addr) (m1 c1 m2 c2 m3 c3 m4 c4:Nat) (p:Pd) (s:Clu) (name:ByteArray) (w:World) (hs:jU w (Zu (.slice s1 n1 e1) (.slice s2 n2 e2) (.slice s3 n3 e3)) s) (hl:zw s) (hp:jC w (.slice a1 m1 c1) (.slice a2 m2 c2) (.slice a3 m3 c3) (.slice a4 m4 c4) p):Calls Tryz.prog 124 #[.agg #[.slice s1 n1 e1,.slice s2 n2 e2,.slice s3 n3 e3],jE p (.slice a1 m1 c1) (.slice a2 m2 c2) (.slice a3 m3 c3) (.slice a4 m4 c4),.string name] w (Say (.bool (Z0 s p name)) w):=by
 obtain⟨Z,hZ⟩:∃Z,(w.alloc (.cells #[.slice s1 n1 e1,.slice s2 n2 e2,.slice s3 n3 e3] 26)).alloc (.cells #[.string p.name,.string p.owner,.int .i64 p.prio,.slice a1 m1 c1,.slice a2 m2 c2,.slice a3 m3 c3,.slice a4 m4 c4,.string p.key,.int .i64 p.most,.string p.node,.bool p.hold] 35)=Z:=⟨_,rfl⟩
 have hkz:Kept w Z:=by rw[←hZ];exact jr _ _ _
 have HB1:=lH (jc w (.slice s1 n1 e1) [.slice s2 n2 e2,.slice s3 n3 e3] 26 Z (by rw[←hZ];exact ja _ _));have HB2:=lH (show jd (w.heap.size+1) [.string p.name,.string p.owner,.int .i64 p.prio,.slice a1 m1 c1,.slice a2 m2 c2,.slice a3 m3 c3,.slice a4 m4 c4,.string p.key,.int .i64 p.most,.string p.node,.bool p.hold] Z by
  have dd:=jc (w.alloc (.cells #[.slice s1 n1 e1,.slice s2 n2 e2,.slice s3 n3 e3] 26)) (.string p.name) [.string p.owner,.int .i64 p.prio,.slice a1 m1 c1,.slice a2 m2 c2,.slice a3 m3 c3,.slice a4 m4 c4,.string p.key,.int .i64 p.most,.string p.node,.bool p.hold] 35 Z (by rw[hZ];exact Kept.refl _);rw[World.size_alloc] at dd;exact dd)
 have K:=lH hkz;have HF:=lH (jik (hs.kept hkz) name hl);unfold Zu at HF;have HP:=lH (hp.need.kept hkz);clear hs hkz hl hp;have y0:=HB1.out.at_ 0 _ rfl;have y1:=HB1.out.at_ 1 _ rfl;have y2:=HB1.out.at_ 2 _ rfl;unfold jE;obtain⟨c,hc⟩:∃c,(J9 s name).1=c:=⟨_,rfl⟩
 obtain⟨fl,hfl⟩:∃c,(J9 s name).2=c:=⟨_,rfl⟩
 obtain⟨q,hq⟩:∃q,Vec.jv fl p.need=q:=⟨_,rfl⟩
 have HV:=lH (show Z0 s p name=(decide (c=0)&&q) by unfold Z0;rw[hc,hfl,hq]);have HQ:=lH hq;go_enter Tryz.func124,Tryz.ntmps124;go_wp2_with fail
 try rw[hZ]
 refine HF.out.mono ?_;rintro e w1 ⟨y,rfl,hy,kk⟩;rw[hc];rw[hfl] at hy;have HY:=lH hy;have K:=lH (K.out.trans kk);have HP:=lH (HP.out.kept kk);have r3:=(HB2.out.kept kk).at_ 3 _ rfl;clear kk hZ hc hfl hq hy HF y0 y1 y2;by_cases h0:c=0
 · subst h0;go_wp2_with fail
   refine(Vec.jej HP.out HY.out HQ.out).mono ?_;rintro e w2 ⟨rfl,kk⟩;have K:=lH (K.out.trans kk);clear kk;go_wp2;go_ret;exact⟨je (by rw[HV.out];rfl),K.out⟩
 · have h0b:(c==0)=false:=by simpa using h0
   have H0:=lH h0;clear h0;go_wp2;go_ret;exact⟨je (by rw[HV.out,decide_eq_false H0.out];rfl),K.out⟩
def YD (c:Int) (w:World) (e:Ending) (w':World):Prop:=(c=0→∃x i1 j1 l1 i2 j2 l2 i3 j3 l3 b,e=.returned (.agg #[.string x,.slice i1 j1 l1,.slice i2 j2 l2,.slice i3 j3 l3,.bool b]))∧(c≠0→e=.panicked [zb c])∧Kept w w'
theorem YD.bad {c d:Int} {w w':World} (h:d=c) (hc:c≠0) (k:Kept w w'):YD d w (.panicked [zb c]) w':=⟨fun g=>absurd (h.symm.trans g) hc,fun _=>by rw[h],k⟩
theorem jc9 (s1 s2 s3:Option Addr) (n1 e1 n2 e2 n3 e3:Nat) (a1 a2 a3 a4:Option Addr) (m1 c1 m2 c2 m3 c3 m4 c4:Nat) (p:Pd) (s:Clu) (name:ByteArray) (w:World) (hs:jU w (Zu (.slice s1 n1 e1) (.slice s2 n2 e2) (.slice s3 n3 e3)) s) (hl:zw s) (hp:jC w (.slice a1 m1 c1) (.slice a2 m2 c2) (.slice a3 m3 c3) (.slice a4 m4 c4) p):Calls Tryz.prog 89 #[.agg #[.slice s1 n1 e1,.slice s2 n2 e2,.slice s3 n3 e3],jE p (.slice a1 m1 c1) (.slice a2 m2 c2) (.slice a3 m3 c3) (.slice a4 m4 c4),.string name] w (YD (zv s p name) w):=by
 obtain⟨Y,hY⟩:∃Y,(w.alloc (.cells #[.slice s1 n1 e1,.slice s2 n2 e2,.slice s3 n3 e3] 26)).alloc (.cells #[.string p.name,.string p.owner,.int .i64 p.prio,.slice a1 m1 c1,.slice a2 m2 c2,.slice a3 m3 c3,.slice a4 m4 c4,.string p.key,.int .i64 p.most,.string p.node,.bool p.hold] 35)=Y:=⟨_,rfl⟩
 have hky:Kept w Y:=by rw[←hY];exact jr _ _ _
 have hys:Y.heap.size=w.heap.size+2:=by rw[←hY];simp
 have hsb:=jc w (.slice s1 n1 e1) [.slice s2 n2 e2,.slice s3 n3 e3] 26 Y (by rw[←hY];exact ja _ _);have hpb:jd (w.heap.size+1) [.string p.name,.string p.owner,.int .i64 p.prio,.slice a1 m1 c1,.slice a2 m2 c2,.slice a3 m3 c3,.slice a4 m4 c4,.string p.key,.int .i64 p.most,.string p.node,.bool p.hold] Y:=by
  have dd:=jc (w.alloc (.cells #[.slice s1 n1 e1,.slice s2 n2 e2,.slice s3 n3 e3] 26)) (.string p.name) [.string p.owner,.int .i64 p.prio,.slice a1 m1 c1,.slice a2 m2 c2,.slice a3 m3 c3,.slice a4 m4 c4,.string p.key,.int .i64 p.most,.string p.node,.bool p.hold] 35 Y (by rw[hY];exact Kept.refl _);rw[World.size_alloc] at dd;exact dd
 obtain⟨Z,hZ⟩:∃Z,Y.alloc (.cells #[.string ⟨#[]⟩,.slice none 0 0,.slice none 0 0,.slice none 0 0,.bool false] 65)=Z:=⟨_,rfl⟩
 have hkz:Kept Y Z:=by rw[←hZ];exact ja _ _
 have hnb:jd (w.heap.size+2) [.string ⟨#[]⟩,.slice none 0 0,.slice none 0 0,.slice none 0 0,.bool false] Z:=by
  have dd:=jc Y (.string ⟨#[]⟩) [.slice none 0 0,.slice none 0 0,.slice none 0 0,.bool false] 65 Z (by rw[hZ];exact Kept.refl _);rw[hys] at dd;exact dd
 have hYZ:((w.alloc (.cells #[.slice s1 n1 e1,.slice s2 n2 e2,.slice s3 n3 e3] 26)).alloc (.cells #[.string p.name,.string p.owner,.int .i64 p.prio,.slice a1 m1 c1,.slice a2 m2 c2,.slice a3 m3 c3,.slice a4 m4 c4,.string p.key,.int .i64 p.most,.string p.node,.bool p.hold] 35)).alloc (.cells #[.string ⟨#[]⟩,.slice none 0 0,.slice none 0 0,.slice none 0 0,.bool false] 65)=Z:=by rw[hY];exact hZ
 have HSB:=lH (hsb.kept hkz);have HPB:=lH (hpb.kept hkz);have HNB:=lH hnb;have K:=lH (hky.trans hkz);have HSR:=lH (hs.kept (hky.trans hkz));have HPR:=lH (hp.kept (hky.trans hkz));have HL:=lH hl;have HNO:=lH (jdl s1 s2 s3 n1 e1 n2 e2 n3 e3 s.nodes name Z ((hs.kept (hky.trans hkz)).nAt.1) (by have:=hl.nodesN;have:=hs.nAt.2;omega));clear hs hp hl hky hkz hys hsb hpb hnb hY hZ;unfold jE;have y0:=HSB.out.at_ 0 _ rfl;have y1:=HSB.out.at_ 1 _ rfl;have y2:=HSB.out.at_ 2 _ rfl;go_enter Tryz.func89,Tryz.ntmps89;go_wp2_with fail
 try rw[hYZ]
 clear hYZ;refine HNO.out.mono ?_;rintro e w1 ⟨h1,h2,kk⟩;have K:=lH (K.out.trans kk);have HSB:=lH (HSB.out.kept kk);have HPB:=lH (HPB.out.kept kk);have HNB:=lH (HNB.out.kept kk);have HSR:=lH (HSR.out.kept kk);have HPR:=lH (HPR.out.kept kk);clear HNO y0 y1 y2
 cases ho:jl s.nodes name with
 | none =>
  obtain rfl:=h2 ho;have HE:=lH (show zv s p name=3 from qs ho);clear h1 h2 ho kk;go_wp2;exact⟨rfl,YD.bad HE.out (by decide) K.out⟩
 | some n =>
  obtain⟨b1,k1,d1,b2,k2,d2,b3,k3,d3,rfl,hn⟩:=h1 n ho;have HE:=lH (show zv s p name=zA s p n name from qv ho);clear h1 h2 ho;obtain⟨w2,hw2⟩:∃W,w1.alloc (.cells #[.string n.name,.slice b1 k1 d1,.slice b2 k2 d2,.slice b3 k3 d3,.bool n.cordon] 65)=W:=⟨_,rfl⟩
  have kx:Kept w1 w2:=by rw[←hw2];exact ja _ _
  have HND:=lH (jc w1 (.string n.name) [.slice b1 k1 d1,.slice b2 k2 d2,.slice b3 k3 d3,.bool n.cordon] 65 w2 (by rw[hw2];exact Kept.refl _));have HNR:=lH (hn.kept kx);have K:=lH (K.out.trans kx);have HSB:=lH (HSB.out.kept kx);have HPB:=lH (HPB.out.kept kx);have HNB:=lH (HNB.out.kept kx);have HSR:=lH (HSR.out.kept kx);have HPR:=lH (HPR.out.kept kx);obtain⟨gn,hgn⟩:∃g,w1.heap.size=g:=⟨_,rfl⟩
  rw[hgn] at HND;clear hn kk kx;unfold zt;go_upto_region 2 with fail
  try rw[hw2]
  try rw[hgn]
  clear hw2 hgn;have r0:=HPB.out.at_ 0 _ rfl;have r1:=HPB.out.at_ 1 _ rfl;have r2:=HPB.out.at_ 2 _ rfl;have r3:=HPB.out.at_ 3 _ rfl;have r4:=HPB.out.at_ 4 _ rfl;have r5:=HPB.out.at_ 5 _ rfl;have r6:=HPB.out.at_ 6 _ rfl;have r7:=HPB.out.at_ 7 _ rfl;have r8:=HPB.out.at_ 8 _ rfl;have r9:=HPB.out.at_ 9 _ rfl;have r10:=HPB.out.at_ 10 _ rfl;have t0:=HND.out.at_ 0 _ rfl;have t1:=HND.out.at_ 1 _ rfl;have t2:=HND.out.at_ 2 _ rfl;have t3:=HND.out.at_ 3 _ rfl;have t4:=HND.out.at_ 4 _ rfl;obtain⟨bb,hbb⟩:∃b,Jo p n=b:=⟨_,rfl⟩
  have HC:=lH (jb1 p n a1 a2 a3 a4 m1 c1 m2 c2 m3 c3 m4 c4 b1 b2 b3 k1 d1 k2 d2 k3 d3 _ HPR.out HNR.out);unfold jE at HC;unfold zt at HC;rw[hbb] at HC;go_wp2_with fail
  refine HC.out.mono ?_;rintro e w3 ⟨rfl,kk⟩;have HBB:=lH hbb;have HSB:=lH (HSB.out.kept kk);have HPB:=lH (HPB.out.kept kk);have HNB:=lH (HNB.out.kept kk);have HSR:=lH (HSR.out.kept kk);have HPR:=lH (HPR.out.kept kk);have HND:=lH (HND.out.kept kk);have HNR:=lH (HNR.out.kept kk);have K:=lH (K.out.trans kk);clear kk;clear hbb HC r0 r1 r2 r3 r4 r5 r6 r7 r8 r9 r10 t0 t1 t2 t3 t4
  cases bb with
  | false =>
   go_wp2_with fail
   refine(Yv 8 _).mono ?_;rintro e w4 ⟨rfl,rfl⟩;go_wp2;exact⟨rfl,YD.bad (HE.out.trans (qf HBB.out)) (by decide) K.out⟩
  | true =>
   have HB1:=HBB;clear HBB;go_wp2_with fail
   refine(YX 8 _).mono ?_;rintro e w4 ⟨rfl,rfl⟩;have r0:=HPB.out.at_ 0 _ rfl;have r1:=HPB.out.at_ 1 _ rfl;have r2:=HPB.out.at_ 2 _ rfl;have r3:=HPB.out.at_ 3 _ rfl;have r4:=HPB.out.at_ 4 _ rfl;have r5:=HPB.out.at_ 5 _ rfl;have r6:=HPB.out.at_ 6 _ rfl;have r7:=HPB.out.at_ 7 _ rfl;have r8:=HPB.out.at_ 8 _ rfl;have r9:=HPB.out.at_ 9 _ rfl;have r10:=HPB.out.at_ 10 _ rfl;have t0:=HND.out.at_ 0 _ rfl;have t1:=HND.out.at_ 1 _ rfl;have t2:=HND.out.at_ 2 _ rfl;have t3:=HND.out.at_ 3 _ rfl;have t4:=HND.out.at_ 4 _ rfl;obtain⟨bb,hbb⟩:∃b,Zc p n=b:=⟨_,rfl⟩
   have HC:=lH (jdf p n a1 a2 a3 a4 m1 c1 m2 c2 m3 c3 m4 c4 b1 b2 b3 k1 d1 k2 d2 k3 d3 _ HPR.out HNR.out);unfold jE at HC;unfold zt at HC;rw[hbb] at HC;go_wp2_with fail
   refine HC.out.mono ?_;rintro e w3 ⟨rfl,kk⟩;have HBB:=lH hbb;have HSB:=lH (HSB.out.kept kk);have HPB:=lH (HPB.out.kept kk);have HNB:=lH (HNB.out.kept kk);have HSR:=lH (HSR.out.kept kk);have HPR:=lH (HPR.out.kept kk);have HND:=lH (HND.out.kept kk);have HNR:=lH (HNR.out.kept kk);have K:=lH (K.out.trans kk);clear kk;clear hbb HC r0 r1 r2 r3 r4 r5 r6 r7 r8 r9 r10 t0 t1 t2 t3 t4
   cases bb with
   | false =>
    go_wp2_with fail
    refine(Yv 9 _).mono ?_;rintro e w4 ⟨rfl,rfl⟩;go_wp2;exact⟨rfl,YD.bad (HE.out.trans (Xz HB1.out HBB.out)) (by decide) K.out⟩
   | true =>
    have HB2:=HBB;clear HBB;go_wp2_with fail
    refine(YX 9 _).mono ?_;rintro e w4 ⟨rfl,rfl⟩;have y0:=HSB.out.at_ 0 _ rfl;have y1:=HSB.out.at_ 1 _ rfl;have y2:=HSB.out.at_ 2 _ rfl;have r0:=HPB.out.at_ 0 _ rfl;have r1:=HPB.out.at_ 1 _ rfl;have r2:=HPB.out.at_ 2 _ rfl;have r3:=HPB.out.at_ 3 _ rfl;have r4:=HPB.out.at_ 4 _ rfl;have r5:=HPB.out.at_ 5 _ rfl;have r6:=HPB.out.at_ 6 _ rfl;have r7:=HPB.out.at_ 7 _ rfl;have r8:=HPB.out.at_ 8 _ rfl;have r9:=HPB.out.at_ 9 _ rfl;have r10:=HPB.out.at_ 10 _ rfl;obtain⟨bb,hbb⟩:∃b,JR s p name=b:=⟨_,rfl⟩
    have HC:=lH (jbs s1 s2 s3 n1 e1 n2 e2 n3 e3 a1 a2 a3 a4 m1 c1 m2 c2 m3 c3 m4 c4 p s name _ HSR.out HL.out);unfold jE at HC;rw[hbb] at HC;go_wp2_with fail
    refine HC.out.mono ?_;rintro e w3 ⟨rfl,kk⟩;have HBB:=lH hbb;have HSB:=lH (HSB.out.kept kk);have HPB:=lH (HPB.out.kept kk);have HNB:=lH (HNB.out.kept kk);have HSR:=lH (HSR.out.kept kk);have HPR:=lH (HPR.out.kept kk);have HND:=lH (HND.out.kept kk);have HNR:=lH (HNR.out.kept kk);have K:=lH (K.out.trans kk);clear kk;clear hbb HC y0 y1 y2 r0 r1 r2 r3 r4 r5 r6 r7 r8 r9 r10
    cases bb with
    | true =>
     go_wp2_with fail
     refine(Yv 10 _).mono ?_;rintro e w4 ⟨rfl,rfl⟩;go_wp2;exact⟨rfl,YD.bad (HE.out.trans (XS HB1.out HB2.out HBB.out)) (by decide) K.out⟩
    | false =>
     have HB3:=HBB;clear HBB;go_wp2_with fail
     refine(YX 10 _).mono ?_;rintro e w4 ⟨rfl,rfl⟩;have y0:=HSB.out.at_ 0 _ rfl;have y1:=HSB.out.at_ 1 _ rfl;have y2:=HSB.out.at_ 2 _ rfl;have r0:=HPB.out.at_ 0 _ rfl;have r1:=HPB.out.at_ 1 _ rfl;have r2:=HPB.out.at_ 2 _ rfl;have r3:=HPB.out.at_ 3 _ rfl;have r4:=HPB.out.at_ 4 _ rfl;have r5:=HPB.out.at_ 5 _ rfl;have r6:=HPB.out.at_ 6 _ rfl;have r7:=HPB.out.at_ 7 _ rfl;have r8:=HPB.out.at_ 8 _ rfl;have r9:=HPB.out.at_ 9 _ rfl;have r10:=HPB.out.at_ 10 _ rfl;obtain⟨bb,hbb⟩:∃b,Z0 s p name=b:=⟨_,rfl⟩
     have HC:=lH (jc3 s1 s2 s3 n1 e1 n2 e2 n3 e3 a1 a2 a3 a4 m1 c1 m2 c2 m3 c3 m4 c4 p s name _ HSR.out HL.out HPR.out);unfold jE at HC;rw[hbb] at HC;go_wp2_with fail
     refine HC.out.mono ?_;rintro e w3 ⟨rfl,kk⟩;have HBB:=lH hbb;have HSB:=lH (HSB.out.kept kk);have HPB:=lH (HPB.out.kept kk);have HNB:=lH (HNB.out.kept kk);have HSR:=lH (HSR.out.kept kk);have HPR:=lH (HPR.out.kept kk);have HND:=lH (HND.out.kept kk);have HNR:=lH (HNR.out.kept kk);have K:=lH (K.out.trans kk);clear kk;clear hbb HC y0 y1 y2 r0 r1 r2 r3 r4 r5 r6 r7 r8 r9 r10
     cases bb with
     | false =>
      go_wp2_with fail
      refine(Yv 7 _).mono ?_;rintro e w4 ⟨rfl,rfl⟩;go_wp2;exact⟨rfl,YD.bad (HE.out.trans (XK HB1.out HB2.out HB3.out HBB.out)) (by decide) K.out⟩
     | true =>
      go_wp2_with fail
      refine(YX 7 _).mono ?_;rintro e w4 ⟨rfl,rfl⟩;have t0:=HND.out.at_ 0 _ rfl;have t1:=HND.out.at_ 1 _ rfl;have t2:=HND.out.at_ 2 _ rfl;have t3:=HND.out.at_ 3 _ rfl;have t4:=HND.out.at_ 4 _ rfl;have z0:=HNB.out.at_ 0 _ rfl;have z1:=HNB.out.at_ 1 _ rfl;have z2:=HNB.out.at_ 2 _ rfl;have z3:=HNB.out.at_ 3 _ rfl;have z4:=HNB.out.at_ 4 _ rfl;have f0:=HNB.out.free 0;have f1:=HNB.out.free 1;have f2:=HNB.out.free 2;have f3:=HNB.out.free 3;have f4:=HNB.out.free 4;have P:=lH (ZX ⟨z0,z1,z2,z3,z4⟩ n.name b1 b2 b3 k1 d1 k2 d2 k3 d3 n.cordon);obtain⟨x9,hx9⟩:∃x,n.name=x:=⟨_,rfl⟩
      obtain⟨c9,hc9⟩:∃x,n.cordon=x:=⟨_,rfl⟩
      rw[hx9] at t0;rw[hc9] at t4;rw[hx9,hc9] at P;have HRZ:=lH (HE.out.trans (jeu HB1.out HB2.out HB3.out HBB.out));clear hx9 hc9 HE HND HNR HSR HPR;go_wp2;obtain⟨WE,hWE⟩:∃W,(((((w3.setCell ⟨w.heap.size+2,0,none⟩ (.string x9)).setCell ⟨w.heap.size+2,1,none⟩ (.slice b1 k1 d1)).setCell ⟨w.heap.size+2,2,none⟩ (.slice b2 k2 d2)).setCell ⟨w.heap.size+2,3,none⟩ (.slice b3 k3 d3)).setCell ⟨w.heap.size+2,4,none⟩ (.bool c9))=W:=⟨_,rfl⟩
      rw[hWE] at P ⊢;clear hWE z0 z1 z2 z3 z4 t0 t1 t2 t3 t4 f0 f1 f2 f3 f4;obtain⟨⟨q0,q1,q2,q3,q4⟩,hsz,hbl,hkp⟩:=P.out;refine bodyPost_ret (by simp[results,Tryz.results89,go_sem,q0,q1,q2,q3,q4];try rfl) rfl ?_;have KE:=hkp _ _ (by omega) K.out;exact⟨fun _=>⟨_,_,_,_,_,_,_,_,_,_,_,rfl⟩,fun g=>absurd HRZ.out g,KE⟩
def jeY (s:Clu) (w:World) (e:Ending) (w':World):Prop:=∃y,e=.returned y∧jU w' y s∧Kept w w'
theorem jhX {v u:Value} {s:Clu} {p:Pd} {w:World} (h:jU w v s) (g:Z7 w u p) (hl:zw s) (hp:Yc p):Calls Tryz.prog 14 #[v,u] w (jeY (Zs s p) w):=by
 obtain⟨v1,v2,v3,rfl,⟨a,cap,rfl,l1,m1,h1⟩,⟨b,cp,rfl,l2,m2,h2⟩,⟨d,cb,rfl,l3,m3,h3⟩⟩:=h;obtain⟨u1,u2,u3,u4,rfl,hat⟩:=g;have g1:=hat.need;have g2:=hat.labels;have g3:=hat.sel;have g4:=hat.tols;obtain⟨b1,d1,rfl,-,-,-⟩:=g1;obtain⟨b2,d2,rfl,-,-,-⟩:=g2;obtain⟨b3,d3,rfl,-,-,-⟩:=g3;obtain⟨b4,d4,rfl,-,-,-⟩:=g4;refine(jfK a b d _ cap _ cp _ cb s.nodes s.pods s.buds p b1 b2 b3 b4 _ d1 _ d2 _ d3 _ d4 w h1 h2 h3 l1 m1 l2 m2 l3 m3 hl hat hp).mono ?_;rintro e w' ⟨_,_,_,_,_,_,_,_,_,rfl,ho,kk⟩;exact⟨_,rfl,ho.toR,kk⟩
theorem jdV {v:Value} {s:Clu} {w:World} (h:jU w v s) (x:ByteArray) (hl:zw s):Calls Tryz.prog 15 #[v,.string x] w (jeY (zn s x) w):=by
 obtain⟨v1,v2,v3,rfl,⟨a,cap,rfl,l1,m1,h1⟩,⟨b,cp,rfl,l2,m2,h2⟩,⟨d,cb,rfl,l3,m3,h3⟩⟩:=h;refine(jal a b d _ cap _ cp _ cb s.nodes s.pods s.buds x w h1 h2 h3 l1 m1 l2 m2 l3 m3 hl).mono ?_;rintro e w' ⟨_,_,_,_,_,_,_,_,_,rfl,ho,kk⟩;exact⟨_,rfl,ho.toR,kk⟩
theorem qG {s:Clu} (h:zw s) (x:ByteArray):zw (zn s x) :=
 ⟨h.nodes,fun q hq=>h.pods q (ZL hq),h.buds,h.nodesN,by
  have h2:=jbg s x;have:=h.podsN;omega,h.budsN⟩
def jg8 (c:Int) (w:World) (e:Ending) (w':World):Prop:=(∃x i1 j1 l1 i2 j2 l2 i3 j3 l3 b,e=.returned (.tuple #[.agg #[.string x,.slice i1 j1 l1,.slice i2 j2 l2,.slice i3 j3 l3,.bool b],.int .i64 c]))∧Kept w w'
theorem jeb (Q1 Q2 Q3:Nat) (s1 s2 s3:Option Addr) (n1 e1 n2 e2 n3 e3:Nat) (a1 a2 a3 a4:Option Addr) (m1 c1 m2 c2 m3 c3 m4 c4:Nat) (p:Pd) (s:Clu) (name:ByteArray) (w:World) (hq1:jd Q1 [.slice s1 n1 e1,.slice s2 n2 e2,.slice s3 n3 e3] w) (hq2:jd Q2 [.string p.name,.string p.owner,.int .i64 p.prio,.slice a1 m1 c1,.slice a2 m2 c2,.slice a3 m3 c3,.slice a4 m4 c4,.string p.key,.int .i64 p.most,.string p.node,.bool p.hold] w) (hq3:jd Q3 [.string name] w) (hs:jU w (Zu (.slice s1 n1 e1) (.slice s2 n2 e2) (.slice s3 n3 e3)) s) (hl:zw s) (hp:jC w (.slice a1 m1 c1) (.slice a2 m2 c2) (.slice a3 m3 c3) (.slice a4 m4 c4) p) :
 Calls Tryz.prog 88 #[.pointer (some ⟨Q1,0,none⟩),.pointer (some ⟨Q2,0,none⟩),.pointer (some ⟨Q3,0,none⟩)] w (YD (zv s p name) w):=by
 obtain⟨Z,hZ⟩:∃Z,w.alloc (.cells #[.string ⟨#[]⟩,.slice none 0 0,.slice none 0 0,.slice none 0 0,.bool false] 65)=Z:=⟨_,rfl⟩
 have hkz:Kept w Z:=by rw[←hZ];exact ja _ _
 have HNB:=lH (jc w (.string ⟨#[]⟩) [.slice none 0 0,.slice none 0 0,.slice none 0 0,.bool false] 65 Z (by rw[hZ];exact Kept.refl _));have HS:=lH (jc9 s1 s2 s3 n1 e1 n2 e2 n3 e3 a1 a2 a3 a4 m1 c1 m2 c2 m3 c3 m4 c4 p s name Z (hs.kept hkz) hl (hp.kept hkz));unfold jE at HS;have K:=lH hkz;have y0:=(hq1.kept hkz).at_ 0 _ rfl;have y1:=(hq1.kept hkz).at_ 1 _ rfl;have y2:=(hq1.kept hkz).at_ 2 _ rfl;have r0:=(hq2.kept hkz).at_ 0 _ rfl;have r1:=(hq2.kept hkz).at_ 1 _ rfl;have r2:=(hq2.kept hkz).at_ 2 _ rfl;have r3:=(hq2.kept hkz).at_ 3 _ rfl;have r4:=(hq2.kept hkz).at_ 4 _ rfl;have r5:=(hq2.kept hkz).at_ 5 _ rfl;have r6:=(hq2.kept hkz).at_ 6 _ rfl;have r7:=(hq2.kept hkz).at_ 7 _ rfl;have r8:=(hq2.kept hkz).at_ 8 _ rfl;have r9:=(hq2.kept hkz).at_ 9 _ rfl;have r10:=(hq2.kept hkz).at_ 10 _ rfl;have x0:=(hq3.kept hkz).at_ 0 _ rfl;clear hq1 hq2 hq3 hs hp hl hkz;obtain⟨c,hc⟩:∃c,zv s p name=c:=⟨_,rfl⟩
 rw[hc] at HS ⊢;clear hc;go_enter Tryz.func88,Tryz.ntmps88;go_wp2_with fail
 try rw[hZ]
 refine HS.out.mono ?_;rintro e w1 ⟨h1,h2,kk⟩;have K:=lH (K.out.trans kk);have HNB:=lH (HNB.out.kept kk);clear kk hZ HS y0 y1 y2 r0 r1 r2 r3 r4 r5 r6 r7 r8 r9 r10 x0;by_cases hc:c=0
 · obtain⟨x9,i1,j1,l1,i2,j2,l2,i3,j3,l3,b9,rfl⟩:=h1 hc;have HCC:=lH hc;clear h1 h2 hc;have z0:=HNB.out.at_ 0 _ rfl;have z1:=HNB.out.at_ 1 _ rfl;have z2:=HNB.out.at_ 2 _ rfl;have z3:=HNB.out.at_ 3 _ rfl;have z4:=HNB.out.at_ 4 _ rfl;have f0:=HNB.out.free 0;have f1:=HNB.out.free 1;have f2:=HNB.out.free 2;have f3:=HNB.out.free 3;have f4:=HNB.out.free 4;have g0:=Xr (u0:=.string x9) (u1:=.slice i1 j1 l1) (u2:=.slice i2 j2 l2) (u3:=.slice i3 j3 l3) (u4:=.bool b9) z0 z1 z2 z3 z4;go_wp2;obtain⟨WE,hWE⟩:∃W,(((((w1.setCell ⟨w.heap.size,0,none⟩ (.string x9)).setCell ⟨w.heap.size,1,none⟩ (.slice i1 j1 l1)).setCell ⟨w.heap.size,2,none⟩ (.slice i2 j2 l2)).setCell ⟨w.heap.size,3,none⟩ (.slice i3 j3 l3)).setCell ⟨w.heap.size,4,none⟩ (.bool b9))=W:=⟨_,rfl⟩
   obtain⟨q0,q1,q2,q3,q4⟩:=g0 WE hWE;have KE:Kept w WE:=by rw[←hWE];exact((((K.out.setCell (p:=⟨w.heap.size,0,none⟩) (Nat.le_refl _) _).setCell (p:=⟨w.heap.size,1,none⟩) (Nat.le_refl _) _).setCell (p:=⟨w.heap.size,2,none⟩) (Nat.le_refl _) _).setCell (p:=⟨w.heap.size,3,none⟩) (Nat.le_refl _) _).setCell (p:=⟨w.heap.size,4,none⟩) (Nat.le_refl _) _
   rw[hWE];clear hWE z0 z1 z2 z3 z4 f0 f1 f2 f3 f4;refine bodyPost_ret (by simp[results,Tryz.results88,go_sem,q0,q1,q2,q3,q4];try rfl) rfl ?_;exact⟨fun _=>⟨_,_,_,_,_,_,_,_,_,_,_,rfl⟩,fun g=>absurd HCC.out g,KE⟩
 · obtain rfl:=h2 hc;have HCC:=lH hc;clear h1 h2 hc;go_wp2;exact⟨rfl,YD.bad rfl HCC.out K.out⟩
theorem jc2 (Q1 Q2 Q3:Nat) (c:Int) (w:World) (hk:∀W,Kept w W→Calls Tryz.prog 88 #[.pointer (some ⟨Q1,0,none⟩),.pointer (some ⟨Q2,0,none⟩),.pointer (some ⟨Q3,0,none⟩)] W (YD c W)) :
 Calls Tryz.prog 87 #[.func (.func 88) #[] #[.pointer (some ⟨Q1,0,none⟩),.pointer (some ⟨Q2,0,none⟩),.pointer (some ⟨Q3,0,none⟩)]] w (jg8 c w):=by
 have hmf:=hmfL (P:=Tryz.prog);obtain⟨Z,hZ⟩:∃Z,(w.alloc (.cells #[.string ⟨#[]⟩,.slice none 0 0,.slice none 0 0,.slice none 0 0,.bool false] 65)).alloc (.cells #[.int .i64 0] 49)=Z:=⟨_,rfl⟩
 have hkz:Kept w Z:=by rw[←hZ];exact jr _ _ _
 have HNB:=lH (jc w (.string ⟨#[]⟩) [.slice none 0 0,.slice none 0 0,.slice none 0 0,.bool false] 65 Z (by rw[←hZ];exact ja _ _));have HEB:=lH (show jd (w.heap.size+1) [.int .i64 0] Z by
  have dd:=jc (w.alloc (.cells #[.string ⟨#[]⟩,.slice none 0 0,.slice none 0 0,.slice none 0 0,.bool false] 65)) (.int .i64 0) [] 49 Z (by rw[hZ];exact Kept.refl _);rw[World.size_alloc] at dd;exact dd)
 have HK:=lH hkz;have HKC:=lH (hk Z hkz);clear hk hkz;go_enter_defers Tryz.func87,Tryz.ntmps87
 go_wp2_with fail
 try rw[hZ]
 refine HKC.out.mono ?_;rintro e1 w1 ⟨h0,h1,hb⟩;have KK:=lH (HK.out.trans hb);have HNB:=lH (HNB.out.kept hb);have HEB:=lH (HEB.out.kept hb);have z0:=HNB.out.at_ 0 _ rfl;have z1:=HNB.out.at_ 1 _ rfl;have z2:=HNB.out.at_ 2 _ rfl;have z3:=HNB.out.at_ 3 _ rfl;have z4:=HNB.out.at_ 4 _ rfl;have f0:=HNB.out.free 0;have f1:=HNB.out.free 1;have f2:=HNB.out.free 2;have f3:=HNB.out.free 3;have f4:=HNB.out.free 4;have ez:=HEB.out.at_ 0 _ rfl;have ef:=HEB.out.free 0;clear HKC;by_cases hx:c=0
 · obtain⟨x9,i1,j1,l1,i2,j2,l2,i3,j3,l3,b9,rfl⟩:=h0 hx;subst hx;clear h0 h1 hb hZ;have g0:=Xr (u0:=.string x9) (u1:=.slice i1 j1 l1) (u2:=.slice i2 j2 l2) (u3:=.slice i3 j3 l3) (u4:=.bool b9) z0 z1 z2 z3 z4;have HG0:=lH g0;clear g0;go_wp2_with fail
   obtain⟨WE,hWE⟩:∃W,(((((w1.setCell ⟨w.heap.size,0,none⟩ (.string x9)).setCell ⟨w.heap.size,1,none⟩ (.slice i1 j1 l1)).setCell ⟨w.heap.size,2,none⟩ (.slice i2 j2 l2)).setCell ⟨w.heap.size,3,none⟩ (.slice i3 j3 l3)).setCell ⟨w.heap.size,4,none⟩ (.bool b9))=W:=⟨_,rfl⟩
   obtain⟨q0,q1,q2,q3,q4⟩:=HG0.out WE hWE;have KE:Kept w WE:=by rw[←hWE];exact((((KK.out.setCell (p:=⟨w.heap.size,0,none⟩) (Nat.le_refl _) _).setCell (p:=⟨w.heap.size,1,none⟩) (Nat.le_refl _) _).setCell (p:=⟨w.heap.size,2,none⟩) (Nat.le_refl _) _).setCell (p:=⟨w.heap.size,3,none⟩) (Nat.le_refl _) _).setCell (p:=⟨w.heap.size,4,none⟩) (Nat.le_refl _) _
   have ee:WE.cell? ⟨w.heap.size+1,0,none⟩=some (.int .i64 0):=by rw[←hWE];exact(((((HEB.out.other (by omega)).other (by omega)).other (by omega)).other (by omega)).other (by omega)).at_ 0 _ rfl
   rw[hWE];clear hWE z0 z1 z2 z3 z4 f0 f1 f2 f3 f4 HG0;have ff:∀j v,WE.cell? ⟨w.heap.size,j,none⟩=some v→(WE.setCell ⟨w.heap.size+1,0,none⟩ (.int .i64 0)).cell? ⟨w.heap.size,j,none⟩=some v:=fun j v h=>(World.cell?_of_block (a:=⟨w.heap.size,j,none⟩) (Below.heap_setCell WE ⟨w.heap.size+1,0,none⟩ _ w.heap.size (by show w.heap.size≠w.heap.size+1;omega))).trans h;have g0:=ff 0 _ q0;have g1:=ff 1 _ q1;have g2:=ff 2 _ q2;have g3:=ff 3 _ q3;have g4:=ff 4 _ q4;have fe:=World.cell?_setCell_same' WE ⟨w.heap.size+1,0,none⟩ (.int .i64 0) (by rw[ee];rfl);have KF:=lH (show Kept w (WE.setCell ⟨w.heap.size+1,0,none⟩ (.int .i64 0)) from KE.setCell (p:=⟨w.heap.size+1,0,none⟩) (Nat.le_succ _) _);obtain⟨WF,hWF⟩:∃W,WE.setCell ⟨w.heap.size+1,0,none⟩ (.int .i64 0)=W:=⟨_,rfl⟩
   rw[hWF] at fe g0 g1 g2 g3 g4 KF ⊢;clear hWF ff ee q0 q1 q2 q3 q4 ez ef;refine leaves_cons (f:=118) (args:=#[.pointer (some ⟨w.heap.size+1,0,none⟩)]) (by simp) (by simp[go_sem]) ?_;refine(jcA ⟨w.heap.size+1,0,none⟩ _).mono ?_;rintro e u' w'' ⟨rfl,rfl,rfl⟩;simp[Leaves,settle,results,Tryz.results87,go_sem,fe,g0,g1,g2,g3,g4];exact⟨⟨_,_,_,_,_,_,_,_,_,_,_,rfl⟩,KF.out⟩
 · obtain rfl:=h1 hx;have HX:=lH hx;clear h0 h1 hb hZ hx;go_wp2_with fail
   refine leaves_cons (f:=118) (args:=#[.pointer (some ⟨w.heap.size+1,0,none⟩)]) (by simp) (by simp[go_sem]) ?_;refine(X6 w.heap.size (w.heap.size+1) c 0 _ ez ef (Nat.le_succ _)).mono ?_;rintro e u' w'' ⟨rfl,rfl,rfl,q2,q3⟩;have KF:=lH (show Kept w _ from Below.trans KK.out q3);have ff:∀j v,w1.cell? ⟨w.heap.size,j,none⟩=some v→(w1.setCell ⟨w.heap.size+1,0,none⟩ (.int .i64 c)).cell? ⟨w.heap.size,j,none⟩=some v:=fun j v h=>(World.cell?_of_block (a:=⟨w.heap.size,j,none⟩) (Below.heap_setCell w1 ⟨w.heap.size+1,0,none⟩ _ w.heap.size (by show w.heap.size≠w.heap.size+1;omega))).trans h;have g0:=ff 0 _ z0;have g1:=ff 1 _ z1;have g2:=ff 2 _ z2;have g3:=ff 3 _ z3;have g4:=ff 4 _ z4;obtain⟨WF,hWF⟩:∃W,w1.setCell ⟨w.heap.size+1,0,none⟩ (.int .i64 c)=W:=⟨_,rfl⟩
   rw[hWF] at q2 g0 g1 g2 g3 g4 KF ⊢;clear hWF ff q3 z0 z1 z2 z3 z4 ez ef f0 f1 f2 f3 f4;simp[Leaves,settle,results,Tryz.results87,go_sem,q2,g0,g1,g2,g3,g4];exact⟨⟨_,_,_,_,_,_,_,_,_,_,_,rfl⟩,KF.out⟩
theorem jae (s1 s2 s3:Option Addr) (n1 e1 n2 e2 n3 e3:Nat) (a1 a2 a3 a4:Option Addr) (m1 c1 m2 c2 m3 c3 m4 c4:Nat) (p:Pd) (s:Clu) (name:ByteArray) (w:World) (hs:jU w (Zu (.slice s1 n1 e1) (.slice s2 n2 e2) (.slice s3 n3 e3)) s) (hl:zw s) (hp:jC w (.slice a1 m1 c1) (.slice a2 m2 c2) (.slice a3 m3 c3) (.slice a4 m4 c4) p):Calls Tryz.prog 47 #[.agg #[.slice s1 n1 e1,.slice s2 n2 e2,.slice s3 n3 e3],jE p (.slice a1 m1 c1) (.slice a2 m2 c2) (.slice a3 m3 c3) (.slice a4 m4 c4),.string name] w (Say (.int .i64 (zv s p name)) w):=by
 have hmf:=hmfL (P:=Tryz.prog);obtain⟨Y,hY⟩:∃Y,(w.alloc (.cells #[.slice s1 n1 e1,.slice s2 n2 e2,.slice s3 n3 e3] 26)).alloc (.cells #[.string p.name,.string p.owner,.int .i64 p.prio,.slice a1 m1 c1,.slice a2 m2 c2,.slice a3 m3 c3,.slice a4 m4 c4,.string p.key,.int .i64 p.most,.string p.node,.bool p.hold] 35)=Y:=⟨_,rfl⟩
 have hky:Kept w Y:=by rw[←hY];exact jr _ _ _
 have hys:Y.heap.size=w.heap.size+2:=by rw[←hY];simp
 have hsb:=jc w (.slice s1 n1 e1) [.slice s2 n2 e2,.slice s3 n3 e3] 26 Y (by rw[←hY];exact ja _ _);have hpb:jd (w.heap.size+1) [.string p.name,.string p.owner,.int .i64 p.prio,.slice a1 m1 c1,.slice a2 m2 c2,.slice a3 m3 c3,.slice a4 m4 c4,.string p.key,.int .i64 p.most,.string p.node,.bool p.hold] Y:=by
  have dd:=jc (w.alloc (.cells #[.slice s1 n1 e1,.slice s2 n2 e2,.slice s3 n3 e3] 26)) (.string p.name) [.string p.owner,.int .i64 p.prio,.slice a1 m1 c1,.slice a2 m2 c2,.slice a3 m3 c3,.slice a4 m4 c4,.string p.key,.int .i64 p.most,.string p.node,.bool p.hold] 35 Y (by rw[hY];exact Kept.refl _);rw[World.size_alloc] at dd;exact dd
 obtain⟨Z,hZ⟩:∃Z,Y.alloc (.cells #[.string name] 9)=Z:=⟨_,rfl⟩
 have hkz:Kept Y Z:=by rw[←hZ];exact ja _ _
 have hnb:jd (w.heap.size+2) [.string name] Z:=by
  have dd:=jc Y (.string name) [] 9 Z (by rw[hZ];exact Kept.refl _);rw[hys] at dd;exact dd
 have hYZ:((w.alloc (.cells #[.slice s1 n1 e1,.slice s2 n2 e2,.slice s3 n3 e3] 26)).alloc (.cells #[.string p.name,.string p.owner,.int .i64 p.prio,.slice a1 m1 c1,.slice a2 m2 c2,.slice a3 m3 c3,.slice a4 m4 c4,.string p.key,.int .i64 p.most,.string p.node,.bool p.hold] 35)).alloc (.cells #[.string name] 9)=Z:=by rw[hY];exact hZ
 have HC:=lH (jc2 w.heap.size (w.heap.size+1) (w.heap.size+2) (zv s p name) Z fun W k=>jeb w.heap.size (w.heap.size+1) (w.heap.size+2) s1 s2 s3 n1 e1 n2 e2 n3 e3 a1 a2 a3 a4 m1 c1 m2 c2 m3 c3 m4 c4 p s name W ((hsb.kept hkz).kept k) ((hpb.kept hkz).kept k) (hnb.kept k) (hs.kept ((hky.trans hkz).trans k)) hl (hp.kept ((hky.trans hkz).trans k)));have K:=lH (hky.trans hkz);clear hs hp hl hky hkz hys hsb hpb hnb hY hZ;obtain⟨c,hc⟩:∃c,zv s p name=c:=⟨_,rfl⟩
 rw[hc] at HC ⊢;clear hc;unfold jE;go_enter Tryz.func47,Tryz.ntmps47;go_wp2_with fail
 try rw[hYZ]
 clear hYZ;refine HC.out.mono ?_;rintro e w1 ⟨⟨x9,i1,j1,l1,i2,j2,l2,i3,j3,l3,b9,rfl⟩,kk⟩;have K:=lH (K.out.trans kk);clear kk;go_wp2;go_ret;exact⟨rfl,K.out.trans (ja _ _)⟩
theorem zw.drop {s:Clu} (h:zw s) (x:ByteArray):zw (zn s x):=qG h x
theorem jU.spelt {w:World} {y:Value} {s:Clu} (h:jU w y s):∃s1 n1 e1 s2 n2 e2 s3 n3 e3,y=Zu (.slice s1 n1 e1) (.slice s2 n2 e2) (.slice s3 n3 e3):=by
 obtain⟨_,_,_,rfl,⟨a,c,rfl,-⟩,⟨b,d,rfl,-⟩,⟨e,f,rfl,-⟩⟩:=h;exact⟨a,_,c,b,_,d,e,_,f,rfl⟩
theorem jf5 (x:Int) (u:Value) (h:u ∈ [Value.int .i64 x]):u.oneCell'=true:=by
 have e:u=Value.int .i64 x:=by simpa using h
 rw[e];rfl
def YF:Lay Int:={ m:=1,cs:=fun x=>[.int .i64 x],fine:=fun x=>-9223372036854775808≤x∧x≤9223372036854775807,len:=fun _=>rfl,one:=jf5,pos:=by decide }
theorem jj.err {w:World} {b off len:Nat} {l:List Int} {k:Nat} (h:jj YF w (some ⟨b,off,none⟩) len l) (hk:k<len):∃x:Int,l[k]?=some x∧l.drop k=x::l.drop (k+1)∧b<w.heap.size∧w.cell? ⟨b,off+k,none⟩=some (.int .i64 x):=by
 obtain⟨x,h1,h2,h3,h4,h5⟩:=h.cells hk;exact⟨x,h1,h2,h3,by have:=h5 0 _ rfl;simpa [YF] using this⟩
theorem jhL:(Tryz.prog.info? 49).map (fun i=>(i.zero,i.size,i.bytes))=some (some (.int .i64 0),1,8):=by kernel_rfl
theorem Y8 (s1 s2 s3:Option Addr) (n1 e1 n2 e2 n3 e3:Nat) (a1 a2 a3 a4:Option Addr) (m1 c1 m2 c2 m3 c3 m4 c4:Nat) (p:Pd) (s:Clu) (name:ByteArray) (w:World) (hs:jU w (Zu (.slice s1 n1 e1) (.slice s2 n2 e2) (.slice s3 n3 e3)) s) (hl:zw s) (hp:jC w (.slice a1 m1 c1) (.slice a2 m2 c2) (.slice a3 m3 c3) (.slice a4 m4 c4) p):Calls Tryz.prog 16 #[.agg #[.slice s1 n1 e1,.slice s2 n2 e2,.slice s3 n3 e3],jE p (.slice a1 m1 c1) (.slice a2 m2 c2) (.slice a3 m3 c3) (.slice a4 m4 c4),.string name] w (Say (.int .i64 (Zw s p name)) w):=by
 obtain⟨Z,hZ⟩:∃Z,(w.alloc (.cells #[.slice s1 n1 e1,.slice s2 n2 e2,.slice s3 n3 e3] 26)).alloc (.cells #[.string p.name,.string p.owner,.int .i64 p.prio,.slice a1 m1 c1,.slice a2 m2 c2,.slice a3 m3 c3,.slice a4 m4 c4,.string p.key,.int .i64 p.most,.string p.node,.bool p.hold] 35)=Z:=⟨_,rfl⟩
 have hkz:Kept w Z:=by rw[←hZ];exact jr _ _ _
 have HB1:=lH (jc w (.slice s1 n1 e1) [.slice s2 n2 e2,.slice s3 n3 e3] 26 Z (by rw[←hZ];exact ja _ _));have HB2:=lH (show jd (w.heap.size+1) [.string p.name,.string p.owner,.int .i64 p.prio,.slice a1 m1 c1,.slice a2 m2 c2,.slice a3 m3 c3,.slice a4 m4 c4,.string p.key,.int .i64 p.most,.string p.node,.bool p.hold] Z by
  have dd:=jc (w.alloc (.cells #[.slice s1 n1 e1,.slice s2 n2 e2,.slice s3 n3 e3] 26)) (.string p.name) [.string p.owner,.int .i64 p.prio,.slice a1 m1 c1,.slice a2 m2 c2,.slice a3 m3 c3,.slice a4 m4 c4,.string p.key,.int .i64 p.most,.string p.node,.bool p.hold] 35 Z (by rw[hZ];exact Kept.refl _);rw[World.size_alloc] at dd;exact dd)
 have K:=lH hkz;have HS:=lH (hs.kept hkz);have HP:=lH (hp.kept hkz);have HL:=lH hl;clear hs hp hkz hl;have HF:=lH (show ∀W,Kept Z W→W.cell? ⟨w.heap.size,0,none⟩=some (.slice s1 n1 e1)∧W.cell? ⟨w.heap.size,1,none⟩=some (.slice s2 n2 e2)∧W.cell? ⟨w.heap.size,2,none⟩=some (.slice s3 n3 e3)∧W.cell? ⟨w.heap.size+1,0,none⟩=some (.string p.name)∧W.cell? ⟨w.heap.size+1,1,none⟩=some (.string p.owner)∧W.cell? ⟨w.heap.size+1,2,none⟩=some (.int .i64 p.prio)∧W.cell? ⟨w.heap.size+1,3,none⟩=some (.slice a1 m1 c1)∧W.cell? ⟨w.heap.size+1,4,none⟩=some (.slice a2 m2 c2)∧W.cell? ⟨w.heap.size+1,5,none⟩=some (.slice a3 m3 c3)∧W.cell? ⟨w.heap.size+1,6,none⟩=some (.slice a4 m4 c4)∧W.cell? ⟨w.heap.size+1,7,none⟩=some (.string p.key)∧W.cell? ⟨w.heap.size+1,8,none⟩=some (.int .i64 p.most)∧W.cell? ⟨w.heap.size+1,9,none⟩=some (.string p.node)∧W.cell? ⟨w.heap.size+1,10,none⟩=some (.bool p.hold) from fun W kk=>by
  have h:=HB1.out.kept kk;have q:=HB2.out.kept kk;exact⟨h.at_ 0 _ rfl,h.at_ 1 _ rfl,h.at_ 2 _ rfl,q.at_ 0 _ rfl,q.at_ 1 _ rfl,q.at_ 2 _ rfl,q.at_ 3 _ rfl,q.at_ 4 _ rfl,q.at_ 5 _ rfl,q.at_ 6 _ rfl,q.at_ 7 _ rfl,q.at_ 8 _ rfl,q.at_ 9 _ rfl,q.at_ 10 _ rfl⟩)
 have HV:=lH (show Zw s p name=zv (zn s p.name) p name from rfl);unfold jE;go_enter Tryz.func16,Tryz.ntmps16;go_upto_region 1 with fail
 try rw[hZ]
 clear hZ;have J:=lH (Kept.drew Z);refine wp_region_held_drew (S:=fun W=>W.cell? ⟨w.heap.size,0,none⟩=some (.slice s1 n1 e1)∧W.cell? ⟨w.heap.size,1,none⟩=some (.slice s2 n2 e2)∧W.cell? ⟨w.heap.size,2,none⟩=some (.slice s3 n3 e3)∧W.cell? ⟨w.heap.size+1,0,none⟩=some (.string p.name)∧W.cell? ⟨w.heap.size+1,1,none⟩=some (.string p.owner)∧W.cell? ⟨w.heap.size+1,2,none⟩=some (.int .i64 p.prio)∧W.cell? ⟨w.heap.size+1,3,none⟩=some (.slice a1 m1 c1)∧W.cell? ⟨w.heap.size+1,4,none⟩=some (.slice a2 m2 c2)∧W.cell? ⟨w.heap.size+1,5,none⟩=some (.slice a3 m3 c3)∧W.cell? ⟨w.heap.size+1,6,none⟩=some (.slice a4 m4 c4)∧W.cell? ⟨w.heap.size+1,7,none⟩=some (.string p.key)∧W.cell? ⟨w.heap.size+1,8,none⟩=some (.int .i64 p.most)∧W.cell? ⟨w.heap.size+1,9,none⟩=some (.string p.node)∧W.cell? ⟨w.heap.size+1,10,none⟩=some (.bool p.hold)) (by kernel_rfl) (HF.out _ J.out) (fun hHeld=>?_);obtain⟨wd,hwd⟩:∃W,Z.drew=W:=⟨_,rfl⟩
 rw[hwd] at J hHeld;try rw[hwd]
 clear hwd;refine wpAnyH_take  (i:=0) (v:=?_) (by rw[List.getElem?_toArray];exact rfl) (by kernel_rfl) (by kernel_rfl) (by kernel_rfl) (by exact fun _ _ _ h=>h) (Or.inl ⟨by rfl,(by rintro W ⟨o0,o1,o2,o3,o4,o5,o6,o7,o8,o9,o10,o11,o12,o13⟩;go_simp<;>with_reducible rfl)⟩) (by assumption) ?_;try simp only  [Act.put,List.setIfInBounds_toArray,List.set_cons_zero,List.set_cons_succ]
 refine wpAnyH_take  (i:=1) (v:=?_) (by rw[List.getElem?_toArray];exact rfl) (by kernel_rfl) (by kernel_rfl) (by kernel_rfl) (by exact fun _ _ _ h=>h) (Or.inl ⟨by rfl,(by rintro W ⟨o0,o1,o2,o3,o4,o5,o6,o7,o8,o9,o10,o11,o12,o13⟩;go_simp<;>with_reducible rfl)⟩) (by assumption) ?_;try simp only  [Act.put,List.setIfInBounds_toArray,List.set_cons_zero,List.set_cons_succ]
 refine wpAnyH_take  (i:=2) (v:=?_) (by rw[List.getElem?_toArray];exact rfl) (by kernel_rfl) (by kernel_rfl) (by kernel_rfl) (by exact fun _ _ _ h=>h) (Or.inl ⟨by rfl,(by rintro W ⟨o0,o1,o2,o3,o4,o5,o6,o7,o8,o9,o10,o11,o12,o13⟩;go_simp<;>with_reducible rfl)⟩) (by assumption) ?_;try simp only  [Act.put,List.setIfInBounds_toArray,List.set_cons_zero,List.set_cons_succ]
 refine wpAnyH_take  (i:=4) (v:=?_) (by rw[List.getElem?_toArray];exact rfl) (by kernel_rfl) (by kernel_rfl) (by kernel_rfl) (by exact fun _ _ _ h=>h) (Or.inl ⟨by rfl,(by rintro W ⟨o0,o1,o2,o3,o4,o5,o6,o7,o8,o9,o10,o11,o12,o13⟩;go_simp<;>with_reducible rfl)⟩) (by assumption) ?_;try simp only  [Act.put,List.setIfInBounds_toArray,List.set_cons_zero,List.set_cons_succ]
 refine wpAnyH_take  (i:=5) (v:=?_) (by rw[List.getElem?_toArray];exact rfl) (by kernel_rfl) (by kernel_rfl) (by kernel_rfl) (by exact fun _ _ _ h=>h) (Or.inl ⟨by rfl,(by rintro W ⟨o0,o1,o2,o3,o4,o5,o6,o7,o8,o9,o10,o11,o12,o13⟩;go_simp<;>with_reducible rfl)⟩) (by assumption) ?_;try simp only  [Act.put,List.setIfInBounds_toArray,List.set_cons_zero,List.set_cons_succ]
 refine wpAnyH_ready  (rs:=[3]) (by kernel_rfl) (by simp) (AllReadyH.cons  (by rw[List.getElem?_toArray];exact rfl) (fun K9 hK9=>?_) AllReadyH.nil);go_simp;refine(jdV (HS.out.kept J.out) p.name HL.out).mono ?_;rintro e w1 ⟨y,rfl,hy,kk⟩;obtain⟨t1,k1,d1,t2,k2,d2,t3,k3,d3,rfl⟩:=hy.spelt;have HY:=lH hy;have J:=lH (J.out.trans kk);clear kk hy;refine hK9.out _ _ (HF.out _ J.out) (fun hHeld1=>?_);clear hK9 K9;try simp only  [Act.put,List.setIfInBounds_toArray,List.set_cons_zero,List.set_cons_succ]
 refine wpAnyH_ready  (rs:=[6]) (by kernel_rfl) (by simp) (AllReadyH.cons  (by rw[List.getElem?_toArray];exact rfl) (fun K9 hK9=>?_) AllReadyH.nil);go_simp;have HRE:=jae t1 t2 t3 k1 d1 k2 d2 k3 d3 a1 a2 a3 a4 m1 c1 m2 c2 m3 c3 m4 c4 p (zn s p.name) name w1 HY.out (qG HL.out p.name) (HP.out.kept J.out);unfold jE at HRE;try unfold Zu at HRE
 refine HRE.mono ?_;rintro e w2 ⟨rfl,kk⟩;have J:=lH (J.out.trans kk);clear kk HRE;refine hK9.out _ _ (HF.out _ J.out) (fun hHeld2=>?_);clear hK9 K9;try simp only  [Act.put,List.setIfInBounds_toArray,List.set_cons_zero,List.set_cons_succ]
 refine wpAnyH_take  (i:=7) (v:=?_) (by rw[List.getElem?_toArray];exact rfl) (by kernel_rfl) (by kernel_rfl) (by kernel_rfl) (by exact fun _ _ _ h=>h) (Or.inl ⟨by rfl,(by rintro W ⟨o0,o1,o2,o3,o4,o5,o6,o7,o8,o9,o10,o11,o12,o13⟩;go_simp<;>with_reducible rfl)⟩) (by assumption) ?_;try simp only  [Act.put,List.setIfInBounds_toArray,List.set_cons_zero,List.set_cons_succ]
 refine wpAnyH_done (by kernel_rfl) ?_ _;go_wp2;go_ret;exact⟨jb HV.out.symm,K.out.trans J.out⟩
theorem jdG (s1 s2 s3:Option Addr) (n1 e1 n2 e2 n3 e3:Nat) (a1 a2 a3 a4:Option Addr) (m1 c1 m2 c2 m3 c3 m4 c4:Nat) (p:Pd) (s:Clu) (w:World) (hs:jU w (Zu (.slice s1 n1 e1) (.slice s2 n2 e2) (.slice s3 n3 e3)) s) (hl:zw s) (hp:jC w (.slice a1 m1 c1) (.slice a2 m2 c2) (.slice a3 m3 c3) (.slice a4 m4 c4) p):Calls Tryz.prog 19 #[.agg #[.slice s1 n1 e1,.slice s2 n2 e2,.slice s3 n3 e3],jE p (.slice a1 m1 c1) (.slice a2 m2 c2) (.slice a3 m3 c3) (.slice a4 m4 c4)] w fun e w'=>∃v,e=.returned v∧Own YF 49 w' w.heap.size v (Yq s p s.nodes)∧Kept w w':=by
 obtain⟨i0,hi,hz0,hz1,hz2'⟩:=info_parts jhL;obtain⟨Z,hZ⟩:∃Z,(w.alloc (.cells #[.slice s1 n1 e1,.slice s2 n2 e2,.slice s3 n3 e3] 26)).alloc (.cells #[.string p.name,.string p.owner,.int .i64 p.prio,.slice a1 m1 c1,.slice a2 m2 c2,.slice a3 m3 c3,.slice a4 m4 c4,.string p.key,.int .i64 p.most,.string p.node,.bool p.hold] 35)=Z:=⟨_,rfl⟩
 have hkz:Kept w Z:=by rw[←hZ];exact jr _ _ _
 have HB1:=lH (jc w (.slice s1 n1 e1) [.slice s2 n2 e2,.slice s3 n3 e3] 26 Z (by rw[←hZ];exact ja _ _));have HB2:=lH (show jd (w.heap.size+1) [.string p.name,.string p.owner,.int .i64 p.prio,.slice a1 m1 c1,.slice a2 m2 c2,.slice a3 m3 c3,.slice a4 m4 c4,.string p.key,.int .i64 p.most,.string p.node,.bool p.hold] Z by
  have dd:=jc (w.alloc (.cells #[.slice s1 n1 e1,.slice s2 n2 e2,.slice s3 n3 e3] 26)) (.string p.name) [.string p.owner,.int .i64 p.prio,.slice a1 m1 c1,.slice a2 m2 c2,.slice a3 m3 c3,.slice a4 m4 c4,.string p.key,.int .i64 p.most,.string p.node,.bool p.hold] 35 Z (by rw[hZ];exact Kept.refl _);rw[World.size_alloc] at dd;exact dd)
 have K:=lH hkz;have HS:=lH (hs.kept hkz);have HP:=lH (hp.kept hkz);have HL:=lH hl;clear hs hp hkz hl;have HNL:=lH HS.out.nAt.2;have hb1:n1≤100000:=by have:=HL.out.nodesN;have:=HNL.out;omega
 have HN:=lH HS.out.nAt.1;have HD0:=lH (jdV HS.out p.name HL.out);try unfold Zu at HD0
 have y0:=HB1.out.at_ 0 _ rfl;have y1:=HB1.out.at_ 1 _ rfl;have y2:=HB1.out.at_ 2 _ rfl;have r0:=HB2.out.at_ 0 _ rfl;unfold jE;go_enter Tryz.func19,Tryz.ntmps19;go_upto_region 1 with fail
 try rw[hZ]
 clear hZ;go_wp2_with fail
 refine HD0.out.mono ?_;rintro e w1 ⟨y,rfl,hy,kk⟩;obtain⟨t1,k1,d1,t2,k2,d2,t3,k3,d3,rfl⟩:=hy.spelt;obtain⟨w2,hw2⟩:∃W,w1.alloc (.cells #[.slice t1 k1 d1,.slice t2 k2 d2,.slice t3 k3 d3] 26)=W:=⟨_,rfl⟩
 have kx:Kept w1 w2:=by rw[←hw2];exact ja _ _
 have HQB:=lH (jc w1 (.slice t1 k1 d1) [.slice t2 k2 d2,.slice t3 k3 d3] 26 w2 (by rw[hw2];exact Kept.refl _));have HY:=lH (hy.kept kx);have HB1:=lH (HB1.out.kept (kk.trans kx));have HB2:=lH (HB2.out.kept (kk.trans kx));have HP:=lH (HP.out.kept (kk.trans kx));have HN:=lH (HN.out.kept (kk.trans kx));have K:=lH (K.out.trans (kk.trans kx));obtain⟨gd,hgd⟩:∃g,w1.heap.size=g:=⟨_,rfl⟩
 rw[hgd] at HQB;clear kk kx hy HD0 y0 y1 y2 r0;have y0:=HB1.out.at_ 0 _ rfl;go_upto_region 3 with fail
 try rw[hw2]
 try rw[hgd]
 clear hw2 hgd;go_wp2;clear y0;go_loopw [6,16] (fun v i wr=>∃k:Nat,k≤n1∧i=.int .i64 k∧∃la:List Int,Yq s p (s.nodes.take k)=la∧Own YF 49 wr w2.heap.size v la∧Kept w2 wr) (fun _ i _=>n1-(intOf i).toNat)
 case atStart=>exact⟨0,Nat.zero_le _,rfl,[],rfl,Own.nil _ _ _,Kept.refl _⟩
 case round =>
  obtain⟨k,hk,rfl,la,hla,ho,hK⟩:=hrel;have HX:=lH hla;have HO:=lH ho;have HK:=lH hK;obtain⟨m,hm⟩:∃m,la.length=m:=⟨_,rfl⟩
  have hmk:m≤k:=by
   have:=qN s p (s.nodes.take k);rw[hla,hm,List.length_take] at this;omega
  have HT:=lH hm;have hbase:w2.heap.size≤wr.heap.size:=hK.size;by_cases hlt:k<n1
  · obtain⟨g,off,rfl⟩:=HN.out.form.resolve_left (by omega);obtain⟨n,b1,q1,f1,b2,q2,f2,b3,q3,f3,hn,hd,hb,u0,u1,u2,u3,u4,hat⟩:=(HN.out.kept hK).at_ hlt;have HWT:=lH (jfc (s:=s) (p:=p) hn);have hkk:(k:Int)<(n1:Int):=by omega
    have hk0:¬(k:Int)<0:=by omega
    obtain⟨wx,hwx⟩:∃W,wr.alloc (.cells #[.string n.name,.slice b1 q1 f1,.slice b2 q2 f2,.slice b3 q3 f3,.bool n.cordon] 65)=W:=⟨_,rfl⟩
    have hkx:Kept wr wx:=by rw[←hwx];exact ja _ _
    have HNX:=lH (jc wr (.string n.name) [.slice b1 q1 f1,.slice b2 q2 f2,.slice b3 q3 f3,.bool n.cordon] 65 wx (by rw[hwx];exact Kept.refl _));obtain⟨bq,hbq⟩:∃z,wr.heap.size=z:=⟨_,rfl⟩
    rw[hbq] at HNX;have HQX:=lH (HQB.out.kept (hK.trans hkx));have HPX:=lH (HB2.out.kept (hK.trans hkx));have HRE:=lH (jae t1 t2 t3 k1 d1 k2 d2 k3 d3 a1 a2 a3 a4 m1 c1 m2 c2 m3 c3 m4 c4 p (zn s p.name) n.name wx (HY.out.kept (hK.trans hkx)) (qG HL.out p.name) (HP.out.kept (hK.trans hkx)));unfold jE at HRE;obtain⟨c,hc⟩:∃c,zv (zn s p.name) p n.name=c:=⟨_,rfl⟩
    have HCB:=lH (show -9223372036854775808≤c∧c≤9223372036854775807 by have:=jfp (zn s p.name) p n.name;omega);have HV:=lH (show Yq s p (s.nodes.take (k+1))=la++[c] by rw[HWT.out,HX.out];unfold Zw;rw[hc]);rw[hc] at HRE;have KX:=lH hkx;go_upto_region 6 with fail
    try rw[hwx]
    try rw[hbq]
    clear hwx hbq hd hb hn hkx hk0 hkk hat hla ho hm hK hc u0 u1 u2 u3 u4;have y0:=HQX.out.at_ 0 _ rfl;have y1:=HQX.out.at_ 1 _ rfl;have y2:=HQX.out.at_ 2 _ rfl;have r0:=HPX.out.at_ 0 _ rfl;have r1:=HPX.out.at_ 1 _ rfl;have r2:=HPX.out.at_ 2 _ rfl;have r3:=HPX.out.at_ 3 _ rfl;have r4:=HPX.out.at_ 4 _ rfl;have r5:=HPX.out.at_ 5 _ rfl;have r6:=HPX.out.at_ 6 _ rfl;have r7:=HPX.out.at_ 7 _ rfl;have r8:=HPX.out.at_ 8 _ rfl;have r9:=HPX.out.at_ 9 _ rfl;have r10:=HPX.out.at_ 10 _ rfl;have t0:=HNX.out.at_ 0 _ rfl;go_wp2_with fail
    refine HRE.out.mono ?_;rintro e w3 ⟨rfl,kk⟩;have KW:=lH (KX.out.trans kk);clear kk HRE t0 y0 y1 y2 r0 r1 r2 r3 r4 r5 r6 r7 r8 r9 r10;have HOW2:=lH (show w3.ownsRow w2.heap.size 49 1 u6 m (jf YF la) by have:=(HO.out.kept KW.out).1;rw[HT.out] at this;exact this);have hs1:wr.heap.size≤w3.heap.size:=Below.size KW.out;go_wp2_with (at_builtin;refine wpList_append_lies _ rfl _ _ _ rfl w2.heap.size 49 i0 _ 1 8 Tryz.underlying66 hi hz0 hz1 hz2' rfl (by decide) u6 m (jf YF la) rfl (HOW2.out.alloc _) ⟨w3.heap.size,0,none⟩ 1 1 (YF.cs c) rfl rfl (World.news_of_block (cs:=#[.int .i64 c]) (t:=49) (fr:=(0,0)) (heap_alloc_new w3 _)) (jf5 c) (by decide) (by unfold maxLen;omega) (by omega) (by simp;omega) (w3.heap.size+1) (by simp) ?_;intro gg cap1 w4 hown1 hgrow hat hlt1)
    have HBW:=lH ((show Below w2.heap.size w2 _ from HK.out.trans (KW.out.trans (ja w3 _))).grown hgrow (by simp;omega) (fun j hj=>(HOW2.out.lt j hj).1));go_wp2;go_roundw
    case rel=>exact⟨k+1,by omega,by go_num,la++[c],HV.out,Own.snoc hown1 (by rw[HT.out]) HO.out.2 HCB.out,HBW.out⟩
    case measure=>simp[intOf];omega
  · have hge:¬(k:Int)<(n1:Int):=by omega
    have HE:=lH (show Yq s p s.nodes=la by rw[←hla,List.take_of_length_le (by rw[←HNL.out];omega)]);clear hla ho hm hK;go_wp2;go_ret;exact⟨_,rfl,by rw[HE.out];exact HO.out.base_le K.out.size,K.out.trans HK.out⟩
end Go.Proofs.YtgfoenfaohhjcabGreat
