/- What serves all packages,and package by package the contracts of the functions that the law calls. -/
import Derived.Test.YtmlgobiifebjkaaGreatG1
import Derived.Test.YtmlgobiifebjkaaGreatG2
import Derived.Test.YtmlgobiifebjkaaGreatG3
import Derived.Test.YtmlgobiifebjkaaGreatG4
import Derived.Test.YtmlgobiifebjkaaGreatG5
import Derived.Test.YtmlgobiifebjkaaGreatG6
import Derived.Test.YtmlgobiifebjkaaGreatG7
import Derived.Test.YtmlgobiifebjkaaGreatG8
set_option linter.unusedVariables false
set_option maxRecDepth 100000
set_option maxHeartbeats 25600000
namespace Go.Proofs.YtmlgobiifebjkaaGreat
open Go.RowKit
theorem FreshN.nodes {base:Nat} {w:World} {v:Value} {l:List Nod} (h:FreshN base w v l):NodesR w v l:=by
 obtain⟨lx,ho,hf,rfl⟩:=h;exact nodes_own ho fun z hz=>(hf z hz).1
theorem FreshN.low {base B:Nat} {w:World} {v:Value} {l:List Nod} (h:FreshN B w v l) (hb:base≤B):FreshN base w v l:=by
 obtain⟨lx,ho,hf,rfl⟩:=h;exact⟨lx,ho.base_le hb,hf,rfl⟩
theorem FreshN.kept {base:Nat} {w w':World} {v:Value} {l:List Nod} (h:FreshN base w v l) (k:Kept w w'):FreshN base w' v l:=by
 obtain⟨lx,ho,hf,rfl⟩:=h;exact⟨lx,ho.kept k,fun z hz=>⟨(hf z hz).1.kept k,within_up (hf z hz).2.1 (Nat.le_refl _) k.size,(hf z hz).2.2⟩,rfl⟩
theorem fresh_past {base N:Nat} {w w':World} {v:Value} {l:List Nod} (hs:w'.heap.size=w.heap.size) (hb:∀b,b≠N→w'.heap[b]?=w.heap[b]?) (hn:AllSl w N) (hN:N<base) (h:FreshN base w v l):FreshN base w' v l:=by
 obtain⟨lx,ho,hf,rfl⟩:=h;refine⟨lx,⟨⟨ho.1.1,ho.1.2.imp id ?_⟩,ho.2⟩,fun z hz=>?_,rfl⟩
 · rintro ⟨g,cap,cur,rfl,hg,hc,hr⟩;exact⟨g,cap,cur,rfl,hg,by rw[hb g (by omega)];exact hc,hr⟩
 · obtain⟨hat,hw,hr⟩:=hf z hz;exact⟨⟨hat.size,vec_past hat.cap hs hb hn.noRow,reads_pastS fst_P hat.labels hs hb hn,reads_pastS fst_A hat.taints hs hb hn⟩,by rw[hs];exact hw,hr⟩
def FreshC (base:Nat) (w:World) (v:Value) (s:Clu):Prop:=∃v1 v2 v3,v=CluV v1 v2 v3∧FreshN base w v1 s.nodes∧PodsR w v2 s.pods∧BudsR w v3 s.buds
theorem ofAllFreshT {v:Value} {l:List Nod} {w:World} (h:NodesR w v l) (hlow:∀n ∈ l,LowNod n) (hlen:l.length≤1000) :
 Calls Tryz.prog 16 #[v] w fun e w'=>∃v,e=.returned v∧FreshN w.heap.size w' v l∧Kept w w':=by
 obtain⟨a,cap,rfl,_,_,hr⟩:=h;exact ofAll_ownT a _ cap l w hr hlow hlen
theorem fresh_free {base g n c:Nat} {w:World} {l:List Nod} (h:FreshN base w (.slice (some ⟨g,0,none⟩) n c) l) (i:Nat):w.frozen? ⟨g,i,none⟩=false:=by
 obtain⟨lx,ho,-,-⟩:=h;rcases ho.1.2 with ⟨e,-⟩ | ⟨g',cap,cur,e,-,hc,-⟩
 · cases e
 · cases e
   unfold World.frozen?;rw[show w.heap[(⟨g,i,none⟩:Addr).block]?=_ from hc];simp
theorem cord_low {s:Clu} (h:LowClu s) (k:Nat):LowClu (cordS s k) :=
 ⟨fun n hn=>by
  obtain⟨i,hi⟩:=List.mem_iff_getElem?.1 (show n ∈ s.nodes.modify k cordN from hn);rw[List.getElem?_modify] at hi
  cases hz:s.nodes[i]? with
  | none=>rw[hz] at hi;cases hi
  | some z =>
   rw[hz] at hi;have hi:(if k=i then cordN z else z)=n:=Option.some.inj hi;have q:=h.nodes z (List.mem_of_getElem? hz);rw[←hi];split
   · exact⟨q.cap,q.labels,q.taints⟩
   · exact q,h.pods,h.buds,by show (s.nodes.modify k cordN).length≤_;rw[List.length_modify];exact h.nodesN,h.podsN,h.budsN⟩
theorem FreshC.kept {base:Nat} {w w':World} {v:Value} {s:Clu} (h:FreshC base w v s) (k:Kept w w'):FreshC base w' v s:=by
 obtain⟨v1,v2,v3,rfl,hf,hp,hb⟩:=h;exact⟨_,_,_,rfl,hf.kept k,hp.kept k,hb.kept k⟩
theorem FreshC.spelt {base:Nat} {w:World} {v:Value} {s:Clu} (h:FreshC base w v s) (hn:0<s.nodes.length):∃a c x2 m2 c2 x3 m3 c3,v=CluV (.slice (some a) s.nodes.length c) (.slice x2 m2 c2) (.slice x3 m3 c3):=by
 obtain⟨v1,v2,v3,rfl,hf,⟨b,d,rfl,-⟩,⟨e,f,rfl,-⟩⟩:=h;obtain⟨a,c,rfl,-,-,h3⟩:=hf.nodes;rcases h3.2.2 with h | ⟨g,off,rfl,-⟩
 · omega
 · exact⟨_,_,_,_,_,_,_,_,rfl⟩
theorem clu_cord {base:Nat} {w:World} {s:Clu} {a:Addr} {n c k:Nat} {v2 v3:Value} (h:FreshC base w (CluV (.slice (some a) n c) v2 v3) s) (hk:k<n):∃g b0,a=⟨g,0,none⟩∧base≤g∧w.cell? ⟨g,k*5+4,none⟩=some (.bool b0)∧w.frozen? ⟨g,k*5+4,none⟩=false∧CluR (w.setCell ⟨g,k*5+4,none⟩ (.bool true)) (CluV (.slice (some ⟨g,0,none⟩) n c) v2 v3) (cordS s k):=by
 obtain⟨_,_,_,e,hf,hp,hbd⟩:=h
 cases e
 obtain⟨g,rfl,hg,hR⟩:=cord_row hf hk;have hfr:=fresh_free hf (k*5+4);obtain⟨a',cap',e,h1,h2,h3⟩:=hf.nodes
 cases e
 obtain⟨g0,g1,g2⟩:=h3;rcases g2 with g2 | ⟨b,off,e,hlt,hc⟩
 · omega
 · cases e
   obtain⟨m,hm⟩:∃m,s.nodes[k]?=some m:=⟨_,List.getElem?_eq_getElem (by omega)⟩
   obtain⟨a1,m1,c1,a2,m2,c2,a3,m3,c3,-,-,-,q3,q4,-⟩:=hc k m hm;rw[Nat.zero_add] at q3 q4;exact⟨g,_,rfl,hg,q4,hfr,⟨_,_,_,rfl,hR,pods_bool q4 q3 hp _,buds_bool q4 q3 hbd _⟩⟩
theorem ofSt_ownT {v:Value} {s:Clu} {w:World} (h:CluR w v s) (hl:LowClu s) (e1:s.nodes.length≤1000) (e2:s.pods.length≤1000) (e3:s.buds.length≤1000):Calls Tryz.prog 6 #[v] w fun e w'=>∃v,e=.returned v∧FreshC (w.heap.size+2) w' v s∧Kept w w':=by
 obtain⟨v1,v2,v3,rfl,⟨a,cap,rfl,l1,m1,h1⟩,⟨b,cp,rfl,l2,m2,h2⟩,⟨d,cb,rfl,l3,m3,h3⟩⟩:=h;obtain⟨nl,pl,bl⟩:=s;dsimp only at *;obtain⟨len,hlen⟩:∃q,nl.length=q:=⟨_,rfl⟩
 obtain⟨m,hm⟩:∃q,pl.length=q:=⟨_,rfl⟩
 obtain⟨n,hn⟩:∃q,bl.length=q:=⟨_,rfl⟩
 rw[hlen] at h1 l1;rw[hm] at h2 l2;rw[hn] at h3 l3;try rw[hlen]
 try rw[hm]
 try rw[hn]
 obtain⟨Z,hZ⟩:∃Z,(w.alloc (.cells #[.slice a len cap,.slice b m cp,.slice d n cb] 43)).alloc (.cells #[.slice none 0 0,.slice none 0 0,.slice none 0 0] 26)=Z:=⟨_,rfl⟩
 have hkz:Kept w Z:=by rw[←hZ];exact kept_two _ _ _
 have cc:=freshN w (.slice a len cap) [.slice b m cp,.slice d n cb] 43 Z (by rw[←hZ];exact kept_alloc _ _);have HH:=lH (show CellsN (w.heap.size+1) [.slice none 0 0,.slice none 0 0,.slice none 0 0] Z by
  have dd:=freshN (w.alloc (.cells #[.slice a len cap,.slice b m cp,.slice d n cb] 43)) (.slice none 0 0) [.slice none 0 0,.slice none 0 0] 26 Z (by rw[hZ];exact Kept.refl _);rw[World.size_alloc] at dd;exact dd)
 have HN:=lH (fun W (k:Kept Z W)=>ofAllFreshT (nodes_at l1 m1 (h1.kept (hkz.trans k))) hl.nodes e1);have HZS:=lH (show Z.heap.size=w.heap.size+2 by rw[←hZ];simp);have HP:=lH (fun W (k:Kept Z W)=>ofAllPRT (pods_at l2 m2 (h2.kept (hkz.trans k))) hl.pods e2);have HB:=lH (fun W (k:Kept Z W)=>ofAllBRT (buds_at l3 m3 (h3.kept (hkz.trans k))) hl.buds e3);have HKZ:=lH hkz;have HSL:=lH (show ∀W,Kept Z W→AllSl W (w.heap.size+1) from fun W k=>by
  have hh:Z.heap[w.heap.size+1]?=some (.cells #[.slice none 0 0,.slice none 0 0,.slice none 0 0] 26):=by
   have:=(w.alloc (.cells #[.slice a len cap,.slice b m cp,.slice d n cb] 43)).alloc_heap_new (.cells #[.slice none 0 0,.slice none 0 0,.slice none 0 0] 26);rw[World.size_alloc,hZ] at this;exact this
  exact all_sl ((k.block _ (Array.getElem?_eq_some_iff.1 hh).1).trans hh))
 have HS:=lH (show ∀W,Kept Z W→W.cell? ⟨w.heap.size,0,none⟩=some (.slice a len cap)∧W.cell? ⟨w.heap.size,1,none⟩=some (.slice b m cp)∧W.cell? ⟨w.heap.size,2,none⟩=some (.slice d n cb) from fun W k=>⟨(cc.kept k).at_ 0 _ rfl,(cc.kept k).at_ 1 _ rfl,(cc.kept k).at_ 2 _ rfl⟩);have HS2:=lH (show ∀U W:World,(∀b,b≠w.heap.size+1→U.heap[b]?=W.heap[b]?)→Kept Z W→U.cell? ⟨w.heap.size,0,none⟩=some (.slice a len cap)∧U.cell? ⟨w.heap.size,1,none⟩=some (.slice b m cp)∧U.cell? ⟨w.heap.size,2,none⟩=some (.slice d n cb) from fun U W e k=>by
  have c:=(cc.kept k).block (e _ (by omega));exact⟨c.at_ 0 _ rfl,c.at_ 1 _ rfl,c.at_ 2 _ rfl⟩)
 clear h1 h2 h3 l1 l2 l3 m1 m2 m3 hkz cc hl e1 e2 e3;go_enter Tryz.func6,Tryz.ntmps6;go_wp2_with fail
 try rw[hZ]
 clear hZ;refine wp_region_held_drew (S:=fun W=>W.cell? ⟨w.heap.size,0,none⟩=some (.slice a len cap)∧W.cell? ⟨w.heap.size,1,none⟩=some (.slice b m cp)∧W.cell? ⟨w.heap.size,2,none⟩=some (.slice d n cb)) (by kernel_rfl) (HS.out _ (Kept.drew _)) (fun hHeld=>?_);refine wpAnyH_take  (i:=0) (v:=?_) (by rw[List.getElem?_toArray];exact rfl) (by kernel_rfl) (by kernel_rfl) (by kernel_rfl) (by exact fun _ _ _ h=>h) (Or.inl ⟨by rfl,(by rintro W ⟨o0,o1,o2⟩;go_simp<;>with_reducible rfl)⟩) (by assumption) ?_;try simp only  [Act.put,List.setIfInBounds_toArray,List.set_cons_zero,List.set_cons_succ]
 refine wpAnyH_take  (i:=1) (v:=?_) (by rw[List.getElem?_toArray];exact rfl) (by kernel_rfl) (by kernel_rfl) (by kernel_rfl) (by exact fun _ _ _ h=>h) (Or.inl ⟨by rfl,(by rintro W ⟨o0,o1,o2⟩;go_simp<;>with_reducible rfl)⟩) (by assumption) ?_;try simp only  [Act.put,List.setIfInBounds_toArray,List.set_cons_zero,List.set_cons_succ]
 refine wpAnyH_take  (i:=3) (v:=?_) (by rw[List.getElem?_toArray];exact rfl) (by kernel_rfl) (by kernel_rfl) (by kernel_rfl) (by exact fun _ _ _ h=>h) (Or.inl ⟨by rfl,(by rintro W ⟨o0,o1,o2⟩;go_simp<;>with_reducible rfl)⟩) (by assumption) ?_;try simp only  [Act.put,List.setIfInBounds_toArray,List.set_cons_zero,List.set_cons_succ]
 refine wpAnyH_take  (i:=4) (v:=?_) (by rw[List.getElem?_toArray];exact rfl) (by kernel_rfl) (by kernel_rfl) (by kernel_rfl) (by exact fun _ _ _ h=>h) (Or.inl ⟨by rfl,(by rintro W ⟨o0,o1,o2⟩;go_simp<;>with_reducible rfl)⟩) (by assumption) ?_;try simp only  [Act.put,List.setIfInBounds_toArray,List.set_cons_zero,List.set_cons_succ]
 refine wpAnyH_take  (i:=6) (v:=?_) (by rw[List.getElem?_toArray];exact rfl) (by kernel_rfl) (by kernel_rfl) (by kernel_rfl) (by exact fun _ _ _ h=>h) (Or.inl ⟨by rfl,(by rintro W ⟨o0,o1,o2⟩;go_simp<;>with_reducible rfl)⟩) (by assumption) ?_;try simp only  [Act.put,List.setIfInBounds_toArray,List.set_cons_zero,List.set_cons_succ]
 refine wpAnyH_take  (i:=7) (v:=?_) (by rw[List.getElem?_toArray];exact rfl) (by kernel_rfl) (by kernel_rfl) (by kernel_rfl) (by exact fun _ _ _ h=>h) (Or.inl ⟨by rfl,(by rintro W ⟨o0,o1,o2⟩;go_simp<;>with_reducible rfl)⟩) (by assumption) ?_;try simp only  [Act.put,List.setIfInBounds_toArray,List.set_cons_zero,List.set_cons_succ]
 have J:=lH (Kept.drew Z);refine wpAnyH_ready  (rs:=[2]) (by kernel_rfl) (by simp) (AllReadyH.cons  (by rw[List.getElem?_toArray];exact rfl) (fun K9 hK9=>?_) AllReadyH.nil);go_simp;refine(HN.out _ J.out).mono ?_;rintro e1 w1 ⟨u1,rfl,hr,kk⟩;have hr:=hr.low (show w.heap.size+2≤_ from Nat.le_trans (Nat.le_of_eq HZS.out.symm) J.out.size);have J:=lH (J.out.trans kk);have hr2:=hr.nodes;obtain⟨x1,q1,rfl,-,-,-⟩:=hr2;rw[hlen] at hr;try rw[hlen]
 have RR1:=lH hr;clear hr kk;refine hK9.out _ _ (HS.out _ J.out) (fun hHeld1=>?_);clear hK9 K9;try simp only  [Act.put,List.setIfInBounds_toArray,List.set_cons_zero,List.set_cons_succ]
 refine wpAnyH_ready  (rs:=[5]) (by kernel_rfl) (by simp) (AllReadyH.cons  (by rw[List.getElem?_toArray];exact rfl) (fun K9 hK9=>?_) AllReadyH.nil);go_simp;refine(HP.out _ J.out).mono ?_;rintro e2 w2 ⟨u2,rfl,hr,kk⟩;have J:=lH (J.out.trans kk);have RR1:=lH (RR1.out.kept kk);have hr2:=hr;obtain⟨x2,q2,rfl,-,-,-⟩:=hr2;rw[hm] at hr;try rw[hm]
 have RR2:=lH hr;clear hr kk;refine hK9.out _ _ (HS.out _ J.out) (fun hHeld2=>?_);clear hK9 K9;try simp only  [Act.put,List.setIfInBounds_toArray,List.set_cons_zero,List.set_cons_succ]
 refine wpAnyH_ready  (rs:=[8]) (by kernel_rfl) (by simp) (AllReadyH.cons  (by rw[List.getElem?_toArray];exact rfl) (fun K9 hK9=>?_) AllReadyH.nil);go_simp;refine(HB.out _ J.out).mono ?_;rintro e3 w3 ⟨u3,rfl,hr,kk⟩;have J:=lH (J.out.trans kk);have RR1:=lH (RR1.out.kept kk);have RR2:=lH (RR2.out.kept kk);have hr2:=hr;obtain⟨x3,q3,rfl,-,-,-⟩:=hr2;rw[hn] at hr;try rw[hn]
 have RR3:=lH hr;clear hr kk;refine hK9.out _ _ (HS.out _ J.out) (fun hHeld3=>?_);clear hK9 K9;try simp only  [Act.put,List.setIfInBounds_toArray,List.set_cons_zero,List.set_cons_succ]
 refine wpAnyH_take  (i:=9) (v:=?_) (by rw[List.getElem?_toArray];exact rfl) (by kernel_rfl) (by kernel_rfl) (by kernel_rfl) (by exact fun _ _ _ h=>h) (Or.inl ⟨by rfl,(by rintro W ⟨o0,o1,o2⟩;go_simp<;>with_reducible rfl)⟩) (by assumption) ?_;try simp only  [Act.put,List.setIfInBounds_toArray,List.set_cons_zero,List.set_cons_succ]
 have H9:=lH (HH.out.kept J.out);have z0:=H9.out.at_ 0 _ rfl;have z1:=H9.out.at_ 1 _ rfl;have z2:=H9.out.at_ 2 _ rfl;have f0:=H9.out.free 0;have f1:=H9.out.free 1;have f2:=H9.out.free 2;have PP:=lH (putN (vs:=[.slice x1 len q1,.slice x2 m q2,.slice x3 n q3]) H9.out rfl);refine wpAnyH_ready  (rs:=[10]) (by kernel_rfl) (by simp) (AllReadyH.cons  (by rw[List.getElem?_toArray];exact rfl) (fun K9 hK9=>?_) AllReadyH.nil);go_simp;obtain⟨WE,hWE⟩:∃W,w3.setCells (w.heap.size+1) 0 [.slice x1 len q1,.slice x2 m q2,.slice x3 n q3]=W:=⟨_,rfl⟩
 have hWE2:(((w3.setCell ⟨(w.heap.size+1),0,none⟩ (.slice x1 len q1)).setCell ⟨(w.heap.size+1),1,none⟩ (.slice x2 m q2)).setCell ⟨(w.heap.size+1),2,none⟩ (.slice x3 n q3))=WE:=hWE;rw[hWE] at PP;try rw[hWE2]
 obtain⟨PC,hsz,hbl,hkp⟩:=PP.out;skip;refine hK9.out _ _ (HS2.out _ _ hbl J.out) (fun hHeldS=>?_);clear hK9 K9 z0 z1 z2 f0 f1 f2;try simp only  [Act.put,List.setIfInBounds_toArray,List.set_cons_zero,List.set_cons_succ]
 refine wpAnyH_done (by kernel_rfl) ?_ _;go_wp2;refine bodyPost_ret (by simp[results,Tryz.results6,go_sem,PC.at_ 0 _ rfl,PC.at_ 1 _ rfl,PC.at_ 2 _ rfl];try rfl) rfl ?_;have SL:=HSL.out _ J.out;exact⟨_,rfl,⟨_,_,_,rfl,fresh_past hsz hbl SL (by omega) RR1.out,pods_pastS hsz hbl SL RR2.out,buds_pastS hsz hbl SL RR3.out⟩,hkp _ _ (Nat.le_succ _) (HKZ.out.trans J.out)⟩
def NodO (o:Option Nod) (w:World) (e:Ending) (w':World):Prop:=(∀n,o=some n→∃b1 k1 d1 b2 k2 d2 b3 k3 d3,e=.returned (NodV n (.slice b1 k1 d1) (.slice b2 k2 d2) (.slice b3 k3 d3))∧NodAt w' (.slice b1 k1 d1) (.slice b2 k2 d2) (.slice b3 k3 d3) n)∧(o=none→e=.panicked [perr 3])∧Kept w w'
theorem refuse_no (c:Int) (w:World):Calls Tryz.prog 76 #[.bool false,.int .i64 c] w fun e w'=>e=.returned (.tuple #[])∧w=w':=by
 go_enter Tryz.func76,Tryz.ntmps76;go_wp2;refine⟨rfl,.tuple #[],by simp[results,Tryz.results76,go_sem],?_⟩;exact⟨rfl,rfl⟩
theorem refuse_yes (c:Int) (w:World):Calls Tryz.prog 76 #[.bool true,.int .i64 c] w fun e w'=>e=.panicked [perr c]∧w=w':=by
 go_enter Tryz.func76,Tryz.ntmps76;go_wp2;exact⟨rfl,rfl,rfl⟩
theorem fnodeOf_any (s1 s2 s3:Option Addr) (n1 e1 n2 e2 n3 e3:Nat) (nodes:List Nod) (name:ByteArray) (w:World) (hn:NodesAt w s1 n1 nodes) (hb1:n1≤100000) :
 Calls Tryz.prog 75 #[.agg #[.slice s1 n1 e1,.slice s2 n2 e2,.slice s3 n3 e3],.string name] w (NodO (findN nodes name) w):=by
 obtain⟨Z,hZ⟩:∃Z,(w.alloc (.cells #[.slice s1 n1 e1,.slice s2 n2 e2,.slice s3 n3 e3] 26)).alloc (.cells #[.string ⟨#[]⟩,.slice none 0 0,.slice none 0 0,.slice none 0 0,.bool false] 47)=Z:=⟨_,rfl⟩
 have hkz:Kept w Z:=by rw[←hZ];exact kept_two _ _ _
 have HSB:=lH (freshN w (.slice s1 n1 e1) [.slice s2 n2 e2,.slice s3 n3 e3] 26 Z (by rw[←hZ];exact kept_alloc _ _));have hyb:CellsN (w.heap.size+1) [.string ⟨#[]⟩,.slice none 0 0,.slice none 0 0,.slice none 0 0,.bool false] Z:=by
  have dd:=freshN (w.alloc (.cells #[.slice s1 n1 e1,.slice s2 n2 e2,.slice s3 n3 e3] 26)) (.string ⟨#[]⟩) [.slice none 0 0,.slice none 0 0,.slice none 0 0,.bool false] 47 Z (by rw[hZ];exact Kept.refl _);rw[World.size_alloc] at dd;exact dd
 have HYB:=lH hyb;have HN:=lH hn;have HNL:=lH hn.1;have HKZ:=lH hkz;clear hn hkz hyb;go_enter Tryz.func75,Tryz.ntmps75;have y0:=HSB.out.at_ 0 _ rfl;go_upto_region 1 with fail
 try rw[hZ]
 clear hZ;go_wp2;clear y0;go_loopw [10] (fun i wr=>∃k:Nat,k≤n1∧i=.int .i64 k∧findN (nodes.drop k) name=findN nodes name∧Kept Z wr) (fun i _=>n1-(intOf i).toNat)
 case atStart=>exact⟨0,Nat.zero_le _,rfl,rfl,Kept.refl _⟩
 case round =>
  obtain⟨k,hk,rfl,hR,hK⟩:=hrel;have HR:=lH hR;have HK:=lH (HKZ.out.trans hK);have HKR:=lH hK;by_cases hlt:k<n1
  · obtain⟨g,off,rfl⟩:=HN.out.form.resolve_left (by omega);obtain⟨n,b1,k1,d1,b2,k2,d2,b3,k3,d3,hn,hd,hb,u0,u1,u2,u3,u4,hat⟩:=HN.out.at_ hlt;have HAT:=lH hat;have HD:=lH hd;have u0:=cell_later HK.out u0;have u1:=cell_later HK.out u1;have u2:=cell_later HK.out u2;have u3:=cell_later HK.out u3;have u4:=cell_later HK.out u4;have hkk:(k:Int)<(n1:Int):=by omega
    have hk0:¬(k:Int)<0:=by omega
    obtain⟨wx,hwx⟩:∃W,wr.alloc (.cells #[.string n.name,.slice b1 k1 d1,.slice b2 k2 d2,.slice b3 k3 d3,.bool n.cordon] 47)=W:=⟨_,rfl⟩
    have hkx:Kept wr wx:=by rw[←hwx];exact kept_alloc _ _
    have HQB:=lH (freshN wr (.string n.name) [.slice b1 k1 d1,.slice b2 k2 d2,.slice b3 k3 d3,.bool n.cordon] 47 wx (by rw[hwx];exact Kept.refl _));obtain⟨bq,hbq⟩:∃z,wr.heap.size=z:=⟨_,rfl⟩
    rw[hbq] at HQB;have KX:=lH hkx;go_upto_region 4 with fail
    try rw[hwx]
    try rw[hbq]
    clear hwx hbq hd hb hn hR hK hkx hk0 hkk hat u0 u1 u2 u3 u4;have t0:=HQB.out.at_ 0 _ rfl;have t1:=HQB.out.at_ 1 _ rfl;have t2:=HQB.out.at_ 2 _ rfl;have t3:=HQB.out.at_ 3 _ rfl;have t4:=HQB.out.at_ 4 _ rfl;obtain⟨t,ht⟩:∃t,(n.name.toList==name.toList)=t:=⟨_,rfl⟩
    have HT:=lH (show eqS n.name name=t from ht)
    cases t with
    | false =>
     have HX:=lH (show findN (nodes.drop (k+1)) name=findN nodes name by rw[←HR.out,HD.out];unfold findN;rw[List.find?_cons,HT.out]);go_wp2;go_roundw
     case rel=>exact⟨k+1,by omega,by go_num,HX.out,HKR.out.trans KX.out⟩
     case measure=>simp[intOf];omega
    | true =>
     have HX:=lH (show findN nodes name=some n by rw[←HR.out,HD.out];unfold findN;rw[List.find?_cons,HT.out]);have HYX:=lH (HYB.out.kept (HKR.out.trans KX.out));have z0:=HYX.out.at_ 0 _ rfl;have z1:=HYX.out.at_ 1 _ rfl;have z2:=HYX.out.at_ 2 _ rfl;have z3:=HYX.out.at_ 3 _ rfl;have z4:=HYX.out.at_ 4 _ rfl;have f0:=HYX.out.free 0;have f1:=HYX.out.free 1;have f2:=HYX.out.free 2;have f3:=HYX.out.free 3;have f4:=HYX.out.free 4;have P:=lH (put_at ⟨z0,z1,z2,z3,z4⟩ n.name b1 b2 b3 k1 d1 k2 d2 k3 d3 n.cordon);go_wp2;obtain⟨WE,hWE⟩:∃W,(((((wx.setCell ⟨w.heap.size+1,0,none⟩ (.string n.name)).setCell ⟨w.heap.size+1,1,none⟩ (.slice b1 k1 d1)).setCell ⟨w.heap.size+1,2,none⟩ (.slice b2 k2 d2)).setCell ⟨w.heap.size+1,3,none⟩ (.slice b3 k3 d3)).setCell ⟨w.heap.size+1,4,none⟩ (.bool n.cordon))=W:=⟨_,rfl⟩
     rw[hWE] at P ⊢;clear hWE z0 z1 z2 z3 z4 t0 t1 t2 t3 t4 f0 f1 f2 f3 f4;obtain⟨⟨d0,d1,d2,d3,d4⟩,hsz,hbl,hkp⟩:=P.out;refine bodyPost_ret (by simp[results,Tryz.results75,go_sem,d0,d1,d2,d3,d4];try rfl) rfl ?_;have KE:=hkp _ _ (Nat.le_succ _) (HK.out.trans KX.out);refine⟨fun m e=>?_,fun e=>?_,KE⟩
     · rw[HX.out] at e;cases e;exact⟨_,_,_,_,_,_,_,_,_,rfl,HAT.out.kept KE⟩
     · rw[HX.out] at e;cases e
  · have hge:¬(k:Int)<(n1:Int):=by omega
    have HO:=lH (show findN nodes name=none by rw[←HR.out,List.drop_of_length_le (by rw[HNL.out];omega)];rfl);clear hR hK;go_wp2;exact⟨rfl,(fun m e=>by rw[HO.out] at e;cases e),(fun _=>rfl),HK.out⟩
theorem done_told {r:Int×Vec.V} {w w':World} {e:Ending} (h:Vec.Done r w e w'):RVec r w e w':=by
 obtain⟨v,e,h,k⟩:=h;exact⟨v,e,h.at_,k⟩
theorem freeR {v:Value} {s:Clu} {w:World} (h:CluR w v s) (x:ByteArray) (hl:LowClu s):Calls Tryz.prog 102 #[v,.string x] w (RVec (freeSt s x) w):=by
 obtain⟨v1,v2,v3,rfl,⟨a,cap,rfl,l1,m1,h1⟩,⟨b,cp,rfl,l2,m2,h2⟩,⟨d,cb,rfl,l3,m3,h3⟩⟩:=h;exact(freeF_any a b d _ cap _ cp _ cb s.nodes s.pods x w h1 h2 hl.nodes).mono fun _ _ h=>done_told h
theorem CluR.nAt {w:World} {v2 v3:Value} {b:Option Addr} {m cp:Nat} {s:Clu} (h:CluR w (CluV (.slice b m cp) v2 v3) s):NodesAt w b m s.nodes∧m=s.nodes.length:=by
 obtain⟨_,_,_,e,g0⟩:=h
 cases e
 obtain⟨a',cap',e,_,_,h⟩:=g0.nodes
 cases e
 exact⟨h,rfl⟩
theorem CluR.pAt {w:World} {v1 v3:Value} {b:Option Addr} {m cp:Nat} {s:Clu} (h:CluR w (CluV v1 (.slice b m cp) v3) s):PodsAt w b m s.pods∧m=s.pods.length:=by
 obtain⟨_,_,_,e,g0⟩:=h
 cases e
 obtain⟨a',cap',e,_,_,h⟩:=g0.pods
 cases e
 exact⟨h,rfl⟩
theorem isWanted_any (p:Pd) (n:Nod) (a1 a2 a3 a4:Option Addr) (m1 c1 m2 c2 m3 c3 m4 c4:Nat) (b1 b2 b3:Option Addr) (k1 d1 k2 d2 k3 d3:Nat) (w:World) (hp:PodAt w (.slice a1 m1 c1) (.slice a2 m2 c2) (.slice a3 m3 c3) (.slice a4 m4 c4) p) (hn:NodAt w (.slice b1 k1 d1) (.slice b2 k2 d2) (.slice b3 k3 d3) n):Calls Tryz.prog 77 #[PodV p (.slice a1 m1 c1) (.slice a2 m2 c2) (.slice a3 m3 c3) (.slice a4 m4 c4),NodV n (.slice b1 k1 d1) (.slice b2 k2 d2) (.slice b3 k3 d3)] w (Say (.bool (wantedB p n)) w):=by
 obtain⟨t,ht⟩:∃t,matchT p.sel n.labels=t:=⟨_,rfl⟩
 have HM0:=lH (fun (W:World) (k:Kept w W)=>matchR (hp.sel.kept k) (hn.labels.kept k) ht);obtain⟨cd,hcd⟩:∃t,n.cordon=t:=⟨_,rfl⟩
 have HV:=lH (show wantedB p n=(!cd&&t) by unfold wantedB;rw[ht,hcd]);clear ht;obtain⟨Z,hZ⟩:∃Z,(w.alloc (.cells #[.string p.name,.string p.owner,.int .i64 p.prio,.slice a1 m1 c1,.slice a2 m2 c2,.slice a3 m3 c3,.slice a4 m4 c4,.string p.key,.int .i64 p.most,.string p.node,.bool p.hold] 37)).alloc (.cells #[.string n.name,.slice b1 k1 d1,.slice b2 k2 d2,.slice b3 k3 d3,.bool cd] 47)=Z:=⟨_,rfl⟩
 have hkz:Kept w Z:=by rw[←hZ];exact kept_two _ _ _
 have HB1:=lH (freshN w (.string p.name) [.string p.owner,.int .i64 p.prio,.slice a1 m1 c1,.slice a2 m2 c2,.slice a3 m3 c3,.slice a4 m4 c4,.string p.key,.int .i64 p.most,.string p.node,.bool p.hold] 37 Z (by rw[←hZ];exact kept_alloc _ _));have HB2:=lH (show CellsN (w.heap.size+1) [.string n.name,.slice b1 k1 d1,.slice b2 k2 d2,.slice b3 k3 d3,.bool cd] Z by
  have dd:=freshN (w.alloc (.cells #[.string p.name,.string p.owner,.int .i64 p.prio,.slice a1 m1 c1,.slice a2 m2 c2,.slice a3 m3 c3,.slice a4 m4 c4,.string p.key,.int .i64 p.most,.string p.node,.bool p.hold] 37)) (.string n.name) [.slice b1 k1 d1,.slice b2 k2 d2,.slice b3 k3 d3,.bool cd] 47 Z (by rw[hZ];exact Kept.refl _);rw[World.size_alloc] at dd;exact dd)
 have K:=lH hkz;have HM:=lH (HM0.out Z hkz);clear HM0 hp hn hkz;have r5:=HB1.out.at_ 5 _ rfl;have q2:=HB2.out.at_ 2 _ rfl;have q4:=HB2.out.at_ 4 _ rfl;unfold PodV NodV;rw[hcd];clear hcd;go_enter Tryz.func77,Tryz.ntmps77
 cases cd with
 | true =>
  go_wp2;try rw[hZ]
  go_ret;exact⟨ret_bool (by rw[HV.out];rfl),by first | exact K.out | (rw[hZ];exact K.out)⟩
 | false =>
  go_wp2_with fail
  try rw[hZ]
  refine HM.out.mono ?_;rintro e w1 ⟨rfl,kk⟩;have K:=lH (K.out.trans kk);clear kk hZ;go_wp2;go_ret;exact⟨ret_bool (by rw[HV.out];rfl),K.out⟩
theorem isBorne_any (p:Pd) (n:Nod) (a1 a2 a3 a4:Option Addr) (m1 c1 m2 c2 m3 c3 m4 c4:Nat) (b1 b2 b3:Option Addr) (k1 d1 k2 d2 k3 d3:Nat) (w:World) (hp:PodAt w (.slice a1 m1 c1) (.slice a2 m2 c2) (.slice a3 m3 c3) (.slice a4 m4 c4) p) (hn:NodAt w (.slice b1 k1 d1) (.slice b2 k2 d2) (.slice b3 k3 d3) n):Calls Tryz.prog 78 #[PodV p (.slice a1 m1 c1) (.slice a2 m2 c2) (.slice a3 m3 c3) (.slice a4 m4 c4),NodV n (.slice b1 k1 d1) (.slice b2 k2 d2) (.slice b3 k3 d3)] w (Say (.bool (borneB p n)) w):=by
 obtain⟨t,ht⟩:∃t,(worstN p.tols n.taints).isSome=t:=⟨_,rfl⟩
 obtain⟨⟨x,y,mm⟩,hx⟩:∃x,wT (worstN p.tols n.taints)=x:=⟨_,rfl⟩
 have HM0:=lH (fun (W:World) (k:Kept w W)=>worstR (hp.tols.kept k) (hn.taints.kept k) hx ht);have HV:=lH (show borneB p n=(!t) by unfold borneB;rw[ht]);clear ht hx;obtain⟨Z,hZ⟩:∃Z,(w.alloc (.cells #[.string p.name,.string p.owner,.int .i64 p.prio,.slice a1 m1 c1,.slice a2 m2 c2,.slice a3 m3 c3,.slice a4 m4 c4,.string p.key,.int .i64 p.most,.string p.node,.bool p.hold] 37)).alloc (.cells #[.string n.name,.slice b1 k1 d1,.slice b2 k2 d2,.slice b3 k3 d3,.bool n.cordon] 47)=Z:=⟨_,rfl⟩
 have hkz:Kept w Z:=by rw[←hZ];exact kept_two _ _ _
 have HB1:=lH (freshN w (.string p.name) [.string p.owner,.int .i64 p.prio,.slice a1 m1 c1,.slice a2 m2 c2,.slice a3 m3 c3,.slice a4 m4 c4,.string p.key,.int .i64 p.most,.string p.node,.bool p.hold] 37 Z (by rw[←hZ];exact kept_alloc _ _));have HB2:=lH (show CellsN (w.heap.size+1) [.string n.name,.slice b1 k1 d1,.slice b2 k2 d2,.slice b3 k3 d3,.bool n.cordon] Z by
  have dd:=freshN (w.alloc (.cells #[.string p.name,.string p.owner,.int .i64 p.prio,.slice a1 m1 c1,.slice a2 m2 c2,.slice a3 m3 c3,.slice a4 m4 c4,.string p.key,.int .i64 p.most,.string p.node,.bool p.hold] 37)) (.string n.name) [.slice b1 k1 d1,.slice b2 k2 d2,.slice b3 k3 d3,.bool n.cordon] 47 Z (by rw[hZ];exact Kept.refl _);rw[World.size_alloc] at dd;exact dd)
 have K:=lH hkz;have HM:=lH (HM0.out Z hkz);clear HM0 hp hn hkz;have r6:=HB1.out.at_ 6 _ rfl;have q3:=HB2.out.at_ 3 _ rfl;unfold PodV NodV;go_enter Tryz.func78,Tryz.ntmps78;go_wp2_with fail
 try rw[hZ]
 refine HM.out.mono ?_;rintro e w1 ⟨rfl,kk⟩;have K:=lH (K.out.trans kk);clear kk hZ;go_wp2;go_ret;exact⟨ret_bool (by rw[HV.out]),K.out.trans (kept_alloc _ _)⟩
theorem isCrowded_any (s1 s2 s3:Option Addr) (n1 e1 n2 e2 n3 e3:Nat) (a1 a2 a3 a4:Option Addr) (m1 c1 m2 c2 m3 c3 m4 c4:Nat) (p:Pd) (s:Clu) (name:ByteArray) (w:World) (hs:CluR w (CluV (.slice s1 n1 e1) (.slice s2 n2 e2) (.slice s3 n3 e3)) s) (hl:LowClu s):Calls Tryz.prog 79 #[.agg #[.slice s1 n1 e1,.slice s2 n2 e2,.slice s3 n3 e3],PodV p (.slice a1 m1 c1) (.slice a2 m2 c2) (.slice a3 m3 c3) (.slice a4 m4 c4),.string name] w (Say (.bool (crowdB s p name)) w):=by
 have hn1:=hs.nAt.2;have hn2:=hs.pAt.2;have g1:=hl.nodesN;have g2:=hl.podsN;obtain⟨Z,hZ⟩:∃Z,(w.alloc (.cells #[.slice s1 n1 e1,.slice s2 n2 e2,.slice s3 n3 e3] 26)).alloc (.cells #[.string p.name,.string p.owner,.int .i64 p.prio,.slice a1 m1 c1,.slice a2 m2 c2,.slice a3 m3 c3,.slice a4 m4 c4,.string p.key,.int .i64 p.most,.string p.node,.bool p.hold] 37)=Z:=⟨_,rfl⟩
 have hkz:Kept w Z:=by rw[←hZ];exact kept_two _ _ _
 have HB1:=lH (freshN w (.slice s1 n1 e1) [.slice s2 n2 e2,.slice s3 n3 e3] 26 Z (by rw[←hZ];exact kept_alloc _ _));have HB2:=lH (show CellsN (w.heap.size+1) [.string p.name,.string p.owner,.int .i64 p.prio,.slice a1 m1 c1,.slice a2 m2 c2,.slice a3 m3 c3,.slice a4 m4 c4,.string p.key,.int .i64 p.most,.string p.node,.bool p.hold] Z by
  have dd:=freshN (w.alloc (.cells #[.slice s1 n1 e1,.slice s2 n2 e2,.slice s3 n3 e3] 26)) (.string p.name) [.string p.owner,.int .i64 p.prio,.slice a1 m1 c1,.slice a2 m2 c2,.slice a3 m3 c3,.slice a4 m4 c4,.string p.key,.int .i64 p.most,.string p.node,.bool p.hold] 37 Z (by rw[hZ];exact Kept.refl _);rw[World.size_alloc] at dd;exact dd)
 have K:=lH hkz;have HS:=lH (skew_any s1 s2 s3 a1 a2 a3 a4 n1 e1 n2 e2 n3 e3 m1 c1 m2 c2 m3 c3 m4 c4 p s name Z (hs.nAt.1.kept hkz) (hs.pAt.1.kept hkz) (by omega) (by omega));clear hs hkz hl hn1 hn2 g1 g2;obtain⟨t7,h7⟩:∃t,(p.key.toList==([]:List UInt8))=t:=⟨_,rfl⟩
 have H7:=lH (show isNo p.key=t7 by rw[no_iff,h7]);have y0:=HB1.out.at_ 0 _ rfl;have y1:=HB1.out.at_ 1 _ rfl;have y2:=HB1.out.at_ 2 _ rfl;have r0:=HB2.out.at_ 0 _ rfl;have r1:=HB2.out.at_ 1 _ rfl;have r2:=HB2.out.at_ 2 _ rfl;have r3:=HB2.out.at_ 3 _ rfl;have r4:=HB2.out.at_ 4 _ rfl;have r5:=HB2.out.at_ 5 _ rfl;have r6:=HB2.out.at_ 6 _ rfl;have r7:=HB2.out.at_ 7 _ rfl;have r8:=HB2.out.at_ 8 _ rfl;have r9:=HB2.out.at_ 9 _ rfl;have r10:=HB2.out.at_ 10 _ rfl;unfold PodV at HS ⊢;go_enter Tryz.func79,Tryz.ntmps79
 cases t7 with
 | true =>
  have HV:=lH (show crowdB s p name=false by unfold crowdB;rw[if_pos H7.out]);go_wp2;try rw[hZ]
  go_ret;exact⟨ret_bool HV.out.symm,by first | exact K.out | (rw[hZ];exact K.out)⟩
 | false =>
  have HV:=lH (show crowdB s p name=(!(skewS p s name).2||decide (p.most<(skewS p s name).1)) by unfold crowdB;rw[if_neg (by rw[H7.out];decide)]);obtain⟨z,hz⟩:∃z,(skewS p s name).1=z:=⟨_,rfl⟩
  obtain⟨b,hb⟩:∃z,(skewS p s name).2=z:=⟨_,rfl⟩
  rw[hz,hb] at HS HV;clear hz hb;go_upto_region 3 with fail
  try rw[hZ]
  clear hZ;go_wp2_with fail
  refine HS.out.mono ?_;rintro e w1 ⟨rfl,kk⟩;have K:=lH (K.out.trans kk);have r8:=(HB2.out.kept kk).at_ 8 _ rfl;clear kk y0 y1 y2 r0 r1 r2 r3 r4 r5 r6 r7 r9 r10
  cases b with
  | false =>
   go_wp2;go_ret;exact⟨ret_bool (by rw[HV.out];rfl),K.out⟩
  | true =>
   by_cases hlt:p.most<z
   · have HLT:=lH hlt;go_wp2;go_ret;exact⟨ret_bool (by rw[HV.out,decide_eq_true HLT.out];rfl),K.out⟩
   · have HLT:=lH hlt;have hle:z≤p.most:=by omega
     clear hlt;go_wp2;go_ret;exact⟨ret_bool (by rw[HV.out,decide_eq_false (by have:=HLT.out;omega)];rfl),K.out⟩
theorem hasRoom_any (s1 s2 s3:Option Addr) (n1 e1 n2 e2 n3 e3:Nat) (a1 a2 a3 a4:Option Addr) (m1 c1 m2 c2 m3 c3 m4 c4:Nat) (p:Pd) (s:Clu) (name:ByteArray) (w:World) (hs:CluR w (CluV (.slice s1 n1 e1) (.slice s2 n2 e2) (.slice s3 n3 e3)) s) (hl:LowClu s) (hp:PodAt w (.slice a1 m1 c1) (.slice a2 m2 c2) (.slice a3 m3 c3) (.slice a4 m4 c4) p):Calls Tryz.prog 80 #[.agg #[.slice s1 n1 e1,.slice s2 n2 e2,.slice s3 n3 e3],PodV p (.slice a1 m1 c1) (.slice a2 m2 c2) (.slice a3 m3 c3) (.slice a4 m4 c4),.string name] w (Say (.bool (roomB s p name)) w):=by
 obtain⟨Z,hZ⟩:∃Z,(w.alloc (.cells #[.slice s1 n1 e1,.slice s2 n2 e2,.slice s3 n3 e3] 26)).alloc (.cells #[.string p.name,.string p.owner,.int .i64 p.prio,.slice a1 m1 c1,.slice a2 m2 c2,.slice a3 m3 c3,.slice a4 m4 c4,.string p.key,.int .i64 p.most,.string p.node,.bool p.hold] 37)=Z:=⟨_,rfl⟩
 have hkz:Kept w Z:=by rw[←hZ];exact kept_two _ _ _
 have HB1:=lH (freshN w (.slice s1 n1 e1) [.slice s2 n2 e2,.slice s3 n3 e3] 26 Z (by rw[←hZ];exact kept_alloc _ _));have HB2:=lH (show CellsN (w.heap.size+1) [.string p.name,.string p.owner,.int .i64 p.prio,.slice a1 m1 c1,.slice a2 m2 c2,.slice a3 m3 c3,.slice a4 m4 c4,.string p.key,.int .i64 p.most,.string p.node,.bool p.hold] Z by
  have dd:=freshN (w.alloc (.cells #[.slice s1 n1 e1,.slice s2 n2 e2,.slice s3 n3 e3] 26)) (.string p.name) [.string p.owner,.int .i64 p.prio,.slice a1 m1 c1,.slice a2 m2 c2,.slice a3 m3 c3,.slice a4 m4 c4,.string p.key,.int .i64 p.most,.string p.node,.bool p.hold] 37 Z (by rw[hZ];exact Kept.refl _);rw[World.size_alloc] at dd;exact dd)
 have K:=lH hkz;have HF:=lH (freeR (hs.kept hkz) name hl);unfold CluV at HF;have HP:=lH (hp.need.kept hkz);clear hs hkz hl hp;have y0:=HB1.out.at_ 0 _ rfl;have y1:=HB1.out.at_ 1 _ rfl;have y2:=HB1.out.at_ 2 _ rfl;unfold PodV;obtain⟨c,hc⟩:∃c,(freeSt s name).1=c:=⟨_,rfl⟩
 obtain⟨fl,hfl⟩:∃c,(freeSt s name).2=c:=⟨_,rfl⟩
 obtain⟨q,hq⟩:∃q,Vec.fitsFrom fl p.need=q:=⟨_,rfl⟩
 have HV:=lH (show roomB s p name=(decide (c=0)&&q) by unfold roomB;rw[hc,hfl,hq]);have HQ:=lH hq;go_enter Tryz.func80,Tryz.ntmps80;go_wp2_with fail
 try rw[hZ]
 refine HF.out.mono ?_;rintro e w1 ⟨y,rfl,hy,kk⟩;rw[hc];rw[hfl] at hy;have HY:=lH hy;have K:=lH (K.out.trans kk);have HP:=lH (HP.out.kept kk);have r3:=(HB2.out.kept kk).at_ 3 _ rfl;clear kk hZ hc hfl hq hy HF y0 y1 y2;by_cases h0:c=0
 · subst h0;go_wp2_with fail
   refine(Vec.fitsR HP.out HY.out HQ.out).mono ?_;rintro e w2 ⟨rfl,kk⟩;have K:=lH (K.out.trans kk);clear kk;go_wp2;go_ret;exact⟨ret_bool (by rw[HV.out];rfl),K.out⟩
 · have h0b:(c==0)=false:=by simpa using h0
   have H0:=lH h0;clear h0;go_wp2;go_ret;exact⟨ret_bool (by rw[HV.out,decide_eq_false H0.out];rfl),K.out⟩
def FitO (c:Int) (w:World) (e:Ending) (w':World):Prop:=(c=0→∃x i1 j1 l1 i2 j2 l2 i3 j3 l3 b,e=.returned (.agg #[.string x,.slice i1 j1 l1,.slice i2 j2 l2,.slice i3 j3 l3,.bool b]))∧(c≠0→e=.panicked [perr c])∧Kept w w'
theorem FitO.bad {c d:Int} {w w':World} (h:d=c) (hc:c≠0) (k:Kept w w'):FitO d w (.panicked [perr c]) w':=⟨fun g=>absurd (h.symm.trans g) hc,fun _=>by rw[h],k⟩
theorem fitting_any (s1 s2 s3:Option Addr) (n1 e1 n2 e2 n3 e3:Nat) (a1 a2 a3 a4:Option Addr) (m1 c1 m2 c2 m3 c3 m4 c4:Nat) (p:Pd) (s:Clu) (name:ByteArray) (w:World) (hs:CluR w (CluV (.slice s1 n1 e1) (.slice s2 n2 e2) (.slice s3 n3 e3)) s) (hl:LowClu s) (hp:PodAt w (.slice a1 m1 c1) (.slice a2 m2 c2) (.slice a3 m3 c3) (.slice a4 m4 c4) p):Calls Tryz.prog 45 #[.agg #[.slice s1 n1 e1,.slice s2 n2 e2,.slice s3 n3 e3],PodV p (.slice a1 m1 c1) (.slice a2 m2 c2) (.slice a3 m3 c3) (.slice a4 m4 c4),.string name] w (FitO (reasonS s p name) w):=by
 obtain⟨Y,hY⟩:∃Y,(w.alloc (.cells #[.slice s1 n1 e1,.slice s2 n2 e2,.slice s3 n3 e3] 26)).alloc (.cells #[.string p.name,.string p.owner,.int .i64 p.prio,.slice a1 m1 c1,.slice a2 m2 c2,.slice a3 m3 c3,.slice a4 m4 c4,.string p.key,.int .i64 p.most,.string p.node,.bool p.hold] 37)=Y:=⟨_,rfl⟩
 have hky:Kept w Y:=by rw[←hY];exact kept_two _ _ _
 have hys:Y.heap.size=w.heap.size+2:=by rw[←hY];simp
 have hsb:=freshN w (.slice s1 n1 e1) [.slice s2 n2 e2,.slice s3 n3 e3] 26 Y (by rw[←hY];exact kept_alloc _ _);have hpb:CellsN (w.heap.size+1) [.string p.name,.string p.owner,.int .i64 p.prio,.slice a1 m1 c1,.slice a2 m2 c2,.slice a3 m3 c3,.slice a4 m4 c4,.string p.key,.int .i64 p.most,.string p.node,.bool p.hold] Y:=by
  have dd:=freshN (w.alloc (.cells #[.slice s1 n1 e1,.slice s2 n2 e2,.slice s3 n3 e3] 26)) (.string p.name) [.string p.owner,.int .i64 p.prio,.slice a1 m1 c1,.slice a2 m2 c2,.slice a3 m3 c3,.slice a4 m4 c4,.string p.key,.int .i64 p.most,.string p.node,.bool p.hold] 37 Y (by rw[hY];exact Kept.refl _);rw[World.size_alloc] at dd;exact dd
 obtain⟨Z,hZ⟩:∃Z,Y.alloc (.cells #[.string ⟨#[]⟩,.slice none 0 0,.slice none 0 0,.slice none 0 0,.bool false] 47)=Z:=⟨_,rfl⟩
 have hkz:Kept Y Z:=by rw[←hZ];exact kept_alloc _ _
 have hnb:CellsN (w.heap.size+2) [.string ⟨#[]⟩,.slice none 0 0,.slice none 0 0,.slice none 0 0,.bool false] Z:=by
  have dd:=freshN Y (.string ⟨#[]⟩) [.slice none 0 0,.slice none 0 0,.slice none 0 0,.bool false] 47 Z (by rw[hZ];exact Kept.refl _);rw[hys] at dd;exact dd
 have hYZ:((w.alloc (.cells #[.slice s1 n1 e1,.slice s2 n2 e2,.slice s3 n3 e3] 26)).alloc (.cells #[.string p.name,.string p.owner,.int .i64 p.prio,.slice a1 m1 c1,.slice a2 m2 c2,.slice a3 m3 c3,.slice a4 m4 c4,.string p.key,.int .i64 p.most,.string p.node,.bool p.hold] 37)).alloc (.cells #[.string ⟨#[]⟩,.slice none 0 0,.slice none 0 0,.slice none 0 0,.bool false] 47)=Z:=by rw[hY];exact hZ
 have HSB:=lH (hsb.kept hkz);have HPB:=lH (hpb.kept hkz);have HNB:=lH hnb;have K:=lH (hky.trans hkz);have HSR:=lH (hs.kept (hky.trans hkz));have HPR:=lH (hp.kept (hky.trans hkz));have HL:=lH hl;have HNO:=lH (fnodeOf_any s1 s2 s3 n1 e1 n2 e2 n3 e3 s.nodes name Z ((hs.kept (hky.trans hkz)).nAt.1) (by have:=hl.nodesN;have:=hs.nAt.2;omega));clear hs hp hl hky hkz hys hsb hpb hnb hY hZ;unfold PodV;have y0:=HSB.out.at_ 0 _ rfl;have y1:=HSB.out.at_ 1 _ rfl;have y2:=HSB.out.at_ 2 _ rfl;go_enter Tryz.func45,Tryz.ntmps45;go_wp2_with fail
 try rw[hYZ]
 clear hYZ;refine HNO.out.mono ?_;rintro e w1 ⟨h1,h2,kk⟩;have K:=lH (K.out.trans kk);have HSB:=lH (HSB.out.kept kk);have HPB:=lH (HPB.out.kept kk);have HNB:=lH (HNB.out.kept kk);have HSR:=lH (HSR.out.kept kk);have HPR:=lH (HPR.out.kept kk);clear HNO y0 y1 y2
 cases ho:findN s.nodes name with
 | none =>
  obtain rfl:=h2 ho;have HE:=lH (show reasonS s p name=3 from reason_none ho);clear h1 h2 ho kk;go_wp2;exact⟨rfl,FitO.bad HE.out (by decide) K.out⟩
 | some n =>
  obtain⟨b1,k1,d1,b2,k2,d2,b3,k3,d3,rfl,hn⟩:=h1 n ho;have HE:=lH (show reasonS s p name=reasonN s p n name from reason_some ho);clear h1 h2 ho;obtain⟨w2,hw2⟩:∃W,w1.alloc (.cells #[.string n.name,.slice b1 k1 d1,.slice b2 k2 d2,.slice b3 k3 d3,.bool n.cordon] 47)=W:=⟨_,rfl⟩
  have kx:Kept w1 w2:=by rw[←hw2];exact kept_alloc _ _
  have HND:=lH (freshN w1 (.string n.name) [.slice b1 k1 d1,.slice b2 k2 d2,.slice b3 k3 d3,.bool n.cordon] 47 w2 (by rw[hw2];exact Kept.refl _));have HNR:=lH (hn.kept kx);have K:=lH (K.out.trans kx);have HSB:=lH (HSB.out.kept kx);have HPB:=lH (HPB.out.kept kx);have HNB:=lH (HNB.out.kept kx);have HSR:=lH (HSR.out.kept kx);have HPR:=lH (HPR.out.kept kx);obtain⟨gn,hgn⟩:∃g,w1.heap.size=g:=⟨_,rfl⟩
  rw[hgn] at HND;clear hn kk kx;unfold NodV;go_upto_region 2 with fail
  try rw[hw2]
  try rw[hgn]
  clear hw2 hgn;have r0:=HPB.out.at_ 0 _ rfl;have r1:=HPB.out.at_ 1 _ rfl;have r2:=HPB.out.at_ 2 _ rfl;have r3:=HPB.out.at_ 3 _ rfl;have r4:=HPB.out.at_ 4 _ rfl;have r5:=HPB.out.at_ 5 _ rfl;have r6:=HPB.out.at_ 6 _ rfl;have r7:=HPB.out.at_ 7 _ rfl;have r8:=HPB.out.at_ 8 _ rfl;have r9:=HPB.out.at_ 9 _ rfl;have r10:=HPB.out.at_ 10 _ rfl;have t0:=HND.out.at_ 0 _ rfl;have t1:=HND.out.at_ 1 _ rfl;have t2:=HND.out.at_ 2 _ rfl;have t3:=HND.out.at_ 3 _ rfl;have t4:=HND.out.at_ 4 _ rfl;obtain⟨bb,hbb⟩:∃b,wantedB p n=b:=⟨_,rfl⟩
  have HC:=lH (isWanted_any p n a1 a2 a3 a4 m1 c1 m2 c2 m3 c3 m4 c4 b1 b2 b3 k1 d1 k2 d2 k3 d3 _ HPR.out HNR.out);unfold PodV at HC;unfold NodV at HC;rw[hbb] at HC;go_wp2_with fail
  refine HC.out.mono ?_;rintro e w3 ⟨rfl,kk⟩;have HBB:=lH hbb;have HSB:=lH (HSB.out.kept kk);have HPB:=lH (HPB.out.kept kk);have HNB:=lH (HNB.out.kept kk);have HSR:=lH (HSR.out.kept kk);have HPR:=lH (HPR.out.kept kk);have HND:=lH (HND.out.kept kk);have HNR:=lH (HNR.out.kept kk);have K:=lH (K.out.trans kk);clear kk;clear hbb HC r0 r1 r2 r3 r4 r5 r6 r7 r8 r9 r10 t0 t1 t2 t3 t4
  cases bb with
  | false =>
   go_wp2_with fail
   refine(refuse_yes 8 _).mono ?_;rintro e w4 ⟨rfl,rfl⟩;go_wp2;exact⟨rfl,FitO.bad (HE.out.trans (reasonN_sel HBB.out)) (by decide) K.out⟩
  | true =>
   have HB1:=HBB;clear HBB;go_wp2_with fail
   refine(refuse_no 8 _).mono ?_;rintro e w4 ⟨rfl,rfl⟩;have r0:=HPB.out.at_ 0 _ rfl;have r1:=HPB.out.at_ 1 _ rfl;have r2:=HPB.out.at_ 2 _ rfl;have r3:=HPB.out.at_ 3 _ rfl;have r4:=HPB.out.at_ 4 _ rfl;have r5:=HPB.out.at_ 5 _ rfl;have r6:=HPB.out.at_ 6 _ rfl;have r7:=HPB.out.at_ 7 _ rfl;have r8:=HPB.out.at_ 8 _ rfl;have r9:=HPB.out.at_ 9 _ rfl;have r10:=HPB.out.at_ 10 _ rfl;have t0:=HND.out.at_ 0 _ rfl;have t1:=HND.out.at_ 1 _ rfl;have t2:=HND.out.at_ 2 _ rfl;have t3:=HND.out.at_ 3 _ rfl;have t4:=HND.out.at_ 4 _ rfl;obtain⟨bb,hbb⟩:∃b,borneB p n=b:=⟨_,rfl⟩
   have HC:=lH (isBorne_any p n a1 a2 a3 a4 m1 c1 m2 c2 m3 c3 m4 c4 b1 b2 b3 k1 d1 k2 d2 k3 d3 _ HPR.out HNR.out);unfold PodV at HC;unfold NodV at HC;rw[hbb] at HC;go_wp2_with fail
   refine HC.out.mono ?_;rintro e w3 ⟨rfl,kk⟩;have HBB:=lH hbb;have HSB:=lH (HSB.out.kept kk);have HPB:=lH (HPB.out.kept kk);have HNB:=lH (HNB.out.kept kk);have HSR:=lH (HSR.out.kept kk);have HPR:=lH (HPR.out.kept kk);have HND:=lH (HND.out.kept kk);have HNR:=lH (HNR.out.kept kk);have K:=lH (K.out.trans kk);clear kk;clear hbb HC r0 r1 r2 r3 r4 r5 r6 r7 r8 r9 r10 t0 t1 t2 t3 t4
   cases bb with
   | false =>
    go_wp2_with fail
    refine(refuse_yes 9 _).mono ?_;rintro e w4 ⟨rfl,rfl⟩;go_wp2;exact⟨rfl,FitO.bad (HE.out.trans (reasonN_taint HB1.out HBB.out)) (by decide) K.out⟩
   | true =>
    have HB2:=HBB;clear HBB;go_wp2_with fail
    refine(refuse_no 9 _).mono ?_;rintro e w4 ⟨rfl,rfl⟩;have y0:=HSB.out.at_ 0 _ rfl;have y1:=HSB.out.at_ 1 _ rfl;have y2:=HSB.out.at_ 2 _ rfl;have r0:=HPB.out.at_ 0 _ rfl;have r1:=HPB.out.at_ 1 _ rfl;have r2:=HPB.out.at_ 2 _ rfl;have r3:=HPB.out.at_ 3 _ rfl;have r4:=HPB.out.at_ 4 _ rfl;have r5:=HPB.out.at_ 5 _ rfl;have r6:=HPB.out.at_ 6 _ rfl;have r7:=HPB.out.at_ 7 _ rfl;have r8:=HPB.out.at_ 8 _ rfl;have r9:=HPB.out.at_ 9 _ rfl;have r10:=HPB.out.at_ 10 _ rfl;obtain⟨bb,hbb⟩:∃b,crowdB s p name=b:=⟨_,rfl⟩
    have HC:=lH (isCrowded_any s1 s2 s3 n1 e1 n2 e2 n3 e3 a1 a2 a3 a4 m1 c1 m2 c2 m3 c3 m4 c4 p s name _ HSR.out HL.out);unfold PodV at HC;rw[hbb] at HC;go_wp2_with fail
    refine HC.out.mono ?_;rintro e w3 ⟨rfl,kk⟩;have HBB:=lH hbb;have HSB:=lH (HSB.out.kept kk);have HPB:=lH (HPB.out.kept kk);have HNB:=lH (HNB.out.kept kk);have HSR:=lH (HSR.out.kept kk);have HPR:=lH (HPR.out.kept kk);have HND:=lH (HND.out.kept kk);have HNR:=lH (HNR.out.kept kk);have K:=lH (K.out.trans kk);clear kk;clear hbb HC y0 y1 y2 r0 r1 r2 r3 r4 r5 r6 r7 r8 r9 r10
    cases bb with
    | true =>
     go_wp2_with fail
     refine(refuse_yes 10 _).mono ?_;rintro e w4 ⟨rfl,rfl⟩;go_wp2;exact⟨rfl,FitO.bad (HE.out.trans (reasonN_skew HB1.out HB2.out HBB.out)) (by decide) K.out⟩
    | false =>
     have HB3:=HBB;clear HBB;go_wp2_with fail
     refine(refuse_no 10 _).mono ?_;rintro e w4 ⟨rfl,rfl⟩;have y0:=HSB.out.at_ 0 _ rfl;have y1:=HSB.out.at_ 1 _ rfl;have y2:=HSB.out.at_ 2 _ rfl;have r0:=HPB.out.at_ 0 _ rfl;have r1:=HPB.out.at_ 1 _ rfl;have r2:=HPB.out.at_ 2 _ rfl;have r3:=HPB.out.at_ 3 _ rfl;have r4:=HPB.out.at_ 4 _ rfl;have r5:=HPB.out.at_ 5 _ rfl;have r6:=HPB.out.at_ 6 _ rfl;have r7:=HPB.out.at_ 7 _ rfl;have r8:=HPB.out.at_ 8 _ rfl;have r9:=HPB.out.at_ 9 _ rfl;have r10:=HPB.out.at_ 10 _ rfl;obtain⟨bb,hbb⟩:∃b,roomB s p name=b:=⟨_,rfl⟩
     have HC:=lH (hasRoom_any s1 s2 s3 n1 e1 n2 e2 n3 e3 a1 a2 a3 a4 m1 c1 m2 c2 m3 c3 m4 c4 p s name _ HSR.out HL.out HPR.out);unfold PodV at HC;rw[hbb] at HC;go_wp2_with fail
     refine HC.out.mono ?_;rintro e w3 ⟨rfl,kk⟩;have HBB:=lH hbb;have HSB:=lH (HSB.out.kept kk);have HPB:=lH (HPB.out.kept kk);have HNB:=lH (HNB.out.kept kk);have HSR:=lH (HSR.out.kept kk);have HPR:=lH (HPR.out.kept kk);have HND:=lH (HND.out.kept kk);have HNR:=lH (HNR.out.kept kk);have K:=lH (K.out.trans kk);clear kk;clear hbb HC y0 y1 y2 r0 r1 r2 r3 r4 r5 r6 r7 r8 r9 r10
     cases bb with
     | false =>
      go_wp2_with fail
      refine(refuse_yes 7 _).mono ?_;rintro e w4 ⟨rfl,rfl⟩;go_wp2;exact⟨rfl,FitO.bad (HE.out.trans (reasonN_room HB1.out HB2.out HB3.out HBB.out)) (by decide) K.out⟩
     | true =>
      go_wp2_with fail
      refine(refuse_no 7 _).mono ?_;rintro e w4 ⟨rfl,rfl⟩;have t0:=HND.out.at_ 0 _ rfl;have t1:=HND.out.at_ 1 _ rfl;have t2:=HND.out.at_ 2 _ rfl;have t3:=HND.out.at_ 3 _ rfl;have t4:=HND.out.at_ 4 _ rfl;have z0:=HNB.out.at_ 0 _ rfl;have z1:=HNB.out.at_ 1 _ rfl;have z2:=HNB.out.at_ 2 _ rfl;have z3:=HNB.out.at_ 3 _ rfl;have z4:=HNB.out.at_ 4 _ rfl;have f0:=HNB.out.free 0;have f1:=HNB.out.free 1;have f2:=HNB.out.free 2;have f3:=HNB.out.free 3;have f4:=HNB.out.free 4;have P:=lH (put_at ⟨z0,z1,z2,z3,z4⟩ n.name b1 b2 b3 k1 d1 k2 d2 k3 d3 n.cordon);obtain⟨x9,hx9⟩:∃x,n.name=x:=⟨_,rfl⟩
      obtain⟨c9,hc9⟩:∃x,n.cordon=x:=⟨_,rfl⟩
      rw[hx9] at t0;rw[hc9] at t4;rw[hx9,hc9] at P;have HRZ:=lH (HE.out.trans (reasonN_ok HB1.out HB2.out HB3.out HBB.out));clear hx9 hc9 HE HND HNR HSR HPR;go_wp2;obtain⟨WE,hWE⟩:∃W,(((((w3.setCell ⟨w.heap.size+2,0,none⟩ (.string x9)).setCell ⟨w.heap.size+2,1,none⟩ (.slice b1 k1 d1)).setCell ⟨w.heap.size+2,2,none⟩ (.slice b2 k2 d2)).setCell ⟨w.heap.size+2,3,none⟩ (.slice b3 k3 d3)).setCell ⟨w.heap.size+2,4,none⟩ (.bool c9))=W:=⟨_,rfl⟩
      rw[hWE] at P ⊢;clear hWE z0 z1 z2 z3 z4 t0 t1 t2 t3 t4 f0 f1 f2 f3 f4;obtain⟨⟨q0,q1,q2,q3,q4⟩,hsz,hbl,hkp⟩:=P.out;refine bodyPost_ret (by simp[results,Tryz.results45,go_sem,q0,q1,q2,q3,q4];try rfl) rfl ?_;have KE:=hkp _ _ (by omega) K.out;exact⟨fun _=>⟨_,_,_,_,_,_,_,_,_,_,_,rfl⟩,fun g=>absurd HRZ.out g,KE⟩
def TellsS (s:Clu) (w:World) (e:Ending) (w':World):Prop:=∃y,e=.returned y∧CluR w' y s∧Kept w w'
theorem dropStR {v:Value} {s:Clu} {w:World} (h:CluR w v s) (x:ByteArray) (hl:LowClu s):Calls Tryz.prog 22 #[v,.string x] w (TellsS (dropSt s x) w):=by
 obtain⟨v1,v2,v3,rfl,⟨a,cap,rfl,l1,m1,h1⟩,⟨b,cp,rfl,l2,m2,h2⟩,⟨d,cb,rfl,l3,m3,h3⟩⟩:=h;refine(dropSt_any a b d _ cap _ cp _ cb s.nodes s.pods s.buds x w h1 h2 h3 l1 m1 l2 m2 l3 m3 hl).mono ?_;rintro e w' ⟨_,_,_,_,_,_,_,_,_,rfl,ho,kk⟩;exact⟨_,rfl,ho.toR,kk⟩
theorem drop_low {s:Clu} (h:LowClu s) (x:ByteArray):LowClu (dropSt s x) :=
 ⟨h.nodes,fun q hq=>h.pods q (drop_mem hq),h.buds,h.nodesN,by
  have h2:=drop_len' s x;have:=h.podsN;omega,h.budsN⟩
def CaughtF (c:Int) (w:World) (e:Ending) (w':World):Prop:=(∃x i1 j1 l1 i2 j2 l2 i3 j3 l3 b,e=.returned (.tuple #[.agg #[.string x,.slice i1 j1 l1,.slice i2 j2 l2,.slice i3 j3 l3,.bool b],.int .i64 c]))∧Kept w w'
theorem closureFit (Q1 Q2 Q3:Nat) (s1 s2 s3:Option Addr) (n1 e1 n2 e2 n3 e3:Nat) (a1 a2 a3 a4:Option Addr) (m1 c1 m2 c2 m3 c3 m4 c4:Nat) (p:Pd) (s:Clu) (name:ByteArray) (w:World) (hq1:CellsN Q1 [.slice s1 n1 e1,.slice s2 n2 e2,.slice s3 n3 e3] w) (hq2:CellsN Q2 [.string p.name,.string p.owner,.int .i64 p.prio,.slice a1 m1 c1,.slice a2 m2 c2,.slice a3 m3 c3,.slice a4 m4 c4,.string p.key,.int .i64 p.most,.string p.node,.bool p.hold] w) (hq3:CellsN Q3 [.string name] w) (hs:CluR w (CluV (.slice s1 n1 e1) (.slice s2 n2 e2) (.slice s3 n3 e3)) s) (hl:LowClu s) (hp:PodAt w (.slice a1 m1 c1) (.slice a2 m2 c2) (.slice a3 m3 c3) (.slice a4 m4 c4) p) :
 Calls Tryz.prog 44 #[.pointer (some ⟨Q1,0,none⟩),.pointer (some ⟨Q2,0,none⟩),.pointer (some ⟨Q3,0,none⟩)] w (FitO (reasonS s p name) w):=by
 obtain⟨Z,hZ⟩:∃Z,w.alloc (.cells #[.string ⟨#[]⟩,.slice none 0 0,.slice none 0 0,.slice none 0 0,.bool false] 47)=Z:=⟨_,rfl⟩
 have hkz:Kept w Z:=by rw[←hZ];exact kept_alloc _ _
 have HNB:=lH (freshN w (.string ⟨#[]⟩) [.slice none 0 0,.slice none 0 0,.slice none 0 0,.bool false] 47 Z (by rw[hZ];exact Kept.refl _));have HS:=lH (fitting_any s1 s2 s3 n1 e1 n2 e2 n3 e3 a1 a2 a3 a4 m1 c1 m2 c2 m3 c3 m4 c4 p s name Z (hs.kept hkz) hl (hp.kept hkz));unfold PodV at HS;have K:=lH hkz;have y0:=(hq1.kept hkz).at_ 0 _ rfl;have y1:=(hq1.kept hkz).at_ 1 _ rfl;have y2:=(hq1.kept hkz).at_ 2 _ rfl;have r0:=(hq2.kept hkz).at_ 0 _ rfl;have r1:=(hq2.kept hkz).at_ 1 _ rfl;have r2:=(hq2.kept hkz).at_ 2 _ rfl;have r3:=(hq2.kept hkz).at_ 3 _ rfl;have r4:=(hq2.kept hkz).at_ 4 _ rfl;have r5:=(hq2.kept hkz).at_ 5 _ rfl;have r6:=(hq2.kept hkz).at_ 6 _ rfl;have r7:=(hq2.kept hkz).at_ 7 _ rfl;have r8:=(hq2.kept hkz).at_ 8 _ rfl;have r9:=(hq2.kept hkz).at_ 9 _ rfl;have r10:=(hq2.kept hkz).at_ 10 _ rfl;have x0:=(hq3.kept hkz).at_ 0 _ rfl;clear hq1 hq2 hq3 hs hp hl hkz;obtain⟨c,hc⟩:∃c,reasonS s p name=c:=⟨_,rfl⟩
 rw[hc] at HS ⊢;clear hc;go_enter Tryz.func44,Tryz.ntmps44;go_wp2_with fail
 try rw[hZ]
 refine HS.out.mono ?_;rintro e w1 ⟨h1,h2,kk⟩;have K:=lH (K.out.trans kk);have HNB:=lH (HNB.out.kept kk);clear kk hZ HS y0 y1 y2 r0 r1 r2 r3 r4 r5 r6 r7 r8 r9 r10 x0;by_cases hc:c=0
 · obtain⟨x9,i1,j1,l1,i2,j2,l2,i3,j3,l3,b9,rfl⟩:=h1 hc;have HCC:=lH hc;clear h1 h2 hc;have z0:=HNB.out.at_ 0 _ rfl;have z1:=HNB.out.at_ 1 _ rfl;have z2:=HNB.out.at_ 2 _ rfl;have z3:=HNB.out.at_ 3 _ rfl;have z4:=HNB.out.at_ 4 _ rfl;have f0:=HNB.out.free 0;have f1:=HNB.out.free 1;have f2:=HNB.out.free 2;have f3:=HNB.out.free 3;have f4:=HNB.out.free 4;have g0:=set5_cells (u0:=.string x9) (u1:=.slice i1 j1 l1) (u2:=.slice i2 j2 l2) (u3:=.slice i3 j3 l3) (u4:=.bool b9) z0 z1 z2 z3 z4;go_wp2;obtain⟨WE,hWE⟩:∃W,(((((w1.setCell ⟨w.heap.size,0,none⟩ (.string x9)).setCell ⟨w.heap.size,1,none⟩ (.slice i1 j1 l1)).setCell ⟨w.heap.size,2,none⟩ (.slice i2 j2 l2)).setCell ⟨w.heap.size,3,none⟩ (.slice i3 j3 l3)).setCell ⟨w.heap.size,4,none⟩ (.bool b9))=W:=⟨_,rfl⟩
   obtain⟨q0,q1,q2,q3,q4⟩:=g0 WE hWE;have KE:Kept w WE:=by rw[←hWE];exact((((K.out.setCell (p:=⟨w.heap.size,0,none⟩) (Nat.le_refl _) _).setCell (p:=⟨w.heap.size,1,none⟩) (Nat.le_refl _) _).setCell (p:=⟨w.heap.size,2,none⟩) (Nat.le_refl _) _).setCell (p:=⟨w.heap.size,3,none⟩) (Nat.le_refl _) _).setCell (p:=⟨w.heap.size,4,none⟩) (Nat.le_refl _) _
   rw[hWE];clear hWE z0 z1 z2 z3 z4 f0 f1 f2 f3 f4;refine bodyPost_ret (by simp[results,Tryz.results44,go_sem,q0,q1,q2,q3,q4];try rfl) rfl ?_;exact⟨fun _=>⟨_,_,_,_,_,_,_,_,_,_,_,rfl⟩,fun g=>absurd HCC.out g,KE⟩
 · obtain rfl:=h2 hc;have HCC:=lH hc;clear h1 h2 hc;go_wp2;exact⟨rfl,FitO.bad rfl HCC.out K.out⟩
theorem caughtF_any (Q1 Q2 Q3:Nat) (c:Int) (w:World) (hk:∀W,Kept w W→Calls Tryz.prog 44 #[.pointer (some ⟨Q1,0,none⟩),.pointer (some ⟨Q2,0,none⟩),.pointer (some ⟨Q3,0,none⟩)] W (FitO c W)) :
 Calls Tryz.prog 43 #[.func (.func 44) #[] #[.pointer (some ⟨Q1,0,none⟩),.pointer (some ⟨Q2,0,none⟩),.pointer (some ⟨Q3,0,none⟩)]] w (CaughtF c w):=by
 have hmf:=hmfL (P:=Tryz.prog);obtain⟨Z,hZ⟩:∃Z,(w.alloc (.cells #[.string ⟨#[]⟩,.slice none 0 0,.slice none 0 0,.slice none 0 0,.bool false] 47)).alloc (.cells #[.int .i64 0] 50)=Z:=⟨_,rfl⟩
 have hkz:Kept w Z:=by rw[←hZ];exact kept_two _ _ _
 have HNB:=lH (freshN w (.string ⟨#[]⟩) [.slice none 0 0,.slice none 0 0,.slice none 0 0,.bool false] 47 Z (by rw[←hZ];exact kept_alloc _ _));have HEB:=lH (show CellsN (w.heap.size+1) [.int .i64 0] Z by
  have dd:=freshN (w.alloc (.cells #[.string ⟨#[]⟩,.slice none 0 0,.slice none 0 0,.slice none 0 0,.bool false] 47)) (.int .i64 0) [] 50 Z (by rw[hZ];exact Kept.refl _);rw[World.size_alloc] at dd;exact dd)
 have HK:=lH hkz;have HKC:=lH (hk Z hkz);clear hk hkz;go_enter_defers Tryz.func43,Tryz.ntmps43
 go_wp2_with fail
 try rw[hZ]
 refine HKC.out.mono ?_;rintro e1 w1 ⟨h0,h1,hb⟩;have KK:=lH (HK.out.trans hb);have HNB:=lH (HNB.out.kept hb);have HEB:=lH (HEB.out.kept hb);have z0:=HNB.out.at_ 0 _ rfl;have z1:=HNB.out.at_ 1 _ rfl;have z2:=HNB.out.at_ 2 _ rfl;have z3:=HNB.out.at_ 3 _ rfl;have z4:=HNB.out.at_ 4 _ rfl;have f0:=HNB.out.free 0;have f1:=HNB.out.free 1;have f2:=HNB.out.free 2;have f3:=HNB.out.free 3;have f4:=HNB.out.free 4;have ez:=HEB.out.at_ 0 _ rfl;have ef:=HEB.out.free 0;clear HKC;by_cases hx:c=0
 · obtain⟨x9,i1,j1,l1,i2,j2,l2,i3,j3,l3,b9,rfl⟩:=h0 hx;subst hx;clear h0 h1 hb hZ;have g0:=set5_cells (u0:=.string x9) (u1:=.slice i1 j1 l1) (u2:=.slice i2 j2 l2) (u3:=.slice i3 j3 l3) (u4:=.bool b9) z0 z1 z2 z3 z4;have HG0:=lH g0;clear g0;go_wp2_with fail
   obtain⟨WE,hWE⟩:∃W,(((((w1.setCell ⟨w.heap.size,0,none⟩ (.string x9)).setCell ⟨w.heap.size,1,none⟩ (.slice i1 j1 l1)).setCell ⟨w.heap.size,2,none⟩ (.slice i2 j2 l2)).setCell ⟨w.heap.size,3,none⟩ (.slice i3 j3 l3)).setCell ⟨w.heap.size,4,none⟩ (.bool b9))=W:=⟨_,rfl⟩
   obtain⟨q0,q1,q2,q3,q4⟩:=HG0.out WE hWE;have KE:Kept w WE:=by rw[←hWE];exact((((KK.out.setCell (p:=⟨w.heap.size,0,none⟩) (Nat.le_refl _) _).setCell (p:=⟨w.heap.size,1,none⟩) (Nat.le_refl _) _).setCell (p:=⟨w.heap.size,2,none⟩) (Nat.le_refl _) _).setCell (p:=⟨w.heap.size,3,none⟩) (Nat.le_refl _) _).setCell (p:=⟨w.heap.size,4,none⟩) (Nat.le_refl _) _
   have ee:WE.cell? ⟨w.heap.size+1,0,none⟩=some (.int .i64 0):=by rw[←hWE];exact(((((HEB.out.other (by omega)).other (by omega)).other (by omega)).other (by omega)).other (by omega)).at_ 0 _ rfl
   rw[hWE];clear hWE z0 z1 z2 z3 z4 f0 f1 f2 f3 f4 HG0;have ff:∀j v,WE.cell? ⟨w.heap.size,j,none⟩=some v→(WE.setCell ⟨w.heap.size+1,0,none⟩ (.int .i64 0)).cell? ⟨w.heap.size,j,none⟩=some v:=fun j v h=>(World.cell?_of_block (a:=⟨w.heap.size,j,none⟩) (Below.heap_setCell WE ⟨w.heap.size+1,0,none⟩ _ w.heap.size (by show w.heap.size≠w.heap.size+1;omega))).trans h;have g0:=ff 0 _ q0;have g1:=ff 1 _ q1;have g2:=ff 2 _ q2;have g3:=ff 3 _ q3;have g4:=ff 4 _ q4;have fe:=World.cell?_setCell_same' WE ⟨w.heap.size+1,0,none⟩ (.int .i64 0) (by rw[ee];rfl);have KF:=lH (show Kept w (WE.setCell ⟨w.heap.size+1,0,none⟩ (.int .i64 0)) from KE.setCell (p:=⟨w.heap.size+1,0,none⟩) (Nat.le_succ _) _);obtain⟨WF,hWF⟩:∃W,WE.setCell ⟨w.heap.size+1,0,none⟩ (.int .i64 0)=W:=⟨_,rfl⟩
   rw[hWF] at fe g0 g1 g2 g3 g4 KF ⊢;clear hWF ff ee q0 q1 q2 q3 q4 ez ef;refine leaves_cons (f:=74) (args:=#[.pointer (some ⟨w.heap.size+1,0,none⟩)]) (by simp) (by simp[go_sem]) ?_;refine(caughtN_idle ⟨w.heap.size+1,0,none⟩ _).mono ?_;rintro e u' w'' ⟨rfl,rfl,rfl⟩;simp[Leaves,settle,results,Tryz.results43,go_sem,fe,g0,g1,g2,g3,g4];exact⟨⟨_,_,_,_,_,_,_,_,_,_,_,rfl⟩,KF.out⟩
 · obtain rfl:=h1 hx;have HX:=lH hx;clear h0 h1 hb hZ hx;go_wp2_with fail
   refine leaves_cons (f:=74) (args:=#[.pointer (some ⟨w.heap.size+1,0,none⟩)]) (by simp) (by simp[go_sem]) ?_;refine(caughtN_panicking w.heap.size (w.heap.size+1) c 0 _ ez ef (Nat.le_succ _)).mono ?_;rintro e u' w'' ⟨rfl,rfl,rfl,q2,q3⟩;have KF:=lH (show Kept w _ from Below.trans KK.out q3);have ff:∀j v,w1.cell? ⟨w.heap.size,j,none⟩=some v→(w1.setCell ⟨w.heap.size+1,0,none⟩ (.int .i64 c)).cell? ⟨w.heap.size,j,none⟩=some v:=fun j v h=>(World.cell?_of_block (a:=⟨w.heap.size,j,none⟩) (Below.heap_setCell w1 ⟨w.heap.size+1,0,none⟩ _ w.heap.size (by show w.heap.size≠w.heap.size+1;omega))).trans h;have g0:=ff 0 _ z0;have g1:=ff 1 _ z1;have g2:=ff 2 _ z2;have g3:=ff 3 _ z3;have g4:=ff 4 _ z4;obtain⟨WF,hWF⟩:∃W,w1.setCell ⟨w.heap.size+1,0,none⟩ (.int .i64 c)=W:=⟨_,rfl⟩
   rw[hWF] at q2 g0 g1 g2 g3 g4 KF ⊢;clear hWF ff q3 z0 z1 z2 z3 z4 ez ef f0 f1 f2 f3 f4;simp[Leaves,settle,results,Tryz.results43,go_sem,q2,g0,g1,g2,g3,g4];exact⟨⟨_,_,_,_,_,_,_,_,_,_,_,rfl⟩,KF.out⟩
theorem reason_any (s1 s2 s3:Option Addr) (n1 e1 n2 e2 n3 e3:Nat) (a1 a2 a3 a4:Option Addr) (m1 c1 m2 c2 m3 c3 m4 c4:Nat) (p:Pd) (s:Clu) (name:ByteArray) (w:World) (hs:CluR w (CluV (.slice s1 n1 e1) (.slice s2 n2 e2) (.slice s3 n3 e3)) s) (hl:LowClu s) (hp:PodAt w (.slice a1 m1 c1) (.slice a2 m2 c2) (.slice a3 m3 c3) (.slice a4 m4 c4) p):Calls Tryz.prog 23 #[.agg #[.slice s1 n1 e1,.slice s2 n2 e2,.slice s3 n3 e3],PodV p (.slice a1 m1 c1) (.slice a2 m2 c2) (.slice a3 m3 c3) (.slice a4 m4 c4),.string name] w (Say (.int .i64 (reasonS s p name)) w):=by
 have hmf:=hmfL (P:=Tryz.prog);obtain⟨Y,hY⟩:∃Y,(w.alloc (.cells #[.slice s1 n1 e1,.slice s2 n2 e2,.slice s3 n3 e3] 26)).alloc (.cells #[.string p.name,.string p.owner,.int .i64 p.prio,.slice a1 m1 c1,.slice a2 m2 c2,.slice a3 m3 c3,.slice a4 m4 c4,.string p.key,.int .i64 p.most,.string p.node,.bool p.hold] 37)=Y:=⟨_,rfl⟩
 have hky:Kept w Y:=by rw[←hY];exact kept_two _ _ _
 have hys:Y.heap.size=w.heap.size+2:=by rw[←hY];simp
 have hsb:=freshN w (.slice s1 n1 e1) [.slice s2 n2 e2,.slice s3 n3 e3] 26 Y (by rw[←hY];exact kept_alloc _ _);have hpb:CellsN (w.heap.size+1) [.string p.name,.string p.owner,.int .i64 p.prio,.slice a1 m1 c1,.slice a2 m2 c2,.slice a3 m3 c3,.slice a4 m4 c4,.string p.key,.int .i64 p.most,.string p.node,.bool p.hold] Y:=by
  have dd:=freshN (w.alloc (.cells #[.slice s1 n1 e1,.slice s2 n2 e2,.slice s3 n3 e3] 26)) (.string p.name) [.string p.owner,.int .i64 p.prio,.slice a1 m1 c1,.slice a2 m2 c2,.slice a3 m3 c3,.slice a4 m4 c4,.string p.key,.int .i64 p.most,.string p.node,.bool p.hold] 37 Y (by rw[hY];exact Kept.refl _);rw[World.size_alloc] at dd;exact dd
 obtain⟨Z,hZ⟩:∃Z,Y.alloc (.cells #[.string name] 9)=Z:=⟨_,rfl⟩
 have hkz:Kept Y Z:=by rw[←hZ];exact kept_alloc _ _
 have hnb:CellsN (w.heap.size+2) [.string name] Z:=by
  have dd:=freshN Y (.string name) [] 9 Z (by rw[hZ];exact Kept.refl _);rw[hys] at dd;exact dd
 have hYZ:((w.alloc (.cells #[.slice s1 n1 e1,.slice s2 n2 e2,.slice s3 n3 e3] 26)).alloc (.cells #[.string p.name,.string p.owner,.int .i64 p.prio,.slice a1 m1 c1,.slice a2 m2 c2,.slice a3 m3 c3,.slice a4 m4 c4,.string p.key,.int .i64 p.most,.string p.node,.bool p.hold] 37)).alloc (.cells #[.string name] 9)=Z:=by rw[hY];exact hZ
 have HC:=lH (caughtF_any w.heap.size (w.heap.size+1) (w.heap.size+2) (reasonS s p name) Z fun W k=>closureFit w.heap.size (w.heap.size+1) (w.heap.size+2) s1 s2 s3 n1 e1 n2 e2 n3 e3 a1 a2 a3 a4 m1 c1 m2 c2 m3 c3 m4 c4 p s name W ((hsb.kept hkz).kept k) ((hpb.kept hkz).kept k) (hnb.kept k) (hs.kept ((hky.trans hkz).trans k)) hl (hp.kept ((hky.trans hkz).trans k)));have K:=lH (hky.trans hkz);clear hs hp hl hky hkz hys hsb hpb hnb hY hZ;obtain⟨c,hc⟩:∃c,reasonS s p name=c:=⟨_,rfl⟩
 rw[hc] at HC ⊢;clear hc;unfold PodV;go_enter Tryz.func23,Tryz.ntmps23;go_wp2_with fail
 try rw[hYZ]
 clear hYZ;refine HC.out.mono ?_;rintro e w1 ⟨⟨x9,i1,j1,l1,i2,j2,l2,i3,j3,l3,b9,rfl⟩,kk⟩;have K:=lH (K.out.trans kk);clear kk;go_wp2;go_ret;exact⟨rfl,K.out.trans (kept_alloc _ _)⟩
theorem LowClu.drop {s:Clu} (h:LowClu s) (x:ByteArray):LowClu (dropSt s x):=drop_low h x
theorem CluR.spelt {w:World} {y:Value} {s:Clu} (h:CluR w y s):∃s1 n1 e1 s2 n2 e2 s3 n3 e3,y=CluV (.slice s1 n1 e1) (.slice s2 n2 e2) (.slice s3 n3 e3):=by
 obtain⟨_,_,_,rfl,⟨a,c,rfl,-⟩,⟨b,d,rfl,-⟩,⟨e,f,rfl,-⟩⟩:=h;exact⟨a,_,c,b,_,d,e,_,f,rfl⟩
theorem one_i0 (x:Int) (u:Value) (h:u ∈ [Value.int .i64 x]):u.oneCell'=true:=by
 have e:u=Value.int .i64 x:=by simpa using h
 rw[e];rfl
def ErrLay:Lay Int:={ m:=1,cs:=fun x=>[.int .i64 x],fine:=fun x=>-9223372036854775808≤x∧x≤9223372036854775807,len:=fun _=>rfl,one:=one_i0,pos:=by decide }
theorem RowAt.err {w:World} {b off len:Nat} {l:List Int} {k:Nat} (h:RowAt ErrLay w (some ⟨b,off,none⟩) len l) (hk:k<len):∃x:Int,l[k]?=some x∧l.drop k=x::l.drop (k+1)∧b<w.heap.size∧w.cell? ⟨b,off+k,none⟩=some (.int .i64 x):=by
 obtain⟨x,h1,h2,h3,h4,h5⟩:=h.cells hk;exact⟨x,h1,h2,h3,by have:=h5 0 _ rfl;simpa [ErrLay] using this⟩
theorem infoEr:(Tryz.prog.info? 50).map (fun i=>(i.zero,i.size,i.bytes))=some (some (.int .i64 0),1,8):=by kernel_rfl
theorem fit_any (s1 s2 s3:Option Addr) (n1 e1 n2 e2 n3 e3:Nat) (a1 a2 a3 a4:Option Addr) (m1 c1 m2 c2 m3 c3 m4 c4:Nat) (p:Pd) (s:Clu) (name:ByteArray) (w:World) (hs:CluR w (CluV (.slice s1 n1 e1) (.slice s2 n2 e2) (.slice s3 n3 e3)) s) (hl:LowClu s) (hp:PodAt w (.slice a1 m1 c1) (.slice a2 m2 c2) (.slice a3 m3 c3) (.slice a4 m4 c4) p):Calls Tryz.prog 13 #[.agg #[.slice s1 n1 e1,.slice s2 n2 e2,.slice s3 n3 e3],PodV p (.slice a1 m1 c1) (.slice a2 m2 c2) (.slice a3 m3 c3) (.slice a4 m4 c4),.string name] w (Say (.int .i64 (fitS s p name)) w):=by
 obtain⟨Z,hZ⟩:∃Z,(w.alloc (.cells #[.slice s1 n1 e1,.slice s2 n2 e2,.slice s3 n3 e3] 26)).alloc (.cells #[.string p.name,.string p.owner,.int .i64 p.prio,.slice a1 m1 c1,.slice a2 m2 c2,.slice a3 m3 c3,.slice a4 m4 c4,.string p.key,.int .i64 p.most,.string p.node,.bool p.hold] 37)=Z:=⟨_,rfl⟩
 have hkz:Kept w Z:=by rw[←hZ];exact kept_two _ _ _
 have HB1:=lH (freshN w (.slice s1 n1 e1) [.slice s2 n2 e2,.slice s3 n3 e3] 26 Z (by rw[←hZ];exact kept_alloc _ _));have HB2:=lH (show CellsN (w.heap.size+1) [.string p.name,.string p.owner,.int .i64 p.prio,.slice a1 m1 c1,.slice a2 m2 c2,.slice a3 m3 c3,.slice a4 m4 c4,.string p.key,.int .i64 p.most,.string p.node,.bool p.hold] Z by
  have dd:=freshN (w.alloc (.cells #[.slice s1 n1 e1,.slice s2 n2 e2,.slice s3 n3 e3] 26)) (.string p.name) [.string p.owner,.int .i64 p.prio,.slice a1 m1 c1,.slice a2 m2 c2,.slice a3 m3 c3,.slice a4 m4 c4,.string p.key,.int .i64 p.most,.string p.node,.bool p.hold] 37 Z (by rw[hZ];exact Kept.refl _);rw[World.size_alloc] at dd;exact dd)
 have K:=lH hkz;have HS:=lH (hs.kept hkz);have HP:=lH (hp.kept hkz);have HL:=lH hl;clear hs hp hkz hl;have HF:=lH (show ∀W,Kept Z W→W.cell? ⟨w.heap.size,0,none⟩=some (.slice s1 n1 e1)∧W.cell? ⟨w.heap.size,1,none⟩=some (.slice s2 n2 e2)∧W.cell? ⟨w.heap.size,2,none⟩=some (.slice s3 n3 e3)∧W.cell? ⟨w.heap.size+1,0,none⟩=some (.string p.name)∧W.cell? ⟨w.heap.size+1,1,none⟩=some (.string p.owner)∧W.cell? ⟨w.heap.size+1,2,none⟩=some (.int .i64 p.prio)∧W.cell? ⟨w.heap.size+1,3,none⟩=some (.slice a1 m1 c1)∧W.cell? ⟨w.heap.size+1,4,none⟩=some (.slice a2 m2 c2)∧W.cell? ⟨w.heap.size+1,5,none⟩=some (.slice a3 m3 c3)∧W.cell? ⟨w.heap.size+1,6,none⟩=some (.slice a4 m4 c4)∧W.cell? ⟨w.heap.size+1,7,none⟩=some (.string p.key)∧W.cell? ⟨w.heap.size+1,8,none⟩=some (.int .i64 p.most)∧W.cell? ⟨w.heap.size+1,9,none⟩=some (.string p.node)∧W.cell? ⟨w.heap.size+1,10,none⟩=some (.bool p.hold) from fun W kk=>by
  have h:=HB1.out.kept kk;have q:=HB2.out.kept kk;exact⟨h.at_ 0 _ rfl,h.at_ 1 _ rfl,h.at_ 2 _ rfl,q.at_ 0 _ rfl,q.at_ 1 _ rfl,q.at_ 2 _ rfl,q.at_ 3 _ rfl,q.at_ 4 _ rfl,q.at_ 5 _ rfl,q.at_ 6 _ rfl,q.at_ 7 _ rfl,q.at_ 8 _ rfl,q.at_ 9 _ rfl,q.at_ 10 _ rfl⟩)
 have HV:=lH (show fitS s p name=reasonS (dropSt s p.name) p name from rfl);unfold PodV;go_enter Tryz.func13,Tryz.ntmps13;go_upto_region 1 with fail
 try rw[hZ]
 clear hZ;have J:=lH (Kept.drew Z);refine wp_region_held_drew (S:=fun W=>W.cell? ⟨w.heap.size,0,none⟩=some (.slice s1 n1 e1)∧W.cell? ⟨w.heap.size,1,none⟩=some (.slice s2 n2 e2)∧W.cell? ⟨w.heap.size,2,none⟩=some (.slice s3 n3 e3)∧W.cell? ⟨w.heap.size+1,0,none⟩=some (.string p.name)∧W.cell? ⟨w.heap.size+1,1,none⟩=some (.string p.owner)∧W.cell? ⟨w.heap.size+1,2,none⟩=some (.int .i64 p.prio)∧W.cell? ⟨w.heap.size+1,3,none⟩=some (.slice a1 m1 c1)∧W.cell? ⟨w.heap.size+1,4,none⟩=some (.slice a2 m2 c2)∧W.cell? ⟨w.heap.size+1,5,none⟩=some (.slice a3 m3 c3)∧W.cell? ⟨w.heap.size+1,6,none⟩=some (.slice a4 m4 c4)∧W.cell? ⟨w.heap.size+1,7,none⟩=some (.string p.key)∧W.cell? ⟨w.heap.size+1,8,none⟩=some (.int .i64 p.most)∧W.cell? ⟨w.heap.size+1,9,none⟩=some (.string p.node)∧W.cell? ⟨w.heap.size+1,10,none⟩=some (.bool p.hold)) (by kernel_rfl) (HF.out _ J.out) (fun hHeld=>?_);obtain⟨wd,hwd⟩:∃W,Z.drew=W:=⟨_,rfl⟩
 rw[hwd] at J hHeld;try rw[hwd]
 clear hwd;refine wpAnyH_take  (i:=0) (v:=?_) (by rw[List.getElem?_toArray];exact rfl) (by kernel_rfl) (by kernel_rfl) (by kernel_rfl) (by exact fun _ _ _ h=>h) (Or.inl ⟨by rfl,(by rintro W ⟨o0,o1,o2,o3,o4,o5,o6,o7,o8,o9,o10,o11,o12,o13⟩;go_simp<;>with_reducible rfl)⟩) (by assumption) ?_;try simp only  [Act.put,List.setIfInBounds_toArray,List.set_cons_zero,List.set_cons_succ]
 refine wpAnyH_take  (i:=1) (v:=?_) (by rw[List.getElem?_toArray];exact rfl) (by kernel_rfl) (by kernel_rfl) (by kernel_rfl) (by exact fun _ _ _ h=>h) (Or.inl ⟨by rfl,(by rintro W ⟨o0,o1,o2,o3,o4,o5,o6,o7,o8,o9,o10,o11,o12,o13⟩;go_simp<;>with_reducible rfl)⟩) (by assumption) ?_;try simp only  [Act.put,List.setIfInBounds_toArray,List.set_cons_zero,List.set_cons_succ]
 refine wpAnyH_take  (i:=2) (v:=?_) (by rw[List.getElem?_toArray];exact rfl) (by kernel_rfl) (by kernel_rfl) (by kernel_rfl) (by exact fun _ _ _ h=>h) (Or.inl ⟨by rfl,(by rintro W ⟨o0,o1,o2,o3,o4,o5,o6,o7,o8,o9,o10,o11,o12,o13⟩;go_simp<;>with_reducible rfl)⟩) (by assumption) ?_;try simp only  [Act.put,List.setIfInBounds_toArray,List.set_cons_zero,List.set_cons_succ]
 refine wpAnyH_take  (i:=4) (v:=?_) (by rw[List.getElem?_toArray];exact rfl) (by kernel_rfl) (by kernel_rfl) (by kernel_rfl) (by exact fun _ _ _ h=>h) (Or.inl ⟨by rfl,(by rintro W ⟨o0,o1,o2,o3,o4,o5,o6,o7,o8,o9,o10,o11,o12,o13⟩;go_simp<;>with_reducible rfl)⟩) (by assumption) ?_;try simp only  [Act.put,List.setIfInBounds_toArray,List.set_cons_zero,List.set_cons_succ]
 refine wpAnyH_take  (i:=5) (v:=?_) (by rw[List.getElem?_toArray];exact rfl) (by kernel_rfl) (by kernel_rfl) (by kernel_rfl) (by exact fun _ _ _ h=>h) (Or.inl ⟨by rfl,(by rintro W ⟨o0,o1,o2,o3,o4,o5,o6,o7,o8,o9,o10,o11,o12,o13⟩;go_simp<;>with_reducible rfl)⟩) (by assumption) ?_;try simp only  [Act.put,List.setIfInBounds_toArray,List.set_cons_zero,List.set_cons_succ]
 refine wpAnyH_ready  (rs:=[3]) (by kernel_rfl) (by simp) (AllReadyH.cons  (by rw[List.getElem?_toArray];exact rfl) (fun K9 hK9=>?_) AllReadyH.nil);go_simp;refine(dropStR (HS.out.kept J.out) p.name HL.out).mono ?_;rintro e w1 ⟨y,rfl,hy,kk⟩;obtain⟨t1,k1,d1,t2,k2,d2,t3,k3,d3,rfl⟩:=hy.spelt;have HY:=lH hy;have J:=lH (J.out.trans kk);clear kk hy;refine hK9.out _ _ (HF.out _ J.out) (fun hHeld1=>?_);clear hK9 K9;try simp only  [Act.put,List.setIfInBounds_toArray,List.set_cons_zero,List.set_cons_succ]
 refine wpAnyH_ready  (rs:=[6]) (by kernel_rfl) (by simp) (AllReadyH.cons  (by rw[List.getElem?_toArray];exact rfl) (fun K9 hK9=>?_) AllReadyH.nil);go_simp;have HRE:=reason_any t1 t2 t3 k1 d1 k2 d2 k3 d3 a1 a2 a3 a4 m1 c1 m2 c2 m3 c3 m4 c4 p (dropSt s p.name) name w1 HY.out (drop_low HL.out p.name) (HP.out.kept J.out);unfold PodV at HRE;try unfold CluV at HRE
 refine HRE.mono ?_;rintro e w2 ⟨rfl,kk⟩;have J:=lH (J.out.trans kk);clear kk HRE;refine hK9.out _ _ (HF.out _ J.out) (fun hHeld2=>?_);clear hK9 K9;try simp only  [Act.put,List.setIfInBounds_toArray,List.set_cons_zero,List.set_cons_succ]
 refine wpAnyH_take  (i:=7) (v:=?_) (by rw[List.getElem?_toArray];exact rfl) (by kernel_rfl) (by kernel_rfl) (by kernel_rfl) (by exact fun _ _ _ h=>h) (Or.inl ⟨by rfl,(by rintro W ⟨o0,o1,o2,o3,o4,o5,o6,o7,o8,o9,o10,o11,o12,o13⟩;go_simp<;>with_reducible rfl)⟩) (by assumption) ?_;try simp only  [Act.put,List.setIfInBounds_toArray,List.set_cons_zero,List.set_cons_succ]
 refine wpAnyH_done (by kernel_rfl) ?_ _;go_wp2;go_ret;exact⟨ret_i64 HV.out.symm,K.out.trans J.out⟩
theorem why_any (s1 s2 s3:Option Addr) (n1 e1 n2 e2 n3 e3:Nat) (a1 a2 a3 a4:Option Addr) (m1 c1 m2 c2 m3 c3 m4 c4:Nat) (p:Pd) (s:Clu) (w:World) (hs:CluR w (CluV (.slice s1 n1 e1) (.slice s2 n2 e2) (.slice s3 n3 e3)) s) (hl:LowClu s) (hp:PodAt w (.slice a1 m1 c1) (.slice a2 m2 c2) (.slice a3 m3 c3) (.slice a4 m4 c4) p):Calls Tryz.prog 8 #[.agg #[.slice s1 n1 e1,.slice s2 n2 e2,.slice s3 n3 e3],PodV p (.slice a1 m1 c1) (.slice a2 m2 c2) (.slice a3 m3 c3) (.slice a4 m4 c4)] w fun e w'=>∃v,e=.returned v∧Own ErrLay 50 w' w.heap.size v (whyL s p s.nodes)∧Kept w w':=by
 obtain⟨i0,hi,hz0,hz1,hz2'⟩:=info_parts infoEr;obtain⟨Z,hZ⟩:∃Z,(w.alloc (.cells #[.slice s1 n1 e1,.slice s2 n2 e2,.slice s3 n3 e3] 26)).alloc (.cells #[.string p.name,.string p.owner,.int .i64 p.prio,.slice a1 m1 c1,.slice a2 m2 c2,.slice a3 m3 c3,.slice a4 m4 c4,.string p.key,.int .i64 p.most,.string p.node,.bool p.hold] 37)=Z:=⟨_,rfl⟩
 have hkz:Kept w Z:=by rw[←hZ];exact kept_two _ _ _
 have HB1:=lH (freshN w (.slice s1 n1 e1) [.slice s2 n2 e2,.slice s3 n3 e3] 26 Z (by rw[←hZ];exact kept_alloc _ _));have HB2:=lH (show CellsN (w.heap.size+1) [.string p.name,.string p.owner,.int .i64 p.prio,.slice a1 m1 c1,.slice a2 m2 c2,.slice a3 m3 c3,.slice a4 m4 c4,.string p.key,.int .i64 p.most,.string p.node,.bool p.hold] Z by
  have dd:=freshN (w.alloc (.cells #[.slice s1 n1 e1,.slice s2 n2 e2,.slice s3 n3 e3] 26)) (.string p.name) [.string p.owner,.int .i64 p.prio,.slice a1 m1 c1,.slice a2 m2 c2,.slice a3 m3 c3,.slice a4 m4 c4,.string p.key,.int .i64 p.most,.string p.node,.bool p.hold] 37 Z (by rw[hZ];exact Kept.refl _);rw[World.size_alloc] at dd;exact dd)
 have K:=lH hkz;have HS:=lH (hs.kept hkz);have HP:=lH (hp.kept hkz);have HL:=lH hl;clear hs hp hkz hl;have HNL:=lH HS.out.nAt.2;have hb1:n1≤100000:=by have:=HL.out.nodesN;have:=HNL.out;omega
 have HN:=lH HS.out.nAt.1;have HD0:=lH (dropStR HS.out p.name HL.out);try unfold CluV at HD0
 have y0:=HB1.out.at_ 0 _ rfl;have y1:=HB1.out.at_ 1 _ rfl;have y2:=HB1.out.at_ 2 _ rfl;have r0:=HB2.out.at_ 0 _ rfl;unfold PodV;go_enter Tryz.func8,Tryz.ntmps8;go_upto_region 1 with fail
 try rw[hZ]
 clear hZ;go_wp2_with fail
 refine HD0.out.mono ?_;rintro e w1 ⟨y,rfl,hy,kk⟩;obtain⟨t1,k1,d1,t2,k2,d2,t3,k3,d3,rfl⟩:=hy.spelt;obtain⟨w2,hw2⟩:∃W,w1.alloc (.cells #[.slice t1 k1 d1,.slice t2 k2 d2,.slice t3 k3 d3] 26)=W:=⟨_,rfl⟩
 have kx:Kept w1 w2:=by rw[←hw2];exact kept_alloc _ _
 have HQB:=lH (freshN w1 (.slice t1 k1 d1) [.slice t2 k2 d2,.slice t3 k3 d3] 26 w2 (by rw[hw2];exact Kept.refl _));have HY:=lH (hy.kept kx);have HB1:=lH (HB1.out.kept (kk.trans kx));have HB2:=lH (HB2.out.kept (kk.trans kx));have HP:=lH (HP.out.kept (kk.trans kx));have HN:=lH (HN.out.kept (kk.trans kx));have K:=lH (K.out.trans (kk.trans kx));obtain⟨gd,hgd⟩:∃g,w1.heap.size=g:=⟨_,rfl⟩
 rw[hgd] at HQB;clear kk kx hy HD0 y0 y1 y2 r0;have y0:=HB1.out.at_ 0 _ rfl;go_upto_region 3 with fail
 try rw[hw2]
 try rw[hgd]
 clear hw2 hgd;go_wp2;clear y0;go_loopw [6,16] (fun v i wr=>∃k:Nat,k≤n1∧i=.int .i64 k∧∃la:List Int,whyL s p (s.nodes.take k)=la∧Own ErrLay 50 wr w2.heap.size v la∧Kept w2 wr) (fun _ i _=>n1-(intOf i).toNat)
 case atStart=>exact⟨0,Nat.zero_le _,rfl,[],rfl,Own.nil _ _ _,Kept.refl _⟩
 case round =>
  obtain⟨k,hk,rfl,la,hla,ho,hK⟩:=hrel;have HX:=lH hla;have HO:=lH ho;have HK:=lH hK;obtain⟨m,hm⟩:∃m,la.length=m:=⟨_,rfl⟩
  have hmk:m≤k:=by
   have:=whyL_len s p (s.nodes.take k);rw[hla,hm,List.length_take] at this;omega
  have HT:=lH hm;have hbase:w2.heap.size≤wr.heap.size:=hK.size;by_cases hlt:k<n1
  · obtain⟨g,off,rfl⟩:=HN.out.form.resolve_left (by omega);obtain⟨n,b1,q1,f1,b2,q2,f2,b3,q3,f3,hn,hd,hb,u0,u1,u2,u3,u4,hat⟩:=(HN.out.kept hK).at_ hlt;have HWT:=lH (whyL_take (s:=s) (p:=p) hn);have hkk:(k:Int)<(n1:Int):=by omega
    have hk0:¬(k:Int)<0:=by omega
    obtain⟨wx,hwx⟩:∃W,wr.alloc (.cells #[.string n.name,.slice b1 q1 f1,.slice b2 q2 f2,.slice b3 q3 f3,.bool n.cordon] 47)=W:=⟨_,rfl⟩
    have hkx:Kept wr wx:=by rw[←hwx];exact kept_alloc _ _
    have HNX:=lH (freshN wr (.string n.name) [.slice b1 q1 f1,.slice b2 q2 f2,.slice b3 q3 f3,.bool n.cordon] 47 wx (by rw[hwx];exact Kept.refl _));obtain⟨bq,hbq⟩:∃z,wr.heap.size=z:=⟨_,rfl⟩
    rw[hbq] at HNX;have HQX:=lH (HQB.out.kept (hK.trans hkx));have HPX:=lH (HB2.out.kept (hK.trans hkx));have HRE:=lH (reason_any t1 t2 t3 k1 d1 k2 d2 k3 d3 a1 a2 a3 a4 m1 c1 m2 c2 m3 c3 m4 c4 p (dropSt s p.name) n.name wx (HY.out.kept (hK.trans hkx)) (drop_low HL.out p.name) (HP.out.kept (hK.trans hkx)));unfold PodV at HRE;obtain⟨c,hc⟩:∃c,reasonS (dropSt s p.name) p n.name=c:=⟨_,rfl⟩
    have HCB:=lH (show -9223372036854775808≤c∧c≤9223372036854775807 by have:=reason_bd (dropSt s p.name) p n.name;omega);have HV:=lH (show whyL s p (s.nodes.take (k+1))=la++[c] by rw[HWT.out,HX.out];unfold fitS;rw[hc]);rw[hc] at HRE;have KX:=lH hkx;go_upto_region 6 with fail
    try rw[hwx]
    try rw[hbq]
    clear hwx hbq hd hb hn hkx hk0 hkk hat hla ho hm hK hc u0 u1 u2 u3 u4;have y0:=HQX.out.at_ 0 _ rfl;have y1:=HQX.out.at_ 1 _ rfl;have y2:=HQX.out.at_ 2 _ rfl;have r0:=HPX.out.at_ 0 _ rfl;have r1:=HPX.out.at_ 1 _ rfl;have r2:=HPX.out.at_ 2 _ rfl;have r3:=HPX.out.at_ 3 _ rfl;have r4:=HPX.out.at_ 4 _ rfl;have r5:=HPX.out.at_ 5 _ rfl;have r6:=HPX.out.at_ 6 _ rfl;have r7:=HPX.out.at_ 7 _ rfl;have r8:=HPX.out.at_ 8 _ rfl;have r9:=HPX.out.at_ 9 _ rfl;have r10:=HPX.out.at_ 10 _ rfl;have t0:=HNX.out.at_ 0 _ rfl;go_wp2_with fail
    refine HRE.out.mono ?_;rintro e w3 ⟨rfl,kk⟩;have KW:=lH (KX.out.trans kk);clear kk HRE t0 y0 y1 y2 r0 r1 r2 r3 r4 r5 r6 r7 r8 r9 r10;have HOW2:=lH (show w3.ownsRow w2.heap.size 50 1 u6 m (rowCells ErrLay la) by have:=(HO.out.kept KW.out).1;rw[HT.out] at this;exact this);have hs1:wr.heap.size≤w3.heap.size:=Below.size KW.out;go_wp2_with (at_builtin;refine wpList_append_lies _ rfl _ _ _ rfl w2.heap.size 50 i0 _ 1 8 Tryz.underlying48 hi hz0 hz1 hz2' rfl (by decide) u6 m (rowCells ErrLay la) rfl (HOW2.out.alloc _) ⟨w3.heap.size,0,none⟩ 1 1 (ErrLay.cs c) rfl rfl (World.news_of_block (cs:=#[.int .i64 c]) (t:=50) (fr:=(0,0)) (heap_alloc_new w3 _)) (one_i0 c) (by decide) (by unfold maxLen;omega) (by omega) (by simp;omega) (w3.heap.size+1) (by simp) ?_;intro gg cap1 w4 hown1 hgrow hat hlt1)
    have HBW:=lH ((show Below w2.heap.size w2 _ from HK.out.trans (KW.out.trans (kept_alloc w3 _))).grown hgrow (by simp;omega) (fun j hj=>(HOW2.out.lt j hj).1));go_wp2;go_roundw
    case rel=>exact⟨k+1,by omega,by go_num,la++[c],HV.out,Own.snoc hown1 (by rw[HT.out]) HO.out.2 HCB.out,HBW.out⟩
    case measure=>simp[intOf];omega
  · have hge:¬(k:Int)<(n1:Int):=by omega
    have HE:=lH (show whyL s p s.nodes=la by rw[←hla,List.take_of_length_le (by rw[←HNL.out];omega)]);clear hla ho hm hK;go_wp2;go_ret;exact⟨_,rfl,by rw[HE.out];exact HO.out.base_le K.out.size,K.out.trans HK.out⟩
theorem fits_any (s1 s2 s3:Option Addr) (n1 e1 n2 e2 n3 e3:Nat) (a1 a2 a3 a4:Option Addr) (m1 c1 m2 c2 m3 c3 m4 c4:Nat) (p:Pd) (s:Clu) (w:World) (hs:CluR w (CluV (.slice s1 n1 e1) (.slice s2 n2 e2) (.slice s3 n3 e3)) s) (hl:LowClu s) (hp:PodAt w (.slice a1 m1 c1) (.slice a2 m2 c2) (.slice a3 m3 c3) (.slice a4 m4 c4) p):Calls Tryz.prog 12 #[.agg #[.slice s1 n1 e1,.slice s2 n2 e2,.slice s3 n3 e3],PodV p (.slice a1 m1 c1) (.slice a2 m2 c2) (.slice a3 m3 c3) (.slice a4 m4 c4)] w fun e w'=>∃v,e=.returned v∧Own StrLay 9 w' w.heap.size v (fitsL s p s.nodes)∧Kept w w':=by
 obtain⟨i0,hi,hz0,hz1,hz2'⟩:=info_parts infoSt;obtain⟨Z,hZ⟩:∃Z,(w.alloc (.cells #[.slice s1 n1 e1,.slice s2 n2 e2,.slice s3 n3 e3] 26)).alloc (.cells #[.string p.name,.string p.owner,.int .i64 p.prio,.slice a1 m1 c1,.slice a2 m2 c2,.slice a3 m3 c3,.slice a4 m4 c4,.string p.key,.int .i64 p.most,.string p.node,.bool p.hold] 37)=Z:=⟨_,rfl⟩
 have hkz:Kept w Z:=by rw[←hZ];exact kept_two _ _ _
 have HB1:=lH (freshN w (.slice s1 n1 e1) [.slice s2 n2 e2,.slice s3 n3 e3] 26 Z (by rw[←hZ];exact kept_alloc _ _));have HB2:=lH (show CellsN (w.heap.size+1) [.string p.name,.string p.owner,.int .i64 p.prio,.slice a1 m1 c1,.slice a2 m2 c2,.slice a3 m3 c3,.slice a4 m4 c4,.string p.key,.int .i64 p.most,.string p.node,.bool p.hold] Z by
  have dd:=freshN (w.alloc (.cells #[.slice s1 n1 e1,.slice s2 n2 e2,.slice s3 n3 e3] 26)) (.string p.name) [.string p.owner,.int .i64 p.prio,.slice a1 m1 c1,.slice a2 m2 c2,.slice a3 m3 c3,.slice a4 m4 c4,.string p.key,.int .i64 p.most,.string p.node,.bool p.hold] 37 Z (by rw[hZ];exact Kept.refl _);rw[World.size_alloc] at dd;exact dd)
 have K:=lH hkz;have HS:=lH (hs.kept hkz);have HP:=lH (hp.kept hkz);have HL:=lH hl;clear hs hp hkz hl;have HNL:=lH HS.out.nAt.2;have hb1:n1≤100000:=by have:=HL.out.nodesN;have:=HNL.out;omega
 have HN:=lH HS.out.nAt.1;have HWY:=lH (why_any s1 s2 s3 n1 e1 n2 e2 n3 e3 a1 a2 a3 a4 m1 c1 m2 c2 m3 c3 m4 c4 p s Z HS.out HL.out HP.out);unfold PodV at HWY;have y0:=HB1.out.at_ 0 _ rfl;have y1:=HB1.out.at_ 1 _ rfl;have y2:=HB1.out.at_ 2 _ rfl;have r0:=HB2.out.at_ 0 _ rfl;have r1:=HB2.out.at_ 1 _ rfl;have r2:=HB2.out.at_ 2 _ rfl;have r3:=HB2.out.at_ 3 _ rfl;have r4:=HB2.out.at_ 4 _ rfl;have r5:=HB2.out.at_ 5 _ rfl;have r6:=HB2.out.at_ 6 _ rfl;have r7:=HB2.out.at_ 7 _ rfl;have r8:=HB2.out.at_ 8 _ rfl;have r9:=HB2.out.at_ 9 _ rfl;have r10:=HB2.out.at_ 10 _ rfl;unfold PodV;go_enter Tryz.func12,Tryz.ntmps12;go_wp2_with fail
 try rw[hZ]
 clear hZ;refine HWY.out.mono ?_;rintro e w1 ⟨v9,rfl,hr,kk⟩;have HB1:=lH (HB1.out.kept kk);have HN:=lH (HN.out.kept kk);have K:=lH (K.out.trans kk);obtain⟨wa,wc,rfl,-,-,hrow⟩:=hr.reads;rw[whyL_len,←HNL.out] at hrow;rw[whyL_len,←HNL.out];have HWR:=lH hrow;clear kk hrow HWY HP HB2 y0 y1 y2 r0 r1 r2 r3 r4 r5 r6 r7 r8 r9 r10;go_wp2;go_loopw [5,12] (fun v i wr=>∃k:Nat,k≤n1∧i=.int .i64 k∧∃la:List ByteArray,fitsL s p (s.nodes.take k)=la∧Own StrLay 9 wr w1.heap.size v la∧Kept w1 wr) (fun _ i _=>n1-(intOf i).toNat)
 case atStart=>exact⟨0,Nat.zero_le _,rfl,[],rfl,Own.nil _ _ _,Kept.refl _⟩
 case round =>
  obtain⟨k,hk,rfl,la,hla,ho,hK⟩:=hrel;have HX:=lH hla;have HO:=lH ho;have HK:=lH hK;obtain⟨m,hm⟩:∃m,la.length=m:=⟨_,rfl⟩
  have hmk:m≤k:=by
   have:=fitsL_len s p (s.nodes.take k);rw[hla,hm,List.length_take] at this;omega
  have HT:=lH hm;have hbase:w1.heap.size≤wr.heap.size:=hK.size;by_cases hlt:k<n1
  · obtain⟨g,off,rfl⟩:=HN.out.form.resolve_left (by omega);obtain⟨n,b1,q1,f1,b2,q2,f2,b3,q3,f3,hn,hd,hb,u0,u1,u2,u3,u4,hat⟩:=(HN.out.kept hK).at_ hlt;obtain⟨bw,offw,rfl⟩:=HWR.out.form.resolve_left (by omega);obtain⟨c,hc,-,-,cw⟩:=(HWR.out.kept hK).err hlt;have HNM:=lH hat.size;have HWT:=lH (fitsL_take (s:=s) (p:=p) hn);have HCF:=lH (show fitS s p n.name=c by rw[whyL_at hn] at hc;exact Option.some.inj hc);have hkk:(k:Int)<(n1:Int):=by omega
    have hk0:¬(k:Int)<0:=by omega
    have y0:=(HB1.out.kept hK).at_ 0 _ rfl;clear hd hb hn hc hat hla ho hm hK;obtain⟨xn,hxn⟩:∃x,n.name=x:=⟨_,rfl⟩
    rw[hxn] at u0 HNM HWT HCF;clear hxn;by_cases h0:c=0
    · subst h0;have HV:=lH (show fitsL s p (s.nodes.take (k+1))=la++[xn] by rw[HWT.out,HX.out,if_pos HCF.out]);have HOW2:=lH (show wr.ownsRow w1.heap.size 9 1 u5 m (rowCells StrLay la) by have:=HO.out.1;rw[HT.out] at this;exact this);go_wp2_with (at_builtin;refine wpList_append_lies _ rfl _ _ _ rfl w1.heap.size 9 i0 _ 1 16 Tryz.underlying59 hi hz0 hz1 hz2' rfl (by decide) u5 m (rowCells StrLay la) rfl (HOW2.out.alloc _) ⟨wr.heap.size,0,none⟩ 1 1 (StrLay.cs xn) rfl rfl (World.news_of_block (cs:=#[.string xn]) (t:=9) (fr:=(0,0)) (heap_alloc_new wr _)) (one_str0 xn) (by decide) (by unfold maxLen;omega) (by omega) (by simp;omega) (wr.heap.size+1) (by simp) ?_;intro gg cap1 w4 hown1 hgrow hat hlt1)
      have HBW:=lH ((show Below w1.heap.size w1 _ from HK.out.trans (kept_alloc wr _)).grown hgrow (by simp;omega) (fun j hj=>(HOW2.out.lt j hj).1));go_wp2;go_roundw
      case rel=>exact⟨k+1,by omega,by go_num,la++[xn],HV.out,Own.snoc hown1 (by rw[HT.out]) HO.out.2 HNM.out,HBW.out⟩
      case measure=>simp[intOf];omega
    · have h0b:(c==0)=false:=by simpa using h0
      have HV:=lH (show fitsL s p (s.nodes.take (k+1))=la by rw[HWT.out,HX.out,if_neg (by rw[HCF.out];exact h0),List.append_nil]);clear h0;go_wp2;go_roundw
      case rel=>exact⟨k+1,by omega,by go_num,la,HV.out,HO.out,HK.out⟩
      case measure=>simp[intOf];omega
  · have hge:¬(k:Int)<(n1:Int):=by omega
    have HE:=lH (show fitsL s p s.nodes=la by rw[←hla,List.take_of_length_le (by rw[←HNL.out];omega)]);clear hla ho hm hK;go_wp2;go_ret;exact⟨_,rfl,by rw[HE.out];exact HO.out.base_le K.out.size,K.out.trans HK.out⟩
end Go.Proofs.YtmlgobiifebjkaaGreat
