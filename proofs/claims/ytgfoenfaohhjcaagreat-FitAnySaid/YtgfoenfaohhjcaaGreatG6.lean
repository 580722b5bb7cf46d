/- What serves all packages,and package by package the contracts of the functions that the law calls. -/
import Derived.Test.YtgfoenfaohhjcaaGreatG0
import Derived.Test.YtgfoenfaohhjcaaGreatG1
import Derived.Test.YtgfoenfaohhjcaaGreatG2
import Derived.Test.YtgfoenfaohhjcaaGreatG3
import Derived.Test.YtgfoenfaohhjcaaGreatG4
import Derived.Test.YtgfoenfaohhjcaaGreatG5
set_option linter.unusedVariables false
set_option maxRecDepth 100000
set_option maxHeartbeats 25600000
namespace Go.Proofs.YtgfoenfaohhjcaaGreat
open Go.RowKit
theorem jhM {v v':Value} {l l':Vec.V} {w:World} (h:Vec.Reads w v l) (h':Vec.Reads w v' l'):Calls Tryz.prog 155 #[v,v'] w (Vec.YB (Vec.ji Vec.jR l l') w):=by
 obtain⟨a,cap,rfl,h1,h2,hr⟩:=h;obtain⟨a',cap',rfl,h1',h2',hr'⟩:=h';exact Vec.jhd a a' _ cap _ cap' l l' w hr hr' h1 h2 h1' h2'
theorem jcJ (a a8 a9:Option Addr) (len cap m8 c8 m9 c9:Nat) (l:List Nod) (x:ByteArray) (w:World) (hr:ju w a len l) (hlow:∀n ∈ l,Jp n) (hf:jm l x=none) :
 Calls Tryz.prog 153 #[.agg #[.slice a len cap,.slice a8 m8 c8,.slice a9 m9 c9],.string x] w fun e w'=>e=.panicked [zv 3]∧Kept w w':=by
 refine(qR a a8 a9 len cap m8 c8 m9 c9 l x w hr hlow).mono ?_;rintro e w' ⟨-,h,k⟩;exact⟨h hf,k⟩
theorem Y4 (a a8 a9:Option Addr) (len cap m8 c8 m9 c9:Nat) (l:List Nod) (x:ByteArray) (n:Nod) (w:World) (hr:ju w a len l) (hlow:∀n ∈ l,Jp n) (hf:jm l x=some n) :
 Calls Tryz.prog 153 #[.agg #[.slice a len cap,.slice a8 m8 c8,.slice a9 m9 c9],.string x] w fun e w'=>∃b1 n1 d1 b2 n2 d2 b3 n3 d3,e=.returned (.agg #[.string n.name,.slice b1 n1 d1,.slice b2 n2 d2,.slice b3 n3 d3,.bool n.cordon])∧zl w' (.slice b1 n1 d1) (.slice b2 n2 d2) (.slice b3 n3 d3) n∧Kept w w':=by
 refine(qR a a8 a9 len cap m8 c8 m9 c9 l x w hr hlow).mono ?_;rintro e w' ⟨h,-,k⟩;obtain⟨v,rfl,b1,n1,d1,b2,n2,d2,b3,n3,d3,rfl,s0,s1,s2,s3,-⟩:=h n hf;exact⟨b1,n1,d1,b2,n2,d2,b3,n3,d3,rfl,⟨s0,s1,s2,s3⟩,k⟩
theorem JM.ok {m:Vec.V} {w w':World} {e:Ending} {r:Int×Vec.V} (h:JM r w e w') (hr:r=(0,m)):∃v,e=.returned v∧Vec.jP 121 w' w.heap.size v m∧Kept w w':=by
 subst hr;obtain⟨v,rfl,g⟩:=h.1 rfl;exact⟨v,rfl,g,h.2.2⟩
theorem JM.not {m:Vec.V} {c:Int} {w w':World} {e:Ending} {r:Int×Vec.V} (h:JM r w e w') (hr:r=(c,m)) (hc:c≠0):e=.panicked [zv c]∧Kept w w':=by
 subst hr;exact⟨h.2.1 hc,h.2.2⟩
theorem jc0 (C:Addr×Addr) (r:Int×Vec.V) (w:World) (hr:r.1≠0→r.2=[])
 (hk:∀W,Kept w W→Calls Tryz.prog 152 #[.pointer (some C.1),.pointer (some C.2)] W (JM r W)) :
 Calls Tryz.prog 151 #[.func (.func 152) #[] #[.pointer (some C.1),.pointer (some C.2)]] w (Vec.YB r w):=by
 have hmf:=hmfL (P:=Tryz.prog);have HK:=lH hk;have HR:=lH hr;clear hk hr;obtain⟨r1,r2⟩:=r;go_enter_defers Tryz.func151,Tryz.ntmps151
 go_wp2_with fail
 refine(HK.out _ (ja _ _)).mono ?_;rintro e1 w1 ⟨h0,h1,hb⟩;have k1:=hb.size;simp only[World.size_alloc] at k1;have c2:=(hb.cell (p:=⟨w.heap.size,0,none⟩) (by simp))
 have z2:=(hb.frozen (p:=⟨w.heap.size,0,none⟩) (by simp))
 have e2':w1.cell? ⟨w.heap.size,0,none⟩=some (.int .i64 0):=by rw[c2];go_simp
 have y2:w1.frozen? ⟨w.heap.size,0,none⟩=false:=by rw[z2];go_simp
 clear c2 z2;have KB:=lH (show Below w.heap.size w w1 from(ja w _).trans hb);by_cases hx:r1=0
 · subst hx;obtain⟨v,rfl,ho⟩:=h0 rfl;have HO:=lH ho;obtain⟨av,cv,rfl,_,_,_⟩:=ho.at_;have hsz:=World.size_alloc w (.cells #[.int .i64 0] 58);clear h0 h1 hb ho;go_wp2_with fail
   refine leaves_cons (f:=162) (args:=#[.pointer (some ⟨w.heap.size,0,none⟩)]) (by simp) (by simp[go_sem]) ?_;refine(Vec.Y6 ⟨w.heap.size,0,none⟩ _).mono ?_;rintro e u' w'' ⟨rfl,rfl,rfl⟩;simp[Leaves,settle,results,Tryz.results151,go_sem,e2'];exact⟨_,rfl,(HO.out.setCell_below (a:=⟨w.heap.size,0,none⟩) (by simp) _).base_le (by simp),KB.out.setCell (p:=⟨w.heap.size,0,none⟩) (Nat.le_refl _) _⟩
 · obtain rfl:=h1 hx;obtain rfl:=HR.out hx;clear h0 h1 hb;go_wp2_with fail
   refine leaves_cons (f:=162) (args:=#[.pointer (some ⟨w.heap.size,0,none⟩)]) (by simp) (by simp[go_sem]) ?_;refine(Vec.Zp w.heap.size w.heap.size r1 0 _ e2' y2 (by omega)).mono ?_;rintro e u' w'' ⟨rfl,rfl,q2,q3⟩;simp[Leaves,settle,results,Tryz.results151,go_sem,q2];exact⟨_,rfl,Vec.jP.nil _ _ _,KB.out.trans q3⟩
def JW (nl:List Nod) (pl:List Pd) (x:ByteArray):Int×Vec.V:=match jm nl x with | none=>(3,[]) | some n=>if (jS n.name pl []).1=0 then Vec.ji Vec.jR n.cap (jS n.name pl []).2 else ((jS n.name pl []).1,[])
theorem jeq {nl:List Nod} {pl:List Pd} {x:ByteArray} (h:jm nl x=none):JW nl pl x=(3,[]):=by unfold JW;rw[h]
theorem je9 {nl:List Nod} {pl:List Pd} {x:ByteArray} {n:Nod} {c:Int} {m:Vec.V} (h:jm nl x=some n) (g:jS n.name pl []=(c,m)) (hc:c≠0):JW nl pl x=(c,[]):=by unfold JW;rw[h];show (if (jS n.name pl []).1=0 then _ else ((jS n.name pl []).1,[]))=_;rw[g,if_neg hc]
theorem jgC {nl:List Nod} {pl:List Pd} {x:ByteArray} {n:Nod} {m:Vec.V} (h:jm nl x=some n) (g:jS n.name pl []=(0,m)):JW nl pl x=Vec.ji Vec.jR n.cap m:=by unfold JW;rw[h];show (if (jS n.name pl []).1=0 then Vec.ji Vec.jR n.cap (jS n.name pl []).2 else _)=_;rw[g,if_pos rfl]
theorem jdK {nl:List Nod} {pl:List Pd} {x:ByteArray}:(JW nl pl x).1≠0→(JW nl pl x).2=[]:=by
 unfold JW;split
 · exact fun _=>rfl
 · split
   · exact Vec.YN _ _
   · exact fun _=>rfl
theorem jdR (a b d:Option Addr) (len cap m c n e:Nat) (nl:List Nod) (pl:List Pd) (p q:Nat) (x:ByteArray) (w:World) (h0:w.cell? ⟨p,0,none⟩=some (.slice a len cap)) (h1:w.cell? ⟨p,1,none⟩=some (.slice b m c)) (h2:w.cell? ⟨p,2,none⟩=some (.slice d n e)) (hq:w.cell? ⟨q,0,none⟩=some (.string x)) (hn:ju w a len nl) (hp:jC w b m pl) (hlow:∀n ∈ nl,Jp n) :
 Calls Tryz.prog 152 #[.pointer (some ⟨p,0,none⟩),.pointer (some ⟨q,0,none⟩)] w (JM (JW nl pl x) w):=by
 have HS:=lH (show ∀W,Kept w W→W.cell? ⟨p,0,none⟩=some (.slice a len cap)∧W.cell? ⟨p,1,none⟩=some (.slice b m c)∧W.cell? ⟨p,2,none⟩=some (.slice d n e) from fun W k=>⟨cell_later k h0,cell_later k h1,cell_later k h2⟩);have HN:=lH hn;have HP:=lH hp;have HLOW:=lH hlow;clear hn hp hlow
 cases hf:jm nl x with
 | none =>
  have HE:=lH (jeq (pl:=pl) hf);have HF:=lH hf;clear hf;go_enter Tryz.func152,Tryz.ntmps152;go_wp2_with fail
  refine(jcJ a b d len cap m c n e nl x _ HN.out HLOW.out HF.out).mono ?_;rintro e1 w1 ⟨rfl,kk⟩;go_wp2;exact⟨rfl,JM.bad HE.out (by decide) kk⟩
 | some n9 =>
  obtain⟨c9,m9,hu⟩:∃c m,jS n9.name pl []=(c,m):=⟨_,_,rfl⟩
  have HU:=lH hu;have HF:=lH hf;clear hf hu;by_cases hc:c9=0
  · subst hc;obtain⟨c8,m8,hs⟩:∃c m,Vec.ji Vec.jR n9.cap m9=(c,m):=⟨_,_,rfl⟩
    have HM:=lH hs;have HE:=lH (show JW nl pl x=(c8,m8) from(jgC HF.out HU.out).trans hs);clear hs;by_cases hc:c8=0
    · subst hc;go_enter Tryz.func152,Tryz.ntmps152;go_wp2_with fail
      refine(Y4 a b d len cap m c n e nl x n9 _ HN.out HLOW.out HF.out).mono ?_;rintro e1 w1 ⟨b1,n1,d1,b2,n2,d2,b3,n3,d3,rfl,hat,kk⟩;have HA:=lH hat;obtain⟨z0,hz0⟩:∃z,n9.name=z:=⟨_,rfl⟩
      obtain⟨z4,hz4⟩:∃z,n9.cordon=z:=⟨_,rfl⟩
      rw[hz0,hz4];rw[hz0] at HU;obtain⟨W1,hW1⟩:∃W,w1.alloc (.cells #[.string z0,.slice b1 n1 d1,.slice b2 n2 d2,.slice b3 n3 d3,.bool z4] 68)=W:=⟨_,rfl⟩
      have hk1:Kept w1 W1:=by rw[←hW1];exact ja _ _
      have HB:=lH (fun W (k:Kept W1 W)=>jc w1 (.string z0) [.slice b1 n1 d1,.slice b2 n2 d2,.slice b3 n3 d3,.bool z4] 68 W (by rw[hW1];exact k));have J0:=lH (kk.trans hk1);have HAW:=lH (fun W (k:Kept W1 W)=>HA.out.kept (hk1.trans k));clear kk hat hk1 h0 h1 h2;go_wp2_with fail
      try rw[hW1]
      clear hW1;have HT:=lH (show ∀W,Kept W1 W→W.cell? ⟨p,0,none⟩=some (.slice a len cap)∧W.cell? ⟨p,1,none⟩=some (.slice b m c)∧W.cell? ⟨p,2,none⟩=some (.slice d n e)∧W.cell? ⟨w1.heap.size,0,none⟩=some (.string z0)∧W.cell? ⟨w1.heap.size,1,none⟩=some (.slice b1 n1 d1)∧W.cell? ⟨w1.heap.size,2,none⟩=some (.slice b2 n2 d2)∧W.cell? ⟨w1.heap.size,3,none⟩=some (.slice b3 n3 d3)∧W.cell? ⟨w1.heap.size,4,none⟩=some (.bool z4) from fun W k=>by
       obtain⟨o0,o1,o2⟩:=HS.out W (J0.out.trans k);have c:=HB.out W k;exact⟨o0,o1,o2,c.at_ 0 _ rfl,c.at_ 1 _ rfl,c.at_ 2 _ rfl,c.at_ 3 _ rfl,c.at_ 4 _ rfl⟩)
      refine wp_region_held_drew (S:=fun W=>W.cell? ⟨p,0,none⟩=some (.slice a len cap)∧W.cell? ⟨p,1,none⟩=some (.slice b m c)∧W.cell? ⟨p,2,none⟩=some (.slice d n e)∧W.cell? ⟨w1.heap.size,0,none⟩=some (.string z0)∧W.cell? ⟨w1.heap.size,1,none⟩=some (.slice b1 n1 d1)∧W.cell? ⟨w1.heap.size,2,none⟩=some (.slice b2 n2 d2)∧W.cell? ⟨w1.heap.size,3,none⟩=some (.slice b3 n3 d3)∧W.cell? ⟨w1.heap.size,4,none⟩=some (.bool z4)) (by kernel_rfl) (HT.out _ (Kept.drew _)) (fun hHeld=>?_);refine wpAnyH_take  (i:=0) (v:=?_) (by rw[List.getElem?_toArray];exact rfl) (by kernel_rfl) (by kernel_rfl) (by kernel_rfl) (by exact fun _ _ _ h=>h) (Or.inl ⟨by rfl,(by rintro W ⟨o0,o1,o2,o3,o4,o5,o6,o7⟩;go_simp<;>with_reducible rfl)⟩) (by assumption) ?_;try simp only  [Act.put,List.setIfInBounds_toArray,List.set_cons_zero,List.set_cons_succ]
      refine wpAnyH_take  (i:=1) (v:=?_) (by rw[List.getElem?_toArray];exact rfl) (by kernel_rfl) (by kernel_rfl) (by kernel_rfl) (by exact fun _ _ _ h=>h) (Or.inl ⟨by rfl,(by rintro W ⟨o0,o1,o2,o3,o4,o5,o6,o7⟩;go_simp<;>with_reducible rfl)⟩) (by assumption) ?_;try simp only  [Act.put,List.setIfInBounds_toArray,List.set_cons_zero,List.set_cons_succ]
      refine wpAnyH_take  (i:=2) (v:=?_) (by rw[List.getElem?_toArray];exact rfl) (by kernel_rfl) (by kernel_rfl) (by kernel_rfl) (by exact fun _ _ _ h=>h) (Or.inl ⟨by rfl,(by rintro W ⟨o0,o1,o2,o3,o4,o5,o6,o7⟩;go_simp<;>with_reducible rfl)⟩) (by assumption) ?_;try simp only  [Act.put,List.setIfInBounds_toArray,List.set_cons_zero,List.set_cons_succ]
      refine wpAnyH_take  (i:=3) (v:=?_) (by rw[List.getElem?_toArray];exact rfl) (by kernel_rfl) (by kernel_rfl) (by kernel_rfl) (by exact fun _ _ _ h=>h) (Or.inl ⟨by rfl,(by rintro W ⟨o0,o1,o2,o3,o4,o5,o6,o7⟩;go_simp<;>with_reducible rfl)⟩) (by assumption) ?_;try simp only  [Act.put,List.setIfInBounds_toArray,List.set_cons_zero,List.set_cons_succ]
      refine wpAnyH_ready  (rs:=[4]) (by kernel_rfl) (by simp) (AllReadyH.cons  (by rw[List.getElem?_toArray];exact rfl) (fun K9 hK9=>?_) AllReadyH.nil);go_simp;refine((qF b a d b1 b2 b3 m c len cap n e n1 d1 n2 d2 n3 d3 z0 z4 pl _ (HP.out.kept (J0.out.trans (Kept.drew _)))).mono fun _ _ h=>h.ok HU.out).mono ?_;rintro e2 w2 ⟨v,rfl,ho,kk⟩;have J2:=lH ((Kept.drew _).trans kk);have HO:=lH ho;clear kk ho;refine hK9.out _ _ (HT.out _ J2.out) (fun hHeld1=>?_);clear hK9 K9;try simp only  [Act.put,List.setIfInBounds_toArray,List.set_cons_zero,List.set_cons_succ]
      refine wpAnyH_ready  (rs:=[5]) (by kernel_rfl) (by simp) (AllReadyH.cons  (by rw[List.getElem?_toArray];exact rfl) (fun K9 hK9=>?_) AllReadyH.nil);go_simp;have HSB:=jhM (HAW.out _ J2.out).cap HO.out.reads;rw[HM.out] at HSB;refine HSB.mono ?_;rintro e3 w3 ⟨x3,rfl,ho3,kk⟩;have J3:=lH (J2.out.trans kk);have HO3:=lH (ho3.base_le (show w.heap.size≤_ from(J0.out.trans J2.out).size));clear kk ho3;refine hK9.out _ _ (HT.out _ J3.out) (fun hHeld2=>?_);clear hK9 K9;try simp only  [Act.put,List.setIfInBounds_toArray,List.set_cons_zero,List.set_cons_succ]
      refine wpAnyH_take  (i:=6) (v:=?_) (by rw[List.getElem?_toArray];exact rfl) (by kernel_rfl) (by kernel_rfl) (by kernel_rfl) (by exact fun _ _ _ h=>h) (Or.inl ⟨by rfl,(by rintro W ⟨o0,o1,o2,o3,o4,o5,o6,o7⟩;go_simp<;>with_reducible rfl)⟩) (by assumption) ?_;try simp only  [Act.put,List.setIfInBounds_toArray,List.set_cons_zero,List.set_cons_succ]
      refine wpAnyH_take  (i:=7) (v:=?_) (by rw[List.getElem?_toArray];exact rfl) (by kernel_rfl) (by kernel_rfl) (by kernel_rfl) (by exact fun _ _ _ h=>h) (Or.inl ⟨by rfl,(by rintro W ⟨o0,o1,o2,o3,o4,o5,o6,o7⟩;go_simp<;>with_reducible rfl)⟩) (by assumption) ?_;try simp only  [Act.put,List.setIfInBounds_toArray,List.set_cons_zero,List.set_cons_succ]
      refine wpAnyH_ready  (rs:=[8]) (by kernel_rfl) (by simp) (AllReadyH.cons  (by rw[List.getElem?_toArray];exact rfl) (fun K9 hK9=>?_) AllReadyH.nil);go_simp;refine(ja7 _ _).mono ?_;rintro e4 w4 ⟨rfl,rfl⟩;refine hK9.out _ _ (HT.out _ J3.out) (fun hHeld3=>?_);clear hK9 K9;try simp only  [Act.put,List.setIfInBounds_toArray,List.set_cons_zero,List.set_cons_succ]
      refine wpAnyH_take  (i:=9) (v:=?_) (by rw[List.getElem?_toArray];exact rfl) (by kernel_rfl) (by kernel_rfl) (by kernel_rfl) (by exact fun _ _ _ h=>h) (Or.inl ⟨by rfl,(by rintro W ⟨o0,o1,o2,o3,o4,o5,o6,o7⟩;go_simp<;>with_reducible rfl)⟩) (by assumption) ?_;try simp only  [Act.put,List.setIfInBounds_toArray,List.set_cons_zero,List.set_cons_succ]
      refine wpAnyH_done (by kernel_rfl) ?_ _;go_wp2;go_ret;exact JM.good HE.out HO3.out (J0.out.trans J3.out)
    · have HC:=lH hc;clear hc;go_enter Tryz.func152,Tryz.ntmps152;go_wp2_with fail
      refine(Y4 a b d len cap m c n e nl x n9 _ HN.out HLOW.out HF.out).mono ?_;rintro e1 w1 ⟨b1,n1,d1,b2,n2,d2,b3,n3,d3,rfl,hat,kk⟩;have HA:=lH hat;obtain⟨z0,hz0⟩:∃z,n9.name=z:=⟨_,rfl⟩
      obtain⟨z4,hz4⟩:∃z,n9.cordon=z:=⟨_,rfl⟩
      rw[hz0,hz4];rw[hz0] at HU;obtain⟨W1,hW1⟩:∃W,w1.alloc (.cells #[.string z0,.slice b1 n1 d1,.slice b2 n2 d2,.slice b3 n3 d3,.bool z4] 68)=W:=⟨_,rfl⟩
      have hk1:Kept w1 W1:=by rw[←hW1];exact ja _ _
      have HB:=lH (fun W (k:Kept W1 W)=>jc w1 (.string z0) [.slice b1 n1 d1,.slice b2 n2 d2,.slice b3 n3 d3,.bool z4] 68 W (by rw[hW1];exact k));have J0:=lH (kk.trans hk1);have HAW:=lH (fun W (k:Kept W1 W)=>HA.out.kept (hk1.trans k));clear kk hat hk1 h0 h1 h2;go_wp2_with fail
      try rw[hW1]
      clear hW1;have HT:=lH (show ∀W,Kept W1 W→W.cell? ⟨p,0,none⟩=some (.slice a len cap)∧W.cell? ⟨p,1,none⟩=some (.slice b m c)∧W.cell? ⟨p,2,none⟩=some (.slice d n e)∧W.cell? ⟨w1.heap.size,0,none⟩=some (.string z0)∧W.cell? ⟨w1.heap.size,1,none⟩=some (.slice b1 n1 d1)∧W.cell? ⟨w1.heap.size,2,none⟩=some (.slice b2 n2 d2)∧W.cell? ⟨w1.heap.size,3,none⟩=some (.slice b3 n3 d3)∧W.cell? ⟨w1.heap.size,4,none⟩=some (.bool z4) from fun W k=>by
       obtain⟨o0,o1,o2⟩:=HS.out W (J0.out.trans k);have c:=HB.out W k;exact⟨o0,o1,o2,c.at_ 0 _ rfl,c.at_ 1 _ rfl,c.at_ 2 _ rfl,c.at_ 3 _ rfl,c.at_ 4 _ rfl⟩)
      refine wp_region_held_drew (S:=fun W=>W.cell? ⟨p,0,none⟩=some (.slice a len cap)∧W.cell? ⟨p,1,none⟩=some (.slice b m c)∧W.cell? ⟨p,2,none⟩=some (.slice d n e)∧W.cell? ⟨w1.heap.size,0,none⟩=some (.string z0)∧W.cell? ⟨w1.heap.size,1,none⟩=some (.slice b1 n1 d1)∧W.cell? ⟨w1.heap.size,2,none⟩=some (.slice b2 n2 d2)∧W.cell? ⟨w1.heap.size,3,none⟩=some (.slice b3 n3 d3)∧W.cell? ⟨w1.heap.size,4,none⟩=some (.bool z4)) (by kernel_rfl) (HT.out _ (Kept.drew _)) (fun hHeld=>?_);refine wpAnyH_take  (i:=0) (v:=?_) (by rw[List.getElem?_toArray];exact rfl) (by kernel_rfl) (by kernel_rfl) (by kernel_rfl) (by exact fun _ _ _ h=>h) (Or.inl ⟨by rfl,(by rintro W ⟨o0,o1,o2,o3,o4,o5,o6,o7⟩;go_simp<;>with_reducible rfl)⟩) (by assumption) ?_;try simp only  [Act.put,List.setIfInBounds_toArray,List.set_cons_zero,List.set_cons_succ]
      refine wpAnyH_take  (i:=1) (v:=?_) (by rw[List.getElem?_toArray];exact rfl) (by kernel_rfl) (by kernel_rfl) (by kernel_rfl) (by exact fun _ _ _ h=>h) (Or.inl ⟨by rfl,(by rintro W ⟨o0,o1,o2,o3,o4,o5,o6,o7⟩;go_simp<;>with_reducible rfl)⟩) (by assumption) ?_;try simp only  [Act.put,List.setIfInBounds_toArray,List.set_cons_zero,List.set_cons_succ]
      refine wpAnyH_take  (i:=2) (v:=?_) (by rw[List.getElem?_toArray];exact rfl) (by kernel_rfl) (by kernel_rfl) (by kernel_rfl) (by exact fun _ _ _ h=>h) (Or.inl ⟨by rfl,(by rintro W ⟨o0,o1,o2,o3,o4,o5,o6,o7⟩;go_simp<;>with_reducible rfl)⟩) (by assumption) ?_;try simp only  [Act.put,List.setIfInBounds_toArray,List.set_cons_zero,List.set_cons_succ]
      refine wpAnyH_take  (i:=3) (v:=?_) (by rw[List.getElem?_toArray];exact rfl) (by kernel_rfl) (by kernel_rfl) (by kernel_rfl) (by exact fun _ _ _ h=>h) (Or.inl ⟨by rfl,(by rintro W ⟨o0,o1,o2,o3,o4,o5,o6,o7⟩;go_simp<;>with_reducible rfl)⟩) (by assumption) ?_;try simp only  [Act.put,List.setIfInBounds_toArray,List.set_cons_zero,List.set_cons_succ]
      refine wpAnyH_ready  (rs:=[4]) (by kernel_rfl) (by simp) (AllReadyH.cons  (by rw[List.getElem?_toArray];exact rfl) (fun K9 hK9=>?_) AllReadyH.nil);go_simp;refine((qF b a d b1 b2 b3 m c len cap n e n1 d1 n2 d2 n3 d3 z0 z4 pl _ (HP.out.kept (J0.out.trans (Kept.drew _)))).mono fun _ _ h=>h.ok HU.out).mono ?_;rintro e2 w2 ⟨v,rfl,ho,kk⟩;have J2:=lH ((Kept.drew _).trans kk);have HO:=lH ho;clear kk ho;refine hK9.out _ _ (HT.out _ J2.out) (fun hHeld1=>?_);clear hK9 K9;try simp only  [Act.put,List.setIfInBounds_toArray,List.set_cons_zero,List.set_cons_succ]
      refine wpAnyH_ready  (rs:=[5]) (by kernel_rfl) (by simp) (AllReadyH.cons  (by rw[List.getElem?_toArray];exact rfl) (fun K9 hK9=>?_) AllReadyH.nil);go_simp;have HSB:=jhM (HAW.out _ J2.out).cap HO.out.reads;rw[HM.out] at HSB;refine HSB.mono ?_;rintro e3 w3 ⟨x3,rfl,ho3,kk⟩;have J3:=lH (J2.out.trans kk);have HO3:=lH (ho3.base_le (show w.heap.size≤_ from(J0.out.trans J2.out).size));clear kk ho3;refine hK9.out _ _ (HT.out _ J3.out) (fun hHeld2=>?_);clear hK9 K9;try simp only  [Act.put,List.setIfInBounds_toArray,List.set_cons_zero,List.set_cons_succ]
      refine wpAnyH_take  (i:=6) (v:=?_) (by rw[List.getElem?_toArray];exact rfl) (by kernel_rfl) (by kernel_rfl) (by kernel_rfl) (by exact fun _ _ _ h=>h) (Or.inl ⟨by rfl,(by rintro W ⟨o0,o1,o2,o3,o4,o5,o6,o7⟩;go_simp<;>with_reducible rfl)⟩) (by assumption) ?_;try simp only  [Act.put,List.setIfInBounds_toArray,List.set_cons_zero,List.set_cons_succ]
      refine wpAnyH_take  (i:=7) (v:=?_) (by rw[List.getElem?_toArray];exact rfl) (by kernel_rfl) (by kernel_rfl) (by kernel_rfl) (by exact fun _ _ _ h=>h) (Or.inl ⟨by rfl,(by rintro W ⟨o0,o1,o2,o3,o4,o5,o6,o7⟩;go_simp<;>with_reducible rfl)⟩) (by assumption) ?_;try simp only  [Act.put,List.setIfInBounds_toArray,List.set_cons_zero,List.set_cons_succ]
      refine wpAnyH_ready  (rs:=[8]) (by kernel_rfl) (by simp) (AllReadyH.cons  (by rw[List.getElem?_toArray];exact rfl) (fun K9 hK9=>?_) AllReadyH.nil);go_simp;refine(jad _ _ _ HC.out).mono ?_;rintro e4 w4 ⟨rfl,rfl⟩;exact⟨rfl,JM.bad HE.out HC.out (J0.out.trans J3.out)⟩
  · have HE:=lH (je9 (pl:=pl) HF.out HU.out hc);have HC:=lH hc;clear hc;go_enter Tryz.func152,Tryz.ntmps152;go_wp2_with fail
    refine(Y4 a b d len cap m c n e nl x n9 _ HN.out HLOW.out HF.out).mono ?_;rintro e1 w1 ⟨b1,n1,d1,b2,n2,d2,b3,n3,d3,rfl,hat,kk⟩;have HA:=lH hat;obtain⟨z0,hz0⟩:∃z,n9.name=z:=⟨_,rfl⟩
    obtain⟨z4,hz4⟩:∃z,n9.cordon=z:=⟨_,rfl⟩
    rw[hz0,hz4];rw[hz0] at HU;obtain⟨W1,hW1⟩:∃W,w1.alloc (.cells #[.string z0,.slice b1 n1 d1,.slice b2 n2 d2,.slice b3 n3 d3,.bool z4] 68)=W:=⟨_,rfl⟩
    have hk1:Kept w1 W1:=by rw[←hW1];exact ja _ _
    have HB:=lH (fun W (k:Kept W1 W)=>jc w1 (.string z0) [.slice b1 n1 d1,.slice b2 n2 d2,.slice b3 n3 d3,.bool z4] 68 W (by rw[hW1];exact k));have J0:=lH (kk.trans hk1);have HAW:=lH (fun W (k:Kept W1 W)=>HA.out.kept (hk1.trans k));clear kk hat hk1 h0 h1 h2;go_wp2_with fail
    try rw[hW1]
    clear hW1;have HT:=lH (show ∀W,Kept W1 W→W.cell? ⟨p,0,none⟩=some (.slice a len cap)∧W.cell? ⟨p,1,none⟩=some (.slice b m c)∧W.cell? ⟨p,2,none⟩=some (.slice d n e)∧W.cell? ⟨w1.heap.size,0,none⟩=some (.string z0)∧W.cell? ⟨w1.heap.size,1,none⟩=some (.slice b1 n1 d1)∧W.cell? ⟨w1.heap.size,2,none⟩=some (.slice b2 n2 d2)∧W.cell? ⟨w1.heap.size,3,none⟩=some (.slice b3 n3 d3)∧W.cell? ⟨w1.heap.size,4,none⟩=some (.bool z4) from fun W k=>by
     obtain⟨o0,o1,o2⟩:=HS.out W (J0.out.trans k);have c:=HB.out W k;exact⟨o0,o1,o2,c.at_ 0 _ rfl,c.at_ 1 _ rfl,c.at_ 2 _ rfl,c.at_ 3 _ rfl,c.at_ 4 _ rfl⟩)
    refine wp_region_held_drew (S:=fun W=>W.cell? ⟨p,0,none⟩=some (.slice a len cap)∧W.cell? ⟨p,1,none⟩=some (.slice b m c)∧W.cell? ⟨p,2,none⟩=some (.slice d n e)∧W.cell? ⟨w1.heap.size,0,none⟩=some (.string z0)∧W.cell? ⟨w1.heap.size,1,none⟩=some (.slice b1 n1 d1)∧W.cell? ⟨w1.heap.size,2,none⟩=some (.slice b2 n2 d2)∧W.cell? ⟨w1.heap.size,3,none⟩=some (.slice b3 n3 d3)∧W.cell? ⟨w1.heap.size,4,none⟩=some (.bool z4)) (by kernel_rfl) (HT.out _ (Kept.drew _)) (fun hHeld=>?_);refine wpAnyH_take  (i:=0) (v:=?_) (by rw[List.getElem?_toArray];exact rfl) (by kernel_rfl) (by kernel_rfl) (by kernel_rfl) (by exact fun _ _ _ h=>h) (Or.inl ⟨by rfl,(by rintro W ⟨o0,o1,o2,o3,o4,o5,o6,o7⟩;go_simp<;>with_reducible rfl)⟩) (by assumption) ?_;try simp only  [Act.put,List.setIfInBounds_toArray,List.set_cons_zero,List.set_cons_succ]
    refine wpAnyH_take  (i:=1) (v:=?_) (by rw[List.getElem?_toArray];exact rfl) (by kernel_rfl) (by kernel_rfl) (by kernel_rfl) (by exact fun _ _ _ h=>h) (Or.inl ⟨by rfl,(by rintro W ⟨o0,o1,o2,o3,o4,o5,o6,o7⟩;go_simp<;>with_reducible rfl)⟩) (by assumption) ?_;try simp only  [Act.put,List.setIfInBounds_toArray,List.set_cons_zero,List.set_cons_succ]
    refine wpAnyH_take  (i:=2) (v:=?_) (by rw[List.getElem?_toArray];exact rfl) (by kernel_rfl) (by kernel_rfl) (by kernel_rfl) (by exact fun _ _ _ h=>h) (Or.inl ⟨by rfl,(by rintro W ⟨o0,o1,o2,o3,o4,o5,o6,o7⟩;go_simp<;>with_reducible rfl)⟩) (by assumption) ?_;try simp only  [Act.put,List.setIfInBounds_toArray,List.set_cons_zero,List.set_cons_succ]
    refine wpAnyH_take  (i:=3) (v:=?_) (by rw[List.getElem?_toArray];exact rfl) (by kernel_rfl) (by kernel_rfl) (by kernel_rfl) (by exact fun _ _ _ h=>h) (Or.inl ⟨by rfl,(by rintro W ⟨o0,o1,o2,o3,o4,o5,o6,o7⟩;go_simp<;>with_reducible rfl)⟩) (by assumption) ?_;try simp only  [Act.put,List.setIfInBounds_toArray,List.set_cons_zero,List.set_cons_succ]
    refine wpAnyH_ready  (rs:=[4]) (by kernel_rfl) (by simp) (AllReadyH.cons  (by rw[List.getElem?_toArray];exact rfl) (fun K9 hK9=>?_) AllReadyH.nil);go_simp;refine((qF b a d b1 b2 b3 m c len cap n e n1 d1 n2 d2 n3 d3 z0 z4 pl _ (HP.out.kept (J0.out.trans (Kept.drew _)))).mono fun _ _ h=>h.not HU.out HC.out).mono ?_;rintro e2 w2 ⟨rfl,kk⟩;exact⟨rfl,JM.bad HE.out HC.out (J0.out.trans ((Kept.drew _).trans kk))⟩
theorem jeE (a b d:Option Addr) (len cap m c n e:Nat) (nl:List Nod) (pl:List Pd) (x:ByteArray) (w:World) (hn:ju w a len nl) (hp:jC w b m pl) (hlow:∀n ∈ nl,Jp n) :
 Calls Tryz.prog 141 #[.agg #[.slice a len cap,.slice b m c,.slice d n e],.string x] w (Vec.YB (JW nl pl x) w):=by
 have hmf:=hmfL (P:=Tryz.prog);obtain⟨Z,hZ⟩:∃Z,(w.alloc (.cells #[.slice a len cap,.slice b m c,.slice d n e] 26)).alloc (.cells #[.string x] 9)=Z:=⟨_,rfl⟩
 have hkz:Kept w Z:=by rw[←hZ];exact jn _ _ _
 have hC:∀W,Kept Z W→Calls Tryz.prog 152 #[.pointer (some ⟨w.heap.size,0,none⟩),.pointer (some ⟨w.heap.size+1,0,none⟩)] W (JM (JW nl pl x) W):=by
  intro W k;have cc:=jc w (.slice a len cap) [.slice b m c,.slice d n e] 26 W (by have:=(ja (w.alloc (.cells #[.slice a len cap,.slice b m c,.slice d n e] 26)) (.cells #[.string x] 9));rw[hZ] at this;exact this.trans k);have dd:=jc (w.alloc (.cells #[.slice a len cap,.slice b m c,.slice d n e] 26)) (.string x) [] 9 W (by rw[hZ];exact k);rw[World.size_alloc] at dd;exact jdR a b d len cap m c n e nl pl w.heap.size (w.heap.size+1) x W (cc.at_ 0 _ rfl) (cc.at_ 1 _ rfl) (cc.at_ 2 _ rfl) (dd.at_ 0 _ rfl) (hn.kept (hkz.trans k)) (hp.kept (hkz.trans k)) hlow
 have HC:=lH hC;have HKZ:=lH hkz;clear hC hn hkz hp hlow;go_enter Tryz.func141,Tryz.ntmps141;go_wp2_with fail
 try rw[hZ]
 refine(jc0 (⟨w.heap.size,0,none⟩,⟨w.heap.size+1,0,none⟩) (JW nl pl x) _ jdK HC.out).mono ?_;rintro e1 w1 ⟨v,rfl,ho,k⟩;have HO:=lH ho;have HK:=lH k;clear ho k;go_wp2;go_ret2
 exact⟨v,rfl,HO.out.base_le HKZ.out.size,HKZ.out.trans HK.out⟩
def jfB (c:Int) (v:Value) (w:World) (e:Ending) (w':World):Prop:=(c=0→e=.returned v)∧(c≠0→e=.panicked [zv c])∧Kept w w'
theorem jfB.bad {x c:Int} {v:Value} {w w':World} (h:x=c) (hc:c≠0) (k:Kept w w'):jfB x v w (.panicked [zv c]) w':=by
 subst h;exact⟨fun h=>absurd h hc,fun _=>rfl,k⟩
theorem Xo {nl:List Nod} {pl:List Pd} {bl:List Bd} {c:Int} (h:or3 (jN nl) (jW pl) (jZ bl)=c) (hc:c≠0):J5 ⟨nl,pl,bl⟩=c:=by
 unfold J5;dsimp only;rw[h,if_pos hc]
theorem ja3 {nl:List Nod} {pl:List Pd} {bl:List Bd} {c:Int} (h:or3 (jN nl) (jW pl) (jZ bl)=0) (g:jM nl pl=c) (hc:c≠0):J5 ⟨nl,pl,bl⟩=c:=by
 unfold J5;dsimp only;rw[h,if_neg (by simp),g,if_pos hc]
theorem qu {nl:List Nod} {pl:List Pd} {bl:List Bd} {c:Int} (h:or3 (jN nl) (jW pl) (jZ bl)=0) (g:jM nl pl=0) (r:zg pl nl=c) (hc:c≠0):J5 ⟨nl,pl,bl⟩=c:=by
 unfold J5;dsimp only;rw[h,if_neg (by simp),g,if_neg (by simp),r,if_pos hc]
theorem jcg {nl:List Nod} {pl:List Pd} {bl:List Bd} (h:or3 (jN nl) (jW pl) (jZ bl)=0) (g:jM nl pl=0) (r:zg pl nl=0):J5 ⟨nl,pl,bl⟩=(JU nl []).1:=by
 unfold J5;dsimp only;rw[h,if_neg (by simp),g,if_neg (by simp),r,if_neg (by simp)]
theorem jQ {x:Int} {t:List Int} (h:x=0):orL (x::t)=orL t:=by subst h;rfl
theorem jD {x v:Int} {t:List Int} (h:x=v) (hv:v≠0):orL (x::t)=v:=by
 subst h;show (if x≠0 then x else orL t)=x;rw[if_pos hv]
theorem Zz {x:Int}:orL [x]=x:=by
 show (if x≠0 then x else 0)=x;by_cases h:x=0
 · rw[if_neg (fun g=>g h),h]
 · rw[if_pos h]
theorem eor {x:ByteArray} {q r:Bool} (h:(x.toList==([]:List UInt8))=q) (g:isName x=r):XJ x=(q||r):=by unfold XJ;rw[Jk,h,g]
theorem qj (n:Pd) (v1 v2 v3 v4:Value) (w:World) (h:jz w v1 v2 v3 v4 n) :
 Calls Tryz.prog 12 #[jv n v1 v2 v3 v4] w (Say (.int .i64 (Jc n)) w):=by
 obtain⟨x0,x1,x2,l1,l2,l3,l4,x3,x4,x5,x6⟩:=n;have s0:x0.size≤maxLen:=h.name;have s1:x1.size≤maxLen:=h.owner;have s3:x3.size≤maxLen:=h.key;have s5:x5.size≤maxLen:=h.node;obtain⟨W0,hW0⟩:∃Z,w.alloc (.cells #[.string x0,.string x1,.int .i64 x2,v1,v2,v3,v4,.string x3,.int .i64 x4,.string x5,.bool x6] 50)=Z:=⟨_,rfl⟩
 have hk0:Kept w W0:=by rw[←hW0];exact ja _ _
 have HC:=lH (show ∀W,Kept W0 W→W.cell? ⟨w.heap.size,0,none⟩=some (.string x0)∧W.cell? ⟨w.heap.size,1,none⟩=some (.string x1)∧W.cell? ⟨w.heap.size,2,none⟩=some (.int .i64 x2)∧W.cell? ⟨w.heap.size,3,none⟩=some (v1)∧W.cell? ⟨w.heap.size,4,none⟩=some (v2)∧W.cell? ⟨w.heap.size,5,none⟩=some (v3)∧W.cell? ⟨w.heap.size,6,none⟩=some (v4)∧W.cell? ⟨w.heap.size,7,none⟩=some (.string x3)∧W.cell? ⟨w.heap.size,8,none⟩=some (.int .i64 x4)∧W.cell? ⟨w.heap.size,9,none⟩=some (.string x5)∧W.cell? ⟨w.heap.size,10,none⟩=some (.bool x6) from fun W k=>by
  have:=jc w (.string x0) [.string x1,.int .i64 x2,v1,v2,v3,v4,.string x3,.int .i64 x4,.string x5,.bool x6] 50 W (by rw[hW0];exact k);exact⟨this.at_ 0 _ rfl,this.at_ 1 _ rfl,this.at_ 2 _ rfl,this.at_ 3 _ rfl,this.at_ 4 _ rfl,this.at_ 5 _ rfl,this.at_ 6 _ rfl,this.at_ 7 _ rfl,this.at_ 8 _ rfl,this.at_ 9 _ rfl,this.at_ 10 _ rfl⟩)
 obtain⟨y1,hy1⟩:∃y,Vec.js l1=y:=⟨_,rfl⟩
 obtain⟨y2,hy2⟩:∃y,ZC l2=y:=⟨_,rfl⟩
 obtain⟨y3,hy3⟩:∃y,Yr l3=y:=⟨_,rfl⟩
 obtain⟨y4,hy4⟩:∃y,Zt l4=y:=⟨_,rfl⟩
 have E1:=lH (fun W (k:Kept W0 W)=>Vec.JK (h.need.kept (hk0.trans k)) hy1);have E2:=lH (fun W (k:Kept W0 W)=>JK (h.labels.kept (hk0.trans k)) hy2);have E3:=lH (fun W (k:Kept W0 W)=>XQ (h.sel.kept (hk0.trans k)) hy3);have E4:=lH (fun W (k:Kept W0 W)=>jei (h.tols.kept (hk0.trans k)) hy4);have HV:=lH (show Jc ⟨x0,x1,x2,l1,l2,l3,l4,x3,x4,x5,x6⟩=orL [Yv x0 x1,X2 x2 x6,y1,y2,y3,y4,YQ x3 x4,X5 x5] by rw[←hy1,←hy2,←hy3,←hy4];rfl);obtain⟨r0,hr0⟩:∃r,isName x0=r:=⟨_,rfl⟩
 obtain⟨r1,hr1⟩:∃r,isName x1=r:=⟨_,rfl⟩
 obtain⟨r3,hr3⟩:∃r,isName x3=r:=⟨_,rfl⟩
 obtain⟨r5,hr5⟩:∃r,isName x5=r:=⟨_,rfl⟩
 obtain⟨q1,hq1⟩:∃q,(x1.toList==([]:List UInt8))=q:=⟨_,rfl⟩
 obtain⟨q3,hq3⟩:∃q,(x3.toList==([]:List UInt8))=q:=⟨_,rfl⟩
 obtain⟨q5,hq5⟩:∃q,(x5.toList==([]:List UInt8))=q:=⟨_,rfl⟩
 have N0:=lH (fun W=>Vec.ZN (w:=W) s0 hr0);have N1:=lH (fun W=>Vec.ZN (w:=W) s1 hr1);have N3:=lH (fun W=>Vec.ZN (w:=W) s3 hr3);have N5:=lH (fun W=>Vec.ZN (w:=W) s5 hr5);have HN:=lH (show Yv x0 x1=if r0=true∧(q1||r1)=true then 0 else 3 by unfold Yv;rw[eor hq1 hr1,hr0]);have HS:=lH (show YQ x3 x4=if (q3||r3)=false then 3 else if (if q3=true then decide (x4≠0) else decide (x4<1)||decide (128<x4))=true then 1 else 0 by unfold YQ ja1;rw[eor hq3 hr3,Jk,hq3]);have HD:=lH (show X5 x5=if (q5||r5)=true then 0 else 3 by unfold X5;rw[eor hq5 hr5]);obtain⟨zz,hzz⟩:∃z,(x2==-1)=z:=⟨_,rfl⟩
 have HP:=lH (show X2 x2 x6=if (decide (x2 < -1)||(decide (1000000<x2)||(zz != x6)))=true then 1 else 0 by unfold X2 jdz;rw[show decide (x2=-1)=zz from hzz]);have HK0:=lH hk0;obtain⟨c0,c1,c2,c3,c4,c5,c6,c7,c8,c9,c10⟩:=HC.out _ (Kept.refl _);clear h hk0 hy1 hy2 hy3 hy4 hr0 hr1 hr3 hr5 s0 s1 s3 s5;unfold jv;dsimp only;go_enter Tryz.func12,Tryz.ntmps12;go_wp2_with fail
 try rw[hW0]
 clear hW0;refine(N0.out _).mono ?_;rintro e w9 ⟨rfl,rfl⟩
 cases r0 with
 | false =>
  have HV:=lH (HV.out.trans (jD (v:=3) (HN.out.trans (by simp)) (by decide)));go_wp2;go_ret;exact⟨jb HV.out.symm,HK0.out.trans (Kept.refl _)⟩
 | true =>
  cases q1 with
  | true =>
   have HV:=lH (HV.out.trans (jQ (HN.out.trans (by simp))));by_cases p1:x2 < -1
   · have HV:=lH (HV.out.trans (jD (v:=1) (HP.out.trans (by simp[p1])) (by decide)));clear hzz;go_wp2;go_ret;exact⟨jb HV.out.symm,HK0.out.trans (Kept.refl _)⟩
   · have p1:-1≤x2:=by omega
     by_cases p2:1000000<x2
     · have HV:=lH (HV.out.trans (jD (v:=1) (HP.out.trans (by simp[p2])) (by decide)));clear hzz;go_wp2;go_ret;exact⟨jb HV.out.symm,HK0.out.trans (Kept.refl _)⟩
     · have p2:x2≤1000000:=by omega
       have HP:=lH (HP.out.trans (show (if (decide (x2 < -1)||(decide (1000000<x2)||(zz != x6)))=true then 1 else 0)=(if (zz != x6)=true then 1 else 0) by rw[show decide (x2 < -1)=false by simp;omega,show decide (1000000<x2)=false by simp;omega];rfl))
       cases zz<;>cases x6
       ·
        have HV:=lH (HV.out.trans (jQ HP.out));go_wp2_with fail
        refine(E1.out _ (Kept.refl _)).mono ?_;rintro e w1 ⟨rfl,k⟩;have K1:=lH (Kept.trans (Kept.refl _) k);clear k c0 c1 c2 c3 c4 c5 c6 c7 c8 c9 c10;obtain⟨c0,c1,c2,c3,c4,c5,c6,c7,c8,c9,c10⟩:=HC.out _ K1.out;by_cases z1:y1=0;rotate_left
        · have z9:(y1 != 0)=true:=by simpa using z1
          have HV:=lH (HV.out.trans (jD rfl z1));clear z1;go_wp2;go_ret;exact⟨jb HV.out.symm,HK0.out.trans K1.out⟩
        subst z1;have HV:=lH (HV.out.trans (jQ rfl));go_wp2_with fail
        refine(E2.out _ K1.out).mono ?_;rintro e w2 ⟨rfl,k⟩;have K2:=lH (Kept.trans K1.out k);clear k c0 c1 c2 c3 c4 c5 c6 c7 c8 c9 c10;obtain⟨c0,c1,c2,c3,c4,c5,c6,c7,c8,c9,c10⟩:=HC.out _ K2.out;by_cases z2:y2=0;rotate_left
        · have z9:(y2 != 0)=true:=by simpa using z2
          have HV:=lH (HV.out.trans (jD rfl z2));clear z2;go_wp2;go_ret;exact⟨jb HV.out.symm,HK0.out.trans K2.out⟩
        subst z2;have HV:=lH (HV.out.trans (jQ rfl));go_wp2_with fail
        refine(E3.out _ K2.out).mono ?_;rintro e w3 ⟨rfl,k⟩;have K3:=lH (Kept.trans K2.out k);clear k c0 c1 c2 c3 c4 c5 c6 c7 c8 c9 c10;obtain⟨c0,c1,c2,c3,c4,c5,c6,c7,c8,c9,c10⟩:=HC.out _ K3.out;by_cases z3:y3=0;rotate_left
        · have z9:(y3 != 0)=true:=by simpa using z3
          have HV:=lH (HV.out.trans (jD rfl z3));clear z3;go_wp2;go_ret;exact⟨jb HV.out.symm,HK0.out.trans K3.out⟩
        subst z3;have HV:=lH (HV.out.trans (jQ rfl));go_wp2_with fail
        refine(E4.out _ K3.out).mono ?_;rintro e w4 ⟨rfl,k⟩;have K4:=lH (Kept.trans K3.out k);clear k c0 c1 c2 c3 c4 c5 c6 c7 c8 c9 c10;obtain⟨c0,c1,c2,c3,c4,c5,c6,c7,c8,c9,c10⟩:=HC.out _ K4.out;by_cases z4:y4=0;rotate_left
        · have z9:(y4 != 0)=true:=by simpa using z4
          have HV:=lH (HV.out.trans (jD rfl z4));clear z4;go_wp2;go_ret;exact⟨jb HV.out.symm,HK0.out.trans K4.out⟩
        subst z4;have HV:=lH (HV.out.trans (jQ rfl))
        cases q3 with
        | true =>
         by_cases m1:x4=0
         · subst m1;have HV:=lH (HV.out.trans (jQ HS.out));have HV:=lH (HV.out.trans (Zz.trans HD.out))
           cases q5 with
           | true =>
            go_wp2;go_ret;exact⟨jb HV.out.symm,HK0.out.trans K4.out⟩
           | false =>
            go_wp2_with fail
            refine(N5.out _).mono ?_;rintro e w9 ⟨rfl,rfl⟩
            cases r5 with
            | false =>
             go_wp2;go_ret;exact⟨jb HV.out.symm,HK0.out.trans K4.out⟩
            | true =>
             go_wp2;go_ret;exact⟨jb HV.out.symm,HK0.out.trans K4.out⟩
         · have HV:=lH (HV.out.trans (jD (v:=1) (HS.out.trans (by simp[m1])) (by decide)));have m1:(x4 != 0)=true:=by simpa using m1
           go_wp2;go_ret;exact⟨jb HV.out.symm,HK0.out.trans K4.out⟩
        | false =>
         go_wp2_with fail
         refine(N3.out _).mono ?_;rintro e w9 ⟨rfl,rfl⟩
         cases r3 with
         | false =>
          have HV:=lH (HV.out.trans (jD (v:=3) HS.out (by decide)));go_wp2;go_ret;exact⟨jb HV.out.symm,HK0.out.trans K4.out⟩
         | true =>
          by_cases m1:x4<1
          · have HV:=lH (HV.out.trans (jD (v:=1) (HS.out.trans (by simp[m1])) (by decide)));go_wp2;go_ret;exact⟨jb HV.out.symm,HK0.out.trans K4.out⟩
          · have m1:1≤x4:=by omega
            by_cases m2:128<x4
            · have HV:=lH (HV.out.trans (jD (v:=1) (HS.out.trans (by simp[m2])) (by decide)));go_wp2;go_ret;exact⟨jb HV.out.symm,HK0.out.trans K4.out⟩
            · have m2:x4≤128:=by omega
              have HV:=lH (HV.out.trans (jQ (HS.out.trans (by rw[show decide (x4<1)=false by simp;omega,show decide (128<x4)=false by simp;omega];rfl))));have HV:=lH (HV.out.trans (Zz.trans HD.out))
              cases q5 with
              | true =>
               go_wp2;go_ret;exact⟨jb HV.out.symm,HK0.out.trans K4.out⟩
              | false =>
               go_wp2_with fail
               refine(N5.out _).mono ?_;rintro e w9 ⟨rfl,rfl⟩
               cases r5 with
               | false =>
                go_wp2;go_ret;exact⟨jb HV.out.symm,HK0.out.trans K4.out⟩
               | true =>
                go_wp2;go_ret;exact⟨jb HV.out.symm,HK0.out.trans K4.out⟩
       ·
        have HV:=lH (HV.out.trans (jD (v:=1) HP.out (by decide)));go_wp2;go_ret;exact⟨jb HV.out.symm,HK0.out.trans (Kept.refl _)⟩
       ·
        have HV:=lH (HV.out.trans (jD (v:=1) HP.out (by decide)));go_wp2;go_ret;exact⟨jb HV.out.symm,HK0.out.trans (Kept.refl _)⟩
       ·
        have HV:=lH (HV.out.trans (jQ HP.out));go_wp2_with fail
        refine(E1.out _ (Kept.refl _)).mono ?_;rintro e w1 ⟨rfl,k⟩;have K1:=lH (Kept.trans (Kept.refl _) k);clear k c0 c1 c2 c3 c4 c5 c6 c7 c8 c9 c10;obtain⟨c0,c1,c2,c3,c4,c5,c6,c7,c8,c9,c10⟩:=HC.out _ K1.out;by_cases z1:y1=0;rotate_left
        · have z9:(y1 != 0)=true:=by simpa using z1
          have HV:=lH (HV.out.trans (jD rfl z1));clear z1;go_wp2;go_ret;exact⟨jb HV.out.symm,HK0.out.trans K1.out⟩
        subst z1;have HV:=lH (HV.out.trans (jQ rfl));go_wp2_with fail
        refine(E2.out _ K1.out).mono ?_;rintro e w2 ⟨rfl,k⟩;have K2:=lH (Kept.trans K1.out k);clear k c0 c1 c2 c3 c4 c5 c6 c7 c8 c9 c10;obtain⟨c0,c1,c2,c3,c4,c5,c6,c7,c8,c9,c10⟩:=HC.out _ K2.out;by_cases z2:y2=0;rotate_left
        · have z9:(y2 != 0)=true:=by simpa using z2
          have HV:=lH (HV.out.trans (jD rfl z2));clear z2;go_wp2;go_ret;exact⟨jb HV.out.symm,HK0.out.trans K2.out⟩
        subst z2;have HV:=lH (HV.out.trans (jQ rfl));go_wp2_with fail
        refine(E3.out _ K2.out).mono ?_;rintro e w3 ⟨rfl,k⟩;have K3:=lH (Kept.trans K2.out k);clear k c0 c1 c2 c3 c4 c5 c6 c7 c8 c9 c10;obtain⟨c0,c1,c2,c3,c4,c5,c6,c7,c8,c9,c10⟩:=HC.out _ K3.out;by_cases z3:y3=0;rotate_left
        · have z9:(y3 != 0)=true:=by simpa using z3
          have HV:=lH (HV.out.trans (jD rfl z3));clear z3;go_wp2;go_ret;exact⟨jb HV.out.symm,HK0.out.trans K3.out⟩
        subst z3;have HV:=lH (HV.out.trans (jQ rfl));go_wp2_with fail
        refine(E4.out _ K3.out).mono ?_;rintro e w4 ⟨rfl,k⟩;have K4:=lH (Kept.trans K3.out k);clear k c0 c1 c2 c3 c4 c5 c6 c7 c8 c9 c10;obtain⟨c0,c1,c2,c3,c4,c5,c6,c7,c8,c9,c10⟩:=HC.out _ K4.out;by_cases z4:y4=0;rotate_left
        · have z9:(y4 != 0)=true:=by simpa using z4
          have HV:=lH (HV.out.trans (jD rfl z4));clear z4;go_wp2;go_ret;exact⟨jb HV.out.symm,HK0.out.trans K4.out⟩
        subst z4;have HV:=lH (HV.out.trans (jQ rfl))
        cases q3 with
        | true =>
         by_cases m1:x4=0
         · subst m1;have HV:=lH (HV.out.trans (jQ HS.out));have HV:=lH (HV.out.trans (Zz.trans HD.out))
           cases q5 with
           | true =>
            go_wp2;go_ret;exact⟨jb HV.out.symm,HK0.out.trans K4.out⟩
           | false =>
            go_wp2_with fail
            refine(N5.out _).mono ?_;rintro e w9 ⟨rfl,rfl⟩
            cases r5 with
            | false =>
             go_wp2;go_ret;exact⟨jb HV.out.symm,HK0.out.trans K4.out⟩
            | true =>
             go_wp2;go_ret;exact⟨jb HV.out.symm,HK0.out.trans K4.out⟩
         · have HV:=lH (HV.out.trans (jD (v:=1) (HS.out.trans (by simp[m1])) (by decide)));have m1:(x4 != 0)=true:=by simpa using m1
           go_wp2;go_ret;exact⟨jb HV.out.symm,HK0.out.trans K4.out⟩
        | false =>
         go_wp2_with fail
         refine(N3.out _).mono ?_;rintro e w9 ⟨rfl,rfl⟩
         cases r3 with
         | false =>
          have HV:=lH (HV.out.trans (jD (v:=3) HS.out (by decide)));go_wp2;go_ret;exact⟨jb HV.out.symm,HK0.out.trans K4.out⟩
         | true =>
          by_cases m1:x4<1
          · have HV:=lH (HV.out.trans (jD (v:=1) (HS.out.trans (by simp[m1])) (by decide)));go_wp2;go_ret;exact⟨jb HV.out.symm,HK0.out.trans K4.out⟩
          · have m1:1≤x4:=by omega
            by_cases m2:128<x4
            · have HV:=lH (HV.out.trans (jD (v:=1) (HS.out.trans (by simp[m2])) (by decide)));go_wp2;go_ret;exact⟨jb HV.out.symm,HK0.out.trans K4.out⟩
            · have m2:x4≤128:=by omega
              have HV:=lH (HV.out.trans (jQ (HS.out.trans (by rw[show decide (x4<1)=false by simp;omega,show decide (128<x4)=false by simp;omega];rfl))));have HV:=lH (HV.out.trans (Zz.trans HD.out))
              cases q5 with
              | true =>
               go_wp2;go_ret;exact⟨jb HV.out.symm,HK0.out.trans K4.out⟩
              | false =>
               go_wp2_with fail
               refine(N5.out _).mono ?_;rintro e w9 ⟨rfl,rfl⟩
               cases r5 with
               | false =>
                go_wp2;go_ret;exact⟨jb HV.out.symm,HK0.out.trans K4.out⟩
               | true =>
                go_wp2;go_ret;exact⟨jb HV.out.symm,HK0.out.trans K4.out⟩
  | false =>
   go_wp2_with fail
   refine(N1.out _).mono ?_;rintro e w9 ⟨rfl,rfl⟩
   cases r1 with
   | false =>
    have HV:=lH (HV.out.trans (jD (v:=3) (HN.out.trans (by simp)) (by decide)));go_wp2;go_ret;exact⟨jb HV.out.symm,HK0.out.trans (Kept.refl _)⟩
   | true =>
    have HV:=lH (HV.out.trans (jQ (HN.out.trans (by simp))));by_cases p1:x2 < -1
    · have HV:=lH (HV.out.trans (jD (v:=1) (HP.out.trans (by simp[p1])) (by decide)));clear hzz;go_wp2;go_ret;exact⟨jb HV.out.symm,HK0.out.trans (Kept.refl _)⟩
    · have p1:-1≤x2:=by omega
      by_cases p2:1000000<x2
      · have HV:=lH (HV.out.trans (jD (v:=1) (HP.out.trans (by simp[p2])) (by decide)));clear hzz;go_wp2;go_ret;exact⟨jb HV.out.symm,HK0.out.trans (Kept.refl _)⟩
      · have p2:x2≤1000000:=by omega
        have HP:=lH (HP.out.trans (show (if (decide (x2 < -1)||(decide (1000000<x2)||(zz != x6)))=true then 1 else 0)=(if (zz != x6)=true then 1 else 0) by rw[show decide (x2 < -1)=false by simp;omega,show decide (1000000<x2)=false by simp;omega];rfl))
        cases zz<;>cases x6
        ·
         have HV:=lH (HV.out.trans (jQ HP.out));go_wp2_with fail
         refine(E1.out _ (Kept.refl _)).mono ?_;rintro e w1 ⟨rfl,k⟩;have K1:=lH (Kept.trans (Kept.refl _) k);clear k c0 c1 c2 c3 c4 c5 c6 c7 c8 c9 c10;obtain⟨c0,c1,c2,c3,c4,c5,c6,c7,c8,c9,c10⟩:=HC.out _ K1.out;by_cases z1:y1=0;rotate_left
         · have z9:(y1 != 0)=true:=by simpa using z1
           have HV:=lH (HV.out.trans (jD rfl z1));clear z1;go_wp2;go_ret;exact⟨jb HV.out.symm,HK0.out.trans K1.out⟩
         subst z1;have HV:=lH (HV.out.trans (jQ rfl));go_wp2_with fail
         refine(E2.out _ K1.out).mono ?_;rintro e w2 ⟨rfl,k⟩;have K2:=lH (Kept.trans K1.out k);clear k c0 c1 c2 c3 c4 c5 c6 c7 c8 c9 c10;obtain⟨c0,c1,c2,c3,c4,c5,c6,c7,c8,c9,c10⟩:=HC.out _ K2.out;by_cases z2:y2=0;rotate_left
         · have z9:(y2 != 0)=true:=by simpa using z2
           have HV:=lH (HV.out.trans (jD rfl z2));clear z2;go_wp2;go_ret;exact⟨jb HV.out.symm,HK0.out.trans K2.out⟩
         subst z2;have HV:=lH (HV.out.trans (jQ rfl));go_wp2_with fail
         refine(E3.out _ K2.out).mono ?_;rintro e w3 ⟨rfl,k⟩;have K3:=lH (Kept.trans K2.out k);clear k c0 c1 c2 c3 c4 c5 c6 c7 c8 c9 c10;obtain⟨c0,c1,c2,c3,c4,c5,c6,c7,c8,c9,c10⟩:=HC.out _ K3.out;by_cases z3:y3=0;rotate_left
         · have z9:(y3 != 0)=true:=by simpa using z3
           have HV:=lH (HV.out.trans (jD rfl z3));clear z3;go_wp2;go_ret;exact⟨jb HV.out.symm,HK0.out.trans K3.out⟩
         subst z3;have HV:=lH (HV.out.trans (jQ rfl));go_wp2_with fail
         refine(E4.out _ K3.out).mono ?_;rintro e w4 ⟨rfl,k⟩;have K4:=lH (Kept.trans K3.out k);clear k c0 c1 c2 c3 c4 c5 c6 c7 c8 c9 c10;obtain⟨c0,c1,c2,c3,c4,c5,c6,c7,c8,c9,c10⟩:=HC.out _ K4.out;by_cases z4:y4=0;rotate_left
         · have z9:(y4 != 0)=true:=by simpa using z4
           have HV:=lH (HV.out.trans (jD rfl z4));clear z4;go_wp2;go_ret;exact⟨jb HV.out.symm,HK0.out.trans K4.out⟩
         subst z4;have HV:=lH (HV.out.trans (jQ rfl))
         cases q3 with
         | true =>
          by_cases m1:x4=0
          · subst m1;have HV:=lH (HV.out.trans (jQ HS.out));have HV:=lH (HV.out.trans (Zz.trans HD.out))
            cases q5 with
            | true =>
             go_wp2;go_ret;exact⟨jb HV.out.symm,HK0.out.trans K4.out⟩
            | false =>
             go_wp2_with fail
             refine(N5.out _).mono ?_;rintro e w9 ⟨rfl,rfl⟩
             cases r5 with
             | false =>
              go_wp2;go_ret;exact⟨jb HV.out.symm,HK0.out.trans K4.out⟩
             | true =>
              go_wp2;go_ret;exact⟨jb HV.out.symm,HK0.out.trans K4.out⟩
          · have HV:=lH (HV.out.trans (jD (v:=1) (HS.out.trans (by simp[m1])) (by decide)));have m1:(x4 != 0)=true:=by simpa using m1
            go_wp2;go_ret;exact⟨jb HV.out.symm,HK0.out.trans K4.out⟩
         | false =>
          go_wp2_with fail
          refine(N3.out _).mono ?_;rintro e w9 ⟨rfl,rfl⟩
          cases r3 with
          | false =>
           have HV:=lH (HV.out.trans (jD (v:=3) HS.out (by decide)));go_wp2;go_ret;exact⟨jb HV.out.symm,HK0.out.trans K4.out⟩
          | true =>
           by_cases m1:x4<1
           · have HV:=lH (HV.out.trans (jD (v:=1) (HS.out.trans (by simp[m1])) (by decide)));go_wp2;go_ret;exact⟨jb HV.out.symm,HK0.out.trans K4.out⟩
           · have m1:1≤x4:=by omega
             by_cases m2:128<x4
             · have HV:=lH (HV.out.trans (jD (v:=1) (HS.out.trans (by simp[m2])) (by decide)));go_wp2;go_ret;exact⟨jb HV.out.symm,HK0.out.trans K4.out⟩
             · have m2:x4≤128:=by omega
               have HV:=lH (HV.out.trans (jQ (HS.out.trans (by rw[show decide (x4<1)=false by simp;omega,show decide (128<x4)=false by simp;omega];rfl))));have HV:=lH (HV.out.trans (Zz.trans HD.out))
               cases q5 with
               | true =>
                go_wp2;go_ret;exact⟨jb HV.out.symm,HK0.out.trans K4.out⟩
               | false =>
                go_wp2_with fail
                refine(N5.out _).mono ?_;rintro e w9 ⟨rfl,rfl⟩
                cases r5 with
                | false =>
                 go_wp2;go_ret;exact⟨jb HV.out.symm,HK0.out.trans K4.out⟩
                | true =>
                 go_wp2;go_ret;exact⟨jb HV.out.symm,HK0.out.trans K4.out⟩
        ·
         have HV:=lH (HV.out.trans (jD (v:=1) HP.out (by decide)));go_wp2;go_ret;exact⟨jb HV.out.symm,HK0.out.trans (Kept.refl _)⟩
        ·
         have HV:=lH (HV.out.trans (jD (v:=1) HP.out (by decide)));go_wp2;go_ret;exact⟨jb HV.out.symm,HK0.out.trans (Kept.refl _)⟩
        ·
         have HV:=lH (HV.out.trans (jQ HP.out));go_wp2_with fail
         refine(E1.out _ (Kept.refl _)).mono ?_;rintro e w1 ⟨rfl,k⟩;have K1:=lH (Kept.trans (Kept.refl _) k);clear k c0 c1 c2 c3 c4 c5 c6 c7 c8 c9 c10;obtain⟨c0,c1,c2,c3,c4,c5,c6,c7,c8,c9,c10⟩:=HC.out _ K1.out;by_cases z1:y1=0;rotate_left
         · have z9:(y1 != 0)=true:=by simpa using z1
           have HV:=lH (HV.out.trans (jD rfl z1));clear z1;go_wp2;go_ret;exact⟨jb HV.out.symm,HK0.out.trans K1.out⟩
         subst z1;have HV:=lH (HV.out.trans (jQ rfl));go_wp2_with fail
         refine(E2.out _ K1.out).mono ?_;rintro e w2 ⟨rfl,k⟩;have K2:=lH (Kept.trans K1.out k);clear k c0 c1 c2 c3 c4 c5 c6 c7 c8 c9 c10;obtain⟨c0,c1,c2,c3,c4,c5,c6,c7,c8,c9,c10⟩:=HC.out _ K2.out;by_cases z2:y2=0;rotate_left
         · have z9:(y2 != 0)=true:=by simpa using z2
           have HV:=lH (HV.out.trans (jD rfl z2));clear z2;go_wp2;go_ret;exact⟨jb HV.out.symm,HK0.out.trans K2.out⟩
         subst z2;have HV:=lH (HV.out.trans (jQ rfl));go_wp2_with fail
         refine(E3.out _ K2.out).mono ?_;rintro e w3 ⟨rfl,k⟩;have K3:=lH (Kept.trans K2.out k);clear k c0 c1 c2 c3 c4 c5 c6 c7 c8 c9 c10;obtain⟨c0,c1,c2,c3,c4,c5,c6,c7,c8,c9,c10⟩:=HC.out _ K3.out;by_cases z3:y3=0;rotate_left
         · have z9:(y3 != 0)=true:=by simpa using z3
           have HV:=lH (HV.out.trans (jD rfl z3));clear z3;go_wp2;go_ret;exact⟨jb HV.out.symm,HK0.out.trans K3.out⟩
         subst z3;have HV:=lH (HV.out.trans (jQ rfl));go_wp2_with fail
         refine(E4.out _ K3.out).mono ?_;rintro e w4 ⟨rfl,k⟩;have K4:=lH (Kept.trans K3.out k);clear k c0 c1 c2 c3 c4 c5 c6 c7 c8 c9 c10;obtain⟨c0,c1,c2,c3,c4,c5,c6,c7,c8,c9,c10⟩:=HC.out _ K4.out;by_cases z4:y4=0;rotate_left
         · have z9:(y4 != 0)=true:=by simpa using z4
           have HV:=lH (HV.out.trans (jD rfl z4));clear z4;go_wp2;go_ret;exact⟨jb HV.out.symm,HK0.out.trans K4.out⟩
         subst z4;have HV:=lH (HV.out.trans (jQ rfl))
         cases q3 with
         | true =>
          by_cases m1:x4=0
          · subst m1;have HV:=lH (HV.out.trans (jQ HS.out));have HV:=lH (HV.out.trans (Zz.trans HD.out))
            cases q5 with
            | true =>
             go_wp2;go_ret;exact⟨jb HV.out.symm,HK0.out.trans K4.out⟩
            | false =>
             go_wp2_with fail
             refine(N5.out _).mono ?_;rintro e w9 ⟨rfl,rfl⟩
             cases r5 with
             | false =>
              go_wp2;go_ret;exact⟨jb HV.out.symm,HK0.out.trans K4.out⟩
             | true =>
              go_wp2;go_ret;exact⟨jb HV.out.symm,HK0.out.trans K4.out⟩
          · have HV:=lH (HV.out.trans (jD (v:=1) (HS.out.trans (by simp[m1])) (by decide)));have m1:(x4 != 0)=true:=by simpa using m1
            go_wp2;go_ret;exact⟨jb HV.out.symm,HK0.out.trans K4.out⟩
         | false =>
          go_wp2_with fail
          refine(N3.out _).mono ?_;rintro e w9 ⟨rfl,rfl⟩
          cases r3 with
          | false =>
           have HV:=lH (HV.out.trans (jD (v:=3) HS.out (by decide)));go_wp2;go_ret;exact⟨jb HV.out.symm,HK0.out.trans K4.out⟩
          | true =>
           by_cases m1:x4<1
           · have HV:=lH (HV.out.trans (jD (v:=1) (HS.out.trans (by simp[m1])) (by decide)));go_wp2;go_ret;exact⟨jb HV.out.symm,HK0.out.trans K4.out⟩
           · have m1:1≤x4:=by omega
             by_cases m2:128<x4
             · have HV:=lH (HV.out.trans (jD (v:=1) (HS.out.trans (by simp[m2])) (by decide)));go_wp2;go_ret;exact⟨jb HV.out.symm,HK0.out.trans K4.out⟩
             · have m2:x4≤128:=by omega
               have HV:=lH (HV.out.trans (jQ (HS.out.trans (by rw[show decide (x4<1)=false by simp;omega,show decide (128<x4)=false by simp;omega];rfl))));have HV:=lH (HV.out.trans (Zz.trans HD.out))
               cases q5 with
               | true =>
                go_wp2;go_ret;exact⟨jb HV.out.symm,HK0.out.trans K4.out⟩
               | false =>
                go_wp2_with fail
                refine(N5.out _).mono ?_;rintro e w9 ⟨rfl,rfl⟩
                cases r5 with
                | false =>
                 go_wp2;go_ret;exact⟨jb HV.out.symm,HK0.out.trans K4.out⟩
                | true =>
                 go_wp2;go_ret;exact⟨jb HV.out.symm,HK0.out.trans K4.out⟩
theorem jfF {v:Value} {n:Pd} {c:Int} {w:World} (h:Yx w v n) (hc:Jc n=c):Calls Tryz.prog 12 #[v] w (Say (.int .i64 c) w):=by
 subst hc;obtain⟨v1,v2,v3,v4,rfl,h⟩:=h;exact qj n v1 v2 v3 v4 w h
theorem jaJ (a:Option Addr) (len cap:Nat) (l:List Pd) (w:World) (hr:jC w a len l) :
 Calls Tryz.prog 67 #[.slice a len cap] w (Say (.int .i64 (jW l)) w):=by
 have hl:=hr.1;have hm:=hr.2.1;unfold maxLen at hm;by_cases h32:128<len
 · have HV:=lH (show jW l=4 by unfold jW;rw[if_pos (by omega)]);clear hr hl;go_enter Tryz.func67,Tryz.ntmps67;go_wp2;go_ret;exact⟨jb HV.out.symm,Kept.refl _⟩
 · have HV:=lH (show jW l=zt none l by unfold jW;rw[if_neg (by omega)]);have h32':len≤128:=by omega
   by_cases h0:len=0
   · subst h0;have HE:=lH (show jW l=0 by rw[HV.out,List.eq_nil_of_length_eq_zero hl];rfl);clear hr hl h32;go_enter Tryz.func67,Tryz.ntmps67;go_wp2;refine wp_loop_rounds 1 ?_;rw[rounds_succ];go_wp2;go_ret;exact⟨jb HE.out.symm,Kept.refl _⟩
   · obtain⟨b,off,rfl⟩:=hr.form.resolve_left h0;have HR:=lH hr;have HL:=lH hl;clear hr hl h0 h32;go_enter Tryz.func67,Tryz.ntmps67;go_wp2;go_loopw [3] (fun i wr=>∃k:Nat,k≤len∧i=.int .i64 k∧zt (ZA l k) (l.drop k)=zt none l∧Kept w wr) (fun i _=>len-(intOf i).toNat)
     case atStart=>exact⟨0,Nat.zero_le _,rfl,rfl,Kept.refl _⟩
     case round =>
      obtain⟨k,hk,rfl,hrest,hK⟩:=hrel;have HS:=lH (HV.out.trans hrest.symm);have HT:=lH hrest;have HK:=lH hK;by_cases hlt:k<len
      · obtain⟨n,a1,m1,c1,a2,m2,c2,a3,m3,c3,a4,m4,c4,hn,hd,hb,p0,p1,p2,p3,p4,p5,p6,p7,p8,p9,p10,hat⟩:=(HR.out.kept hK).at_ hlt;have HAT:=lH hat;have HD:=lH hd;have HNX:=lH (jc3 hn);have HCK:=lH (fun W (kk:Kept wr W)=>qj n (.slice a1 m1 c1) (.slice a2 m2 c2) (.slice a3 m3 c3) (.slice a4 m4 c4) W (HAT.out.kept kk));unfold jv at HCK;obtain⟨ck,hck⟩:∃x,Jc n=x:=⟨_,rfl⟩
        have HCN:=lH hck;rw[hck] at HCK;have hkk:(k:Int)<(len:Int):=by omega
        clear hrest hK hat hd hck;by_cases z1:ck=0
        · subst z1;by_cases h0:k=0
          · have hd0:decide (0<k)=false:=by subst h0;decide
            have HP:=lH (jcQ (l:=l) h0 n.name);clear h0;go_wp2_with fail
            refine(HCK.out _ (Kept.refl _)).mono ?_;rintro e w1 ⟨rfl,kk⟩;have KW:=lH kk;clear kk;go_wp2;go_quiet (fail)
            go_wp2;go_roundw
            case rel=>exact⟨k+1,by omega,by go_num,(show zt (ZA l (k+1)) (l.drop (k+1))=zt none l by rw[←HT.out,HD.out,YU HCN.out HP.out,HNX.out]),HK.out.trans (KW.out.trans (Kept.drewN _ _))⟩
            case measure=>simp[intOf];omega
          · have hd0:decide (0<k)=true:=by simp;omega
            have g1:0≤(k:Int)-1:=by omega
            have g2:(k:Int)-1<(len:Int):=by omega
            have g3:((k:Int)-1).toNat=k-1:=by omega
            obtain⟨n9,_,_,_,_,_,_,_,_,_,_,_,_,hn9,-,hb9,o0,-⟩:=(HR.out.kept HK.out).at_ (show k-1<len by omega);have HP:=lH (jc5 (l:=l) h0 hn9 n.name);clear h0 hn9;by_cases n3:leS n.name n9.name=true
            · have n3':(Op.bytesLess n.name.toList n9.name.toList||n.name.toList==n9.name.toList)=true:=n3;have N3:=lH n3;clear n3;go_wp2_with fail
              refine(HCK.out _ (Kept.refl _)).mono ?_;rintro e w1 ⟨rfl,kk⟩;have KW:=lH kk;have o1:=cell_later kk o0;have p99:=cell_later kk p0;clear kk;go_wp2;go_quiet (fail)
              go_wp2;go_ret;exact⟨jb (show (13:Int)=jW l by rw[HS.out,HD.out,Xp HCN.out (HP.out.trans N3.out)]),HK.out.trans (KW.out.trans (Kept.drewN _ _))⟩
            · have n3:leS n.name n9.name=false:=by simpa using n3
              have n3':(Op.bytesLess n.name.toList n9.name.toList||n.name.toList==n9.name.toList)=false:=n3;have N3:=lH n3;clear n3;go_wp2_with fail
              refine(HCK.out _ (Kept.refl _)).mono ?_;rintro e w1 ⟨rfl,kk⟩;have KW:=lH kk;have o1:=cell_later kk o0;have p99:=cell_later kk p0;clear kk;go_wp2;go_quiet (fail)
              go_wp2;go_roundw
              case rel=>exact⟨k+1,by omega,by go_num,(show zt (ZA l (k+1)) (l.drop (k+1))=zt none l by rw[←HT.out,HD.out,YU HCN.out (HP.out.trans N3.out),HNX.out]),HK.out.trans (KW.out.trans (Kept.drewN _ _))⟩
              case measure=>simp[intOf];omega
        · have z1':(ck != 0)=true:=by simpa using z1
          have HB:=lH (show jW l=ck by rw[HS.out,HD.out,qG (by rw[HCN.out];exact z1),HCN.out]);clear z1;go_wp2_with fail
          refine(HCK.out _ (Kept.refl _)).mono ?_;rintro e w1 ⟨rfl,kk⟩;have KW:=lH kk;clear kk;go_wp2;go_ret;exact⟨jb HB.out.symm,HK.out.trans KW.out⟩
      · have HE:=lH (show jW l=0 by rw[HS.out,List.drop_of_length_le (by rw[HL.out];omega)];rfl);clear hrest hK;go_wp2;go_ret;exact⟨jb HE.out.symm,HK.out⟩
theorem jdg {v:Value} {l:List Pd} {c:Int} {w:World} (h:zU w v l) (hc:jW l=c):Calls Tryz.prog 67 #[v] w (Say (.int .i64 c) w):=by
 subst hc;obtain⟨a,cap,rfl,_,_,hr⟩:=h;exact jaJ a _ cap l w hr
theorem jda (n:Bd) (v1:Value) (w:World) (h:zu w v1 n) :
 Calls Tryz.prog 101 #[Yu n v1] w (Say (.int .i64 (Jy n)) w):=by
 obtain⟨x0,l3,m⟩:=n;obtain⟨W0,hW0⟩:∃Z,w.alloc (.cells #[.string x0,v1,.int .i64 m] 158)=Z:=⟨_,rfl⟩
 have hk0:Kept w W0:=by rw[←hW0];exact ja _ _
 have HC:=lH (show ∀W,Kept W0 W→W.cell? ⟨w.heap.size,0,none⟩=some (.string x0)∧W.cell? ⟨w.heap.size,1,none⟩=some (v1)∧W.cell? ⟨w.heap.size,2,none⟩=some (.int .i64 m) from fun W k=>by
  have:=jc w (.string x0) [v1,.int .i64 m] 158 W (by rw[hW0];exact k);exact⟨this.at_ 0 _ rfl,this.at_ 1 _ rfl,this.at_ 2 _ rfl⟩)
 obtain⟨y3,hy3⟩:∃y,Yr l3=y:=⟨_,rfl⟩
 obtain⟨r0,hr0⟩:∃r,isName x0=r:=⟨_,rfl⟩
 have E3:=lH (XQ (h.sel.kept hk0) hy3);have N0:=lH (fun W=>Vec.ZN (w:=W) h.name hr0);have HV:=lH (show Jy ⟨x0,l3,m⟩=orL [if r0=true then 0 else 3,y3,Zf m] by rw[←hy3,←hr0];rfl);have HK0:=lH hk0;clear h hk0 hy3 hr0;obtain⟨c0,c1,c2⟩:=HC.out _ (Kept.refl _);unfold Yu;dsimp only
 cases r0 with
 | false =>
  have HW:=lH (show Jy ⟨x0,l3,m⟩=3 by rw[HV.out];rfl);go_enter Tryz.func101,Tryz.ntmps101;go_wp2_with fail
  try rw[hW0]
  refine(N0.out _).mono ?_;rintro e w1 ⟨rfl,rfl⟩;go_wp2;go_ret;exact⟨jb HW.out.symm,HK0.out⟩
 | true =>
  by_cases z:y3=0
  · subst z;by_cases z1:m<0
    · have HW:=lH (show Jy ⟨x0,l3,m⟩=1 by rw[HV.out,show Zf m=1 by unfold Zf;rw[if_pos (.inl z1)]];rfl);go_enter Tryz.func101,Tryz.ntmps101;go_wp2_with fail
      try rw[hW0]
      refine(N0.out _).mono ?_;rintro e w1 ⟨rfl,rfl⟩;go_wp2_with fail
      refine E3.out.mono ?_;rintro e w2 ⟨rfl,k⟩;obtain⟨d0,d1,d2⟩:=HC.out _ k;go_wp2;go_ret;exact⟨jb HW.out.symm,HK0.out.trans k⟩
    · by_cases z2:128<m
      · have HW:=lH (show Jy ⟨x0,l3,m⟩=1 by rw[HV.out,show Zf m=1 by unfold Zf;rw[if_pos (.inr z2)]];rfl);have z1':0≤m:=by omega
        clear z1;go_enter Tryz.func101,Tryz.ntmps101;go_wp2_with fail
        try rw[hW0]
        refine(N0.out _).mono ?_;rintro e w1 ⟨rfl,rfl⟩;go_wp2_with fail
        refine E3.out.mono ?_;rintro e w2 ⟨rfl,k⟩;obtain⟨d0,d1,d2⟩:=HC.out _ k;go_wp2;go_ret;exact⟨jb HW.out.symm,HK0.out.trans k⟩
      · have HW:=lH (show Jy ⟨x0,l3,m⟩=0 by rw[HV.out,show Zf m=0 by unfold Zf;rw[if_neg (by omega)]];rfl);have z1':0≤m:=by omega
        have z2':m≤128:=by omega
        clear z1 z2;go_enter Tryz.func101,Tryz.ntmps101;go_wp2_with fail
        try rw[hW0]
        refine(N0.out _).mono ?_;rintro e w1 ⟨rfl,rfl⟩;go_wp2_with fail
        refine E3.out.mono ?_;rintro e w2 ⟨rfl,k⟩;obtain⟨d0,d1,d2⟩:=HC.out _ k;go_wp2;go_ret;exact⟨jb HW.out.symm,HK0.out.trans k⟩
  · have HW:=lH (show Jy ⟨x0,l3,m⟩=y3 by
     rw[HV.out];show (if (0:Int)≠0 then 0 else if y3≠0 then y3 else _)=y3;rw[if_neg (by decide),if_pos z])
    have z':(y3 != 0)=true:=by simpa using z
    clear z;go_enter Tryz.func101,Tryz.ntmps101;go_wp2_with fail
    try rw[hW0]
    refine(N0.out _).mono ?_;rintro e w1 ⟨rfl,rfl⟩;go_wp2_with fail
    refine E3.out.mono ?_;rintro e w2 ⟨rfl,k⟩;go_wp2;go_ret;exact⟨jb HW.out.symm,HK0.out.trans k⟩
theorem jaB (a:Option Addr) (len cap:Nat) (l:List Bd) (w:World) (hr:zV w a len l) :
 Calls Tryz.prog 68 #[.slice a len cap] w (Say (.int .i64 (jZ l)) w):=by
 have hl:=hr.1;have hm:=hr.2.1;unfold maxLen at hm;by_cases h32:8<len
 · have HV:=lH (show jZ l=4 by unfold jZ;rw[if_pos (by omega)]);clear hr hl;go_enter Tryz.func68,Tryz.ntmps68;go_wp2;go_ret;exact⟨jb HV.out.symm,Kept.refl _⟩
 · have HV:=lH (show jZ l=zq none l by unfold jZ;rw[if_neg (by omega)]);have h32':len≤8:=by omega
   by_cases h0:len=0
   · subst h0;have HE:=lH (show jZ l=0 by rw[HV.out,List.eq_nil_of_length_eq_zero hl];rfl);clear hr hl h32;go_enter Tryz.func68,Tryz.ntmps68;go_wp2;refine wp_loop_rounds 1 ?_;rw[rounds_succ];go_wp2;go_ret;exact⟨jb HE.out.symm,Kept.refl _⟩
   · obtain⟨b,off,rfl⟩:=hr.form.resolve_left h0;have HR:=lH hr;have HL:=lH hl;clear hr hl h0 h32;go_enter Tryz.func68,Tryz.ntmps68;go_wp2;go_loopw [3] (fun i wr=>∃k:Nat,k≤len∧i=.int .i64 k∧zq (ZM l k) (l.drop k)=zq none l∧Kept w wr) (fun i _=>len-(intOf i).toNat)
     case atStart=>exact⟨0,Nat.zero_le _,rfl,rfl,Kept.refl _⟩
     case round =>
      obtain⟨k,hk,rfl,hrest,hK⟩:=hrel;have HS:=lH (HV.out.trans hrest.symm);have HT:=lH hrest;have HK:=lH hK;by_cases hlt:k<len
      · obtain⟨n,a1,m1,c1,hn,hd,hb,p0,p1,p2,hat⟩:=(HR.out.kept hK).at_ hlt;have HAT:=lH hat;have HD:=lH hd;have HNX:=lH (jc1 hn);have HCK:=lH (fun W (kk:Kept wr W)=>jda n (.slice a1 m1 c1) W (HAT.out.kept kk));unfold Yu at HCK;obtain⟨ck,hck⟩:∃x,Jy n=x:=⟨_,rfl⟩
        have HCN:=lH hck;rw[hck] at HCK;have hkk:(k:Int)<(len:Int):=by omega
        clear hrest hK hat hd hck;by_cases z1:ck=0
        · subst z1;by_cases h0:k=0
          · have hd0:decide (0<k)=false:=by subst h0;decide
            have HP:=lH (jcI (l:=l) h0 n.name);clear h0;go_wp2_with fail
            refine(HCK.out _ (Kept.refl _)).mono ?_;rintro e w1 ⟨rfl,kk⟩;have KW:=lH kk;clear kk;go_wp2;go_quiet (fail)
            go_wp2;go_roundw
            case rel=>exact⟨k+1,by omega,by go_num,(show zq (ZM l (k+1)) (l.drop (k+1))=zq none l by rw[←HT.out,HD.out,jaq HCN.out HP.out,HNX.out]),HK.out.trans (KW.out.trans (Kept.drewN _ _))⟩
            case measure=>simp[intOf];omega
          · have hd0:decide (0<k)=true:=by simp;omega
            have g1:0≤(k:Int)-1:=by omega
            have g2:(k:Int)-1<(len:Int):=by omega
            have g3:((k:Int)-1).toNat=k-1:=by omega
            obtain⟨n9,_,_,_,hn9,-,hb9,o0,-⟩:=(HR.out.kept HK.out).at_ (show k-1<len by omega);have HP:=lH (jcV (l:=l) h0 hn9 n.name);clear h0 hn9;by_cases n3:leS n.name n9.name=true
            · have n3':(Op.bytesLess n.name.toList n9.name.toList||n.name.toList==n9.name.toList)=true:=n3;have N3:=lH n3;clear n3;go_wp2_with fail
              refine(HCK.out _ (Kept.refl _)).mono ?_;rintro e w1 ⟨rfl,kk⟩;have KW:=lH kk;have o1:=cell_later kk o0;have p99:=cell_later kk p0;clear kk;go_wp2;go_quiet (fail)
              go_wp2;go_ret;exact⟨jb (show (13:Int)=jZ l by rw[HS.out,HD.out,jcS HCN.out (HP.out.trans N3.out)]),HK.out.trans (KW.out.trans (Kept.drewN _ _))⟩
            · have n3:leS n.name n9.name=false:=by simpa using n3
              have n3':(Op.bytesLess n.name.toList n9.name.toList||n.name.toList==n9.name.toList)=false:=n3;have N3:=lH n3;clear n3;go_wp2_with fail
              refine(HCK.out _ (Kept.refl _)).mono ?_;rintro e w1 ⟨rfl,kk⟩;have KW:=lH kk;have o1:=cell_later kk o0;have p99:=cell_later kk p0;clear kk;go_wp2;go_quiet (fail)
              go_wp2;go_roundw
              case rel=>exact⟨k+1,by omega,by go_num,(show zq (ZM l (k+1)) (l.drop (k+1))=zq none l by rw[←HT.out,HD.out,jaq HCN.out (HP.out.trans N3.out),HNX.out]),HK.out.trans (KW.out.trans (Kept.drewN _ _))⟩
              case measure=>simp[intOf];omega
        · have z1':(ck != 0)=true:=by simpa using z1
          have HB:=lH (show jZ l=ck by rw[HS.out,HD.out,jfG (by rw[HCN.out];exact z1),HCN.out]);clear z1;go_wp2_with fail
          refine(HCK.out _ (Kept.refl _)).mono ?_;rintro e w1 ⟨rfl,kk⟩;have KW:=lH kk;clear kk;go_wp2;go_ret;exact⟨jb HB.out.symm,HK.out.trans KW.out⟩
      · have HE:=lH (show jZ l=0 by rw[HS.out,List.drop_of_length_le (by rw[HL.out];omega)];rfl);clear hrest hK;go_wp2;go_ret;exact⟨jb HE.out.symm,HK.out⟩
theorem jcH {v:Value} {l:List Bd} {c:Int} {w:World} (h:Jg w v l) (hc:jZ l=c):Calls Tryz.prog 68 #[v] w (Say (.int .i64 c) w):=by
 subst hc;obtain⟨a,cap,rfl,_,_,hr⟩:=h;exact jaB a _ cap l w hr
theorem jbJ {v v':Value} {l l':Vec.V} {c:Bool} {w:World} (h:Vec.Reads w v l) (h':Vec.Reads w v' l') (e:Vec.jB l' l=c) :
 Calls Tryz.prog 59 #[v,v'] w (Say (.bool c) w):=by
 subst e;obtain⟨a,cap,rfl,_,_,h3⟩:=h;obtain⟨a',cap',rfl,_,_,h3'⟩:=h';exact Vec.jeR a a' _ cap _ cap' l l' w h3 h3'
theorem jgH {s:Clu} {n:Nod} (h:n ∈ s.nodes):JH s n.name=jS n.name s.pods []:=by
 cases hf:jm s.nodes n.name with
 | some n'=>exact jbb hf
 | none =>
  unfold jm at hf;have:=List.find?_eq_none.1 hf n h;exact absurd (Zu n.name) (by simpa using this)
theorem jeL {v:Value} {s:Clu} {c:Int} {w:World} (h:jx w v s) (hcc:J5 s=c):Calls Tryz.prog 28 #[v] w (Say (.int .i64 c) w):=by
 subst hcc;have h0:=h;obtain⟨v1,v2,v3,rfl,⟨a,cap,rfl,l1,m1,h1⟩,⟨b,cp,rfl,l2,m2,h2⟩,⟨d,cb,rfl,l3,m3,h3⟩⟩:=h;obtain⟨nl,pl,bl⟩:=s;dsimp only at *;obtain⟨len,hlen⟩:∃q,nl.length=q:=⟨_,rfl⟩
 obtain⟨m,hm⟩:∃q,pl.length=q:=⟨_,rfl⟩
 obtain⟨n,hn⟩:∃q,bl.length=q:=⟨_,rfl⟩
 rw[hlen] at h1 l1;rw[hm] at h2 l2;rw[hn] at h3 l3;try rw[hlen]
 try rw[hm]
 try rw[hn]
 clear hn;rw[hlen,hm] at h0;have hn3:bl.length=n:=h3.1;rw[hn3] at h0;obtain⟨Z,hZ⟩:∃Z,w.alloc (.cells #[.slice a len cap,.slice b m cp,.slice d n cb] 56)=Z:=⟨_,rfl⟩
 have hkz:Kept w Z:=by rw[←hZ];exact ja _ _
 have HQ:=lH (show je w.heap.size [.slice a len cap,.slice b m cp,.slice d n cb] Z from jc w (.slice a len cap) [.slice b m cp,.slice d n cb] 56 Z (by rw[hZ];exact Kept.refl _));have HN:=lH (h1.kept hkz);have HP:=lH (h2.kept hkz);have HC0:=lH (h0.kept hkz);have HNR:=lH (Xs l1 m1 (h1.kept hkz));have HPR:=lH (jdw l2 m2 (h2.kept hkz));have HBR:=lH (jaK l3 m3 (h3.kept hkz));have HKZ:=lH hkz;have HL1:=lH hlen;have HL2:=lH hm;have hml1:=Nat.le_trans l1 m1;have hml2:=Nat.le_trans l2 m2;unfold maxLen at hml1 hml2;clear h1 h2 h3 h0 l1 l2 l3 m1 m2 m3 hkz hn3;obtain⟨x1,hx1⟩:∃q,jN nl=q:=⟨_,rfl⟩
 have Hx1:=lH hx1;obtain⟨x2,hx2⟩:∃q,jW pl=q:=⟨_,rfl⟩
 have Hx2:=lH hx2;obtain⟨x3,hx3⟩:∃q,jZ bl=q:=⟨_,rfl⟩
 have Hx3:=lH hx3;have cq0:=(HQ.out.kept (Kept.refl _)).at_ 0 _ rfl;have cq1:=(HQ.out.kept (Kept.refl _)).at_ 1 _ rfl;have cq2:=(HQ.out.kept (Kept.refl _)).at_ 2 _ rfl;go_enter Tryz.func28,Tryz.ntmps28;go_wp2_with fail
 try rw[hZ]
 clear hZ;refine(jd0 HNR.out hx1).mono ?_;rintro e w1 ⟨rfl,kk⟩;have K:=lH kk;clear kk hx1 cq0 cq1 cq2;have cq0:=(HQ.out.kept K.out).at_ 0 _ rfl;have cq1:=(HQ.out.kept K.out).at_ 1 _ rfl;have cq2:=(HQ.out.kept K.out).at_ 2 _ rfl;by_cases hc:¬x1=0
 · have HX:=lH (Xo (nl:=nl) (pl:=pl) (bl:=bl) (c:=x1) (by unfold or3;rw[Hx1.out,if_pos hc]) hc);have hcn:(x1 != 0)=true:=by simpa using hc
   clear hc;go_wp2;go_ret;exact⟨jb HX.out.symm,HKZ.out.trans K.out⟩
 obtain rfl:x1=0:=Decidable.of_not_not hc;clear hc;go_wp2_with fail
 refine(jdg (HPR.out.kept K.out) hx2).mono ?_;rintro e w2 ⟨rfl,kk⟩;have K:=lH (K.out.trans kk);clear kk hx2 cq0 cq1 cq2;have cq0:=(HQ.out.kept K.out).at_ 0 _ rfl;have cq1:=(HQ.out.kept K.out).at_ 1 _ rfl;have cq2:=(HQ.out.kept K.out).at_ 2 _ rfl;by_cases hc:¬x2=0
 · have HX:=lH (Xo (nl:=nl) (pl:=pl) (bl:=bl) (c:=x2) (by unfold or3;rw[Hx1.out,Hx2.out,if_neg (by decide),if_pos hc]) hc);have hcn:(x2 != 0)=true:=by simpa using hc
   clear hc;go_wp2;go_ret;exact⟨jb HX.out.symm,HKZ.out.trans K.out⟩
 obtain rfl:x2=0:=Decidable.of_not_not hc;clear hc;go_wp2_with fail
 refine(jcH (HBR.out.kept K.out) hx3).mono ?_;rintro e w3 ⟨rfl,kk⟩;have K:=lH (K.out.trans kk);clear kk hx3 cq0 cq1 cq2;have cq0:=(HQ.out.kept K.out).at_ 0 _ rfl;have cq1:=(HQ.out.kept K.out).at_ 1 _ rfl;have cq2:=(HQ.out.kept K.out).at_ 2 _ rfl;by_cases hc:¬x3=0
 · have HX:=lH (Xo (nl:=nl) (pl:=pl) (bl:=bl) (c:=x3) (by unfold or3;rw[Hx1.out,Hx2.out,Hx3.out,if_neg (by decide),if_neg (by decide)]) hc);have hcn:(x3 != 0)=true:=by simpa using hc
   clear hc;go_wp2;go_ret;exact⟨jb HX.out.symm,HKZ.out.trans K.out⟩
 obtain rfl:x3=0:=Decidable.of_not_not hc;clear hc;have HOR:=lH (show or3 (jN nl) (jW pl) (jZ bl)=0 by unfold or3;rw[Hx1.out,Hx2.out,Hx3.out];rfl);clear Hx1 Hx2 Hx3;go_wp2;clear cq0 cq1 cq2;go_loopw [4] (fun i wr=>∃k:Nat,k≤m∧i=.int .i64 k∧jM nl (pl.drop k)=jM nl pl∧Kept Z wr) (fun i _=>m-(intOf i).toNat)
 case atStart=>exact⟨0,Nat.zero_le _,rfl,rfl,K.out⟩
 case round =>
  obtain⟨k,hk,rfl,hrest,hK⟩:=hrel;have HS:=lH hrest;have HK:=lH hK;have cq0:=(HQ.out.kept hK).at_ 0 _ rfl;have cq1:=(HQ.out.kept hK).at_ 1 _ rfl;have cq2:=(HQ.out.kept hK).at_ 2 _ rfl;by_cases hlt:k<m
  · obtain⟨b9,off,rfl⟩:=HP.out.form.resolve_left (by omega);obtain⟨pd,x1,y1,z1,x2,y2,z2,x3,y3,z3,x4,y4,z4,hn,hd,hb,p0,p1,p2,p3,p4,p5,p6,p7,p8,p9,p10,hat⟩:=(HP.out.kept hK).at_ hlt;have HD:=lH hd;have hkk:(k:Int)<(m:Int):=by omega
    have hk0:¬(k:Int)<0:=by omega
    obtain⟨t,ht⟩:∃t,(pd.node.toList==([]:List UInt8))=t:=⟨_,rfl⟩
    have HNO:=lH (show Jn pd.node=t by rw[Jk];exact ht);clear hrest hat hn hd
    cases t with
     | true =>
      have HX:=lH (show jM nl (pl.drop (k+1))=jM nl pl by rw[←HS.out,HD.out,jdc HNO.out]);clear hK;go_wp2;go_roundw
      case rel=>exact⟨k+1,by omega,by go_num,HX.out,HK.out⟩
      case measure=>simp[intOf];omega
     | false =>
      have HF:=lH (show ∀W,Kept wr W→W.cell? ⟨w.heap.size,0,none⟩=some (.slice a len cap)∧W.cell? ⟨w.heap.size,1,none⟩=some (.slice (some ⟨b9,off,none⟩) m cp)∧W.cell? ⟨b9,off+k*11,none⟩=some (.string pd.name)∧W.cell? ⟨b9,off+k*11+1,none⟩=some (.string pd.owner)∧W.cell? ⟨b9,off+k*11+2,none⟩=some (.int .i64 pd.prio)∧W.cell? ⟨b9,off+k*11+3,none⟩=some (.slice x1 y1 z1)∧W.cell? ⟨b9,off+k*11+4,none⟩=some (.slice x2 y2 z2)∧W.cell? ⟨b9,off+k*11+5,none⟩=some (.slice x3 y3 z3)∧W.cell? ⟨b9,off+k*11+6,none⟩=some (.slice x4 y4 z4)∧W.cell? ⟨b9,off+k*11+7,none⟩=some (.string pd.key)∧W.cell? ⟨b9,off+k*11+8,none⟩=some (.int .i64 pd.most)∧W.cell? ⟨b9,off+k*11+9,none⟩=some (.string pd.node)∧W.cell? ⟨b9,off+k*11+10,none⟩=some (.bool pd.hold) from fun W kk=>⟨cell_later kk cq0,cell_later kk cq1,cell_later kk p0,cell_later kk p1,cell_later kk p2,cell_later kk p3,cell_later kk p4,cell_later kk p5,cell_later kk p6,cell_later kk p7,cell_later kk p8,cell_later kk p9,cell_later kk p10⟩);obtain⟨o,ho⟩:∃o,jm nl pd.node=o:=⟨_,rfl⟩
      have HFD:=lH ho;have HCC:=lH (fun W (kk:Kept wr W)=>jbQ (x:=pd.node) (HNR.out.kept (HK.out.trans kk)));rw[ho] at HCC;clear hK ho;go_upto_region 14 with fail
      go_cut [5,6] from 42 to 54 (fun s5 s6 wx=>s6=.bool o.isSome∧Kept wr wx)
      case first =>
       refine wp_region_held_drew (S:=fun W=>W.cell? ⟨w.heap.size,0,none⟩=some (.slice a len cap)∧W.cell? ⟨w.heap.size,1,none⟩=some (.slice (some ⟨b9,off,none⟩) m cp)∧W.cell? ⟨b9,off+k*11,none⟩=some (.string pd.name)∧W.cell? ⟨b9,off+k*11+1,none⟩=some (.string pd.owner)∧W.cell? ⟨b9,off+k*11+2,none⟩=some (.int .i64 pd.prio)∧W.cell? ⟨b9,off+k*11+3,none⟩=some (.slice x1 y1 z1)∧W.cell? ⟨b9,off+k*11+4,none⟩=some (.slice x2 y2 z2)∧W.cell? ⟨b9,off+k*11+5,none⟩=some (.slice x3 y3 z3)∧W.cell? ⟨b9,off+k*11+6,none⟩=some (.slice x4 y4 z4)∧W.cell? ⟨b9,off+k*11+7,none⟩=some (.string pd.key)∧W.cell? ⟨b9,off+k*11+8,none⟩=some (.int .i64 pd.most)∧W.cell? ⟨b9,off+k*11+9,none⟩=some (.string pd.node)∧W.cell? ⟨b9,off+k*11+10,none⟩=some (.bool pd.hold)) (by kernel_rfl) (HF.out _ (Kept.drew _)) (fun hHeld=>?_);refine wpAnyH_take  (i:=0) (v:=?_) (by rw[List.getElem?_toArray];exact rfl) (by kernel_rfl) (by kernel_rfl) (by kernel_rfl) (by exact fun _ _ _ h=>h) (Or.inl ⟨by rfl,(by rintro W ⟨o0,o1,o2,o3,o4,o5,o6,o7,o8,o9,o10,o11,o12⟩;go_simp<;>with_reducible rfl)⟩) (by assumption) ?_;try simp only  [Act.put,List.setIfInBounds_toArray,List.set_cons_zero,List.set_cons_succ]
       refine wpAnyH_take  (i:=1) (v:=?_) (by rw[List.getElem?_toArray];exact rfl) (by kernel_rfl) (by kernel_rfl) (by kernel_rfl) (by exact fun _ _ _ h=>h) (Or.inl ⟨by rfl,(by rintro W ⟨o0,o1,o2,o3,o4,o5,o6,o7,o8,o9,o10,o11,o12⟩;go_simp<;>with_reducible rfl)⟩) (by assumption) ?_;try simp only  [Act.put,List.setIfInBounds_toArray,List.set_cons_zero,List.set_cons_succ]
       refine wpAnyH_take  (i:=2) (v:=?_) (by rw[List.getElem?_toArray];exact rfl) (by kernel_rfl) (by kernel_rfl) (by kernel_rfl) (by exact fun _ _ _ h=>h) (Or.inl ⟨by rfl,(by rintro W ⟨o0,o1,o2,o3,o4,o5,o6,o7,o8,o9,o10,o11,o12⟩;go_simp<;>with_reducible rfl)⟩) (by assumption) ?_;try simp only  [Act.put,List.setIfInBounds_toArray,List.set_cons_zero,List.set_cons_succ]
       refine wpAnyH_take  (i:=3) (v:=?_) (by rw[List.getElem?_toArray];exact rfl) (by kernel_rfl) (by kernel_rfl) (by kernel_rfl) (by exact fun _ _ _ h=>h) (Or.inl ⟨by rfl,(by rintro W ⟨o0,o1,o2,o3,o4,o5,o6,o7,o8,o9,o10,o11,o12⟩;go_simp<;>with_reducible rfl)⟩) (by assumption) ?_;try simp only  [Act.put,List.setIfInBounds_toArray,List.set_cons_zero,List.set_cons_succ]
       refine wpAnyH_take  (i:=4) (v:=?_) (by rw[List.getElem?_toArray];exact rfl) (by kernel_rfl) (by kernel_rfl) (by kernel_rfl) (by exact fun _ _ _ h=>h) (Or.inl ⟨by rfl,(by rintro W ⟨o0,o1,o2,o3,o4,o5,o6,o7,o8,o9,o10,o11,o12⟩;go_simp<;>with_reducible rfl)⟩) (by assumption) ?_;try simp only  [Act.put,List.setIfInBounds_toArray,List.set_cons_zero,List.set_cons_succ]
       refine wpAnyH_take  (i:=5) (v:=?_) (by rw[List.getElem?_toArray];exact rfl) (by kernel_rfl) (by kernel_rfl) (by kernel_rfl) (by exact fun _ _ _ h=>h) (Or.inl ⟨by rfl,(by rintro W ⟨o0,o1,o2,o3,o4,o5,o6,o7,o8,o9,o10,o11,o12⟩;go_simp<;>with_reducible rfl)⟩) (by assumption) ?_;try simp only  [Act.put,List.setIfInBounds_toArray,List.set_cons_zero,List.set_cons_succ]
       refine wpAnyH_take  (i:=6) (v:=?_) (by rw[List.getElem?_toArray];exact rfl) (by kernel_rfl) (by kernel_rfl) (by kernel_rfl) (by exact fun _ _ _ h=>h) (Or.inl ⟨by rfl,(by rintro W ⟨o0,o1,o2,o3,o4,o5,o6,o7,o8,o9,o10,o11,o12⟩;go_simp<;>with_reducible rfl)⟩) (by assumption) ?_;try simp only  [Act.put,List.setIfInBounds_toArray,List.set_cons_zero,List.set_cons_succ]
       refine wpAnyH_take  (i:=7) (v:=?_) (by rw[List.getElem?_toArray];exact rfl) (by kernel_rfl) (by kernel_rfl) (by kernel_rfl) (by exact fun _ _ _ h=>h) (Or.inl ⟨by rfl,(by rintro W ⟨o0,o1,o2,o3,o4,o5,o6,o7,o8,o9,o10,o11,o12⟩;go_simp<;>with_reducible rfl)⟩) (by assumption) ?_;try simp only  [Act.put,List.setIfInBounds_toArray,List.set_cons_zero,List.set_cons_succ]
       have J0:=lH (Kept.drew wr);refine wpAnyH_ready  (rs:=[8,12]) (by kernel_rfl) (by simp) (AllReadyH.cons  (by rw[List.getElem?_toArray];exact rfl) (fun K9 hK9=>?_) (AllReadyH.cons  (by rw[List.getElem?_toArray];exact rfl) (fun K9 hK9=>?_) AllReadyH.nil))
       · go_simp;refine(HCC.out _ J0.out).mono ?_;rintro e w5 ⟨v9,rfl,hr,kk⟩;have J0:=lH (J0.out.trans kk);obtain⟨nn,hnn⟩:∃q,o.getD Nod.zero=q:=⟨_,rfl⟩
         rw[hnn] at hr;obtain⟨y1,y2,y3,rfl,hat⟩:=hr;have g1:=hat.cap;have g2:=hat.labels;have g3:=hat.taints;obtain⟨b1,d1,rfl,-,-,-⟩:=g1;obtain⟨b2,d2,rfl,-,-,-⟩:=g2;obtain⟨b3,d3,rfl,-,-,-⟩:=g3;unfold zJ;obtain⟨n1,hn1⟩:∃q,nn.cap.length=q:=⟨_,rfl⟩
         obtain⟨n2,hn2⟩:∃q,nn.labels.length=q:=⟨_,rfl⟩
         obtain⟨n3,hn3⟩:∃q,nn.taints.length=q:=⟨_,rfl⟩
         rw[hn1,hn2,hn3];clear hat kk hn1 hn2 hn3 hnn;refine hK9.out _ _ (HF.out _ J0.out) (fun hHeld31=>?_);clear hK9 K9;try simp only  [Act.put,List.setIfInBounds_toArray,List.set_cons_zero,List.set_cons_succ]
         refine wpAnyH_take  (i:=9) (v:=?_) (by rw[List.getElem?_toArray];exact rfl) (by kernel_rfl) (by kernel_rfl) (by kernel_rfl) (by exact fun _ _ _ h=>h) (Or.inl ⟨by rfl,(by rintro W ⟨o0,o1,o2,o3,o4,o5,o6,o7,o8,o9,o10,o11,o12⟩;go_simp<;>with_reducible rfl)⟩) (by assumption) ?_;try simp only  [Act.put,List.setIfInBounds_toArray,List.set_cons_zero,List.set_cons_succ]
         refine wpAnyH_take  (i:=10) (v:=?_) (by rw[List.getElem?_toArray];exact rfl) (by kernel_rfl) (by kernel_rfl) (by kernel_rfl) (by exact fun _ _ _ h=>h) (Or.inl ⟨by rfl,(by rintro W ⟨o0,o1,o2,o3,o4,o5,o6,o7,o8,o9,o10,o11,o12⟩;go_simp<;>with_reducible rfl)⟩) (by assumption) ?_;try simp only  [Act.put,List.setIfInBounds_toArray,List.set_cons_zero,List.set_cons_succ]
         refine wpAnyH_take  (i:=11) (v:=?_) (by rw[List.getElem?_toArray];exact rfl) (by kernel_rfl) (by kernel_rfl) (by kernel_rfl) (by exact fun _ _ _ h=>h) (Or.inl ⟨by rfl,(by rintro W ⟨o0,o1,o2,o3,o4,o5,o6,o7,o8,o9,o10,o11,o12⟩;go_simp<;>with_reducible rfl)⟩) (by assumption) ?_;try simp only  [Act.put,List.setIfInBounds_toArray,List.set_cons_zero,List.set_cons_succ]
         refine wpAnyH_ready  (rs:=[12]) (by kernel_rfl) (by simp) (AllReadyH.cons  (by rw[List.getElem?_toArray];exact rfl) (fun K9 hK9=>?_) AllReadyH.nil);go_simp;have HQA:=lH (jc w5 (.string ⟨#[]⟩) [.slice none 0 0,.slice none 0 0,.slice none 0 0,.bool false] 107 _ (Kept.refl _));have HQB:=lH J0.out.size;have J0:=lH (J0.out.trans (ja w5 (.cells #[.string ⟨#[]⟩,.slice none 0 0,.slice none 0 0,.slice none 0 0,.bool false] 107)));refine hK9.out _ _ (HF.out _ J0.out) (fun hHeldA=>?_);clear hK9 K9;try simp only  [Act.put,List.setIfInBounds_toArray,List.set_cons_zero,List.set_cons_succ]
         obtain⟨wa,hwa⟩:∃W,w5.alloc (.cells #[.string ⟨#[]⟩,.slice none 0 0,.slice none 0 0,.slice none 0 0,.bool false] 107)=W:=⟨_,rfl⟩
         rw[hwa] at J0 HQA ⊢;obtain⟨qa,hqa⟩:∃q,w5.heap.size=q:=⟨_,rfl⟩
         rw[hqa] at HQB;rw[hqa] at HQA ⊢;clear hwa hqa;have z0:=HQA.out.at_ 0 _ rfl;have z1:=HQA.out.at_ 1 _ rfl;have z2:=HQA.out.at_ 2 _ rfl;have z3:=HQA.out.at_ 3 _ rfl;have z4:=HQA.out.at_ 4 _ rfl;have f0:=HQA.out.free 0;have f1:=HQA.out.free 1;have f2:=HQA.out.free 2;have f3:=HQA.out.free 3;have f4:=HQA.out.free 4;refine wpAnyH_ready  (rs:=[13]) (by kernel_rfl) (by simp) (AllReadyH.cons  (by rw[List.getElem?_toArray];exact rfl) (fun K9 hK9=>?_) AllReadyH.nil);go_simp;obtain⟨WE,hWE⟩:∃W,wa.setCells qa 0 [.string nn.name,.slice b1 n1 d1,.slice b2 n2 d2,.slice b3 n3 d3,.bool nn.cordon]=W:=⟨_,rfl⟩
         have hWE2:(((((wa.setCell ⟨qa,0,none⟩ (.string nn.name)).setCell ⟨qa,1,none⟩ (.slice b1 n1 d1)).setCell ⟨qa,2,none⟩ (.slice b2 n2 d2)).setCell ⟨qa,3,none⟩ (.slice b3 n3 d3)).setCell ⟨qa,4,none⟩ (.bool nn.cordon))=WE:=hWE;try rw[hWE2]
         have JE:=lH (show Kept wr WE by rw[←hWE];exact jg qa _ _ _ _ _ HQB.out J0.out);clear hWE hWE2 z0 f0 z1 f1 z2 f2 z3 f3 z4 f4;refine hK9.out _ _ (HF.out _ JE.out) (fun hHeldS=>?_);clear hK9 K9;try simp only  [Act.put,List.setIfInBounds_toArray,List.set_cons_zero,List.set_cons_succ]
         refine wpAnyH_take  (i:=14) (v:=?_) (by rw[List.getElem?_toArray];exact rfl) (by kernel_rfl) (by kernel_rfl) (by kernel_rfl) (by exact fun _ _ _ h=>h) (Or.inl ⟨by rfl,(by rintro W ⟨o0,o1,o2,o3,o4,o5,o6,o7,o8,o9,o10,o11,o12⟩;go_simp<;>with_reducible rfl)⟩) (by assumption) ?_;try simp only  [Act.put,List.setIfInBounds_toArray,List.set_cons_zero,List.set_cons_succ]
         refine wpAnyH_done (by kernel_rfl) ?_ _;go_wp2;go_meet
         case rel=>exact⟨rfl,JE.out⟩
       · go_simp;have HQA:=lH (jc wr (.string ⟨#[]⟩) [.slice none 0 0,.slice none 0 0,.slice none 0 0,.bool false] 107 _ (Kept.drew (wr.alloc (.cells #[.string ⟨#[]⟩,.slice none 0 0,.slice none 0 0,.slice none 0 0,.bool false] 107))));have J0:=lH ((ja wr (.cells #[.string ⟨#[]⟩,.slice none 0 0,.slice none 0 0,.slice none 0 0,.bool false] 107)).trans (Kept.drew _));skip;refine hK9.out _ _ (HF.out _ J0.out) (fun hHeldA=>?_);clear hK9 K9;try simp only  [Act.put,List.setIfInBounds_toArray,List.set_cons_zero,List.set_cons_succ]
         obtain⟨wa,hwa⟩:∃W,(wr.alloc (.cells #[.string ⟨#[]⟩,.slice none 0 0,.slice none 0 0,.slice none 0 0,.bool false] 107)).drew=W:=⟨_,rfl⟩
         rw[hwa] at J0 HQA ⊢;obtain⟨qa,hqa⟩:∃q,wr.heap.size=q:=⟨_,rfl⟩
         have HQB:=lH (Nat.le_of_eq hqa);rw[hqa] at HQA ⊢;clear hwa hqa;refine wpAnyH_ready  (rs:=[8]) (by kernel_rfl) (by simp) (AllReadyH.cons  (by rw[List.getElem?_toArray];exact rfl) (fun K9 hK9=>?_) AllReadyH.nil);go_simp;refine(HCC.out _ J0.out).mono ?_;rintro e w5 ⟨v9,rfl,hr,kk⟩;have J0:=lH (J0.out.trans kk);obtain⟨nn,hnn⟩:∃q,o.getD Nod.zero=q:=⟨_,rfl⟩
         rw[hnn] at hr;obtain⟨y1,y2,y3,rfl,hat⟩:=hr;have g1:=hat.cap;have g2:=hat.labels;have g3:=hat.taints;obtain⟨b1,d1,rfl,-,-,-⟩:=g1;obtain⟨b2,d2,rfl,-,-,-⟩:=g2;obtain⟨b3,d3,rfl,-,-,-⟩:=g3;unfold zJ;obtain⟨n1,hn1⟩:∃q,nn.cap.length=q:=⟨_,rfl⟩
         obtain⟨n2,hn2⟩:∃q,nn.labels.length=q:=⟨_,rfl⟩
         obtain⟨n3,hn3⟩:∃q,nn.taints.length=q:=⟨_,rfl⟩
         rw[hn1,hn2,hn3];have HQA:=lH (HQA.out.kept kk);clear hat kk hn1 hn2 hn3 hnn;refine hK9.out _ _ (HF.out _ J0.out) (fun hHeld61=>?_);clear hK9 K9;try simp only  [Act.put,List.setIfInBounds_toArray,List.set_cons_zero,List.set_cons_succ]
         refine wpAnyH_take  (i:=9) (v:=?_) (by rw[List.getElem?_toArray];exact rfl) (by kernel_rfl) (by kernel_rfl) (by kernel_rfl) (by exact fun _ _ _ h=>h) (Or.inl ⟨by rfl,(by rintro W ⟨o0,o1,o2,o3,o4,o5,o6,o7,o8,o9,o10,o11,o12⟩;go_simp<;>with_reducible rfl)⟩) (by assumption) ?_;try simp only  [Act.put,List.setIfInBounds_toArray,List.set_cons_zero,List.set_cons_succ]
         refine wpAnyH_take  (i:=10) (v:=?_) (by rw[List.getElem?_toArray];exact rfl) (by kernel_rfl) (by kernel_rfl) (by kernel_rfl) (by exact fun _ _ _ h=>h) (Or.inl ⟨by rfl,(by rintro W ⟨o0,o1,o2,o3,o4,o5,o6,o7,o8,o9,o10,o11,o12⟩;go_simp<;>with_reducible rfl)⟩) (by assumption) ?_;try simp only  [Act.put,List.setIfInBounds_toArray,List.set_cons_zero,List.set_cons_succ]
         refine wpAnyH_take  (i:=11) (v:=?_) (by rw[List.getElem?_toArray];exact rfl) (by kernel_rfl) (by kernel_rfl) (by kernel_rfl) (by exact fun _ _ _ h=>h) (Or.inl ⟨by rfl,(by rintro W ⟨o0,o1,o2,o3,o4,o5,o6,o7,o8,o9,o10,o11,o12⟩;go_simp<;>with_reducible rfl)⟩) (by assumption) ?_;try simp only  [Act.put,List.setIfInBounds_toArray,List.set_cons_zero,List.set_cons_succ]
         have z0:=HQA.out.at_ 0 _ rfl;have z1:=HQA.out.at_ 1 _ rfl;have z2:=HQA.out.at_ 2 _ rfl;have z3:=HQA.out.at_ 3 _ rfl;have z4:=HQA.out.at_ 4 _ rfl;have f0:=HQA.out.free 0;have f1:=HQA.out.free 1;have f2:=HQA.out.free 2;have f3:=HQA.out.free 3;have f4:=HQA.out.free 4;refine wpAnyH_ready  (rs:=[13]) (by kernel_rfl) (by simp) (AllReadyH.cons  (by rw[List.getElem?_toArray];exact rfl) (fun K9 hK9=>?_) AllReadyH.nil);go_simp;obtain⟨WE,hWE⟩:∃W,w5.setCells qa 0 [.string nn.name,.slice b1 n1 d1,.slice b2 n2 d2,.slice b3 n3 d3,.bool nn.cordon]=W:=⟨_,rfl⟩
         have hWE2:(((((w5.setCell ⟨qa,0,none⟩ (.string nn.name)).setCell ⟨qa,1,none⟩ (.slice b1 n1 d1)).setCell ⟨qa,2,none⟩ (.slice b2 n2 d2)).setCell ⟨qa,3,none⟩ (.slice b3 n3 d3)).setCell ⟨qa,4,none⟩ (.bool nn.cordon))=WE:=hWE;try rw[hWE2]
         have JE:=lH (show Kept wr WE by rw[←hWE];exact jg qa _ _ _ _ _ HQB.out J0.out);clear hWE hWE2 z0 f0 z1 f1 z2 f2 z3 f3 z4 f4;refine hK9.out _ _ (HF.out _ JE.out) (fun hHeldS=>?_);clear hK9 K9;try simp only  [Act.put,List.setIfInBounds_toArray,List.set_cons_zero,List.set_cons_succ]
         refine wpAnyH_take  (i:=14) (v:=?_) (by rw[List.getElem?_toArray];exact rfl) (by kernel_rfl) (by kernel_rfl) (by kernel_rfl) (by exact fun _ _ _ h=>h) (Or.inl ⟨by rfl,(by rintro W ⟨o0,o1,o2,o3,o4,o5,o6,o7,o8,o9,o10,o11,o12⟩;go_simp<;>with_reducible rfl)⟩) (by assumption) ?_;try simp only  [Act.put,List.setIfInBounds_toArray,List.set_cons_zero,List.set_cons_succ]
         refine wpAnyH_done (by kernel_rfl) ?_ _;go_wp2;go_meet
         case rel=>exact⟨rfl,JE.out⟩
      case rest =>
       obtain⟨rfl,hkx⟩:=hcut;have KX:=lH (HK.out.trans hkx);clear hkx cq0 cq1 cq2 p0 p1 p2 p3 p4 p5 p6 p7 p8 p9 p10
       cases o with
       | none =>
        have HX:=lH (ja3 HOR.out (show jM nl pl=3 by rw[←HS.out,HD.out,jdN HNO.out (by rw[HFD.out];rfl)]) (by decide));go_wp2;go_ret;exact⟨jb HX.out.symm,HKZ.out.trans KX.out⟩
       | some nod =>
        have HX:=lH (show jM nl (pl.drop (k+1))=jM nl pl by rw[←HS.out,HD.out,jc8 (by rw[HFD.out];rfl)]);go_wp2;go_roundw
        case rel=>exact⟨k+1,by omega,by go_num,HX.out,KX.out⟩
        case measure=>simp[intOf];omega
  · have HPL:=lH (show jM nl pl=0 by rw[←hrest,List.drop_of_length_le (by rw[HL2.out];omega)];rfl);have hkk:¬(k:Int)<(m:Int):=by omega
    clear hrest hK;go_wp2;clear cq0 cq1 cq2;go_loopw [7] (fun i wr=>∃k:Nat,k≤len∧i=.int .i64 k∧zg pl (nl.drop k)=zg pl nl∧Kept Z wr) (fun i _=>len-(intOf i).toNat)
    case atStart=>exact⟨0,Nat.zero_le _,rfl,rfl,HK.out⟩
    case round =>
     obtain⟨k,hk,rfl,hrest,hK⟩:=hrel;have HS:=lH hrest;have HK:=lH hK;have cq0:=(HQ.out.kept hK).at_ 0 _ rfl;have cq1:=(HQ.out.kept hK).at_ 1 _ rfl;have cq2:=(HQ.out.kept hK).at_ 2 _ rfl;by_cases hlt:k<len
     · obtain⟨b9,off,rfl⟩:=HN.out.form.resolve_left (by omega);obtain⟨n9,x1,y1,z1,x2,y2,z2,x3,y3,z3,hn,hd,hb,p0,p1,p2,p3,p4,hat⟩:=(HN.out.kept hK).at_ hlt;have HD:=lH hd;have hkk:(k:Int)<(len:Int):=by omega
       have hk0:¬(k:Int)<0:=by omega
       obtain⟨c,uu,hcu⟩:∃c uu,jS n9.name pl []=(c,uu):=⟨_,_,rfl⟩
       have HCU:=lH hcu;have hus:JH ⟨nl,pl,bl⟩ n9.name=(c,uu):=(jgH (s:=⟨nl,pl,bl⟩) (List.mem_of_getElem? hn)).trans hcu;have HUU:=lH (fun W (kk:Kept wr W)=>jcd (HC0.out.kept (HK.out.trans kk)) n9.name);rw[hus] at HUU;have HCAP:=lH hat.cap;have HF:=lH (show ∀W,Kept wr W→W.cell? ⟨w.heap.size,0,none⟩=some (.slice (some ⟨b9,off,none⟩) len cap)∧W.cell? ⟨w.heap.size,1,none⟩=some (.slice b m cp)∧W.cell? ⟨w.heap.size,2,none⟩=some (.slice d n cb)∧W.cell? ⟨b9,off+k*5,none⟩=some (.string n9.name)∧W.cell? ⟨b9,off+k*5+1,none⟩=some (.slice x1 y1 z1)∧W.cell? ⟨b9,off+k*5+2,none⟩=some (.slice x2 y2 z2)∧W.cell? ⟨b9,off+k*5+3,none⟩=some (.slice x3 y3 z3)∧W.cell? ⟨b9,off+k*5+4,none⟩=some (.bool n9.cordon) from fun W kk=>⟨cell_later kk cq0,cell_later kk cq1,cell_later kk cq2,cell_later kk p0,cell_later kk p1,cell_later kk p2,cell_later kk p3,cell_later kk p4⟩);clear hrest hK hat hn hd hcu hus;go_upto_region 20 with fail
       refine wp_region_held_drew (S:=fun W=>W.cell? ⟨w.heap.size,0,none⟩=some (.slice (some ⟨b9,off,none⟩) len cap)∧W.cell? ⟨w.heap.size,1,none⟩=some (.slice b m cp)∧W.cell? ⟨w.heap.size,2,none⟩=some (.slice d n cb)∧W.cell? ⟨b9,off+k*5,none⟩=some (.string n9.name)∧W.cell? ⟨b9,off+k*5+1,none⟩=some (.slice x1 y1 z1)∧W.cell? ⟨b9,off+k*5+2,none⟩=some (.slice x2 y2 z2)∧W.cell? ⟨b9,off+k*5+3,none⟩=some (.slice x3 y3 z3)∧W.cell? ⟨b9,off+k*5+4,none⟩=some (.bool n9.cordon)) (by kernel_rfl) (HF.out _ (Kept.drew _)) (fun hHeld=>?_);refine wpAnyH_take  (i:=0) (v:=?_) (by rw[List.getElem?_toArray];exact rfl) (by kernel_rfl) (by kernel_rfl) (by kernel_rfl) (by exact fun _ _ _ h=>h) (Or.inl ⟨by rfl,(by rintro W ⟨o0,o1,o2,o3,o4,o5,o6,o7⟩;go_simp<;>with_reducible rfl)⟩) (by assumption) ?_;try simp only  [Act.put,List.setIfInBounds_toArray,List.set_cons_zero,List.set_cons_succ]
       refine wpAnyH_take  (i:=1) (v:=?_) (by rw[List.getElem?_toArray];exact rfl) (by kernel_rfl) (by kernel_rfl) (by kernel_rfl) (by exact fun _ _ _ h=>h) (Or.inl ⟨by rfl,(by rintro W ⟨o0,o1,o2,o3,o4,o5,o6,o7⟩;go_simp<;>with_reducible rfl)⟩) (by assumption) ?_;try simp only  [Act.put,List.setIfInBounds_toArray,List.set_cons_zero,List.set_cons_succ]
       refine wpAnyH_take  (i:=2) (v:=?_) (by rw[List.getElem?_toArray];exact rfl) (by kernel_rfl) (by kernel_rfl) (by kernel_rfl) (by exact fun _ _ _ h=>h) (Or.inl ⟨by rfl,(by rintro W ⟨o0,o1,o2,o3,o4,o5,o6,o7⟩;go_simp<;>with_reducible rfl)⟩) (by assumption) ?_;try simp only  [Act.put,List.setIfInBounds_toArray,List.set_cons_zero,List.set_cons_succ]
       refine wpAnyH_take  (i:=3) (v:=?_) (by rw[List.getElem?_toArray];exact rfl) (by kernel_rfl) (by kernel_rfl) (by kernel_rfl) (by exact fun _ _ _ h=>h) (Or.inl ⟨by rfl,(by rintro W ⟨o0,o1,o2,o3,o4,o5,o6,o7⟩;go_simp<;>with_reducible rfl)⟩) (by assumption) ?_;try simp only  [Act.put,List.setIfInBounds_toArray,List.set_cons_zero,List.set_cons_succ]
       refine wpAnyH_take  (i:=4) (v:=?_) (by rw[List.getElem?_toArray];exact rfl) (by kernel_rfl) (by kernel_rfl) (by kernel_rfl) (by exact fun _ _ _ h=>h) (Or.inl ⟨by rfl,(by rintro W ⟨o0,o1,o2,o3,o4,o5,o6,o7⟩;go_simp<;>with_reducible rfl)⟩) (by assumption) ?_;try simp only  [Act.put,List.setIfInBounds_toArray,List.set_cons_zero,List.set_cons_succ]
       refine wpAnyH_take  (i:=5) (v:=?_) (by rw[List.getElem?_toArray];exact rfl) (by kernel_rfl) (by kernel_rfl) (by kernel_rfl) (by exact fun _ _ _ h=>h) (Or.inl ⟨by rfl,(by rintro W ⟨o0,o1,o2,o3,o4,o5,o6,o7⟩;go_simp<;>with_reducible rfl)⟩) (by assumption) ?_;try simp only  [Act.put,List.setIfInBounds_toArray,List.set_cons_zero,List.set_cons_succ]
       refine wpAnyH_take  (i:=6) (v:=?_) (by rw[List.getElem?_toArray];exact rfl) (by kernel_rfl) (by kernel_rfl) (by kernel_rfl) (by exact fun _ _ _ h=>h) (Or.inl ⟨by rfl,(by rintro W ⟨o0,o1,o2,o3,o4,o5,o6,o7⟩;go_simp<;>with_reducible rfl)⟩) (by assumption) ?_;try simp only  [Act.put,List.setIfInBounds_toArray,List.set_cons_zero,List.set_cons_succ]
       refine wpAnyH_ready  (rs:=[7]) (by kernel_rfl) (by simp) (AllReadyH.cons  (by rw[List.getElem?_toArray];exact rfl) (fun K9 hK9=>?_) AllReadyH.nil);go_simp;refine(HUU.out _ (Kept.drew _)).mono ?_;rintro e w6 ⟨y9,rfl,hy,kk⟩;have J:=lH ((Kept.drew wr).trans kk);have HY:=lH hy;clear hy kk;refine hK9.out _ _ (HF.out _ J.out) (fun hHeld1=>?_);clear hK9 K9;try simp only  [Act.put,List.setIfInBounds_toArray,List.set_cons_zero,List.set_cons_succ]
       refine wpAnyH_take  (i:=8) (v:=?_) (by rw[List.getElem?_toArray];exact rfl) (by kernel_rfl) (by kernel_rfl) (by kernel_rfl) (by exact fun _ _ _ h=>h) (Or.inl ⟨by rfl,(by rintro W ⟨o0,o1,o2,o3,o4,o5,o6,o7⟩;go_simp<;>with_reducible rfl)⟩) (by assumption) ?_;try simp only  [Act.put,List.setIfInBounds_toArray,List.set_cons_zero,List.set_cons_succ]
       refine wpAnyH_take  (i:=9) (v:=?_) (by rw[List.getElem?_toArray];exact rfl) (by kernel_rfl) (by kernel_rfl) (by kernel_rfl) (by exact fun _ _ _ h=>h) (Or.inl ⟨by rfl,(by rintro W ⟨o0,o1,o2,o3,o4,o5,o6,o7⟩;go_simp<;>with_reducible rfl)⟩) (by assumption) ?_;try simp only  [Act.put,List.setIfInBounds_toArray,List.set_cons_zero,List.set_cons_succ]
       refine wpAnyH_take  (i:=10) (v:=?_) (by rw[List.getElem?_toArray];exact rfl) (by kernel_rfl) (by kernel_rfl) (by kernel_rfl) (by exact fun _ _ _ h=>h) (Or.inl ⟨by rfl,(by rintro W ⟨o0,o1,o2,o3,o4,o5,o6,o7⟩;go_simp<;>with_reducible rfl)⟩) (by assumption) ?_;try simp only  [Act.put,List.setIfInBounds_toArray,List.set_cons_zero,List.set_cons_succ]
       refine wpAnyH_take  (i:=11) (v:=?_) (by rw[List.getElem?_toArray];exact rfl) (by kernel_rfl) (by kernel_rfl) (by kernel_rfl) (by exact fun _ _ _ h=>h) (Or.inl ⟨by rfl,(by rintro W ⟨o0,o1,o2,o3,o4,o5,o6,o7⟩;go_simp<;>with_reducible rfl)⟩) (by assumption) ?_;try simp only  [Act.put,List.setIfInBounds_toArray,List.set_cons_zero,List.set_cons_succ]
       refine wpAnyH_take  (i:=12) (v:=?_) (by rw[List.getElem?_toArray];exact rfl) (by kernel_rfl) (by kernel_rfl) (by kernel_rfl) (by exact fun _ _ _ h=>h) (Or.inl ⟨by rfl,(by rintro W ⟨o0,o1,o2,o3,o4,o5,o6,o7⟩;go_simp<;>with_reducible rfl)⟩) (by assumption) ?_;try simp only  [Act.put,List.setIfInBounds_toArray,List.set_cons_zero,List.set_cons_succ]
       refine wpAnyH_done (by kernel_rfl) ?_ _;clear cq0 cq1 cq2 p0 p1 p2 p3 p4;obtain⟨cq0,cq1,cq2,p0,p1,p2,p3,p4⟩:=HF.out _ J.out;by_cases hc:¬c=0
       · have HX:=lH (qu (bl:=bl) HOR.out HPL.out (show zg pl nl=c by rw[←HS.out,HD.out,je3 HCU.out hc]) hc);have hcn:(c != 0)=true:=by simpa using hc
         clear hc;go_wp2;go_ret;exact⟨jb HX.out.symm,HKZ.out.trans (HK.out.trans J.out)⟩
       obtain rfl:c=0:=Decidable.of_not_not hc;clear hc;obtain⟨t,ht⟩:∃t,Vec.jB n9.cap uu=t:=⟨_,rfl⟩
       have HT:=lH ht;have HFT:=lH (jbJ HY.out (HCAP.out.kept J.out) ht);clear ht;go_wp2_with fail
       refine HFT.out.mono ?_;rintro e w7 ⟨rfl,kk⟩;have KW:=lH (HK.out.trans (J.out.trans kk));clear kk cq0 cq1 cq2 p0 p1 p2 p3 p4
       cases t with
       | false =>
        have HX:=lH (qu (bl:=bl) HOR.out HPL.out (show zg pl nl=7 by rw[←HS.out,HD.out,jel HCU.out HT.out]) (by decide));go_wp2;go_ret;exact⟨jb HX.out.symm,HKZ.out.trans KW.out⟩
       | true =>
        have HX:=lH (show zg pl (nl.drop (k+1))=zg pl nl by rw[←HS.out,HD.out,jef HCU.out HT.out]);go_wp2;go_roundw
        case rel=>exact⟨k+1,by omega,by go_num,HX.out,KW.out⟩
        case measure=>simp[intOf];omega
     · have HRO:=lH (show zg pl nl=0 by rw[←hrest,List.drop_of_length_le (by rw[HL1.out];omega)];rfl);have hkk:¬(k:Int)<(len:Int):=by omega
       clear hrest hK;have HX:=lH (jcg (bl:=bl) HOR.out HPL.out HRO.out);go_wp2_with fail
       refine(jfv (HC0.out.kept HK.out)).mono ?_;rintro e w8 ⟨y9,rfl,hy,kk⟩;have KW:=lH (HK.out.trans kk);clear hy kk cq0 cq1 cq2;go_wp2;go_ret;exact⟨jb HX.out.symm,HKZ.out.trans KW.out⟩
end Go.Proofs.YtgfoenfaohhjcaaGreat
