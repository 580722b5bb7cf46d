/- C. -/
import Derived.Test.YtokdjfoalkmhiaaGreatG2
import Derived.Test.YtokdjfoalkmhiaaGreatG4
import Derived.Test.YtokdjfoalkmhiaaGreatG5
import Derived.Shelf.Spec.SlicesInsert
set_option linter.unusedVariables false
set_option maxRecDepth 100000
set_option maxHeartbeats 25600000
namespace Go.Proofs.YtokdjfoalkmhiaaGreat
open Go.RowKit
theorem Zt (n:Pd) (v1 v2 v3 v4:Value) (w:World) (h:ji w v1 v2 v3 v4 n) (hl:JO n) :
 Calls Tryz.prog 83 #[jx n v1 v2 v3 v4] w fun e w'=>∃v,e=.returned v∧Ye w.heap.size w' v n∧Kept w w':=by
 have HH:=lH h;have E1:=lH (show ∀W,Kept w W→Calls Tryz.prog 143 #[v1] W fun e w'=>∃a' m' c',e=.returned (.slice a' m' c')∧Vec.Reads w' (.slice a' m' c') n.need∧(∀b off sp,a'=some ⟨b,off,sp⟩→W.heap.size≤b)∧Kept W w' from fun W k=>by
  obtain⟨x,y,rfl,p,q,r⟩:=h.need;exact jav x _ y n.need W (r.kept k) p q hl.need)
 have E2:=lH (show ∀W,Kept w W→Calls Tryz.prog 144 #[v2] W fun e w'=>∃a' m' c',e=.returned (.slice a' m' c')∧Reads jz w' (.slice a' m' c') n.labels∧(∀b off sp,a'=some ⟨b,off,sp⟩→W.heap.size≤b)∧Kept W w' from fun W k=>by
  obtain⟨x,y,rfl,p,q,r⟩:=h.labels;exact jai x _ y n.labels W (r.kept k) p q hl.labels)
 have E3:=lH (show ∀W,Kept w W→Calls Tryz.prog 147 #[v3] W fun e w'=>∃a' m' c',e=.returned (.slice a' m' c')∧Reads jP w' (.slice a' m' c') n.sel∧(∀b off sp,a'=some ⟨b,off,sp⟩→W.heap.size≤b)∧Kept W w' from fun W k=>by
  obtain⟨x,y,rfl,p,q,r⟩:=h.sel;exact jc6 x _ y n.sel W (r.kept k) p q hl.sel)
 have E4:=lH (show ∀W,Kept w W→Calls Tryz.prog 148 #[v4] W fun e w'=>∃a' m' c',e=.returned (.slice a' m' c')∧Reads ju w' (.slice a' m' c') n.tols∧(∀b off sp,a'=some ⟨b,off,sp⟩→W.heap.size≤b)∧Kept W w' from fun W k=>by
  obtain⟨x,y,rfl,p,q,r⟩:=h.tols;exact jil x _ y n.tols W (r.kept k) p q hl.tols)
 obtain⟨x0,hx0⟩:=eX (n.name)
 obtain⟨x1,hx1⟩:=eX (n.owner)
 obtain⟨x2,hx2⟩:=eX (n.prio)
 obtain⟨x3,hx3⟩:=eX (n.key)
 obtain⟨x4,hx4⟩:=eX (n.most)
 obtain⟨x5,hx5⟩:=eX (n.node)
 obtain⟨x6,hx6⟩:=eX (n.hold)
 unfold jx;rw[hx0,hx1,hx2,hx3,hx4,hx5,hx6];have UR:=lH (And.intro hx0 (And.intro hx1 (And.intro hx2 (And.intro hx3 (And.intro hx4 (And.intro hx5 hx6))))));clear h hl hx0 hx1 hx2 hx3 hx4 hx5 hx6;obtain⟨Z,hZ⟩:=eX ((w.alloc (.cells #[.string x0,.string x1,.int .i64 x2,v1,v2,v3,v4,.string x3,.int .i64 x4,.string x5,.bool x6] 44)).alloc (.cells #[.string ⟨#[]⟩,.string ⟨#[]⟩,.int .i64 0,.slice none 0 0,.slice none 0 0,.slice none 0 0,.slice none 0 0,.string ⟨#[]⟩,.int .i64 0,.string ⟨#[]⟩,.bool false] 44))
 have hkz:Kept w Z:=by rw[←hZ];exact jn _ _ _
 have hzs:Z.heap.size=w.heap.size+2:=by rw[←hZ];simp
 have Q0:=lH (show jf w.heap.size [.string x0,.string x1,.int .i64 x2,v1,v2,v3,v4,.string x3,.int .i64 x4,.string x5,.bool x6] Z from jc w (.string x0) [.string x1,.int .i64 x2,v1,v2,v3,v4,.string x3,.int .i64 x4,.string x5,.bool x6] 44 Z (by rw[←hZ];exact ja _ _));have Q1:=lH (show jf (w.heap.size+1) [.string ⟨#[]⟩,.string ⟨#[]⟩,.int .i64 0,.slice none 0 0,.slice none 0 0,.slice none 0 0,.slice none 0 0,.string ⟨#[]⟩,.int .i64 0,.string ⟨#[]⟩,.bool false] Z by
  have:=jc (w.alloc (.cells #[.string x0,.string x1,.int .i64 x2,v1,v2,v3,v4,.string x3,.int .i64 x4,.string x5,.bool x6] 44)) (.string ⟨#[]⟩) [.string ⟨#[]⟩,.int .i64 0,.slice none 0 0,.slice none 0 0,.slice none 0 0,.slice none 0 0,.string ⟨#[]⟩,.int .i64 0,.string ⟨#[]⟩,.bool false] 44 Z (by rw[hZ];exact Kept.refl _);rw[World.size_alloc] at this;exact this)
 have K:=lH hkz;have HZ:=lH (show w.heap.size+2≤Z.heap.size by omega);clear hkz hzs;go_enter Tryz.func83,Tryz.ntmps83;have y:=Q0.out.at_ 3 _ rfl;go_wp2_with fail
 try rw[hZ]
 clear hZ;clear y;refine(E1.out _ K.out).mono ?_;rintro e w1 ⟨b1,n1,d1,rfl,rr,gg,k⟩;obtain⟨G1,R1,K,HZ,Q0,Q1⟩:=lH6 (show j4 (w.heap.size+2) b1 from fun b o s e=>Nat.le_trans HZ.out (gg b o s e)) rr (K.out.trans k) (Nat.le_trans HZ.out k.size) (Q0.out.kept k) (Q1.out.kept k);clear rr gg k;have y:=Q0.out.at_ 3 _ rfl;have x:=Q0.out.free 3;obtain⟨Q0,Q1,R1,K,HZ⟩:=lH5 (show jf w.heap.size [.string x0,.string x1,.int .i64 x2,.slice b1 n1 d1,v2,v3,v4,.string x3,.int .i64 x4,.string x5,.bool x6] (w1.setCell ⟨w.heap.size,3,none⟩ (.slice b1 n1 d1)) from Q0.out.set (j:=3) (by simp)) (Q1.out.other (p:=w.heap.size) (j:=3) (u:=.slice b1 n1 d1) (by omega)) (Zm (p:=w.heap.size) (j:=3) (u:=.slice b1 n1 d1) R1.out G1.out (by omega)) (show Kept w (w1.setCell ⟨w.heap.size,3,none⟩ (.slice b1 n1 d1)) from K.out.setCell (p:=⟨w.heap.size,3,none⟩) (Nat.le_refl _) _) (show w.heap.size+2≤(w1.setCell ⟨w.heap.size,3,none⟩ (.slice b1 n1 d1)).heap.size by simpa [World.setCell] using HZ.out);have y9:=Q0.out.at_ 4 _ rfl;go_wp2_with fail
 clear y x y9;obtain⟨W1,hW1⟩:=eX (w1.setCell ⟨w.heap.size,3,none⟩ (.slice b1 n1 d1))
 rw[hW1] at Q0 Q1 R1 K HZ ⊢;clear hW1;refine(E2.out _ K.out).mono ?_;rintro e w2 ⟨b2,n2,d2,rfl,rr,gg,k⟩;obtain⟨G2,R2,K,HZ,Q0,Q1,R1⟩:=lH7 (show j4 (w.heap.size+2) b2 from fun b o s e=>Nat.le_trans HZ.out (gg b o s e)) rr (K.out.trans k) (Nat.le_trans HZ.out k.size) (Q0.out.kept k) (Q1.out.kept k) (R1.out.kept k);clear rr gg k;have y:=Q0.out.at_ 4 _ rfl;have x:=Q0.out.free 4;obtain⟨Q0,Q1,R1,R2,K,HZ⟩:=lH6 (show jf w.heap.size [.string x0,.string x1,.int .i64 x2,.slice b1 n1 d1,.slice b2 n2 d2,v3,v4,.string x3,.int .i64 x4,.string x5,.bool x6] (w2.setCell ⟨w.heap.size,4,none⟩ (.slice b2 n2 d2)) from Q0.out.set (j:=4) (by simp)) (Q1.out.other (p:=w.heap.size) (j:=4) (u:=.slice b2 n2 d2) (by omega)) (Zm (p:=w.heap.size) (j:=4) (u:=.slice b2 n2 d2) R1.out G1.out (by omega)) (JT (p:=w.heap.size) (j:=4) (u:=.slice b2 n2 d2) R2.out G2.out (by omega)) (show Kept w (w2.setCell ⟨w.heap.size,4,none⟩ (.slice b2 n2 d2)) from K.out.setCell (p:=⟨w.heap.size,4,none⟩) (Nat.le_refl _) _) (show w.heap.size+2≤(w2.setCell ⟨w.heap.size,4,none⟩ (.slice b2 n2 d2)).heap.size by simpa [World.setCell] using HZ.out);have y9:=Q0.out.at_ 5 _ rfl;go_wp2_with fail
 clear y x y9;obtain⟨W2,hW2⟩:=eX (w2.setCell ⟨w.heap.size,4,none⟩ (.slice b2 n2 d2))
 rw[hW2] at Q0 Q1 R1 R2 K HZ ⊢;clear hW2;refine(E3.out _ K.out).mono ?_;rintro e w3 ⟨b3,n3,d3,rfl,rr,gg,k⟩;obtain⟨G3,R3,K,HZ,Q0,Q1,R1,R2⟩:=lH8 (show j4 (w.heap.size+2) b3 from fun b o s e=>Nat.le_trans HZ.out (gg b o s e)) rr (K.out.trans k) (Nat.le_trans HZ.out k.size) (Q0.out.kept k) (Q1.out.kept k) (R1.out.kept k) (R2.out.kept k);clear rr gg k;have y:=Q0.out.at_ 5 _ rfl;have x:=Q0.out.free 5;obtain⟨Q0,Q1,R1,R2,R3,K,HZ⟩:=lH7 (show jf w.heap.size [.string x0,.string x1,.int .i64 x2,.slice b1 n1 d1,.slice b2 n2 d2,.slice b3 n3 d3,v4,.string x3,.int .i64 x4,.string x5,.bool x6] (w3.setCell ⟨w.heap.size,5,none⟩ (.slice b3 n3 d3)) from Q0.out.set (j:=5) (by simp)) (Q1.out.other (p:=w.heap.size) (j:=5) (u:=.slice b3 n3 d3) (by omega)) (Zm (p:=w.heap.size) (j:=5) (u:=.slice b3 n3 d3) R1.out G1.out (by omega)) (JT (p:=w.heap.size) (j:=5) (u:=.slice b3 n3 d3) R2.out G2.out (by omega)) (JT (p:=w.heap.size) (j:=5) (u:=.slice b3 n3 d3) R3.out G3.out (by omega)) (show Kept w (w3.setCell ⟨w.heap.size,5,none⟩ (.slice b3 n3 d3)) from K.out.setCell (p:=⟨w.heap.size,5,none⟩) (Nat.le_refl _) _) (show w.heap.size+2≤(w3.setCell ⟨w.heap.size,5,none⟩ (.slice b3 n3 d3)).heap.size by simpa [World.setCell] using HZ.out);have y9:=Q0.out.at_ 6 _ rfl;go_wp2_with fail
 clear y x y9;obtain⟨W3,hW3⟩:=eX (w3.setCell ⟨w.heap.size,5,none⟩ (.slice b3 n3 d3))
 rw[hW3] at Q0 Q1 R1 R2 R3 K HZ ⊢;clear hW3;refine(E4.out _ K.out).mono ?_;rintro e w4 ⟨b4,n4,d4,rfl,rr,gg,k⟩;obtain⟨G4,R4,K,HZ,Q0,Q1,R1,R2⟩:=lH8 (show j4 (w.heap.size+2) b4 from fun b o s e=>Nat.le_trans HZ.out (gg b o s e)) rr (K.out.trans k) (Nat.le_trans HZ.out k.size) (Q0.out.kept k) (Q1.out.kept k) (R1.out.kept k) (R2.out.kept k);have R3:=lH (R3.out.kept k);clear rr gg k;have y:=Q0.out.at_ 6 _ rfl;have x:=Q0.out.free 6;obtain⟨Q0,Q1,R1,R2,R3,R4,K,HZ⟩:=lH8 (show jf w.heap.size [.string x0,.string x1,.int .i64 x2,.slice b1 n1 d1,.slice b2 n2 d2,.slice b3 n3 d3,.slice b4 n4 d4,.string x3,.int .i64 x4,.string x5,.bool x6] (w4.setCell ⟨w.heap.size,6,none⟩ (.slice b4 n4 d4)) from Q0.out.set (j:=6) (by simp)) (Q1.out.other (p:=w.heap.size) (j:=6) (u:=.slice b4 n4 d4) (by omega)) (Zm (p:=w.heap.size) (j:=6) (u:=.slice b4 n4 d4) R1.out G1.out (by omega)) (JT (p:=w.heap.size) (j:=6) (u:=.slice b4 n4 d4) R2.out G2.out (by omega)) (JT (p:=w.heap.size) (j:=6) (u:=.slice b4 n4 d4) R3.out G3.out (by omega)) (JT (p:=w.heap.size) (j:=6) (u:=.slice b4 n4 d4) R4.out G4.out (by omega)) (show Kept w (w4.setCell ⟨w.heap.size,6,none⟩ (.slice b4 n4 d4)) from K.out.setCell (p:=⟨w.heap.size,6,none⟩) (Nat.le_refl _) _) (show w.heap.size+2≤(w4.setCell ⟨w.heap.size,6,none⟩ (.slice b4 n4 d4)).heap.size by simpa [World.setCell] using HZ.out);obtain⟨y0,y1,y2,y3,y4,y5,y6,y7,y8,y9,y10⟩:=Q0.out.at11;obtain⟨z0,z1,z2,z3,z4,z5,z6,z7,z8,z9,z10⟩:=Q1.out.at11;have f0:=Q1.out.free 0;have f1:=Q1.out.free 1;have f2:=Q1.out.free 2;have f3:=Q1.out.free 3;have f4:=Q1.out.free 4;have f5:=Q1.out.free 5;have f6:=Q1.out.free 6;have f7:=Q1.out.free 7;have f8:=Q1.out.free 8;have f9:=Q1.out.free 9;have f10:=Q1.out.free 10;have P:=lH (j5 (vs:=[.string x0,.string x1,.int .i64 x2,.slice b1 n1 d1,.slice b2 n2 d2,.slice b3 n3 d3,.slice b4 n4 d4,.string x3,.int .i64 x4,.string x5,.bool x6]) Q1.out rfl);go_wp2;obtain⟨WE,hWE⟩:=eX ((w4.setCell ⟨w.heap.size,6,none⟩ (.slice b4 n4 d4)).setCells (w.heap.size+1) 0 [.string x0,.string x1,.int .i64 x2,.slice b1 n1 d1,.slice b2 n2 d2,.slice b3 n3 d3,.slice b4 n4 d4,.string x3,.int .i64 x4,.string x5,.bool x6])
 have hWE2:((((((((((((w4.setCell ⟨w.heap.size,6,none⟩ (.slice b4 n4 d4)).setCell ⟨w.heap.size+1,0,none⟩ (.string x0)).setCell ⟨w.heap.size+1,1,none⟩ (.string x1)).setCell ⟨w.heap.size+1,2,none⟩ (.int .i64 x2)).setCell ⟨w.heap.size+1,3,none⟩ (.slice b1 n1 d1)).setCell ⟨w.heap.size+1,4,none⟩ (.slice b2 n2 d2)).setCell ⟨w.heap.size+1,5,none⟩ (.slice b3 n3 d3)).setCell ⟨w.heap.size+1,6,none⟩ (.slice b4 n4 d4)).setCell ⟨w.heap.size+1,7,none⟩ (.string x3)).setCell ⟨w.heap.size+1,8,none⟩ (.int .i64 x4)).setCell ⟨w.heap.size+1,9,none⟩ (.string x5)).setCell ⟨w.heap.size+1,10,none⟩ (.bool x6))=WE:=hWE;rw[hWE] at P;rw[hWE2];clear hWE hWE2;obtain⟨PC,hsz,hbl,hkp⟩:=P.out;refine bodyPost_ret (by simp[results,Tryz.results83,go_sem,PC.at_ 0 _ rfl,PC.at_ 1 _ rfl,PC.at_ 2 _ rfl,PC.at_ 3 _ rfl,PC.at_ 4 _ rfl,PC.at_ 5 _ rfl,PC.at_ 6 _ rfl,PC.at_ 7 _ rfl,PC.at_ 8 _ rfl,PC.at_ 9 _ rfl,PC.at_ 10 _ rfl];try rfl) rfl ?_;obtain⟨hx0,hx1,hx2,hx3,hx4,hx5,hx6⟩:=UR.out;exact⟨_,rfl,⟨b1,n1,d1,b2,n2,d2,b3,n3,d3,b4,n4,d4,by unfold jx;rw[hx0,hx1,hx2,hx3,hx4,hx5,hx6],(show ji _ (.slice b1 n1 d1) (.slice b2 n2 d2) (.slice b3 n3 d3) (.slice b4 n4 d4) n from ji.far (B:=w.heap.size+2) ⟨HH.out.name,HH.out.owner,HH.out.key,HH.out.node,HH.out.prio,HH.out.most,R1.out,R2.out,R3.out,R4.out⟩ hsz (fun b hb=>hbl b (by omega)) G1.out G2.out G3.out G4.out),G1.out.less (by omega),G2.out.less (by omega),G3.out.less (by omega),G4.out.less (by omega)⟩,hkp _ _ (by omega) K.out⟩
theorem jeA (n:Nod) (a1 a2 a3:Option Addr) (m1 c1 m2 c2 m3 c3:Nat) (w:World) (h:zr w (.slice a1 m1 c1) (.slice a2 m2 c2) (.slice a3 m3 c3) n) (hl:zP n) :
 Calls Tryz.prog 81 #[.agg #[.string n.name,.slice a1 m1 c1,.slice a2 m2 c2,.slice a3 m3 c3,.bool n.cordon]] w fun e w'=>∃v,e=.returned v∧JM w.heap.size w' v n∧Kept w w':=by
 have hsz:=h.size;obtain⟨x1,y1,e1,p1,q1,r1⟩:=h.cap
 cases e1
 obtain⟨x2,y2,e2,p2,q2,r2⟩:=h.labels
 cases e2
 obtain⟨x3,y3,e3,p3,q3,r3⟩:=h.taints
 cases e3
 obtain⟨H1,H2,H3⟩:=lH3 (fun W (k:Kept w W)=>jav a1 n.cap.length c1 n.cap W (r1.kept k) p1 q1 hl.cap) (fun W (k:Kept w W)=>jai a2 n.labels.length c2 n.labels W (r2.kept k) p2 q2 hl.labels) (fun W (k:Kept w W)=>jcY a3 n.taints.length c3 n.taints W (r3.kept k) p3 q3 hl.taints);obtain⟨k1,hk1⟩:=eX (n.cap.length)
 obtain⟨k2,hk2⟩:=eX (n.labels.length)
 obtain⟨k3,hk3⟩:=eX (n.taints.length)
 obtain⟨x,hx⟩:=eX (n.name)
 obtain⟨cd,hcd⟩:=eX (n.cordon)
 have hxs:x.size≤maxLen:=by rw[←hx];exact hsz
 rw[hk1] at H1;rw[hk2] at H2;rw[hk3] at H3;rw[hk1,hk2,hk3,hx,hcd];have HX:=lH hx;have Ra:=lH hcd;clear h hl p1 q1 r1 p2 q2 r2 p3 q3 r3 hk1 hk2 hk3 hx hcd hsz;obtain⟨Z,hZ⟩:=eX ((w.alloc (.cells #[.string x,.slice a1 k1 c1,.slice a2 k2 c2,.slice a3 k3 c3,.bool cd] 57)).alloc (.cells #[.string ⟨#[]⟩,.slice none 0 0,.slice none 0 0,.slice none 0 0,.bool false] 57))
 have hkz:Kept w Z:=by rw[←hZ];exact jn _ _ _
 have hzs:Z.heap.size=w.heap.size+2:=by rw[←hZ];simp
 have Q0:=lH (show zA w.heap.size (.string x) (.slice a1 k1 c1) (.slice a2 k2 c2) (.slice a3 k3 c3) (.bool cd) Z from Xl w _ _ _ _ _ 57 Z (by rw[←hZ];exact ja _ _));have Q1:=lH (show zA (w.heap.size+1) (.string ⟨#[]⟩) (.slice none 0 0) (.slice none 0 0) (.slice none 0 0) (.bool false) Z by
  have:=Xl (w.alloc (.cells #[.string x,.slice a1 k1 c1,.slice a2 k2 c2,.slice a3 k3 c3,.bool cd] 57)) (.string ⟨#[]⟩) (.slice none 0 0) (.slice none 0 0) (.slice none 0 0) (.bool false) 57 Z (by rw[hZ];exact Kept.refl _);rw[World.size_alloc] at this;exact this)
 have K:=lH hkz;have hs0:w.heap.size+2≤Z.heap.size:=by omega
 clear hkz hzs;obtain⟨⟨y0,y1,y2,y3,y4⟩,x0,x1,x2,x3,x4⟩:=Q0.out;go_enter Tryz.func81,Tryz.ntmps81;go_wp2_with fail
 try rw[hZ]
 clear hZ;clear y0 y1 y2 y3 y4 x0 x1 x2 x3 x4;refine(H1.out _ K.out).mono ?_;rintro e w1 ⟨b1,n1,d1,rfl,rr,gg,k⟩;obtain⟨Ut,RA,K⟩:=lH3 (show ∀b off sp,b1=some ⟨b,off,sp⟩→w.heap.size+2≤b from fun b o s e=>by have:=gg b o s e;omega) rr (K.out.trans k);have hs1:w.heap.size+2≤w1.heap.size:=by have:=k.size;omega
 have Q0:=lH (Q0.out.kept k);have Q1:=lH (Q1.out.kept k);clear rr gg k hs0;obtain⟨⟨y0,y1,y2,y3,y4⟩,x0,x1,x2,x3,x4⟩:=Q0.out;obtain⟨Q0,Q1,RA,K⟩:=lH4 (Q0.out.set1 (.slice b1 n1 d1)) (Q1.out.other (p:=w.heap.size) (j:=1) (u:=.slice b1 n1 d1) (by omega)) (Zm (p:=w.heap.size) (j:=1) (u:=.slice b1 n1 d1) RA.out Ut.out (by omega)) (show Kept w (w1.setCell ⟨w.heap.size,1,none⟩ (.slice b1 n1 d1)) from K.out.setCell (p:=⟨w.heap.size,1,none⟩) (Nat.le_refl _) _);have hs0:w.heap.size+2≤(w1.setCell ⟨w.heap.size,1,none⟩ (.slice b1 n1 d1)).heap.size:=by simpa [World.setCell] using hs1
 clear hs1;obtain⟨⟨z0,z1,z2,z3,z4⟩,-⟩:=Q0.out;go_wp2_with fail
 clear y0 y1 y2 y3 y4 x0 x1 x2 x3 x4 z0 z1 z2 z3 z4;obtain⟨W1,hW1⟩:=eX (w1.setCell ⟨w.heap.size,1,none⟩ (.slice b1 n1 d1))
 rw[hW1] at Q0 Q1 RA K hs0 ⊢;clear hW1;refine(H2.out _ K.out).mono ?_;rintro e w2 ⟨b2,n2,d2,rfl,rr,gg,k⟩;obtain⟨Vh,RB,K⟩:=lH3 (show ∀b off sp,b2=some ⟨b,off,sp⟩→w.heap.size+2≤b from fun b o s e=>by have:=gg b o s e;omega) rr (K.out.trans k);have hs1:w.heap.size+2≤w2.heap.size:=by have:=k.size;omega
 obtain⟨Q0,Q1,RA⟩:=lH3 (Q0.out.kept k) (Q1.out.kept k) (RA.out.kept k);clear rr gg k hs0;obtain⟨⟨y0,y1,y2,y3,y4⟩,x0,x1,x2,x3,x4⟩:=Q0.out;obtain⟨Q0,Q1,RA,RB,K⟩:=lH5 (Q0.out.set2 (.slice b2 n2 d2)) (Q1.out.other (p:=w.heap.size) (j:=2) (u:=.slice b2 n2 d2) (by omega)) (Zm (p:=w.heap.size) (j:=2) (u:=.slice b2 n2 d2) RA.out Ut.out (by omega)) (JT (p:=w.heap.size) (j:=2) (u:=.slice b2 n2 d2) RB.out Vh.out (by omega)) (show Kept w (w2.setCell ⟨w.heap.size,2,none⟩ (.slice b2 n2 d2)) from K.out.setCell (p:=⟨w.heap.size,2,none⟩) (Nat.le_refl _) _);have hs0:w.heap.size+2≤(w2.setCell ⟨w.heap.size,2,none⟩ (.slice b2 n2 d2)).heap.size:=by simpa [World.setCell] using hs1
 clear hs1;obtain⟨⟨z0,z1,z2,z3,z4⟩,-⟩:=Q0.out;go_wp2_with fail
 clear y0 y1 y2 y3 y4 x0 x1 x2 x3 x4 z0 z1 z2 z3 z4;obtain⟨W2,hW2⟩:=eX (w2.setCell ⟨w.heap.size,2,none⟩ (.slice b2 n2 d2))
 rw[hW2] at Q0 Q1 RA RB K hs0 ⊢;clear hW2;refine(H3.out _ K.out).mono ?_;rintro e w3 ⟨b3,n3,d3,rfl,rr,gg,k⟩;obtain⟨U6,RC,K⟩:=lH3 (show ∀b off sp,b3=some ⟨b,off,sp⟩→w.heap.size+2≤b from fun b o s e=>by have:=gg b o s e;omega) rr (K.out.trans k);have hs1:w.heap.size+2≤w3.heap.size:=by have:=k.size;omega
 obtain⟨Q0,Q1,RA,RB⟩:=lH4 (Q0.out.kept k) (Q1.out.kept k) (RA.out.kept k) (RB.out.kept k);clear rr gg k hs0;obtain⟨⟨y0,y1,y2,y3,y4⟩,x0,x1,x2,x3,x4⟩:=Q0.out;obtain⟨Q0,Q1,RA,RB,RC,K⟩:=lH6 (Q0.out.set3 (.slice b3 n3 d3)) (Q1.out.other (p:=w.heap.size) (j:=3) (u:=.slice b3 n3 d3) (by omega)) (Zm (p:=w.heap.size) (j:=3) (u:=.slice b3 n3 d3) RA.out Ut.out (by omega)) (JT (p:=w.heap.size) (j:=3) (u:=.slice b3 n3 d3) RB.out Vh.out (by omega)) (JT (p:=w.heap.size) (j:=3) (u:=.slice b3 n3 d3) RC.out U6.out (by omega)) (show Kept w (w3.setCell ⟨w.heap.size,3,none⟩ (.slice b3 n3 d3)) from K.out.setCell (p:=⟨w.heap.size,3,none⟩) (Nat.le_refl _) _);have hs0:w.heap.size+2≤(w3.setCell ⟨w.heap.size,3,none⟩ (.slice b3 n3 d3)).heap.size:=by simpa [World.setCell] using hs1
 clear hs1;obtain⟨⟨z0,z1,z2,z3,z4⟩,-⟩:=Q0.out;obtain⟨⟨g0,g1,g2,g3,g4⟩,f0,f1,f2,f3,f4⟩:=Q1.out;go_wp2;have P:=lH (ZC ⟨g0,g1,g2,g3,g4⟩ x b1 b2 b3 n1 d1 n2 d2 n3 d3 cd);clear y0 y1 y2 y3 y4 x0 x1 x2 x3 x4 z0 z1 z2 z3 z4 g0 g1 g2 g3 g4 f0 f1 f2 f3 f4;obtain⟨W3,hW3⟩:=eX (w3.setCell ⟨w.heap.size,3,none⟩ (.slice b3 n3 d3))
 rw[hW3] at RA RB RC K hs0 P ⊢;obtain⟨WE,hWE⟩:=eX ((((((W3.setCell ⟨w.heap.size+1,0,none⟩ (.string x)).setCell ⟨w.heap.size+1,1,none⟩ (.slice b1 n1 d1)).setCell ⟨w.heap.size+1,2,none⟩ (.slice b2 n2 d2)).setCell ⟨w.heap.size+1,3,none⟩ (.slice b3 n3 d3)).setCell ⟨w.heap.size+1,4,none⟩ (.bool cd)))
 rw[hWE] at P ⊢;clear hWE hW3;obtain⟨⟨e0,e1,e2,e3,e4⟩,hsz,hbl,hkp⟩:=P.out;refine bodyPost_ret (by simp[results,Tryz.results81,go_sem,e0,e1,e2,e3,e4];try rfl) rfl ?_;exact⟨_,rfl,⟨b1,n1,d1,b2,n2,d2,b3,n3,d3,by rw[HX.out,Ra.out],by rw[HX.out];exact hxs,RA.out.far hsz (fun b o s e=>hbl b (by have:=Ut.out b o s e;omega)),RB.out.far hsz (fun b o s e=>hbl b (by have:=Vh.out b o s e;omega)),RC.out.far hsz (fun b o s e=>hbl b (by have:=U6.out b o s e;omega)),fun b o s e=>Nat.le_trans (Nat.le_add_right _ 2) (Ut.out b o s e),fun b o s e=>Nat.le_trans (Nat.le_add_right _ 2) (Vh.out b o s e),fun b o s e=>Nat.le_trans (Nat.le_add_right _ 2) (U6.out b o s e)⟩,hkp _ _ (Nat.le_succ _) K.out⟩
theorem jcy (k:Bd) (a1:Option Addr) (m1 c1:Nat) (w:World) (h:zt w (.slice a1 m1 c1) k) (hl:k.sel.length≤1000000) :
 Calls Tryz.prog 85 #[JY k (.slice a1 m1 c1)] w fun e w'=>∃v,e=.returned v∧Yh w.heap.size w' v k∧Kept w w':=by
 obtain⟨x,s,m⟩:=k;have HH:=lH h;have E1:=lH (show ∀W,Kept w W→Calls Tryz.prog 147 #[.slice a1 m1 c1] W fun e w'=>∃a' m' c',e=.returned (.slice a' m' c')∧Reads jP w' (.slice a' m' c') s∧(∀b off sp,a'=some ⟨b,off,sp⟩→W.heap.size≤b)∧Kept W w' from fun W k=>by
  obtain⟨p,y,e,q1,q2,r⟩:=h.sel
  cases e
  exact jc6 a1 _ c1 s W (r.kept k) q1 q2 hl)
 obtain⟨Z,hZ⟩:=eX ((w.alloc (.cells #[.string x,.slice a1 m1 c1,.int .i64 m] 92)).alloc (.cells #[.string ⟨#[]⟩,.slice none 0 0,.int .i64 0] 92))
 have hkz:Kept w Z:=by rw[←hZ];exact jn _ _ _
 have hzs:Z.heap.size=w.heap.size+2:=by rw[←hZ];simp
 have Q0:=lH (show jf w.heap.size [.string x,.slice a1 m1 c1,.int .i64 m] Z from jc w (.string x) [.slice a1 m1 c1,.int .i64 m] 92 Z (by rw[←hZ];exact ja _ _));have Q1:=lH (show jf (w.heap.size+1) [.string ⟨#[]⟩,.slice none 0 0,.int .i64 0] Z by
  have:=jc (w.alloc (.cells #[.string x,.slice a1 m1 c1,.int .i64 m] 92)) (.string ⟨#[]⟩) [.slice none 0 0,.int .i64 0] 92 Z (by rw[hZ];exact Kept.refl _);rw[World.size_alloc] at this;exact this)
 have K:=lH hkz;have HZ:=lH (show w.heap.size+2≤Z.heap.size by omega);clear hkz hzs h hl;unfold JY;dsimp only;go_enter Tryz.func85,Tryz.ntmps85;have y:=Q0.out.at_ 1 _ rfl;go_wp2_with fail
 try rw[hZ]
 clear hZ;clear y;refine(E1.out _ K.out).mono ?_;rintro e w1 ⟨b1,n1,d1,rfl,rr,gg,k⟩;obtain⟨G1,R1,K,HZ,Q0,Q1⟩:=lH6 (show j4 (w.heap.size+2) b1 from fun b o s e=>Nat.le_trans HZ.out (gg b o s e)) rr (K.out.trans k) (Nat.le_trans HZ.out k.size) (Q0.out.kept k) (Q1.out.kept k);clear rr gg k;have y:=Q0.out.at_ 1 _ rfl;have xf:=Q0.out.free 1;obtain⟨Q0,Q1,R1,K⟩:=lH4 (show jf w.heap.size [.string x,.slice b1 n1 d1,.int .i64 m] (w1.setCell ⟨w.heap.size,1,none⟩ (.slice b1 n1 d1)) from Q0.out.set (j:=1) (by simp)) (Q1.out.other (p:=w.heap.size) (j:=1) (u:=.slice b1 n1 d1) (by omega)) (JT (p:=w.heap.size) (j:=1) (u:=.slice b1 n1 d1) R1.out G1.out (by omega)) (show Kept w (w1.setCell ⟨w.heap.size,1,none⟩ (.slice b1 n1 d1)) from K.out.setCell (p:=⟨w.heap.size,1,none⟩) (Nat.le_refl _) _);obtain⟨y0,y1,y2⟩:=Q0.out.at3;obtain⟨g0,g1,g2⟩:=Q1.out.at3;have f0:=Q1.out.free 0;have f1:=Q1.out.free 1;have f2:=Q1.out.free 2;have P:=lH (j5 (vs:=[.string x,.slice b1 n1 d1,.int .i64 m]) Q1.out rfl);go_wp2;obtain⟨WE,hWE⟩:=eX ((w1.setCell ⟨w.heap.size,1,none⟩ (.slice b1 n1 d1)).setCells (w.heap.size+1) 0 [.string x,.slice b1 n1 d1,.int .i64 m])
 have hWE2:((((w1.setCell ⟨w.heap.size,1,none⟩ (.slice b1 n1 d1)).setCell ⟨(w.heap.size+1),0,none⟩ (.string x)).setCell ⟨(w.heap.size+1),1,none⟩ (.slice b1 n1 d1)).setCell ⟨(w.heap.size+1),2,none⟩ (.int .i64 m))=WE:=hWE;rw[hWE] at P;try rw[hWE2]
 clear hWE hWE2;obtain⟨PC,hsz,hbl,hkp⟩:=P.out;refine bodyPost_ret (by simp[results,Tryz.results85,go_sem,PC.at_ 0 _ rfl,PC.at_ 1 _ rfl,PC.at_ 2 _ rfl];try rfl) rfl ?_;exact⟨_,rfl,⟨b1,n1,d1,rfl,⟨HH.out.name,HH.out.floor,R1.out.far hsz (fun b o s e=>hbl b (by have:=G1.out b o s e;omega))⟩,G1.out.less (by omega)⟩,hkp _ _ (by omega) K.out⟩
theorem jhy {w:World} {a:Option Addr} {len:Nat} {l:List Nod} (h:jo w a len l):∃lx:List NX,(lx.map fun z=>z.1)=l∧jk zH w a len lx∧∀z ∈ lx,At3 w z:=by
 obtain⟨h0,h1,h2⟩:=h;rcases h2 with h2 | ⟨b,off,rfl,hb,hc⟩
 · have:l=[]:=List.eq_nil_of_length_eq_zero (by omega);subst this;subst h2;exact⟨[],rfl,jk.nil w a,fun z hz=>absurd hz (by simp)⟩
 · have step:∀m,m≤l.length→∃lx:List NX,(lx.map fun z=>z.1)=l.take m∧(∀i x j u,lx[i]?=some x→(zH.cs x)[j]?=some u→w.cell? ⟨b,off+i*5+j,none⟩=some u)∧∀z ∈ lx,At3 w z:=by
    intro m
    induction m with
    | zero=>exact fun _=>⟨[],rfl,fun i x j u hi=>by simp at hi,fun z hz=>absurd hz (by simp)⟩
    | succ m ih =>
     intro hm;obtain⟨lx,e,hcell,hat⟩:=ih (by omega);obtain⟨n,hn⟩:∃n,l[m]?=some n:=⟨_,List.getElem?_eq_getElem (by omega)⟩
     obtain⟨a1,m1,c1,a2,m2,c2,a3,m3,c3,p0,p1,p2,p3,p4,hp⟩:=hc m n hn;have hlen:lx.length=m:=by
      have:=congrArg List.length e;rw[List.length_map,List.length_take] at this;omega
     refine⟨lx++[(n,(a1,m1,c1),(a2,m2,c2),(a3,m3,c3))],?_,?_,?_⟩
     · rw[List.map_append,e,zI hn];rfl
     · intro i x j u hi hj;by_cases him:i<m
       · rw[List.getElem?_append_left (by omega)] at hi;exact hcell i x j u hi hj
       · have hi2:=(List.getElem?_eq_some_iff.1 hi).1;rw[List.length_append,List.length_singleton] at hi2;obtain rfl:i=m:=by omega
         rw[List.getElem?_append_right (by omega),hlen,Nat.sub_self] at hi;obtain rfl:=Option.some.inj hi
         match j,hj with
         | 0,hj=>obtain rfl:=Option.some.inj hj;exact p0
         | 1,hj=>obtain rfl:=Option.some.inj hj;exact p1
         | 2,hj=>obtain rfl:=Option.some.inj hj;exact p2
         | 3,hj=>obtain rfl:=Option.some.inj hj;exact p3
         | 4,hj=>obtain rfl:=Option.some.inj hj;exact p4
         | j+5,hj=>simp[zH] at hj
     · intro z hz;rcases List.mem_append.1 hz with hz | hz
       · exact hat z hz
       · obtain rfl:z=_:=List.mem_singleton.1 hz;exact hp
   obtain⟨lx,e,hcell,hat⟩:=step l.length (Nat.le_refl _);rw[List.take_of_length_le (Nat.le_refl _)] at e;have hl:lx.length=len:=by rw[←h0,←e,List.length_map]
   exact⟨lx,e,⟨hl,h1,fun _ _=>trivial,.inr ⟨b,off,rfl,hb,hcell⟩⟩,hat⟩
theorem jhP {w:World} {a:Option Addr} {len:Nat} {l:List Bd} (h:j9 w a len l):∃lx:List BX,(lx.map fun z=>z.1)=l∧jk zv w a len lx∧∀z ∈ lx,At1 w z:=by
 obtain⟨h0,h1,h2⟩:=h;rcases h2 with h2 | ⟨b,off,rfl,hb,hc⟩
 · have:l=[]:=List.eq_nil_of_length_eq_zero (by omega);subst this;subst h2;exact⟨[],rfl,jk.nil w a,fun z hz=>absurd hz (by simp)⟩
 · have step:∀m,m≤l.length→∃lx:List BX,(lx.map fun z=>z.1)=l.take m∧(∀i x j u,lx[i]?=some x→(zv.cs x)[j]?=some u→w.cell? ⟨b,off+i*3+j,none⟩=some u)∧∀z ∈ lx,At1 w z:=by
    intro m
    induction m with
    | zero=>exact fun _=>⟨[],rfl,fun i x j u hi=>by simp at hi,fun z hz=>absurd hz (by simp)⟩
    | succ m ih =>
     intro hm;obtain⟨lx,e,hcell,hat⟩:=ih (by omega);obtain⟨n,hn⟩:∃n,l[m]?=some n:=⟨_,List.getElem?_eq_getElem (by omega)⟩
     obtain⟨w1,p0,p1,p2,hp⟩:=hc m n hn;obtain⟨a1,m1,c1,rfl⟩:=hp.spelt;have hlen:lx.length=m:=by
      have:=congrArg List.length e;rw[List.length_map,List.length_take] at this;omega
     refine⟨lx++[(n,(a1,m1,c1))],?_,?_,?_⟩
     · rw[List.map_append,e,zI hn];rfl
     · intro i x j u hi hj;by_cases him:i<m
       · rw[List.getElem?_append_left (by omega)] at hi;exact hcell i x j u hi hj
       · have hi2:=(List.getElem?_eq_some_iff.1 hi).1;rw[List.length_append,List.length_singleton] at hi2;obtain rfl:i=m:=by omega
         rw[List.getElem?_append_right (by omega),hlen,Nat.sub_self] at hi;obtain rfl:=Option.some.inj hi
         match j,hj with
         | 0,hj=>obtain rfl:=Option.some.inj hj;exact p0
         | 1,hj=>obtain rfl:=Option.some.inj hj;exact p1
         | 2,hj=>obtain rfl:=Option.some.inj hj;exact p2
         | j+3,hj=>simp[zv] at hj
     · intro z hz;rcases List.mem_append.1 hz with hz | hz
       · exact hat z hz
       · obtain rfl:z=_:=List.mem_singleton.1 hz;exact hp
   obtain⟨lx,e,hcell,hat⟩:=step l.length (Nat.le_refl _);rw[List.take_of_length_le (Nat.le_refl _)] at e;have hl:lx.length=len:=by rw[←h0,←e,List.length_map]
   exact⟨lx,e,⟨hl,h1,fun _ _=>trivial,.inr ⟨b,off,rfl,hb,hcell⟩⟩,hat⟩
theorem jhl {w:World} {a:Option Addr} {len:Nat} {l:List Pd} (h:jy w a len l):∃lx:List PX,(lx.map fun z=>z.1)=l∧jk PodLay0 w a len lx∧∀z ∈ lx,At4 w z:=by
 obtain⟨h0,h1,h2⟩:=h;rcases h2 with h2 | ⟨b,off,rfl,hb,hc⟩
 · have:l=[]:=List.eq_nil_of_length_eq_zero (by omega);subst this;subst h2;exact⟨[],rfl,jk.nil w a,fun z hz=>absurd hz (by simp)⟩
 · have step:∀m,m≤l.length→∃lx:List PX,(lx.map fun z=>z.1)=l.take m∧(∀i x j u,lx[i]?=some x→(PodLay0.cs x)[j]?=some u→w.cell? ⟨b,off+i*11+j,none⟩=some u)∧∀z ∈ lx,At4 w z:=by
    intro m
    induction m with
    | zero=>exact fun _=>⟨[],rfl,fun i x j u hi=>by simp at hi,fun z hz=>absurd hz (by simp)⟩
    | succ m ih =>
     intro hm;obtain⟨lx,e,hcell,hat⟩:=ih (by omega);obtain⟨n,hn⟩:∃n,l[m]?=some n:=⟨_,List.getElem?_eq_getElem (by omega)⟩
     obtain⟨v1,v2,v3,v4,p0,p1,p2,p3,p4,p5,p6,p7,p8,p9,p10,hp⟩:=hc m n hn;obtain⟨b1,n1,d1,b2,n2,d2,b3,n3,d3,b4,n4,d4,rfl,rfl,rfl,rfl⟩:=hp.spelt;have hlen:lx.length=m:=by
      have:=congrArg List.length e;rw[List.length_map,List.length_take] at this;omega
     refine⟨lx++[(n,(b1,n1,d1),(b2,n2,d2),(b3,n3,d3),(b4,n4,d4))],?_,?_,?_⟩
     · rw[List.map_append,e,zI hn];rfl
     · intro i x j u hi hj;by_cases him:i<m
       · rw[List.getElem?_append_left (by omega)] at hi;exact hcell i x j u hi hj
       · have hi2:=(List.getElem?_eq_some_iff.1 hi).1;rw[List.length_append,List.length_singleton] at hi2;obtain rfl:i=m:=by omega
         rw[List.getElem?_append_right (by omega),hlen,Nat.sub_self] at hi;obtain rfl:=Option.some.inj hi
         match j,hj with
         | 0,hj=>obtain rfl:=Option.some.inj hj;exact p0
         | 1,hj=>obtain rfl:=Option.some.inj hj;exact p1
         | 2,hj=>obtain rfl:=Option.some.inj hj;exact p2
         | 3,hj=>obtain rfl:=Option.some.inj hj;exact p3
         | 4,hj=>obtain rfl:=Option.some.inj hj;exact p4
         | 5,hj=>obtain rfl:=Option.some.inj hj;exact p5
         | 6,hj=>obtain rfl:=Option.some.inj hj;exact p6
         | 7,hj=>obtain rfl:=Option.some.inj hj;exact p7
         | 8,hj=>obtain rfl:=Option.some.inj hj;exact p8
         | 9,hj=>obtain rfl:=Option.some.inj hj;exact p9
         | 10,hj=>obtain rfl:=Option.some.inj hj;exact p10
         | j+11,hj=>simp[PodLay0] at hj
     · intro z hz;rcases List.mem_append.1 hz with hz | hz
       · exact hat z hz
       · obtain rfl:z=_:=List.mem_singleton.1 hz;exact ji.at4 hp
   obtain⟨lx,e,hcell,hat⟩:=step l.length (Nat.le_refl _);rw[List.take_of_length_le (Nat.le_refl _)] at e;have hl:lx.length=len:=by rw[←h0,←e,List.length_map]
   exact⟨lx,e,⟨hl,h1,fun _ _=>trivial,.inr ⟨b,off,rfl,hb,hcell⟩⟩,hat⟩
theorem jlU:Kind 22 57 5 96:=by
 obtain⟨i,hi,hz,h1,h2⟩:=info_parts (show (Tryz.prog.info? 57).map (fun i=>(i.zero,i.size,i.bytes))=some (some (.agg #[.string ByteArray.empty,.slice none 0 0,.slice none 0 0,.slice none 0 0,.bool false]),5,96) by kernel_rfl);exact⟨i,_,Tryz.underlying22,hi,hz,h1,h2,rfl,by decide⟩
theorem jeJ (a:Option Addr) (len cap:Nat) (lx:List NX) (w:World) (hr:jk zH w a len lx) (hc:len≤cap) (hm:cap≤maxLen) (hn:len≤100000) :
 Calls Tryz.prog 142 #[.slice a len cap] w fun e w'=>((e=.returned (.slice none 0 0)∧lx=[])∨∃g c,e=.returned (.slice (some ⟨g,0,none⟩) len c)∧Own zH 57 w' w.heap.size (.slice (some ⟨g,0,none⟩) len c) lx)∧Kept w w':=by
 have hl:=hr.1;have q22:∀(w:World) (a:Option Addr) (n c n' c':Nat),(binOp .eql 22 (.slice a n c) (.slice none n' c')).run Tryz.prog w=.ok (.bool a.isNone) w:=fun w a n c n' c'=>Lib.run_eql_slice_nil w _ _ a n c n' c' Tryz.underlying22
 cases a with
 | none =>
  have h0:len=0:=by
   rcases hr.form with h | ⟨b,off,h⟩
   · exact h
   · cases h
  subst h0;have hl0:lx=[]:=List.eq_nil_of_length_eq_zero hl;subst hl0;clear hr hl;go_enter Tryz.func142,Tryz.ntmps142;go_wp2;go_ret;exact⟨.inl ⟨rfl,by first | rfl | trivial⟩,Kept.refl _⟩
 | some ad =>
  have HR:=lH hr;have HL:=lH hl;have hrl:(je zH lx).length=len*5:=by rw[jZ,hl];rfl
  have hb1:0+len≤maxLen:=by unfold maxLen;omega
  have hb2:((0+len)+(0+len) / 4+192)*96≤281474976710656:=by omega
  clear hr hl;go_enter Tryz.func142,Tryz.ntmps142;go_wp2_with (at_builtin;refine Jb jlU _ rfl (.tmp 5) (.tmp 6) rfl w.heap.size (by simp) w.heap.size 0 0 [] rfl (Zw w w.heap.size 5 _ (Nat.le_refl _)) _ len (je zH lx) rfl hrl (Jk _ _) (jk.src (HR.out.kept (ja _ _))) hb1 hb2 ?_;intro g1 k1 W1 ho hd hg;have HO:=lH ho;have HD:=lH hd;clear ho hd hg;refine Hid.out ?_)
  refine lH ?_;simp only[Nat.zero_add,List.nil_append] at HO ⊢;go_wp2;go_ret;exact⟨.inr ⟨g1,k1,rfl,by rw[HL.out];exact HO.out,fun x _=>trivial⟩,Below.trans (ja w _) HD.out⟩
theorem jly:Kind 23 44 11 184:=by
 obtain⟨i,hi,hz,h1,h2⟩:=info_parts (show (Tryz.prog.info? 44).map (fun i=>(i.zero,i.size,i.bytes))=some (some (.agg #[.string ByteArray.empty,.string ByteArray.empty,.int .i64 0,.slice none 0 0,.slice none 0 0,.slice none 0 0,.slice none 0 0,.string ByteArray.empty,.int .i64 0,.string ByteArray.empty,.bool false]),11,184) by kernel_rfl);exact⟨i,_,Tryz.underlying23,hi,hz,h1,h2,rfl,by decide⟩
theorem jeR (a:Option Addr) (len cap:Nat) (lx:List PX) (w:World) (hr:jk PodLay0 w a len lx) (hc:len≤cap) (hm:cap≤maxLen) (hn:len≤100000) :
 Calls Tryz.prog 146 #[.slice a len cap] w fun e w'=>((e=.returned (.slice none 0 0)∧lx=[])∨∃g c,e=.returned (.slice (some ⟨g,0,none⟩) len c)∧Own PodLay0 44 w' w.heap.size (.slice (some ⟨g,0,none⟩) len c) lx)∧Kept w w':=by
 have hl:=hr.1;have q22:∀(w:World) (a:Option Addr) (n c n' c':Nat),(binOp .eql 23 (.slice a n c) (.slice none n' c')).run Tryz.prog w=.ok (.bool a.isNone) w:=fun w a n c n' c'=>Lib.run_eql_slice_nil w _ _ a n c n' c' Tryz.underlying23
 cases a with
 | none =>
  have h0:len=0:=by
   rcases hr.form with h | ⟨b,off,h⟩
   · exact h
   · cases h
  subst h0;have hl0:lx=[]:=List.eq_nil_of_length_eq_zero hl;subst hl0;clear hr hl;go_enter Tryz.func146,Tryz.ntmps146;go_wp2;go_ret;exact⟨.inl ⟨rfl,by first | rfl | trivial⟩,Kept.refl _⟩
 | some ad =>
  have HR:=lH hr;have HL:=lH hl;have hrl:(je PodLay0 lx).length=len*11:=by rw[jZ,hl];rfl
  have hb1:0+len≤maxLen:=by unfold maxLen;omega
  have hb2:((0+len)+(0+len) / 4+192)*184≤281474976710656:=by omega
  clear hr hl;go_enter Tryz.func146,Tryz.ntmps146;go_wp2_with (at_builtin;refine Jb jly _ rfl (.tmp 5) (.tmp 6) rfl w.heap.size (by simp) w.heap.size 0 0 [] rfl (Zw w w.heap.size 11 _ (Nat.le_refl _)) _ len (je PodLay0 lx) rfl hrl (Jk _ _) (jk.src (HR.out.kept (ja _ _))) hb1 hb2 ?_;intro g1 k1 W1 ho hd hg;have HO:=lH ho;have HD:=lH hd;clear ho hd hg;refine Hid.out ?_)
  refine lH ?_;simp only[Nat.zero_add,List.nil_append] at HO ⊢;go_wp2;go_ret;exact⟨.inr ⟨g1,k1,rfl,by rw[HL.out];exact HO.out,fun x _=>trivial⟩,Below.trans (ja w _) HD.out⟩
theorem jll:Kind 24 92 3 48:=by
 obtain⟨i,hi,hz,h1,h2⟩:=info_parts (show (Tryz.prog.info? 92).map (fun i=>(i.zero,i.size,i.bytes))=some (some (.agg #[.string ByteArray.empty,.slice none 0 0,.int .i64 0]),3,48) by kernel_rfl);exact⟨i,_,Tryz.underlying24,hi,hz,h1,h2,rfl,by decide⟩
theorem jeI (a:Option Addr) (len cap:Nat) (lx:List BX) (w:World) (hr:jk zv w a len lx) (hc:len≤cap) (hm:cap≤maxLen) (hn:len≤100000) :
 Calls Tryz.prog 149 #[.slice a len cap] w fun e w'=>((e=.returned (.slice none 0 0)∧lx=[])∨∃g c,e=.returned (.slice (some ⟨g,0,none⟩) len c)∧Own zv 92 w' w.heap.size (.slice (some ⟨g,0,none⟩) len c) lx)∧Kept w w':=by
 have hl:=hr.1;have q22:∀(w:World) (a:Option Addr) (n c n' c':Nat),(binOp .eql 24 (.slice a n c) (.slice none n' c')).run Tryz.prog w=.ok (.bool a.isNone) w:=fun w a n c n' c'=>Lib.run_eql_slice_nil w _ _ a n c n' c' Tryz.underlying24
 cases a with
 | none =>
  have h0:len=0:=by
   rcases hr.form with h | ⟨b,off,h⟩
   · exact h
   · cases h
  subst h0;have hl0:lx=[]:=List.eq_nil_of_length_eq_zero hl;subst hl0;clear hr hl;go_enter Tryz.func149,Tryz.ntmps149;go_wp2;go_ret;exact⟨.inl ⟨rfl,by first | rfl | trivial⟩,Kept.refl _⟩
 | some ad =>
  have HR:=lH hr;have HL:=lH hl;have hrl:(je zv lx).length=len*3:=by rw[jZ,hl];rfl
  have hb1:0+len≤maxLen:=by unfold maxLen;omega
  have hb2:((0+len)+(0+len) / 4+192)*48≤281474976710656:=by omega
  clear hr hl;go_enter Tryz.func149,Tryz.ntmps149;go_wp2_with (at_builtin;refine Jb jll _ rfl (.tmp 5) (.tmp 6) rfl w.heap.size (by simp) w.heap.size 0 0 [] rfl (Zw w w.heap.size 3 _ (Nat.le_refl _)) _ len (je zv lx) rfl hrl (Jk _ _) (jk.src (HR.out.kept (ja _ _))) hb1 hb2 ?_;intro g1 k1 W1 ho hd hg;have HO:=lH ho;have HD:=lH hd;clear ho hd hg;refine Hid.out ?_)
  refine lH ?_;simp only[Nat.zero_add,List.nil_append] at HO ⊢;go_wp2;go_ret;exact⟨.inr ⟨g1,k1,rfl,by rw[HL.out];exact HO.out,fun x _=>trivial⟩,Below.trans (ja w _) HD.out⟩
structure Yj {X A:Type} (L:Lay X) (T:TypeId) (At:World→X→Prop) (fst:X→A) (B g len c k:Nat) (l:List A) (w wr:World) (lx:List X):Prop where
 own:Own L T wr B (.slice (some ⟨g,0,none⟩) len c) lx
 map:lx.map fst=l
 done:∀j z,lx[j]?=some z→j<k→Off (fun b=>b<B∨b=g) wr fun u=>At u z
 todo:∀j z,lx[j]?=some z→k≤j→Off (fun b=>B≤b) wr fun u=>At u z
 kept:Below B w wr
theorem Yj.start {X A:Type} {L:Lay X} {T:TypeId} {At:World→X→Prop} {fst:X→A} {g len c:Nat} {l:List A} {w wr:World} {lx:List X} (ho:Own L T wr w.heap.size (.slice (some ⟨g,0,none⟩) len c) lx) (hm:lx.map fst=l) (hk:Kept w wr) (hat:∀z ∈ lx,∀u,Kept w u→At u z) :
 Yj L T At fst w.heap.size g len c 0 l w wr lx :=
 ⟨ho,hm,fun j z _ h=>absurd h (Nat.not_lt_zero _),fun j z hz _=>Off.of (hat z (List.mem_of_getElem? hz)) hk fun i h=>h,hk⟩
theorem Yj.next {X A:Type} {L:Lay X} {T:TypeId} {At:World→X→Prop} {fst:X→A} {B g len c k:Nat} {l:List A} {w wr w1:World} {lx:List X} {z z':X} (h:Yj L T At fst B g len c k l w wr lx) (hz:lx[k]?=some z) (hf:fst z'=fst z) (hfine:L.fine z') (hk:Kept wr w1) (hB:B≤wr.heap.size)
 (hat:Off (fun b=>b<B∨b=g) w1 fun u=>At u z'):Yj L T At fst B g len c (k+1) l w (w1.setCells g (k*L.m) (L.cs z')) (lx.set k z'):=by
 have hl:k<lx.length:=(List.getElem?_eq_some_iff.1 hz).1;have hg:=J5 h.own g rfl;refine⟨(h.own.kept hk).ZC hl z' hfine,?_,fun j y hy hj=>?_,fun j y hy hj=>?_,jt g _ _ _ B w hg.1 (h.kept.trans (Below.mono hk hB))⟩
 · rw[←h.map];apply List.ext_getElem?;intro i;rw[List.getElem?_map,List.getElem?_map];by_cases e:k=i
   · subst e;rw[List.getElem?_set_self hl,hz];simp[hf]
   · rw[List.getElem?_set_ne e]
 · have gc:jg (fun b=>b<B∨b=g) w1 (w1.setCells g (k*L.m) (L.cs z')):=jg.cells (S:=fun b=>b<B∨b=g) g (.inr rfl) _ _ _;by_cases e:k=j
   · subst e;rw[List.getElem?_set_self hl] at hy;obtain rfl:=Option.some.inj hy;exact hat.step gc
   · rw[List.getElem?_set_ne e] at hy;exact((h.done j y hy (by omega)).step (jg.of hk)).step gc
 · have gc:jg (fun b=>B≤b) w1 (w1.setCells g (k*L.m) (L.cs z')):=jg.cells (S:=fun b=>B≤b) g hg.1 _ _ _;rw[List.getElem?_set_ne (by omega)] at hy;exact((h.todo j y hy (by omega)).step (jg.of hk)).step gc
theorem Yj.deep {X A:Type} {L:Lay X} {T:TypeId} {At:World→X→Prop} {fst:X→A} {B g len c k:Nat} {l:List A} {w wr:World} {lx:List X} (h:Yj L T At fst B g len c k l w wr lx) (hk:lx.length≤k):Deep L T At wr B (.slice (some ⟨g,0,none⟩) len c) lx∧∀z ∈ lx,Off (fun b=>b<B∨b=g) wr fun u=>At u z:=by
 have key:∀z ∈ lx,Off (fun b=>b<B∨b=g) wr fun u=>At u z:=fun z hz=>by
  obtain⟨j,hj,e⟩:=List.getElem_of_mem hz;exact h.done j z (by rw[List.getElem?_eq_getElem hj,e]) (by omega)
 exact⟨⟨h.own,fun z hz=>(key z hz).less fun b e=>.inr (Option.some.inj e).symm⟩,key⟩
def Zz {X:Type} (L:Lay X) (T:TypeId) (At:World→X→Prop) (B:Nat) (w:World) (v:Value) (lx:List X):Prop:=(∃a n c,v=.slice a n c)∧Deep L T At w B v lx∧∀z ∈ lx,Off (fun b=>b<B∨v.ownBlock=some b) w fun u=>At u z
theorem jkI (a:Option Addr) (len cap:Nat) (l:List Nod) (w:World) (hr:jo w a len l) (hc:len≤cap) (hm:cap≤maxLen) (hn:len≤100000) (hlow:∀n ∈ l,zP n) :
 Calls Tryz.prog 80 #[.slice a len cap,.func (.func 81) #[] #[]] w fun e w'=>∃v lx,e=.returned v∧(lx.map fun z=>z.1)=l∧Zz zH 57 At3 w.heap.size w' v lx∧Kept w w':=by
 obtain⟨lx0,hmap,hrx,hat0⟩:=jhy hr;obtain⟨HC,Vo,V3,Uy,TN⟩:=lH5 (jeJ a len cap lx0 w hrx hc hm hn) hlow hmap hat0 hrx.1;clear hr hmap hrx hat0 hlow hc hm;go_enter Tryz.func80,Tryz.ntmps80;go_wp2_with fail
 refine HC.out.mono ?_;rintro e w1 ⟨hres,hk⟩;have K0:=lH hk;rcases hres with ⟨rfl,h0⟩ | ⟨g,c,rfl,ho⟩
 · have HE:=lH (show l=[] by rw[←V3.out,h0];rfl);clear h0 hk;go_wp2;refine wp_loop_rounds 1 ?_;rw[rounds_succ];go_wp2;go_ret;exact⟨_,[],rfl,HE.out.symm,⟨⟨_,_,_,rfl⟩,⟨Own.nil _ _ _,fun z h=>by cases h⟩,fun z h=>by cases h⟩,K0.out⟩
 · have HI:=lH (Yj.start (At:=At3) (fst:=(fun z=>z.1)) ho V3.out hk fun z hz u k=>zr.kept (Uy.out z hz) k);clear ho hk;go_wp2;go_loopw [12] (fun i wr=>∃(k:Nat) (lx:List NX),k≤len∧i=.int .i64 k∧lx.length=len∧Yj zH 57 At3 (fun z=>z.1) w.heap.size g len c k l w wr lx) (fun i _=>len-(intOf i).toNat)
   case atStart=>exact⟨0,lx0,Nat.zero_le _,rfl,TN.out,HI.out⟩
   case round =>
    obtain⟨k,lx,hk,rfl,hlen,hinv⟩:=hrel;have HV:=lH hinv;have Uz:=lH hlen;by_cases hlt:k<len
    · obtain⟨z,hz⟩:∃z,lx[k]?=some z:=⟨_,List.getElem?_eq_getElem (by omega)⟩
      obtain⟨n,⟨b1,n1,d1⟩,⟨b2,n2,d2⟩,⟨b3,n3,d3⟩⟩:=z;have p0:wr.cell? ⟨g,k*5,none⟩=some (.string n.name):=hinv.own.cell_at hz (j:=0) rfl;have p1:wr.cell? ⟨g,k*5+1,none⟩=some (.slice b1 n1 d1):=hinv.own.cell_at hz (j:=1) rfl;have p2:wr.cell? ⟨g,k*5+2,none⟩=some (.slice b2 n2 d2):=hinv.own.cell_at hz (j:=2) rfl;have p3:wr.cell? ⟨g,k*5+3,none⟩=some (.slice b3 n3 d3):=hinv.own.cell_at hz (j:=3) rfl;have p4:wr.cell? ⟨g,k*5+4,none⟩=some (.bool n.cordon):=hinv.own.cell_at hz (j:=4) rfl;obtain⟨HZ,HN,HA,Vu⟩:=lH4 hz (show n ∈ l by rw[←hinv.map];exact List.mem_map.2 ⟨_,List.mem_of_getElem? hz,rfl⟩) ((hinv.todo k _ hz (Nat.le_refl _)).here) hinv.kept.size;have hkk:(k:Int)<(len:Int):=by omega
      have UA:=lH (J5 hinv.own g rfl);have HO:=lH (jeA n b1 b2 b3 n1 d1 n2 d2 n3 d3 _ (zr.kept HA.out (ja wr (.cells #[.string n.name,.slice b1 n1 d1,.slice b2 n2 d2,.slice b3 n3 d3,.bool n.cordon] 57))) (Vo.out n HN.out));clear hz hlen hinv;go_wp2_with fail
      refine HO.out.mono ?_;rintro e w2 ⟨v,rfl,hv,kk⟩;have KW:=lH ((ja wr (.cells #[.string n.name,.slice b1 n1 d1,.slice b2 n2 d2,.slice b3 n3 d3,.bool n.cordon] 57)).trans kk);obtain⟨x1,y1,e1,x2,y2,e2,x3,y3,e3,rfl,s0,s1,s2,s3,g1,g2,g3⟩:=hv;have Vy:=lH (show Off (fun b=>b<w.heap.size∨b=g) w2 fun u=>At3 u (n,(x1,y1,e1),(x2,y2,e2),(x3,y3,e3)) from zr.off (B:=wr.heap.size+1) ⟨s0,s1,s2,s3⟩ (by simpa [j4] using g1) (by simpa [j4] using g2) (by simpa [j4] using g3) (fun b hb h=>by have:=UA.out;have:=Vu.out;rcases h with h | h<;>omega));clear s0 s1 s2 s3 g1 g2 g3 kk;have q0:=cell_later KW.out p0;have q1:=cell_later KW.out p1;have q2:=cell_later KW.out p2;have q3:=cell_later KW.out p3;have q4:=cell_later KW.out p4;have x0f:w2.frozen? ⟨g,k*5,none⟩=false:=(HV.out.own.kept KW.out).frozen_at _;have x1f:w2.frozen? ⟨g,k*5+1,none⟩=false:=(HV.out.own.kept KW.out).frozen_at _;have x2f:w2.frozen? ⟨g,k*5+2,none⟩=false:=(HV.out.own.kept KW.out).frozen_at _;have x3f:w2.frozen? ⟨g,k*5+3,none⟩=false:=(HV.out.own.kept KW.out).frozen_at _;have x4f:w2.frozen? ⟨g,k*5+4,none⟩=false:=(HV.out.own.kept KW.out).frozen_at _;clear p0 p1 p2 p3 p4;have VD:=lH (HV.out.next (z':=(n,(x1,y1,e1),(x2,y2,e2),(x3,y3,e3))) HZ.out rfl trivial KW.out Vu.out Vy.out);go_wp2;obtain⟨WE,hWE⟩:=eX (w2.setCells g (k*5) [.string n.name,.slice x1 y1 e1,.slice x2 y2 e2,.slice x3 y3 e3,.bool n.cordon])
      have hWE2:(((((w2.setCell ⟨g,k*5,none⟩ (.string n.name)).setCell ⟨g,k*5+1,none⟩ (.slice x1 y1 e1)).setCell ⟨g,k*5+2,none⟩ (.slice x2 y2 e2)).setCell ⟨g,k*5+3,none⟩ (.slice x3 y3 e3)).setCell ⟨g,k*5+4,none⟩ (.bool n.cordon))=WE:=hWE;have VD:=lH (show Yj zH 57 At3 (fun z=>z.1) w.heap.size g len c (k+1) l w WE (lx.set k (n,(x1,y1,e1),(x2,y2,e2),(x3,y3,e3))) by rw[←hWE];exact VD.out);try rw[hWE2]
      clear hWE hWE2 q0 q1 q2 q3 q4 x0f x1f x2f x3f x4f;go_roundw
      case rel=>exact⟨k+1,_,by omega,by go_num,by rw[List.length_set];exact Uz.out,VD.out⟩
      case measure=>simp[intOf];omega
    · obtain⟨HD,Vm,Uq⟩:=lH3 (hinv.deep (by omega)) hinv.kept hinv.map;clear hinv hlen;go_wp2;go_ret;exact⟨_,lx,rfl,Uq.out,⟨⟨_,_,_,rfl⟩,HD.out.1,fun z hz=>(HD.out.2 z hz).less fun b h=>h.imp id fun e=>(Option.some.inj e).symm⟩,Vm.out⟩
theorem jjI (a:Option Addr) (len cap:Nat) (l:List Pd) (w:World) (hr:jy w a len l) (hc:len≤cap) (hm:cap≤maxLen) (hn:len≤100000) (hlow:∀n ∈ l,JO n) :
 Calls Tryz.prog 82 #[.slice a len cap,.func (.func 83) #[] #[]] w fun e w'=>∃v lx,e=.returned v∧(lx.map fun z=>z.1)=l∧Zz PodLay0 44 At4 w.heap.size w' v lx∧Kept w w':=by
 obtain⟨lx0,hmap,hrx,hat0⟩:=jhl hr;obtain⟨HC,Vo,V3,Uy,TN⟩:=lH5 (jeR a len cap lx0 w hrx hc hm hn) hlow hmap hat0 hrx.1;clear hr hmap hrx hat0 hlow hc hm;go_enter Tryz.func82,Tryz.ntmps82;go_wp2_with fail
 refine HC.out.mono ?_;rintro e w1 ⟨hres,hk⟩;have K0:=lH hk;rcases hres with ⟨rfl,h0⟩ | ⟨g,c,rfl,ho⟩
 · have HE:=lH (show l=[] by rw[←V3.out,h0];rfl);clear h0 hk;go_wp2;refine wp_loop_rounds 1 ?_;rw[rounds_succ];go_wp2;go_ret;exact⟨_,[],rfl,HE.out.symm,⟨⟨_,_,_,rfl⟩,⟨Own.nil _ _ _,fun z h=>by cases h⟩,fun z h=>by cases h⟩,K0.out⟩
 · have HI:=lH (Yj.start (At:=At4) (fst:=(fun z=>z.1)) ho V3.out hk fun z hz u k=>ji.kept (Uy.out z hz) k);clear ho hk;go_wp2;go_loopw [12] (fun i wr=>∃(k:Nat) (lx:List PX),k≤len∧i=.int .i64 k∧lx.length=len∧Yj PodLay0 44 At4 (fun z=>z.1) w.heap.size g len c k l w wr lx) (fun i _=>len-(intOf i).toNat)
   case atStart=>exact⟨0,lx0,Nat.zero_le _,rfl,TN.out,HI.out⟩
   case round =>
    obtain⟨k,lx,hk,rfl,hlen,hinv⟩:=hrel;have HV:=lH hinv;have Uz:=lH hlen;by_cases hlt:k<len
    · obtain⟨z,hz⟩:∃z,lx[k]?=some z:=⟨_,List.getElem?_eq_getElem (by omega)⟩
      obtain⟨n,⟨b1,n1,d1⟩,⟨b2,n2,d2⟩,⟨b3,n3,d3⟩,⟨b4,n4,d4⟩⟩:=z;have p0:wr.cell? ⟨g,k*11,none⟩=some (.string n.name):=hinv.own.cell_at hz (j:=0) rfl;have p1:wr.cell? ⟨g,k*11+1,none⟩=some (.string n.owner):=hinv.own.cell_at hz (j:=1) rfl;have p2:wr.cell? ⟨g,k*11+2,none⟩=some (.int .i64 n.prio):=hinv.own.cell_at hz (j:=2) rfl;have p3:wr.cell? ⟨g,k*11+3,none⟩=some (.slice b1 n1 d1):=hinv.own.cell_at hz (j:=3) rfl;have p4:wr.cell? ⟨g,k*11+4,none⟩=some (.slice b2 n2 d2):=hinv.own.cell_at hz (j:=4) rfl;have p5:wr.cell? ⟨g,k*11+5,none⟩=some (.slice b3 n3 d3):=hinv.own.cell_at hz (j:=5) rfl;have p6:wr.cell? ⟨g,k*11+6,none⟩=some (.slice b4 n4 d4):=hinv.own.cell_at hz (j:=6) rfl;have p7:wr.cell? ⟨g,k*11+7,none⟩=some (.string n.key):=hinv.own.cell_at hz (j:=7) rfl;have p8:wr.cell? ⟨g,k*11+8,none⟩=some (.int .i64 n.most):=hinv.own.cell_at hz (j:=8) rfl;have p9:wr.cell? ⟨g,k*11+9,none⟩=some (.string n.node):=hinv.own.cell_at hz (j:=9) rfl;have p10:wr.cell? ⟨g,k*11+10,none⟩=some (.bool n.hold):=hinv.own.cell_at hz (j:=10) rfl;obtain⟨HZ,HN,HA,Vu⟩:=lH4 hz (show n ∈ l by rw[←hinv.map];exact List.mem_map.2 ⟨_,List.mem_of_getElem? hz,rfl⟩) ((hinv.todo k _ hz (Nat.le_refl _)).here) hinv.kept.size;have hkk:(k:Int)<(len:Int):=by omega
      have UA:=lH (J5 hinv.own g rfl);have HO:=lH (Zt n (.slice b1 n1 d1) (.slice b2 n2 d2) (.slice b3 n3 d3) (.slice b4 n4 d4) _ (ji.kept HA.out (ja wr (.cells #[.string n.name,.string n.owner,.int .i64 n.prio,.slice b1 n1 d1,.slice b2 n2 d2,.slice b3 n3 d3,.slice b4 n4 d4,.string n.key,.int .i64 n.most,.string n.node,.bool n.hold] 44))) (Vo.out n HN.out));unfold jx at HO;clear hz hlen hinv;go_wp2_with fail
      refine HO.out.mono ?_;rintro e w2 ⟨v,rfl,hv,kk⟩;have KW:=lH ((ja wr (.cells #[.string n.name,.string n.owner,.int .i64 n.prio,.slice b1 n1 d1,.slice b2 n2 d2,.slice b3 n3 d3,.slice b4 n4 d4,.string n.key,.int .i64 n.most,.string n.node,.bool n.hold] 44)).trans kk);obtain⟨x1,y1,e1,x2,y2,e2,x3,y3,e3,x4,y4,e4,hv9,s0,g1,g2,g3,g4⟩:=hv;rw[World.size_alloc] at g1 g2 g3 g4;have hv9:v=.agg #[.string n.name,.string n.owner,.int .i64 n.prio,.slice x1 y1 e1,.slice x2 y2 e2,.slice x3 y3 e3,.slice x4 y4 e4,.string n.key,.int .i64 n.most,.string n.node,.bool n.hold]:=hv9;subst hv9;have Vy:=lH (show Off (fun b=>b<w.heap.size∨b=g) w2 fun u=>At4 u (n,(x1,y1,e1),(x2,y2,e2),(x3,y3,e3),(x4,y4,e4)) from ji.off (B:=wr.heap.size+1) s0 g1 g2 g3 g4 (fun b hb h=>by have:=UA.out;have:=Vu.out;rcases h with h | h<;>omega));clear s0 g1 g2 g3 g4 kk;have q0:=cell_later KW.out p0;have q1:=cell_later KW.out p1;have q2:=cell_later KW.out p2;have q3:=cell_later KW.out p3;have q4:=cell_later KW.out p4;have q5:=cell_later KW.out p5;have q6:=cell_later KW.out p6;have q7:=cell_later KW.out p7;have q8:=cell_later KW.out p8;have q9:=cell_later KW.out p9;have q10:=cell_later KW.out p10;have x0f:w2.frozen? ⟨g,k*11,none⟩=false:=(HV.out.own.kept KW.out).frozen_at _;have x1f:w2.frozen? ⟨g,k*11+1,none⟩=false:=(HV.out.own.kept KW.out).frozen_at _;have x2f:w2.frozen? ⟨g,k*11+2,none⟩=false:=(HV.out.own.kept KW.out).frozen_at _;have x3f:w2.frozen? ⟨g,k*11+3,none⟩=false:=(HV.out.own.kept KW.out).frozen_at _;have x4f:w2.frozen? ⟨g,k*11+4,none⟩=false:=(HV.out.own.kept KW.out).frozen_at _;have x5f:w2.frozen? ⟨g,k*11+5,none⟩=false:=(HV.out.own.kept KW.out).frozen_at _;have x6f:w2.frozen? ⟨g,k*11+6,none⟩=false:=(HV.out.own.kept KW.out).frozen_at _;have x7f:w2.frozen? ⟨g,k*11+7,none⟩=false:=(HV.out.own.kept KW.out).frozen_at _;have x8f:w2.frozen? ⟨g,k*11+8,none⟩=false:=(HV.out.own.kept KW.out).frozen_at _;have x9f:w2.frozen? ⟨g,k*11+9,none⟩=false:=(HV.out.own.kept KW.out).frozen_at _;have x10f:w2.frozen? ⟨g,k*11+10,none⟩=false:=(HV.out.own.kept KW.out).frozen_at _;clear p0 p1 p2 p3 p4 p5 p6 p7 p8 p9 p10;have VD:=lH (HV.out.next (z':=(n,(x1,y1,e1),(x2,y2,e2),(x3,y3,e3),(x4,y4,e4))) HZ.out rfl trivial KW.out Vu.out Vy.out);go_wp2;obtain⟨WE,hWE⟩:=eX (w2.setCells g (k*11) [.string n.name,.string n.owner,.int .i64 n.prio,.slice x1 y1 e1,.slice x2 y2 e2,.slice x3 y3 e3,.slice x4 y4 e4,.string n.key,.int .i64 n.most,.string n.node,.bool n.hold])
      have hWE2:(((((((((((w2.setCell ⟨g,k*11,none⟩ (.string n.name)).setCell ⟨g,k*11+1,none⟩ (.string n.owner)).setCell ⟨g,k*11+2,none⟩ (.int .i64 n.prio)).setCell ⟨g,k*11+3,none⟩ (.slice x1 y1 e1)).setCell ⟨g,k*11+4,none⟩ (.slice x2 y2 e2)).setCell ⟨g,k*11+5,none⟩ (.slice x3 y3 e3)).setCell ⟨g,k*11+6,none⟩ (.slice x4 y4 e4)).setCell ⟨g,k*11+7,none⟩ (.string n.key)).setCell ⟨g,k*11+8,none⟩ (.int .i64 n.most)).setCell ⟨g,k*11+9,none⟩ (.string n.node)).setCell ⟨g,k*11+10,none⟩ (.bool n.hold))=WE:=hWE;have VD:=lH (show Yj PodLay0 44 At4 (fun z=>z.1) w.heap.size g len c (k+1) l w WE (lx.set k (n,(x1,y1,e1),(x2,y2,e2),(x3,y3,e3),(x4,y4,e4))) by rw[←hWE];exact VD.out);try rw[hWE2]
      clear hWE hWE2 q0 q1 q2 q3 q4 q5 q6 q7 q8 q9 q10 x0f x1f x2f x3f x4f x5f x6f x7f x8f x9f x10f;go_roundw
      case rel=>exact⟨k+1,_,by omega,by go_num,by rw[List.length_set];exact Uz.out,VD.out⟩
      case measure=>simp[intOf];omega
    · obtain⟨HD,Vm,Uq⟩:=lH3 (hinv.deep (by omega)) hinv.kept hinv.map;clear hinv hlen;go_wp2;go_ret;exact⟨_,lx,rfl,Uq.out,⟨⟨_,_,_,rfl⟩,HD.out.1,fun z hz=>(HD.out.2 z hz).less fun b h=>h.imp id fun e=>(Option.some.inj e).symm⟩,Vm.out⟩
theorem jjt (a:Option Addr) (len cap:Nat) (l:List Bd) (w:World) (hr:j9 w a len l) (hc:len≤cap) (hm:cap≤maxLen) (hn:len≤100000) (hlow:∀n ∈ l,n.sel.length≤1000000) :
 Calls Tryz.prog 84 #[.slice a len cap,.func (.func 85) #[] #[]] w fun e w'=>∃v lx,e=.returned v∧(lx.map fun z=>z.1)=l∧Zz zv 92 At1 w.heap.size w' v lx∧Kept w w':=by
 obtain⟨lx0,hmap,hrx,hat0⟩:=jhP hr;obtain⟨HC,Vo,V3,Uy,TN⟩:=lH5 (jeI a len cap lx0 w hrx hc hm hn) hlow hmap hat0 hrx.1;clear hr hmap hrx hat0 hlow hc hm;go_enter Tryz.func84,Tryz.ntmps84;go_wp2_with fail
 refine HC.out.mono ?_;rintro e w1 ⟨hres,hk⟩;have K0:=lH hk;rcases hres with ⟨rfl,h0⟩ | ⟨g,c,rfl,ho⟩
 · have HE:=lH (show l=[] by rw[←V3.out,h0];rfl);clear h0 hk;go_wp2;refine wp_loop_rounds 1 ?_;rw[rounds_succ];go_wp2;go_ret;exact⟨_,[],rfl,HE.out.symm,⟨⟨_,_,_,rfl⟩,⟨Own.nil _ _ _,fun z h=>by cases h⟩,fun z h=>by cases h⟩,K0.out⟩
 · have HI:=lH (Yj.start (At:=At1) (fst:=(fun z=>z.1)) ho V3.out hk fun z hz u k=>zt.kept (Uy.out z hz) k);clear ho hk;go_wp2;go_loopw [12] (fun i wr=>∃(k:Nat) (lx:List BX),k≤len∧i=.int .i64 k∧lx.length=len∧Yj zv 92 At1 (fun z=>z.1) w.heap.size g len c k l w wr lx) (fun i _=>len-(intOf i).toNat)
   case atStart=>exact⟨0,lx0,Nat.zero_le _,rfl,TN.out,HI.out⟩
   case round =>
    obtain⟨k,lx,hk,rfl,hlen,hinv⟩:=hrel;have HV:=lH hinv;have Uz:=lH hlen;by_cases hlt:k<len
    · obtain⟨z,hz⟩:∃z,lx[k]?=some z:=⟨_,List.getElem?_eq_getElem (by omega)⟩
      obtain⟨n,⟨b1,n1,d1⟩⟩:=z;have p0:wr.cell? ⟨g,k*3,none⟩=some (.string n.name):=hinv.own.cell_at hz (j:=0) rfl;have p1:wr.cell? ⟨g,k*3+1,none⟩=some (.slice b1 n1 d1):=hinv.own.cell_at hz (j:=1) rfl;have p2:wr.cell? ⟨g,k*3+2,none⟩=some (.int .i64 n.floor):=hinv.own.cell_at hz (j:=2) rfl;obtain⟨HZ,HN,HA,Vu⟩:=lH4 hz (show n ∈ l by rw[←hinv.map];exact List.mem_map.2 ⟨_,List.mem_of_getElem? hz,rfl⟩) ((hinv.todo k _ hz (Nat.le_refl _)).here) hinv.kept.size;have hkk:(k:Int)<(len:Int):=by omega
      have UA:=lH (J5 hinv.own g rfl);have HO:=lH (jcy n b1 n1 d1 _ (zt.kept HA.out (ja wr (.cells #[.string n.name,.slice b1 n1 d1,.int .i64 n.floor] 92))) (Vo.out n HN.out));unfold JY at HO;clear hz hlen hinv;go_wp2_with fail
      refine HO.out.mono ?_;rintro e w2 ⟨v,rfl,hv,kk⟩;have KW:=lH ((ja wr (.cells #[.string n.name,.slice b1 n1 d1,.int .i64 n.floor] 92)).trans kk);obtain⟨x1,y1,e1,hv9,s0,g1⟩:=hv;rw[World.size_alloc] at g1;have hv9:v=.agg #[.string n.name,.slice x1 y1 e1,.int .i64 n.floor]:=hv9;subst hv9;have Vy:=lH (show Off (fun b=>b<w.heap.size∨b=g) w2 fun u=>At1 u (n,(x1,y1,e1)) from zt.off (B:=wr.heap.size+1) s0 g1 (fun b hb h=>by have:=UA.out;have:=Vu.out;rcases h with h | h<;>omega));clear s0 g1 kk;have q0:=cell_later KW.out p0;have q1:=cell_later KW.out p1;have q2:=cell_later KW.out p2;have x0f:w2.frozen? ⟨g,k*3,none⟩=false:=(HV.out.own.kept KW.out).frozen_at _;have x1f:w2.frozen? ⟨g,k*3+1,none⟩=false:=(HV.out.own.kept KW.out).frozen_at _;have x2f:w2.frozen? ⟨g,k*3+2,none⟩=false:=(HV.out.own.kept KW.out).frozen_at _;clear p0 p1 p2;have VD:=lH (HV.out.next (z':=(n,(x1,y1,e1))) HZ.out rfl trivial KW.out Vu.out Vy.out);go_wp2;obtain⟨WE,hWE⟩:=eX (w2.setCells g (k*3) [.string n.name,.slice x1 y1 e1,.int .i64 n.floor])
      have hWE2:(((w2.setCell ⟨g,k*3,none⟩ (.string n.name)).setCell ⟨g,k*3+1,none⟩ (.slice x1 y1 e1)).setCell ⟨g,k*3+2,none⟩ (.int .i64 n.floor))=WE:=hWE;have VD:=lH (show Yj zv 92 At1 (fun z=>z.1) w.heap.size g len c (k+1) l w WE (lx.set k (n,(x1,y1,e1))) by rw[←hWE];exact VD.out);try rw[hWE2]
      clear hWE hWE2 q0 q1 q2 x0f x1f x2f;go_roundw
      case rel=>exact⟨k+1,_,by omega,by go_num,by rw[List.length_set];exact Uz.out,VD.out⟩
      case measure=>simp[intOf];omega
    · obtain⟨HD,Vm,Uq⟩:=lH3 (hinv.deep (by omega)) hinv.kept hinv.map;clear hinv hlen;go_wp2;go_ret;exact⟨_,lx,rfl,Uq.out,⟨⟨_,_,_,rfl⟩,HD.out.1,fun z hz=>(HD.out.2 z hz).less fun b h=>h.imp id fun e=>(Option.some.inj e).symm⟩,Vm.out⟩
structure jO (S:Nat→Prop) (B:Nat) (w:World) (v1 v2 v3:Value) (s:Clu):Prop where
 pods:∃lx:List PX,(lx.map fun z=>z.1)=s.pods∧Own PodLay0 44 w B v2 lx∧∀z ∈ lx,Off (fun b=>S b∨v2.ownBlock=some b) w fun u=>At4 u z
 nodes:Off (fun b=>S b∨v2.ownBlock=some b) w fun u=>Jz u v1 s.nodes
 buds:Off (fun b=>S b∨v2.ownBlock=some b) w fun u=>Zf u v3 s.buds
 sep:∀k,v2.ownBlock=some k→¬S k
theorem jO.toR {S:Nat→Prop} {B:Nat} {w:World} {v1 v2 v3:Value} {s:Clu} (h:jO S B w v1 v2 v3 s):jC w (.agg #[v1,v2,v3]) s:=by
 obtain⟨lx,e,ho,hd⟩:=h.pods;exact⟨v1,v2,v3,rfl,h.nodes.here,by rw[←e];exact qX ho fun z hz=>(hd z hz).here,h.buds.here⟩
theorem jO.lt {S:Nat→Prop} {B:Nat} {w:World} {v1 v2 v3:Value} {s:Clu} (h:jO S B w v1 v2 v3 s):∀g,v2.ownBlock=some g→B≤g∧g<w.heap.size:=by
 obtain⟨lx,e,ho,hd⟩:=h.pods;exact J5 ho
theorem jO.step {S:Nat→Prop} {B:Nat} {w w':World} {v1 v2 v3:Value} {s:Clu} (h:jO S B w v1 v2 v3 s) (g:jg S w w'):jO S B w' v1 v2 v3 s:=by
 obtain⟨lx,e,ho,hd⟩:=h.pods;have g':jg (fun b=>S b∨v2.ownBlock=some b) w w':=g.mono fun b e=>.inl e;exact⟨⟨lx,e,ho.goff g h.sep,fun z hz=>(hd z hz).step g'⟩,h.nodes.step g',h.buds.step g',h.sep⟩
theorem jO.kept {S:Nat→Prop} {B:Nat} {w w':World} {v1 v2 v3:Value} {s:Clu} (h:jO S B w v1 v2 v3 s) (k:Kept w w'):jO S B w' v1 v2 v3 s:=h.step (jg.of k)
theorem jO.less {S S':Nat→Prop} {B B':Nat} {w:World} {v1 v2 v3:Value} {s:Clu} (h:jO S B w v1 v2 v3 s) (hb:B'≤B) (hs:∀k,S' k→S k):jO S' B' w v1 v2 v3 s:=by
 obtain⟨lx,e,ho,hd⟩:=h.pods;have m:∀k,(S' k∨v2.ownBlock=some k)→(S k∨v2.ownBlock=some k):=fun k e=>e.imp (hs k) id;exact⟨⟨lx,e,ho.base_le hb,fun z hz=>(hd z hz).less m⟩,h.nodes.less m,h.buds.less m,fun k hk e=>h.sep k hk (hs k e)⟩
theorem jO.more {S:Nat→Prop} {B q:Nat} {w w':World} {v1 v2 v3:Value} {s:Clu} (h:jO S B w v1 v2 v3 s) (k:Kept w w') (hq:w.heap.size≤q):jO (fun b=>S b∨b=q) B w' v1 v2 v3 s:=by
 obtain⟨lx,e,ho,hd⟩:=h.pods;have m:∀b,((S b∨b=q)∨v2.ownBlock=some b)→((S b∨v2.ownBlock=some b)∨w.heap.size≤b):=fun b e=>by
  rcases e with (e | e) | e
  · exact .inl (.inl e)
  · exact .inr (by omega)
  · exact .inl (.inr e)
 exact⟨⟨lx,e,ho.kept k,fun z hz=>(hd z hz).new (jg.of k) m⟩,h.nodes.new (jg.of k) m,h.buds.new (jg.of k) m,fun b hb e=>by
  rcases e with e | e
  · exact h.sep b hb e
  · have:=(h.lt b hb).2;omega⟩
theorem jO.turn {S:Nat→Prop} {B:Nat} {w w':World} {v1 v2 v3 v2':Value} {s:Clu} {l:List Pd} (h:jO S B w v1 v2 v3 s) (g:jg (fun b=>v2.ownBlock=some b) w w') (hn:∀k,v2'.ownBlock=some k→v2.ownBlock=some k∨w.heap.size≤k)
 (hS:∀k,S k→k<w.heap.size) (hp:∃lx:List PX,(lx.map fun z=>z.1)=l∧Own PodLay0 44 w' B v2' lx∧∀z ∈ lx,Off (fun b=>S b∨v2'.ownBlock=some b) w' fun u=>At4 u z):jO S B w' v1 v2' v3 { s with pods:=l }:=by
 have g':jg (fun b=>S b∨v2.ownBlock=some b) w w':=g.mono fun b e=>.inr e;have m:∀b,(S b∨v2'.ownBlock=some b)→((S b∨v2.ownBlock=some b)∨w.heap.size≤b):=fun b e=>by
  rcases e with e | e
  · exact .inl (.inl e)
  · rcases hn b e with e | e
    · exact .inl (.inr e)
    · exact .inr e
 exact⟨hp,h.nodes.new g' m,h.buds.new g' m,fun k hk e=>by
  rcases hn k hk with h' | h'
  · exact h.sep k h' e
  · have:=hS k e;omega⟩
theorem jO.els {S:Nat→Prop} {B:Nat} {w w':World} {v2 v2':Value} {lx:List PX} (h:∀z ∈ lx,Off (fun b=>S b∨v2.ownBlock=some b) w fun u=>At4 u z) (g:jg (fun b=>v2.ownBlock=some b) w w') (hn:∀k,v2'.ownBlock=some k→v2.ownBlock=some k∨w.heap.size≤k):∀z ∈ lx,Off (fun b=>S b∨v2'.ownBlock=some b) w' fun u=>At4 u z:=fun z hz =>
 (h z hz).new (g.mono fun b e=>.inr e) fun b e=>by
  rcases e with e | e
  · exact .inl (.inl e)
  · rcases hn b e with e | e
    · exact .inl (.inr e)
    · exact .inr e
theorem jgz {T:TypeId} {B:Nat} {w:World} {v:Value} {lx:List NX} (h:Zz zH T At3 B w v lx):Off (fun b=>b<B) w fun u=>Jz u v (lx.map fun z=>z.1):=fun u g =>
 jec (h.2.1.own.goff g fun k hk e=>by have:=(J5 h.2.1.own k hk).1;omega) fun z hz=>(h.2.2 z hz) u (g.mono fun b hb=>.inl hb)
theorem jip {T:TypeId} {B:Nat} {w:World} {v:Value} {lx:List BX} (h:Zz zv T At1 B w v lx):Off (fun b=>b<B) w fun u=>Zf u v (lx.map fun z=>z.1):=fun u g =>
 jfY (h.2.1.own.goff g fun k hk e=>by have:=(J5 h.2.1.own k hk).1;omega) fun z hz=>(h.2.2 z hz) u (g.mono fun b hb=>.inl hb)
theorem jiF {q B:Nat} {z w1 w2 w3 WE:World} {v1 v2 v3:Value} {lxn:List NX} {lxp:List PX} {lxb:List BX} (hq:q<z.heap.size) (hB:B≤z.heap.size)
 (fn:Zz zH 57 At3 z.heap.size w1 v1 lxn) (k1:Kept z w1) (fp:Zz PodLay0 44 At4 w1.heap.size w2 v2 lxp) (k2:Kept w1 w2) (fb:Zz zv 92 At1 w2.heap.size w3 v3 lxb) (k3:Kept w2 w3)
 (g:jg (fun b=>b=q) w3 WE):jO (fun b=>b<B) w1.heap.size WE v1 v2 v3 ⟨lxn.map fun z=>z.1,lxp.map fun z=>z.1,lxb.map fun z=>z.1⟩:=by
 have s1:=k1.size;have s2:=k2.size;have hp:∀b,v2.ownBlock=some b→w1.heap.size≤b∧b<w2.heap.size:=fun b hb=>J5 fp.2.1.own b hb;have gm:jg (fun b=>(b<B∨v2.ownBlock=some b)∨b=q) w3 WE:=g.mono fun b e=>.inr e;refine⟨⟨lxp,rfl,(fp.2.1.own.kept k3).goff g fun k hk e=>by have:=(hp k hk).1;omega,fun z hz=>(((fp.2.2 z hz).step (jg.of k3)).less (S':=fun b=>(b<B∨v2.ownBlock=some b)∨b=q) fun b e=>by
  rcases e with (e | e) | e
  · exact .inl (by omega)
  · exact .inr e
  · exact .inl (by omega)).step gm |>.less fun b e=>.inl e⟩,?_,?_,fun k hk e=>by have:=(hp k hk).1;omega⟩
 · have h:=(jgz fn).new (S':=fun b=>(b<B∨v2.ownBlock=some b)∨b=q) (jg.of (k2.trans k3)) fun b e=>by
    rcases e with (e | e) | e
    · exact .inl (by omega)
    · exact .inr (hp b e).1
    · exact .inl (by omega)
   exact(h.step gm).less fun b e=>.inl e
 · have h:=(jip fb).less (S':=fun b=>(b<B∨v2.ownBlock=some b)∨b=q) fun b e=>by
    rcases e with (e | e) | e
    · omega
    · exact(hp b e).2
    · omega
   exact(h.step gm).less fun b e=>.inl e
theorem jbQ (a b d:Option Addr) (len cap m c n e:Nat) (nl:List Nod) (pl:List Pd) (bl:List Bd) (w:World) (hn:jo w a len nl) (hp:jy w b m pl) (hb:j9 w d n bl) (h1:len≤cap) (h2:cap≤maxLen) (h3:m≤c) (h4:c≤maxLen) (h5:n≤e) (h6:e≤maxLen) (hl:jE ⟨nl,pl,bl⟩) :
 Calls Tryz.prog 36 #[.agg #[.slice a len cap,.slice b m c,.slice d n e]] w fun e w'=>∃a1 n1 c1 a2 n2 c2 a3 n3 c3,e=.returned (.agg #[.slice a1 n1 c1,.slice a2 n2 c2,.slice a3 n3 c3])∧jO (fun b=>b<w.heap.size) w.heap.size w' (.slice a1 n1 c1) (.slice a2 n2 c2) (.slice a3 n3 c3) ⟨nl,pl,bl⟩∧Kept w w':=by
 obtain⟨Z,hZ⟩:=eX ((w.alloc (.cells #[.slice a len cap,.slice b m c,.slice d n e] 26)).alloc (.cells #[.slice none 0 0,.slice none 0 0,.slice none 0 0] 26))
 have hkz:Kept w Z:=by rw[←hZ];exact jn _ _ _
 have hzs:Z.heap.size=w.heap.size+2:=by rw[←hZ];simp
 have HS:=lH (show ∀W,Kept Z W→W.cell? ⟨w.heap.size,0,none⟩=some (.slice a len cap)∧W.cell? ⟨w.heap.size,1,none⟩=some (.slice b m c)∧W.cell? ⟨w.heap.size,2,none⟩=some (.slice d n e) from fun W k=>by
  have cc:=jc w (.slice a len cap) [.slice b m c,.slice d n e] 26 W (by have:=ja (w.alloc (.cells #[.slice a len cap,.slice b m c,.slice d n e] 26)) (.cells #[.slice none 0 0,.slice none 0 0,.slice none 0 0] 26);rw[hZ] at this;exact this.trans k);exact⟨cc.at_ 0 _ rfl,cc.at_ 1 _ rfl,cc.at_ 2 _ rfl⟩)
 have HQ:=lH (show ∀W,Kept Z W→jf (w.heap.size+1) [.slice none 0 0,.slice none 0 0,.slice none 0 0] W from fun W k=>by
  have dd:=jc (w.alloc (.cells #[.slice a len cap,.slice b m c,.slice d n e] 26)) (.slice none 0 0) [.slice none 0 0,.slice none 0 0] 26 W (by rw[hZ];exact k);rw[World.size_alloc] at dd;exact dd)
 obtain⟨H1,H2,H3,Vc,Vf⟩:=lH5 (fun W (k:Kept Z W)=>jkI a len cap nl W (hn.kept (hkz.trans k)) h1 h2 (by rw[←hn.1];exact hl.nodesN) hl.nodes) (fun W (k:Kept Z W)=>jjI b m c pl W (hp.kept (hkz.trans k)) h3 h4 (by rw[←hp.1];exact hl.podsN) hl.pods) (fun W (k:Kept Z W)=>jjt d n e bl W (hb.kept (hkz.trans k)) h5 h6 (by rw[←hb.1];exact hl.budsN) hl.buds) hkz hzs;clear hn hp hb h1 h2 h3 h4 h5 h6 hl hkz hzs;go_enter Tryz.func36,Tryz.ntmps36;go_wp2;try rw[hZ]
 clear hZ;refine wp_region_held_drew (S:=fun W=>W.cell? ⟨w.heap.size,0,none⟩=some (.slice a len cap)∧W.cell? ⟨w.heap.size,1,none⟩=some (.slice b m c)∧W.cell? ⟨w.heap.size,2,none⟩=some (.slice d n e)) (by kernel_rfl) (HS.out _ (Kept.drew _)) (fun hHeld=>?_);refine tkI 0 ?_;refine tkI 1 ?_;refine tkI 3 ?_;refine tkI 4 ?_;refine tkI 6 ?_;refine tkI 7 ?_;try simp only[nP]
 refine rd1 2 fun K9 Ky=>?_;go_simp;refine(H1.out _ (Kept.drew _)).mono ?_;rintro e1 w1 ⟨v1,lx1,rfl,hm1,hf1,kk⟩;obtain⟨J1,K1,M1,F1⟩:=lH4 ((Kept.drew Z).trans kk) kk hm1 hf1;obtain⟨⟨a1,n1,c1,rfl⟩,-⟩:=hf1;clear kk hm1;refine Ky.out _ _ (HS.out _ J1.out) (fun _=>?_);clear Ky K9;try simp only[nP]
 refine rd1 5 fun K9 Ky=>?_;go_simp;refine(H2.out _ J1.out).mono ?_;rintro e2 w2 ⟨v2,lx2,rfl,hm2,hf2,kk⟩;obtain⟨J2,K2,M2,F2⟩:=lH4 (J1.out.trans kk) kk hm2 hf2;obtain⟨⟨a2,n2,c2,rfl⟩,-⟩:=hf2;clear kk hm2;refine Ky.out _ _ (HS.out _ J2.out) (fun _=>?_);clear Ky K9;try simp only[nP]
 refine rd1 8 fun K9 Ky=>?_;go_simp;refine(H3.out _ J2.out).mono ?_;rintro e3 w3 ⟨v3,lx3,rfl,hm3,hf3,kk⟩;obtain⟨J3,K3,M3,F3⟩:=lH4 (J2.out.trans kk) kk hm3 hf3;obtain⟨⟨a3,n3,c3,rfl⟩,-⟩:=hf3;clear kk hm3;refine Ky.out _ _ (HS.out _ J3.out) (fun _=>?_);clear Ky K9;try simp only[nP]
 refine tkI 9 ?_;try simp only[nP]
 have z0:=(HQ.out _ J3.out).at_ 0 _ rfl;have z1:=(HQ.out _ J3.out).at_ 1 _ rfl;have z2:=(HQ.out _ J3.out).at_ 2 _ rfl;have f0:=(HQ.out _ J3.out).free 0;have f1:=(HQ.out _ J3.out).free 1;have f2:=(HQ.out _ J3.out).free 2;refine rd1 10 fun K9 Ky=>?_;go_simp;have P:=lH (j5 (vs:=[.slice a1 n1 c1,.slice a2 n2 c2,.slice a3 n3 c3]) (HQ.out _ J3.out) rfl);refine Ky.out _ _ (by obtain⟨PC,hsz,hbl,hkp⟩:=P.out;obtain⟨o0,o1,o2⟩:=HS.out _ J3.out;exact⟨(World.cell?_of_block (a:=⟨w.heap.size,0,none⟩) (hbl w.heap.size (by omega))).trans o0,(World.cell?_of_block (a:=⟨w.heap.size,1,none⟩) (hbl w.heap.size (by omega))).trans o1,(World.cell?_of_block (a:=⟨w.heap.size,2,none⟩) (hbl w.heap.size (by omega))).trans o2⟩) (fun hHeld9=>?_);clear Ky K9 hHeld9 z0 f0 z1 f1 z2 f2;try simp only[nP]
 refine wpAnyH_done (by kernel_rfl) ?_ _;go_wp2;obtain⟨WE,hWE⟩:=eX (w3.setCells (w.heap.size+1) 0 [.slice a1 n1 c1,.slice a2 n2 c2,.slice a3 n3 c3])
 have hWE2:(((w3.setCell ⟨(w.heap.size+1),0,none⟩ (.slice a1 n1 c1)).setCell ⟨(w.heap.size+1),1,none⟩ (.slice a2 n2 c2)).setCell ⟨(w.heap.size+1),2,none⟩ (.slice a3 n3 c3))=WE:=hWE;rw[hWE] at P;try rw[hWE2]
 have GE:=lH (show jg (fun b=>b=w.heap.size+1) w3 WE by rw[←hWE];exact jg.cells (S:=fun b=>b=w.heap.size+1) _ rfl _ _ _);clear hWE hWE2;obtain⟨PC,hsz,hbl,hkp⟩:=P.out;have HO:=lH (jiF (z:=Z.drew) (q:=w.heap.size+1) (B:=w.heap.size) (by show w.heap.size+1<Z.heap.size;have:=Vf.out;omega) (by show w.heap.size≤Z.heap.size;have:=Vf.out;omega) F1.out K1.out F2.out K2.out F3.out K3.out GE.out);rw[M1.out,M2.out,M3.out] at HO;refine bodyPost_ret (by simp[results,Tryz.results36,go_sem,PC.at_ 0 _ rfl,PC.at_ 1 _ rfl,PC.at_ 2 _ rfl];try rfl) rfl ?_;exact⟨a1,n1,c1,a2,n2,c2,a3,n3,c3,rfl,HO.out.less (Vc.out.trans J1.out).size (fun k e=>e),hkp _ _ (by omega) (Vc.out.trans J3.out)⟩
def idxB (f:Pd→Bool):List Pd→Option Nat
 | []=>none
 | p::t=>if f p=true then some 0 else (idxB f t).map (·+1)
def jaS:Option Nat→Int
 | none=>-1
 | some k=>(k:Int)
theorem jdN {f:Pd→Bool} {l:List Pd} {p:Pd} {k:Nat} (hd:l.drop k=p::l.drop (k+1)) (h:f p=true) (hr:(idxB f (l.drop k)).map (·+k)=idxB f l):idxB f l=some k:=by
 rw[←hr,hd,idxB,if_pos h];simp
theorem jcm {f:Pd→Bool} {l:List Pd} {p:Pd} {k:Nat} (hd:l.drop k=p::l.drop (k+1)) (h:f p=false) (hr:(idxB f (l.drop k)).map (·+k)=idxB f l):(idxB f (l.drop (k+1))).map (·+(k+1))=idxB f l:=by
 rw[←hr,hd,idxB,if_neg (by rw[h];decide),Option.map_map];congr 1
 funext x
 show x+(k+1)=x+1+k;omega
theorem qA {f:Pd→Bool}:∀{l:List Pd} {k:Nat},idxB f l=some k→k<l.length
 | [],k,h=>by cases h
 | p::t,k,h=>by
  rw[idxB] at h;split at h
  · obtain rfl:=Option.some.inj h;simp
  · cases e:idxB f t with
    | none=>rw[e] at h;cases h
    | some j=>rw[e] at h;obtain rfl:=Option.some.inj h;have:=qA e;simp;omega
theorem jcq {x:ByteArray}:∀{l:List Pd},(match idxB (fun p=>eqS p.name x) l with | none=>l | some k=>l.take k++l.drop (k+1))=zc x l
 | []=>rfl
 | p::t=>by
  rw[idxB,zc];by_cases h:eqS p.name x=true
  · rw[if_pos h,if_pos h];simp
  · rw[if_neg h,if_neg h,←jcq (l:=t)]
    cases e:idxB (fun p=>eqS p.name x) t with
    | none=>rfl
    | some j=>simp
theorem jcd {x y:ByteArray}:∀{l:List Pd},(match idxB (fun p=>eqS p.name x) l with | none=>l | some k=>match l[k]? with | none=>l | some p=>l.set k { p with node:=y })=Jn x y l
 | []=>rfl
 | p::t=>by
  rw[idxB,Jn];by_cases h:eqS p.name x=true
  · rw[if_pos h,if_pos h];simp
  · rw[if_neg h,if_neg h,←jcd (l:=t)]
    cases e:idxB (fun p=>eqS p.name x) t with
    | none=>rfl
    | some j =>
     simp only[Option.map_some,List.getElem?_cons_succ,List.set_cons_succ]
     cases t[j]?<;>rfl
def placeN (x:ByteArray) (l:List Pd):Nat:=match idxB (fun p=>!leS p.name x) l with | none=>l.length | some k=>k
theorem XW (x:ByteArray) (l:List Pd):placeN x l≤l.length:=by
 unfold placeN
 cases e:idxB (fun p=>!leS p.name x) l with
 | none=>exact Nat.le_refl _
 | some k=>exact Nat.le_of_lt (qA e)
theorem YJ {p:Pd}:∀{l:List Pd},l.take (placeN p.name l)++p::l.drop (placeN p.name l)=JU p l
 | []=>rfl
 | q::t=>by
  have ih:=YJ (p:=p) (l:=t);rw[JU];unfold placeN at ih ⊢;rw[idxB];by_cases h:leS q.name p.name=true
  · have hn:ltS p.name q.name=false:=by
     cases e:ltS p.name q.name with
     | false=>rfl
     | true =>
      have:=Vec.ja8 e;rw[h] at this;cases this
    rw[if_neg (by rw[h];decide),if_neg (by rw[hn];decide),←ih]
    cases e:idxB (fun q=>!leS q.name p.name) t with
    | none=>simp
    | some j=>simp
  · have h':leS q.name p.name=false:=by simpa using h
    rw[if_pos (by rw[h'];rfl),if_pos (Vec.X5 h')];rfl
theorem jjr (n:Pd) (a1 a2 a3 a4:Option Addr) (m1 c1 m2 c2 m3 c3 m4 c4 q:Nat) (x:ByteArray) (w:World) (hq:w.cell? ⟨q,0,none⟩=some (.string x)) :
 Calls Tryz.prog 86 #[.agg #[.string n.name,.string n.owner,.int .i64 n.prio,.slice a1 m1 c1,.slice a2 m2 c2,.slice a3 m3 c3,.slice a4 m4 c4,.string n.key,.int .i64 n.most,.string n.node,.bool n.hold],.pointer (some ⟨q,0,none⟩)] w fun e w'=>e=.returned (.bool (eqS n.name x))∧Kept w w':=by
 have hq2:=cell_later (ja w (.cells #[.string n.name,.string n.owner,.int .i64 n.prio,.slice a1 m1 c1,.slice a2 m2 c2,.slice a3 m3 c3,.slice a4 m4 c4,.string n.key,.int .i64 n.most,.string n.node,.bool n.hold] 44)) hq;obtain⟨t,ht⟩:=eX (eqS n.name x)
 have ht':(n.name.toList==x.toList)=t:=ht;rw[ht];go_enter Tryz.func86,Tryz.ntmps86;go_wp2;go_ret;exact⟨by first | rfl | (rw[←ht];rfl),ja _ _⟩
theorem jjF (n:Pd) (a1 a2 a3 a4:Option Addr) (m1 c1 m2 c2 m3 c3 m4 c4 q:Nat) (x:ByteArray) (w:World) (hq:w.cell? ⟨q,0,none⟩=some (.string x)) :
 Calls Tryz.prog 176 #[.agg #[.string n.name,.string n.owner,.int .i64 n.prio,.slice a1 m1 c1,.slice a2 m2 c2,.slice a3 m3 c3,.slice a4 m4 c4,.string n.key,.int .i64 n.most,.string n.node,.bool n.hold],.pointer (some ⟨q,0,none⟩)] w fun e w'=>e=.returned (.bool (!leS n.name x))∧Kept w w':=by
 have hq2:=cell_later (ja w (.cells #[.string n.name,.string n.owner,.int .i64 n.prio,.slice a1 m1 c1,.slice a2 m2 c2,.slice a3 m3 c3,.slice a4 m4 c4,.string n.key,.int .i64 n.most,.string n.node,.bool n.hold] 44)) hq;obtain⟨t,ht⟩:=eX (leS n.name x)
 have ht':(Op.bytesLess n.name.toList x.toList||n.name.toList==x.toList)=t:=ht;rw[ht];go_enter Tryz.func176,Tryz.ntmps176;go_wp2;go_ret;exact⟨by first | rfl | (rw[←ht];rfl),ja _ _⟩
theorem jlv (a:Option Addr) (len cap q:Nat) (l:List Pd) (x:ByteArray) (w:World) (hr:jy w a len l) (hq:w.cell? ⟨q,0,none⟩=some (.string x)) :
 Calls Tryz.prog 72 #[.slice a len cap,.func (.func 86) #[] #[.pointer (some ⟨q,0,none⟩)]] w (Say (.int .i64 (jaS (idxB (fun p=>eqS p.name x) l))) w):=by
 have hl:=hr.1;have hm:=hr.2.1;unfold maxLen at hm;obtain⟨HL,HR,HQ⟩:=lH3 hl hr hq;clear hr hl hq;go_enter Tryz.func72,Tryz.ntmps72;go_wp2;go_loopw [8] (fun i wr=>∃k:Nat,k≤len∧i=.int .i64 k∧(idxB (fun p=>eqS p.name x) (l.drop k)).map (·+k)=idxB (fun p=>eqS p.name x) l∧Kept w wr) (fun i _=>len-(intOf i).toNat)
 case atStart=>exact⟨0,Nat.zero_le _,rfl,by simp,Kept.refl _⟩
 case round =>
  obtain⟨k,hk,rfl,hrest,hK⟩:=hrel;have HS:=lH hrest;have HK:=lH hK;by_cases hlt:k<len
  · obtain⟨b,off,rfl⟩:=HR.out.form.resolve_left (by omega);obtain⟨n,a1,m1,c1,a2,m2,c2,a3,m3,c3,a4,m4,c4,hn,hd,hb,p0,p1,p2,p3,p4,p5,p6,p7,p8,p9,p10,hat⟩:=(HR.out.kept hK).at_ hlt;have HD:=lH hd;have HC:=lH (jjr n a1 a2 a3 a4 m1 c1 m2 c2 m3 c3 m4 c4 q x wr (cell_later hK HQ.out));obtain⟨t,ht⟩:=eX ((eqS n.name x))
    have HT:=lH ht;rw[ht] at HC;clear hrest hK hat hd hn ht
    cases t with
    | true =>
     have HF:=lH (jdN (f:=fun p=>eqS p.name x) HD.out HT.out HS.out);go_wp2_with fail
     refine HC.out.mono ?_;rintro e w1 ⟨rfl,k1⟩;have K1:=lH (HK.out.trans k1);clear k1;go_wp2;go_ret;exact⟨by rw[HF.out];rfl,K1.out⟩
    | false =>
     have HE:=lH (jcm (f:=fun p=>eqS p.name x) HD.out HT.out HS.out);go_wp2_with fail
     refine HC.out.mono ?_;rintro e w1 ⟨rfl,k1⟩;have K1:=lH (HK.out.trans k1);clear k1;go_wp2;go_roundw
     case rel=>exact⟨k+1,by omega,by go_num,HE.out,K1.out⟩
     case measure=>simp[intOf];omega
  · have HF:=lH (show idxB (fun p=>eqS p.name x) l=none by rw[←hrest,List.drop_of_length_le (by rw[HL.out];omega)];rfl);clear hrest hK;go_wp2;go_ret;exact⟨by rw[HF.out];rfl,HK.out⟩
theorem jlE (a:Option Addr) (len cap q:Nat) (l:List Pd) (x:ByteArray) (w:World) (hr:jy w a len l) (hq:w.cell? ⟨q,0,none⟩=some (.string x)) :
 Calls Tryz.prog 72 #[.slice a len cap,.func (.func 176) #[] #[.pointer (some ⟨q,0,none⟩)]] w (Say (.int .i64 (jaS (idxB (fun p=>!leS p.name x) l))) w):=by
 have hl:=hr.1;have hm:=hr.2.1;unfold maxLen at hm;obtain⟨HL,HR,HQ⟩:=lH3 hl hr hq;clear hr hl hq;go_enter Tryz.func72,Tryz.ntmps72;go_wp2;go_loopw [8] (fun i wr=>∃k:Nat,k≤len∧i=.int .i64 k∧(idxB (fun p=>!leS p.name x) (l.drop k)).map (·+k)=idxB (fun p=>!leS p.name x) l∧Kept w wr) (fun i _=>len-(intOf i).toNat)
 case atStart=>exact⟨0,Nat.zero_le _,rfl,by simp,Kept.refl _⟩
 case round =>
  obtain⟨k,hk,rfl,hrest,hK⟩:=hrel;have HS:=lH hrest;have HK:=lH hK;by_cases hlt:k<len
  · obtain⟨b,off,rfl⟩:=HR.out.form.resolve_left (by omega);obtain⟨n,a1,m1,c1,a2,m2,c2,a3,m3,c3,a4,m4,c4,hn,hd,hb,p0,p1,p2,p3,p4,p5,p6,p7,p8,p9,p10,hat⟩:=(HR.out.kept hK).at_ hlt;have HD:=lH hd;have HC:=lH (jjF n a1 a2 a3 a4 m1 c1 m2 c2 m3 c3 m4 c4 q x wr (cell_later hK HQ.out));obtain⟨t,ht⟩:=eX ((!leS n.name x))
    have HT:=lH ht;rw[ht] at HC;clear hrest hK hat hd hn ht
    cases t with
    | true =>
     have HF:=lH (jdN (f:=fun p=>!leS p.name x) HD.out HT.out HS.out);go_wp2_with fail
     refine HC.out.mono ?_;rintro e w1 ⟨rfl,k1⟩;have K1:=lH (HK.out.trans k1);clear k1;go_wp2;go_ret;exact⟨by rw[HF.out];rfl,K1.out⟩
    | false =>
     have HE:=lH (jcm (f:=fun p=>!leS p.name x) HD.out HT.out HS.out);go_wp2_with fail
     refine HC.out.mono ?_;rintro e w1 ⟨rfl,k1⟩;have K1:=lH (HK.out.trans k1);clear k1;go_wp2;go_roundw
     case rel=>exact⟨k+1,by omega,by go_num,HE.out,K1.out⟩
     case measure=>simp[intOf];omega
  · have HF:=lH (show idxB (fun p=>!leS p.name x) l=none by rw[←hrest,List.drop_of_length_le (by rw[HL.out];omega)];rfl);clear hrest hK;go_wp2;go_ret;exact⟨by rw[HF.out];rfl,HK.out⟩
theorem jgN (a:Option Addr) (len cap:Nat) (l:List Pd) (x:ByteArray) (w:World) (hr:jy w a len l) :
 Calls Tryz.prog 37 #[.slice a len cap,.string x] w (Say (.int .i64 (jaS (idxB (fun p=>eqS p.name x) l))) w):=by
 have hmf:=hmfL (P:=Tryz.prog);have H:=lH (jlv a len cap w.heap.size l x (w.alloc (.cells #[.string x] 9)) (hr.kept (ja _ _)) ((jc w (.string x) [] 9 _ (Kept.refl _)).at_ 0 _ rfl));clear hr;go_enter Tryz.func37,Tryz.ntmps37;go_wp2_with fail
 refine H.out.mono ?_;rintro e w1 ⟨rfl,k⟩;have K:=lH ((ja _ _).trans k);clear k;go_wp2;go_ret;exact⟨rfl,K.out⟩
theorem qi (a:Option Addr) (len cap:Nat) (l:List Pd) (x:ByteArray) (w:World) (hr:jy w a len l) :
 Calls Tryz.prog 117 #[.slice a len cap,.string x] w (Say (.int .i64 (placeN x l:Nat)) w):=by
 have hmf:=hmfL (P:=Tryz.prog);have H:=lH (jlE a len cap w.heap.size l x (w.alloc (.cells #[.string x] 9)) (hr.kept (ja _ _)) ((jc w (.string x) [] 9 _ (Kept.refl _)).at_ 0 _ rfl));have HL:=lH hr.1;clear hr
 cases hi:idxB (fun p=>!leS p.name x) l with
 | none =>
  rw[hi] at H;have HP:=lH (show (placeN x l:Nat)=len by unfold placeN;rw[hi];exact HL.out);clear hi;unfold jaS at H;go_enter Tryz.func117,Tryz.ntmps117;go_wp2_with fail
  refine H.out.mono ?_;rintro e w1 ⟨rfl,k⟩;have K:=lH ((ja _ _).trans k);clear k;go_wp2;go_ret;exact⟨by rw[HP.out];rfl,K.out⟩
 | some j =>
  rw[hi] at H;have HP:=lH (show (placeN x l:Nat)=j by unfold placeN;rw[hi]);clear hi;unfold jaS at H;go_enter Tryz.func117,Tryz.ntmps117;go_wp2_with fail
  refine H.out.mono ?_;rintro e w1 ⟨rfl,k⟩;have K:=lH ((ja _ _).trans k);clear k;go_wp2;go_ret;exact⟨by rw[HP.out];rfl,K.out⟩
theorem X9 {w:World} {B:Nat} {e:TypeId} {s:Nat} {v:Value} {n:Nat} {xs:List Value} (h:w.ownsRow B e s v n xs):w.drew.ownsRow B e s v n xs:=h
theorem qD:(Tryz.prog.info? 44).map (fun i=>(i.zero,i.size,i.bytes))=some (some (.agg #[.string ByteArray.empty,.string ByteArray.empty,.int .i64 0,.slice none 0 0,.slice none 0 0,.slice none 0 0,.slice none 0 0,.string ByteArray.empty,.int .i64 0,.string ByteArray.empty,.bool false]),11,184):=by kernel_rfl
def zQ:Array Value:=#[.string ByteArray.empty,.string ByteArray.empty,.int .i64 0,.slice none 0 0,.slice none 0 0,.slice none 0 0,.slice none 0 0,.string ByteArray.empty,.int .i64 0,.string ByteArray.empty,.bool false]
theorem ja0:(Value.agg zQ).cells=zQ:=rfl
theorem Ze (n:Nat):(Builtin.zeroCells zQ n).size=n*11:=by
 unfold Builtin.zeroCells;rw[Array.size_map,Array.size_range];rfl
theorem jdV (n:Nat):∀v ∈ (Builtin.zeroCells zQ n).toList,v.oneCell'=true:=by
 intro v hv;unfold Builtin.zeroCells at hv;rw[Array.toList_map,List.mem_map] at hv;obtain⟨k,_,rfl⟩:=hv;have hs:zQ.size=11:=rfl;rw[hs];have hk:k % 11<11:=Nat.mod_lt _ (by decide);generalize k % 11=m at hk
 match m,hk with
 | 0,_=>rfl
 | 1,_=>rfl
 | 2,_=>rfl
 | 3,_=>rfl
 | 4,_=>rfl
 | 5,_=>rfl
 | 6,_=>rfl
 | 7,_=>rfl
 | 8,_=>rfl
 | 9,_=>rfl
 | 10,_=>rfl
 | m+11,h=>omega
theorem jhf (g i j len cap B:Nat) (xs:List Value) (w:World) (hown:w.ownsRow B 44 11 (.slice (some ⟨g,0,none⟩) len cap) len xs) (h1c:∀v ∈ xs,v.oneCell'=true) (hij:i<j) (hj:j≤len) :
 Calls Tryz.prog 79 #[.slice (some ⟨g,0,none⟩) len cap,.int .i64 i,.int .i64 j] w fun e w'=>e=.returned (.slice (some ⟨g,0,none⟩) (i+(len-j)) cap)∧w'.ownsRow B 44 11 (.slice (some ⟨g,0,none⟩) (i+(len-j)) cap) (i+(len-j)) (xs.take (i*11)++xs.drop (j*11))∧jg (fun b=>b=g) w w':=by
 obtain⟨cur,hB,hg,hn,hm,hs,ht,hl⟩:=Jw hown;obtain⟨i0,hi0,hz0,hz1,hz2⟩:=info_parts qD;have hcell:∀t,t<len*11→w.cell? ⟨g,t,none⟩=xs[t]?:=fun t h=>hown.cellAt t h;have hfr:∀t,w.frozen? ⟨g,t,none⟩=false:=fun t=>hown.frozenAt t;obtain⟨news,hnews⟩:∃news,news=xs.drop (j*11):=⟨_,rfl⟩
 have hlen:news.length=(len-j)*11:=by rw[hnews,List.length_drop,hl,Nat.sub_mul]
 have hget:∀t u,news[t]?=some u→w.cell? ⟨g,j*11+t,none⟩=some u:=by
  intro t u hu;have ht:=(List.getElem?_eq_some_iff.1 hu).1;rw[hlen] at ht;rw[hnews,List.getElem?_drop] at hu;rw[hcell _ (by omega)];exact hu
 have hsome:∀t,t<len*11→(w.cell? ⟨g,t,none⟩).isSome=true:=fun t h=>by
  rw[hcell t h,List.getElem?_eq_getElem (by rw[hl];exact h)];rfl
 obtain⟨A,hA,hsrc⟩:∃A:Addr,(if cap=j then (some ⟨g,0,none⟩:Option Addr) else some ⟨g,j*11,none⟩)=some A∧Hid (∀t u,news[t]?=some u→w.drew.cell? (A.add t)=some u):=by
  by_cases h:cap=j
  · refine⟨⟨g,0,none⟩,by simp[h],fun t u hu=>?_⟩;have h0:news.length=0:=by rw[hlen];omega
    rw[List.length_eq_zero_iff.1 h0] at hu;simp at hu
  · refine⟨⟨g,j*11,none⟩,by simp[h],fun t u hu=>?_⟩;rw[Addr.add_lit];exact hget t u hu
 have s2:Hid (∀u ∈ news,u.oneCell'=true):=fun u hu=>h1c u (by rw[hnews] at hu;exact List.mem_of_mem_drop hu);have s3:Hid (∀t,t<news.length→(w.drew.cell? ⟨g,0+i*11+t,none⟩).isSome=true∧w.drew.frozen? ⟨g,0+i*11+t,none⟩=false):=fun t h=>by
  rw[hlen] at h;exact⟨hsome _ (by omega),hfr _⟩
 have s1:Hid (news.length=(len-j)*11):=hlen;obtain⟨W1,hW1⟩:∃W1,W1=w.drew.setCells g (0+i*11) news:=⟨_,rfl⟩
 have hW1c:∀t,t<len*11→(W1.cell? ⟨g,t,none⟩).isSome=true:=fun t h=>by
  rw[hW1];exact isSome_setCells g news (0+i*11) w.drew (fun q hq=>(s3 q hq).1) t (hsome t h)
 have hcl:∀ty,(Builtin.clear_ #[23] ty #[.slice (some ⟨g,(i+(len-j))*11,none⟩) (len-(i+(len-j))) (cap-(i+(len-j)))]).run Tryz.prog W1=.ok (.tuple #[]) (W1.setCells g ((i+(len-j))*11) (Builtin.zeroCells zQ (len-(i+(len-j)))).toList) :=
  fun ty=>qt W1 _ 44 ty i0 (.agg zQ) Tryz.underlying23 hi0 hz0 g _ _ _ (by omega) (jdV _) (fun t h=>hW1c _ (by rw[ja0,Ze] at h;omega)) (fun t h=>by rw[hW1,World.frozen?_setCells];exact hfr _)
 have X:=lH (show (W1.setCells g ((i+(len-j))*11) (Builtin.zeroCells zQ (len-(i+(len-j)))).toList).ownsRow B 44 11 (.slice (some ⟨g,0,none⟩) (i+(len-j)) cap) (i+(len-j)) (xs.take (i*11)++xs.drop (j*11)) by
  have h:=jgf (w:=w.drew) (zs:=(Builtin.zeroCells zQ (len-(i+(len-j)))).toList) (X9 hown) (Nat.le_of_lt hij) hj (by rw[Array.length_toList,Ze,show len-(i+(len-j))=j-i by omega]);rw[hW1,Nat.zero_add,hnews];exact h)
 have GX:=lH (show jg (fun b=>b=g) w (W1.setCells g ((i+(len-j))*11) (Builtin.zeroCells zQ (len-(i+(len-j)))).toList) by
  rw[hW1];exact((jg.drew w).trans (jg.cells (S:=fun b=>b=g) g rfl _ _ _)).trans (jg.cells (S:=fun b=>b=g) g rfl _ _ _))
 have hW:Hid (W1=w.drew.setCells g (0+i*11) news):=hW1;have t23:=Tryz.underlying23;have hic:i≤cap:=by omega
 have hjc:j≤cap:=by omega
 have hil:i<len:=by omega
 have hm':cap≤9223372036854775807:=by unfold maxLen at hm;omega
 clear hown hB hg hs ht hl hcell hfr hnews hlen hget hsome h1c hW1 hW1c hm;go_enter Tryz.func79,Tryz.ntmps79;go_wp2_with fail
 go_region_law (refine step_append_room rfl (.tmp 22) (.tmp 25) 23 rfl 44 i0 11 t23 hi0 hz1 g 0 i cap (by simp[Act.eval,Act.put]) A (len-j) (cap-j) news (by simp[Act.eval,Act.put]) s1.out hsrc.out s2.out (by omega) s3.out ?_;rw[←hW.out])
 go_wp2;go_ret;exact⟨rfl,X.out,GX.out⟩
theorem jc0 (a:Option Addr) (len cap:Nat) (l:List Pd) (x:ByteArray) (w:World) (hr:jy w a len l):Calls Tryz.prog 37 #[.slice a len cap,.string x] w fun e w'=>∃i:Int,e=.returned (.int .i64 i)∧((i=-1∧idxB (fun p=>eqS p.name x) l=none)∨∃k:Nat,i=(k:Int)∧idxB (fun p=>eqS p.name x) l=some k)∧Kept w w':=by
 refine(jgN a len cap l x w hr).mono ?_;rintro e w' ⟨rfl,k⟩;refine⟨_,rfl,?_,k⟩
 cases idxB (fun p=>eqS p.name x) l with
 | none=>exact .inl ⟨rfl,rfl⟩
 | some j=>exact .inr ⟨j,rfl,rfl⟩
theorem jkP {x:ByteArray} {l:List Pd} (h:idxB (fun p=>eqS p.name x) l=none):zc x l=l:=by have:=jcq (x:=x) (l:=l);rw[h] at this;exact this.symm
theorem jkb {x:ByteArray} {l:List Pd} {k:Nat} (h:idxB (fun p=>eqS p.name x) l=some k):zc x l=l.take k++l.drop (k+1):=by have:=jcq (x:=x) (l:=l);rw[h] at this;exact this.symm
theorem jkO {x y:ByteArray} {l:List Pd} (h:idxB (fun p=>eqS p.name x) l=none):Jn x y l=l:=by have:=jcd (x:=x) (y:=y) (l:=l);rw[h] at this;exact this.symm
theorem jkc {x y:ByteArray} {l:List Pd} {k:Nat} {p:Pd} (h:idxB (fun p=>eqS p.name x) l=some k) (hp:l[k]?=some p):Jn x y l=l.set k { p with node:=y }:=by have:=jcd (x:=x) (y:=y) (l:=l);rw[h] at this;dsimp only at this;rw[hp] at this;exact this.symm
theorem Xr {X:Type} (L:Lay X) (l:List X) (k:Nat):je L (l.take k)=(je L l).take (k*L.m):=by
 have h:=JD L (l.take k) (l.drop k);rw[List.take_append_drop] at h;by_cases hk:k≤l.length
 · have hlen:(je L (l.take k)).length=k*L.m:=by rw[jZ,List.length_take,Nat.min_eq_left hk]
   have e:=List.take_left' (l₂:=je L (l.drop k)) hlen;rw[←h] at e;exact e.symm
 · rw[List.take_of_length_le (by omega),List.take_of_length_le (by rw[jZ];exact Nat.mul_le_mul_right _ (by omega))]
theorem jaz {X:Type} (L:Lay X) (l:List X) (k:Nat):je L (l.drop k)=(je L l).drop (k*L.m):=by
 have h:=JD L (l.take k) (l.drop k);rw[List.take_append_drop,Xr] at h;have h2:=List.take_append_drop (k*L.m) (je L l);exact(List.append_cancel_left (h2.trans h)).symm
theorem jO.cut {S:Nat→Prop} {B g i j len cap:Nat} {w w':World} {v1 v3:Value} {s:Clu} (h:jO S B w v1 (.slice (some ⟨g,0,none⟩) len cap) v3 s) (hij:i≤j) (hj:j≤len) (hS:∀k,S k→k<w.heap.size)
 (ho:∀xs,w.ownsRow B 44 11 (.slice (some ⟨g,0,none⟩) len cap) len xs→w'.ownsRow B 44 11 (.slice (some ⟨g,0,none⟩) (i+(len-j)) cap) (i+(len-j)) (xs.take (i*11)++xs.drop (j*11))) (gg:jg (fun b=>b=g) w w') :
 jO S B w' v1 (.slice (some ⟨g,0,none⟩) (i+(len-j)) cap) v3 { s with pods:=s.pods.take i++s.pods.drop j }:=by
 obtain⟨lx,e,hown,hd⟩:=h.pods;obtain⟨a',c',e',_⟩:=hown.at_;have hlen:lx.length=len:=by cases e';rfl
 have g':jg (fun b=>(Value.slice (some ⟨g,0,none⟩) len cap).ownBlock=some b) w w':=gg.mono fun b e=>by rw[e];rfl
 refine h.turn g' (fun k hk=>.inl hk) hS ⟨lx.take i++lx.drop j,by rw[List.map_append,List.map_take,List.map_drop,e],⟨?_,fun x hx=>trivial⟩,jO.els (B:=B) (v2':=.slice (some ⟨g,0,none⟩) (i+(len-j)) cap) (fun z hz=>hd z ?_) g' (fun k hk=>.inl hk)⟩
 · have h1:=ho _ (by have:=hown.1;rw[hlen] at this;exact this);have hll:(lx.take i++lx.drop j).length=i+(len-j):=by rw[List.length_append,List.length_take,List.length_drop,hlen];omega
   rw[hll,JD,Xr,jaz];exact h1
 · rcases List.mem_append.1 hz with hz | hz
   · exact List.mem_of_mem_take hz
   · exact List.mem_of_mem_drop hz
theorem jO.moved {S:Nat→Prop} {B g k len cap:Nat} {w:World} {v1 v3:Value} {s:Clu} {p:Pd} {y:ByteArray} (h:jO S B w v1 (.slice (some ⟨g,0,none⟩) len cap) v3 s) (hk:s.pods[k]?=some p) (hy:y.size≤maxLen) (hS:∀k,S k→k<w.heap.size) :
 jO S B (w.setCell ⟨g,k*11+9,none⟩ (.string y)) v1 (.slice (some ⟨g,0,none⟩) len cap) v3 { s with pods:=s.pods.set k { p with node:=y } }:=by
 obtain⟨lx,e,hown,hd⟩:=h.pods;obtain⟨a',c',e',_⟩:=hown.at_;have hlen:lx.length=len:=by cases e';rfl
 have g':jg (fun b=>(Value.slice (some ⟨g,0,none⟩) len cap).ownBlock=some b) w (w.setCell ⟨g,k*11+9,none⟩ (.string y)):=jg.cell (S:=fun b=>(Value.slice (some ⟨g,0,none⟩) len cap).ownBlock=some b) g _ _ rfl;rw[←e,List.getElem?_map] at hk;obtain⟨⟨n,x1,x2,x3,x4⟩,hz,hpe⟩:=Option.map_eq_some_iff.1 hk;have hpe:n=p:=hpe;subst hpe;have hkl:k<lx.length:=(List.getElem?_eq_some_iff.1 hz).1;have hcs:=YR PodLay0 lx k ({ n with node:=y },x1,x2,x3,x4) hkl;have hid:=YR PodLay0 lx k (n,x1,x2,x3,x4) hkl;rw[show lx.set k (n,x1,x2,x3,x4)=lx by
  apply List.ext_getElem?;intro i;by_cases e:k=i
  · subst e;rw[List.getElem?_set_self hkl,hz]
  · rw[List.getElem?_set_ne e]] at hid
 have hrow:(je PodLay0 lx).set (k*11+9) (.string y)=je PodLay0 (lx.set k ({ n with node:=y },x1,x2,x3,x4)):=by
  rw[←hcs];have hA:((je PodLay0 lx).take (k*11)).length=k*11:=by
   rw[List.length_take,jZ];exact Nat.min_eq_left (Nat.mul_le_mul_right 11 (Nat.le_of_lt hkl))
  have e1:je PodLay0 lx=(je PodLay0 lx).take (k*11)++(PodLay0.cs (n,x1,x2,x3,x4)++(je PodLay0 lx).drop (k*11+11)):=by rw[←List.append_assoc];exact hid.symm
  have e2:∀(A C D:List Value),A.length=k*11→C.length=11→(A++(C++D)).set (k*11+9) (.string y)=A++(C.set 9 (.string y)++D):=fun A C D ha hc=>by
   rw[List.set_append_right _ _ (by omega),List.set_append_left _ _ (by omega),ha,show k*11+9-k*11=9 by omega]
  have e3:=e2 ((je PodLay0 lx).take (k*11)) (PodLay0.cs (n,x1,x2,x3,x4)) ((je PodLay0 lx).drop (k*11+11)) hA rfl;rw[←e1] at e3;rw[e3];show _=(je PodLay0 lx).take (k*11)++_++(je PodLay0 lx).drop (k*11+11);rw[List.append_assoc];rfl
 refine h.turn g' (fun q hq=>.inl hq) hS ⟨lx.set k ({ n with node:=y },x1,x2,x3,x4),?_,⟨?_,fun x hx=>trivial⟩,jO.els (B:=B) (v2':=.slice (some ⟨g,0,none⟩) len cap) (fun z hz'=>?_) g' (fun q hq=>.inl hq)⟩
 · rw[←e,List.map_set]
 · have h0:w.ownsRow B 44 11 (.slice (some ⟨g,0,none⟩) len cap) len (je PodLay0 lx):=by have:=hown.1;rw[hlen] at this;exact this
   have h1:=World.ownsRow.stored h0 (k*11+9) (.string y);rw[hrow] at h1;rw[List.length_set,hlen];exact h1.1
 · rcases List.mem_or_eq_of_mem_set hz' with h' | h'
   · exact hd z h'
   · subst h';exact(hd _ (List.mem_of_getElem? hz)).imp fun u hu=>⟨hu.name,hu.owner,hu.key,hy,hu.prio,hu.most,hu.need,hu.labels,hu.sel,hu.tols⟩
theorem jif {S:Nat→Prop} {B g i j len cap:Nat} {w:World} {v1 v3:Value} {s:Clu} (h:jO S B w v1 (.slice (some ⟨g,0,none⟩) len cap) v3 s) (hij:i<j) (hj:j≤len) (hS:∀k,S k→k<w.heap.size) :
 Calls Tryz.prog 79 #[.slice (some ⟨g,0,none⟩) len cap,.int .i64 i,.int .i64 j] w fun e w'=>e=.returned (.slice (some ⟨g,0,none⟩) (i+(len-j)) cap)∧jO S B w' v1 (.slice (some ⟨g,0,none⟩) (i+(len-j)) cap) v3 { s with pods:=s.pods.take i++s.pods.drop j }∧jg (fun b=>b=g) w w':=by
 obtain⟨lx,e,hown,hd⟩:=h.pods;obtain⟨a',c',e',_⟩:=hown.at_;have hlen:lx.length=len:=by cases e';rfl
 refine(jhf g i j len cap B (je PodLay0 lx) w (by have:=hown.1;rw[hlen] at this;exact this) (Jk _ _) hij hj).mono ?_;rintro e w' ⟨rfl,ho,hg⟩;refine⟨rfl,h.cut (Nat.le_of_lt hij) hj hS (fun xs hx=>?_) hg,hg⟩;have:xs=je PodLay0 lx:=by
  obtain⟨cur,_,h1,_,_,_,h2,_⟩:=Jw hx;obtain⟨cur',_,h1',_,_,_,h2',_⟩:=Jw (show w.ownsRow B 44 11 (.slice (some ⟨g,0,none⟩) len cap) len (je PodLay0 lx) by have:=hown.1;rw[hlen] at this;exact this);rw[h1] at h1'
  cases h1'
  rw[←h2,←h2']
 rw[this];exact ho
theorem jcE (a b d:Option Addr) (len cap m c n e:Nat) (nl:List Nod) (pl:List Pd) (bl:List Bd) (x:ByteArray) (w:World) (hn:jo w a len nl) (hp:jy w b m pl) (hb:j9 w d n bl) (h1:len≤cap) (h2:cap≤maxLen) (h3:m≤c) (h4:c≤maxLen) (h5:n≤e) (h6:e≤maxLen) (hl:jE ⟨nl,pl,bl⟩) :
 Calls Tryz.prog 35 #[.agg #[.slice a len cap,.slice b m c,.slice d n e],.string x] w fun e w'=>∃a1 n1 c1 a2 n2 c2 a3 n3 c3,e=.returned (.agg #[.slice a1 n1 c1,.slice a2 n2 c2,.slice a3 n3 c3])∧jO (fun b=>b<w.heap.size) w.heap.size w' (.slice a1 n1 c1) (.slice a2 n2 c2) (.slice a3 n3 c3) (zG ⟨nl,pl,bl⟩ x)∧Kept w w':=by
 obtain⟨Z,hZ⟩:=eX ((w.alloc (.cells #[.slice a len cap,.slice b m c,.slice d n e] 26)).alloc (.cells #[.slice none 0 0,.slice none 0 0,.slice none 0 0] 26))
 have hkz:Kept w Z:=by rw[←hZ];exact jn _ _ _
 have hzs:Z.heap.size=w.heap.size+2:=by rw[←hZ];simp
 have cc:=jc w (.slice a len cap) [.slice b m c,.slice d n e] 26 Z (by have:=ja (w.alloc (.cells #[.slice a len cap,.slice b m c,.slice d n e] 26)) (.cells #[.slice none 0 0,.slice none 0 0,.slice none 0 0] 26);rw[hZ] at this;exact this);have o0:=cc.at_ 0 _ rfl;have o1:=cc.at_ 1 _ rfl;have o2:=cc.at_ 2 _ rfl;have HQ:=lH (show jf (w.heap.size+1) [.slice none 0 0,.slice none 0 0,.slice none 0 0] Z by
  have dd:=jc (w.alloc (.cells #[.slice a len cap,.slice b m c,.slice d n e] 26)) (.slice none 0 0) [.slice none 0 0,.slice none 0 0] 26 Z (by rw[hZ];exact Kept.refl _);rw[World.size_alloc] at dd;exact dd)
 obtain⟨HO,Vc,Vf,UI⟩:=lH4 (jbQ a b d len cap m c n e nl pl bl Z (hn.kept hkz) (hp.kept hkz) (hb.kept hkz) h1 h2 h3 h4 h5 h6 hl) hkz hzs hl.podsN;clear hn hp hb h1 h2 h3 h4 h5 h6 hl hkz hzs cc;go_enter Tryz.func35,Tryz.ntmps35;go_wp2_with fail
 try rw[hZ]
 go_wp2_with fail
 try rw[hZ]
 clear hZ o0 o1 o2;refine HO.out.mono ?_;rintro e1 w1 ⟨a1,n1,c1,a2,n2,c2,a3,n3,c3,rfl,ho,k1⟩;obtain⟨W1,hW1⟩:=eX (w1.alloc (.cells #[.slice a1 n1 c1,.slice a2 n2 c2,.slice a3 n3 c3] 26))
 have hkw:Kept w1 W1:=by rw[←hW1];exact ja _ _
 obtain⟨HC,HW,HQ,K,Vn⟩:=lH5 (ho.more (q:=w1.heap.size) hkw (Nat.le_refl _)) (show jf w1.heap.size [.slice a1 n1 c1,.slice a2 n2 c2,.slice a3 n3 c3] W1 from jc w1 (.slice a1 n1 c1) [.slice a2 n2 c2,.slice a3 n3 c3] 26 W1 (by rw[hW1];exact Kept.refl _)) (HQ.out.kept (k1.trans hkw)) (k1.trans hkw) (show Z.heap.size≤w1.heap.size∧w1.heap.size<W1.heap.size from⟨k1.size,by rw[←hW1,World.size_alloc];exact Nat.lt_succ_self _⟩);clear ho k1 hkw;obtain⟨u1,u2,u3,hu,hat⟩:=HC.out.toR
 cases hu
 obtain⟨ap,cp,ep,l1,l2,hpat⟩:=hat.pods
 cases ep
 have UT:=lH hpat;have Rn:=lH (And.intro l1 l2);clear hat hpat l1 l2;obtain⟨y0,y1,y2⟩:=HW.out.at3;go_wp2_with fail
 try rw[hW1]
 go_wp2_with fail
 try rw[hW1]
 clear hW1 y0 y1 y2;refine(jc0 a2 _ c2 pl x _ UT.out).mono ?_;rintro e2 w2 ⟨i9,rfl,hidx,k2⟩;obtain⟨K2,VV,UB,Uf,U9⟩:=lH5 (K.out.trans k2) (HC.out.kept k2) (HW.out.kept k2) (HQ.out.kept k2) (show w1.heap.size<w2.heap.size from Nat.lt_of_lt_of_le Vn.out.2 k2.size);clear k2;rcases hidx with ⟨rfl,hi⟩ | ⟨k,rfl,hi⟩
 · skip;have UU:=lH (show zG ⟨nl,pl,bl⟩ x=⟨nl,pl,bl⟩ by unfold zG;dsimp only;rw[jkP hi]);clear hi;obtain⟨y0,y1,y2⟩:=UB.out.at3;obtain⟨z0,z1,z2⟩:=Uf.out.at3;have f0:=Uf.out.free 0;have f1:=Uf.out.free 1;have f2:=Uf.out.free 2;have P:=lH (j5 (vs:=[.slice a1 n1 c1,.slice a2 pl.length c2,.slice a3 n3 c3]) Uf.out rfl);go_wp2;obtain⟨WE,hWE⟩:=eX (w2.setCells (w.heap.size+1) 0 [.slice a1 n1 c1,.slice a2 pl.length c2,.slice a3 n3 c3])
   have hWE2:(((w2.setCell ⟨(w.heap.size+1),0,none⟩ (.slice a1 n1 c1)).setCell ⟨(w.heap.size+1),1,none⟩ (.slice a2 pl.length c2)).setCell ⟨(w.heap.size+1),2,none⟩ (.slice a3 n3 c3))=WE:=hWE;rw[hWE] at P;try rw[hWE2]
   have GE:=lH (show jg (fun b=>b<Z.heap.size∨b=w1.heap.size) w2 WE by rw[←hWE];exact jg.cells (S:=fun b=>b<Z.heap.size∨b=w1.heap.size) _ (.inl (by have:=Vf.out;omega)) _ _ _);clear hWE hWE2;obtain⟨PC,hsz,hbl,hkp⟩:=P.out;refine bodyPost_ret (by simp[results,Tryz.results35,go_sem,PC.at_ 0 _ rfl,PC.at_ 1 _ rfl,PC.at_ 2 _ rfl];try rfl) rfl ?_;have Vr:=((VV.out).step GE.out).less (B':=w.heap.size) (S':=fun b=>b<w.heap.size) Vc.out.size (fun b hb=>.inl (Nat.lt_of_lt_of_le hb Vc.out.size));exact⟨_,_,_,_,_,_,_,_,_,rfl,by rw[UU.out];exact Vr,hkp _ _ (by omega) (Vc.out.trans K2.out)⟩
 · skip;have hkl:=qA hi;have UU:=lH (show zG ⟨nl,pl,bl⟩ x=⟨nl,pl.take k++pl.drop (k+1),bl⟩ by unfold zG;dsimp only;rw[jkb hi]);have Ro:=lH hkl;clear hi;obtain⟨g,rfl⟩:∃g,a2=some ⟨g,0,none⟩:=by
    obtain⟨lx,e,ho,-⟩:=VV.out.pods;rcases ho.1.2 with ⟨h0,h1⟩ | ⟨g,c9,cur,h0,-⟩
    · injection h0 with e1 e2 e3;omega
    · injection h0 with e1 e2 e3;exact⟨g,e1⟩
   have Ta:=lH (show g≠w1.heap.size∧Z.heap.size≤g from by
    have h1:=VV.out.sep g rfl;have h2:=(VV.out.lt g rfl).1;exact⟨fun e=>h1 (.inr e),h2⟩)
   obtain⟨k1,hk1⟩:∃q:Nat,(k:Int)+1=(q:Int):=⟨k+1,by omega⟩
   have TZ:=lH (show k1=k+1 by omega);have Tb:pl.length≤100000:=UI.out;have hw9:IntKind.i64.wrap ((k1:Nat):Int)=(k1:Int):=by have:=Ro.out;have:=TZ.out;rw[IntKind.wrap_i64];omega
   have UU:=lH (show zG ⟨nl,pl,bl⟩ x=⟨nl,pl.take k++pl.drop k1,bl⟩ by rw[UU.out,TZ.out]);have RV:=lH (jif (i:=k) (j:=k1) VV.out (by have:=TZ.out;omega) (by have:=TZ.out;have:=Ro.out;omega) (fun b hb=>by have:=U9.out;have:=Vn.out.1;rcases hb with hb | hb<;>omega));obtain⟨len9,hlen9⟩:=eX (pl.length)
   rw[hlen9] at RV UB ⊢;have Ui:=lH hlen9;clear hkl Tb hlen9;have y1:=UB.out.at_ 1 _ rfl;go_wp2_with fail
   clear y1;refine RV.out.mono ?_;rintro e3 w3 ⟨rfl,hc3,hg3⟩;obtain⟨TI,Rp,Nz,K3⟩:=lH4 hc3 (UB.out.block (hg3.block _ U9.out (fun e=>Ta.out.1 e.symm))) (Uf.out.block (hg3.block _ (by have:=Vf.out;have:=Vn.out.1;have:=U9.out;omega) (fun e=>by have:=Ta.out.2;have:=Vf.out;omega))) (show Kept w w3 from Below.trans (Vc.out.trans K2.out) (hg3.at_below (B:=w.heap.size) (fun q e=>by have:=Ta.out.2;have:=Vf.out;omega) (Vc.out.trans K2.out).size));clear hc3 hg3;have y1:=Rp.out.at_ 1 _ rfl;have x1:=Rp.out.free 1;obtain⟨NA,VP,NB,K4⟩:=lH4 (show jf w1.heap.size [.slice a1 n1 c1,.slice (some ⟨g,0,none⟩) (k+(len9-k1)) c2,.slice a3 n3 c3] (w3.setCell ⟨w1.heap.size,1,none⟩ (.slice (some ⟨g,0,none⟩) (k+(len9-k1)) c2)) from Rp.out.set (j:=1) (by simp)) (Nz.out.other (p:=w1.heap.size) (j:=1) (u:=.slice (some ⟨g,0,none⟩) (k+(len9-k1)) c2) (by have:=Vf.out;have:=Vn.out.1;omega)) (TI.out.step (jg.cell (S:=fun b=>b<Z.heap.size∨b=w1.heap.size) w1.heap.size 1 (.slice (some ⟨g,0,none⟩) (k+(len9-k1)) c2) (.inr rfl))) (show Kept w (w3.setCell ⟨w1.heap.size,1,none⟩ (.slice (some ⟨g,0,none⟩) (k+(len9-k1)) c2)) from K3.out.setCell (p:=⟨w1.heap.size,1,none⟩) (by have:=Vf.out;have:=Vn.out.1;show w.heap.size≤w1.heap.size;omega) _);obtain⟨y0,y1,y2⟩:=NA.out.at3;obtain⟨z0,z1,z2⟩:=VP.out.at3;have f0:=VP.out.free 0;have f1:=VP.out.free 1;have f2:=VP.out.free 2;have P:=lH (j5 (vs:=[.slice a1 n1 c1,.slice (some ⟨g,0,none⟩) (k+(len9-k1)) c2,.slice a3 n3 c3]) VP.out rfl);go_wp2;obtain⟨WE,hWE⟩:=eX ((w3.setCell ⟨w1.heap.size,1,none⟩ (.slice (some ⟨g,0,none⟩) (k+(len9-k1)) c2)).setCells (w.heap.size+1) 0 [.slice a1 n1 c1,.slice (some ⟨g,0,none⟩) (k+(len9-k1)) c2,.slice a3 n3 c3])
   have hWE2:((((w3.setCell ⟨w1.heap.size,1,none⟩ (.slice (some ⟨g,0,none⟩) (k+(len9-k1)) c2)).setCell ⟨(w.heap.size+1),0,none⟩ (.slice a1 n1 c1)).setCell ⟨(w.heap.size+1),1,none⟩ (.slice (some ⟨g,0,none⟩) (k+(len9-k1)) c2)).setCell ⟨(w.heap.size+1),2,none⟩ (.slice a3 n3 c3))=WE:=hWE;rw[hWE] at P;try rw[hWE2]
   have GE:=lH (show jg (fun b=>b<Z.heap.size∨b=w1.heap.size) (w3.setCell ⟨w1.heap.size,1,none⟩ (.slice (some ⟨g,0,none⟩) (k+(len9-k1)) c2)) WE by rw[←hWE];exact jg.cells (S:=fun b=>b<Z.heap.size∨b=w1.heap.size) _ (.inl (by have:=Vf.out;omega)) _ _ _);clear hWE hWE2;obtain⟨PC,hsz,hbl,hkp⟩:=P.out;refine bodyPost_ret (by simp[results,Tryz.results35,go_sem,PC.at_ 0 _ rfl,PC.at_ 1 _ rfl,PC.at_ 2 _ rfl];try rfl) rfl ?_;have Vr:=((NB.out).step GE.out).less (B':=w.heap.size) (S':=fun b=>b<w.heap.size) Vc.out.size (fun b hb=>.inl (Nat.lt_of_lt_of_le hb Vc.out.size));exact⟨_,_,_,_,_,_,_,_,_,rfl,by rw[UU.out];exact Vr,hkp _ _ (by omega) K4.out⟩
theorem jad (a b d:Option Addr) (len cap m c n e:Nat) (nl:List Nod) (pl:List Pd) (bl:List Bd) (x y:ByteArray) (w:World) (hy:y.size≤maxLen) (hn:jo w a len nl) (hp:jy w b m pl) (hb:j9 w d n bl) (h1:len≤cap) (h2:cap≤maxLen) (h3:m≤c) (h4:c≤maxLen) (h5:n≤e) (h6:e≤maxLen) (hl:jE ⟨nl,pl,bl⟩) :
 Calls Tryz.prog 13 #[.agg #[.slice a len cap,.slice b m c,.slice d n e],.string x,.string y] w fun e w'=>∃a1 n1 c1 a2 n2 c2 a3 n3 c3,e=.returned (.agg #[.slice a1 n1 c1,.slice a2 n2 c2,.slice a3 n3 c3])∧jO (fun b=>b<w.heap.size) w.heap.size w' (.slice a1 n1 c1) (.slice a2 n2 c2) (.slice a3 n3 c3) (zZ ⟨nl,pl,bl⟩ x y)∧Kept w w':=by
 obtain⟨Z,hZ⟩:=eX ((w.alloc (.cells #[.slice a len cap,.slice b m c,.slice d n e] 26)).alloc (.cells #[.slice none 0 0,.slice none 0 0,.slice none 0 0] 26))
 have hkz:Kept w Z:=by rw[←hZ];exact jn _ _ _
 have hzs:Z.heap.size=w.heap.size+2:=by rw[←hZ];simp
 have cc:=jc w (.slice a len cap) [.slice b m c,.slice d n e] 26 Z (by have:=ja (w.alloc (.cells #[.slice a len cap,.slice b m c,.slice d n e] 26)) (.cells #[.slice none 0 0,.slice none 0 0,.slice none 0 0] 26);rw[hZ] at this;exact this);have o0:=cc.at_ 0 _ rfl;have o1:=cc.at_ 1 _ rfl;have o2:=cc.at_ 2 _ rfl;have HQ:=lH (show jf (w.heap.size+1) [.slice none 0 0,.slice none 0 0,.slice none 0 0] Z by
  have dd:=jc (w.alloc (.cells #[.slice a len cap,.slice b m c,.slice d n e] 26)) (.slice none 0 0) [.slice none 0 0,.slice none 0 0] 26 Z (by rw[hZ];exact Kept.refl _);rw[World.size_alloc] at dd;exact dd)
 obtain⟨HO,Vc,Vf,UI,HY⟩:=lH5 (jbQ a b d len cap m c n e nl pl bl Z (hn.kept hkz) (hp.kept hkz) (hb.kept hkz) h1 h2 h3 h4 h5 h6 hl) hkz hzs hl.podsN hy;clear hy hn hp hb h1 h2 h3 h4 h5 h6 hl hkz hzs cc;go_enter Tryz.func13,Tryz.ntmps13;go_wp2_with fail
 try rw[hZ]
 go_wp2_with fail
 try rw[hZ]
 clear hZ o0 o1 o2;refine HO.out.mono ?_;rintro e1 w1 ⟨a1,n1,c1,a2,n2,c2,a3,n3,c3,rfl,ho,k1⟩;obtain⟨W1,hW1⟩:=eX (w1.alloc (.cells #[.slice a1 n1 c1,.slice a2 n2 c2,.slice a3 n3 c3] 26))
 have hkw:Kept w1 W1:=by rw[←hW1];exact ja _ _
 obtain⟨HC,HW,HQ,K,Vn⟩:=lH5 (ho.more (q:=w1.heap.size) hkw (Nat.le_refl _)) (show jf w1.heap.size [.slice a1 n1 c1,.slice a2 n2 c2,.slice a3 n3 c3] W1 from jc w1 (.slice a1 n1 c1) [.slice a2 n2 c2,.slice a3 n3 c3] 26 W1 (by rw[hW1];exact Kept.refl _)) (HQ.out.kept (k1.trans hkw)) (k1.trans hkw) (show Z.heap.size≤w1.heap.size∧w1.heap.size<W1.heap.size from⟨k1.size,by rw[←hW1,World.size_alloc];exact Nat.lt_succ_self _⟩);clear ho k1 hkw;obtain⟨u1,u2,u3,hu,hat⟩:=HC.out.toR
 cases hu
 obtain⟨ap,cp,ep,l1,l2,hpat⟩:=hat.pods
 cases ep
 have UT:=lH hpat;have Rn:=lH (And.intro l1 l2);clear hat hpat l1 l2;obtain⟨y0,y1,y2⟩:=HW.out.at3;go_wp2_with fail
 try rw[hW1]
 go_wp2_with fail
 try rw[hW1]
 clear hW1 y0 y1 y2;refine(jc0 a2 _ c2 pl x _ UT.out).mono ?_;rintro e2 w2 ⟨i9,rfl,hidx,k2⟩;obtain⟨K2,VV,UB,Uf,U9⟩:=lH5 (K.out.trans k2) (HC.out.kept k2) (HW.out.kept k2) (HQ.out.kept k2) (show w1.heap.size<w2.heap.size from Nat.lt_of_lt_of_le Vn.out.2 k2.size);clear k2;rcases hidx with ⟨rfl,hi⟩ | ⟨k,rfl,hi⟩
 · skip;have UU:=lH (show zZ ⟨nl,pl,bl⟩ x y=⟨nl,pl,bl⟩ by unfold zZ;dsimp only;rw[jkO hi]);clear hi;obtain⟨y0,y1,y2⟩:=UB.out.at3;obtain⟨z0,z1,z2⟩:=Uf.out.at3;have f0:=Uf.out.free 0;have f1:=Uf.out.free 1;have f2:=Uf.out.free 2;have P:=lH (j5 (vs:=[.slice a1 n1 c1,.slice a2 pl.length c2,.slice a3 n3 c3]) Uf.out rfl);go_wp2;obtain⟨WE,hWE⟩:=eX (w2.setCells (w.heap.size+1) 0 [.slice a1 n1 c1,.slice a2 pl.length c2,.slice a3 n3 c3])
   have hWE2:(((w2.setCell ⟨(w.heap.size+1),0,none⟩ (.slice a1 n1 c1)).setCell ⟨(w.heap.size+1),1,none⟩ (.slice a2 pl.length c2)).setCell ⟨(w.heap.size+1),2,none⟩ (.slice a3 n3 c3))=WE:=hWE;rw[hWE] at P;try rw[hWE2]
   have GE:=lH (show jg (fun b=>b<Z.heap.size∨b=w1.heap.size) w2 WE by rw[←hWE];exact jg.cells (S:=fun b=>b<Z.heap.size∨b=w1.heap.size) _ (.inl (by have:=Vf.out;omega)) _ _ _);clear hWE hWE2;obtain⟨PC,hsz,hbl,hkp⟩:=P.out;refine bodyPost_ret (by simp[results,Tryz.results13,go_sem,PC.at_ 0 _ rfl,PC.at_ 1 _ rfl,PC.at_ 2 _ rfl];try rfl) rfl ?_;have Vr:=((VV.out).step GE.out).less (B':=w.heap.size) (S':=fun b=>b<w.heap.size) Vc.out.size (fun b hb=>.inl (Nat.lt_of_lt_of_le hb Vc.out.size));exact⟨_,_,_,_,_,_,_,_,_,rfl,by rw[UU.out];exact Vr,hkp _ _ (by omega) (Vc.out.trans K2.out)⟩
 · skip;obtain⟨p,hp⟩:∃p,pl[k]?=some p:=⟨_,List.getElem?_eq_getElem (qA hi)⟩
   have hkl:=qA hi;have UU:=lH (show zZ ⟨nl,pl,bl⟩ x y=⟨nl,pl.set k { p with node:=y },bl⟩ by unfold zZ;dsimp only;rw[jkc hi hp]);have Ro:=lH hkl;clear hi;obtain⟨g,rfl⟩:∃g,a2=some ⟨g,0,none⟩:=by
    obtain⟨lx,e,ho,-⟩:=VV.out.pods;rcases ho.1.2 with ⟨h0,h1⟩ | ⟨g,c9,cur,h0,-⟩
    · injection h0 with e1 e2 e3;omega
    · injection h0 with e1 e2 e3;exact⟨g,e1⟩
   have Ta:=lH (show g≠w1.heap.size∧Z.heap.size≤g from by
    have h1:=VV.out.sep g rfl;have h2:=(VV.out.lt g rfl).1;exact⟨fun e=>h1 (.inr e),h2⟩)
   have Tb:pl.length≤100000:=UI.out;have hkk:(k:Int)<(pl.length:Int):=by omega
   have Ux:=lH (VV.out.moved (k:=k) (p:=p) (y:=y) hp HY.out (fun b hb=>by have:=U9.out;have:=Vn.out.1;rcases hb with hb | hb<;>omega));obtain⟨lx,hlx,hown,-⟩:=VV.out.pods;have hp2:=hp;have hlx2:(lx.map fun z=>z.1)=pl:=hlx;rw[←hlx2,List.getElem?_map] at hp2;obtain⟨z,hz,-⟩:=Option.map_eq_some_iff.1 hp2;have p9:w2.cell? ⟨g,k*11+9,none⟩=some (.string z.1.node):=hown.cell_at hz (j:=9) rfl;have x9:w2.frozen? ⟨g,k*11+9,none⟩=false:=hown.frozen_at _;clear hlx hlx2 hown hp hp2 hz;obtain⟨RW,TO,KM⟩:=lH3 (show jf w1.heap.size [.slice a1 n1 c1,.slice (some ⟨g,0,none⟩) pl.length c2,.slice a3 n3 c3] (w2.setCell ⟨g,k*11+9,none⟩ (.string y)) from UB.out.other (p:=g) (j:=k*11+9) (u:=.string y) (fun e=>Ta.out.1 e.symm)) (Uf.out.other (p:=g) (j:=k*11+9) (u:=.string y) (by have:=Ta.out.2;have:=Vf.out;omega)) (show Kept w (w2.setCell ⟨g,k*11+9,none⟩ (.string y)) from(Vc.out.trans K2.out).setCell (p:=⟨g,k*11+9,none⟩) (by have:=Ta.out.2;have:=Vf.out;show w.heap.size≤g;omega) _);obtain⟨len9,hlen9⟩:=eX (pl.length)
   rw[hlen9] at Ux UB RW hkk ⊢;clear Tb hlen9 hkl;have yy1:=UB.out.at_ 1 _ rfl;obtain⟨y0,y1,y2⟩:=RW.out.at3;obtain⟨z0,z1,z2⟩:=TO.out.at3;have f0:=TO.out.free 0;have f1:=TO.out.free 1;have f2:=TO.out.free 2;have P:=lH (j5 (vs:=[.slice a1 n1 c1,.slice (some ⟨g,0,none⟩) len9 c2,.slice a3 n3 c3]) TO.out rfl);go_wp2;obtain⟨WE,hWE⟩:=eX ((w2.setCell ⟨g,k*11+9,none⟩ (.string y)).setCells (w.heap.size+1) 0 [.slice a1 n1 c1,.slice (some ⟨g,0,none⟩) len9 c2,.slice a3 n3 c3])
   have hWE2:((((w2.setCell ⟨g,k*11+9,none⟩ (.string y)).setCell ⟨(w.heap.size+1),0,none⟩ (.slice a1 n1 c1)).setCell ⟨(w.heap.size+1),1,none⟩ (.slice (some ⟨g,0,none⟩) len9 c2)).setCell ⟨(w.heap.size+1),2,none⟩ (.slice a3 n3 c3))=WE:=hWE;rw[hWE] at P;try rw[hWE2]
   have GE:=lH (show jg (fun b=>b<Z.heap.size∨b=w1.heap.size) (w2.setCell ⟨g,k*11+9,none⟩ (.string y)) WE by rw[←hWE];exact jg.cells (S:=fun b=>b<Z.heap.size∨b=w1.heap.size) _ (.inl (by have:=Vf.out;omega)) _ _ _);clear hWE hWE2;obtain⟨PC,hsz,hbl,hkp⟩:=P.out;refine bodyPost_ret (by simp[results,Tryz.results13,go_sem,PC.at_ 0 _ rfl,PC.at_ 1 _ rfl,PC.at_ 2 _ rfl];try rfl) rfl ?_;have Vr:=((Ux.out).step GE.out).less (B':=w.heap.size) (S':=fun b=>b<w.heap.size) Vc.out.size (fun b hb=>.inl (Nat.lt_of_lt_of_le hb Vc.out.size));exact⟨_,_,_,_,_,_,_,_,_,rfl,by rw[UU.out];exact Vr,hkp _ _ (by omega) KM.out⟩
end Go.Proofs.YtokdjfoalkmhiaaGreat
