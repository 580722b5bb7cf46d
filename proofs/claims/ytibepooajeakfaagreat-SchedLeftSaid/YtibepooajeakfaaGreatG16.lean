/- C. -/
import Derived.Test.YtibepooajeakfaaGreatG10
set_option linter.unusedVariables false
set_option maxRecDepth 100000
set_option maxHeartbeats 25600000
namespace Go.Proofs.YtibepooajeakfaaGreat
open Go.RowKit
theorem JW (n:Pd) (v1 v2 v3 v4:Value) (w:World) (h:ji w v1 v2 v3 v4 n) (hl:Jq n) :
 Calls Tryz.prog 84 #[jw n v1 v2 v3 v4] w fun e w'=>∃v,e=.returned v∧ZH w.heap.size w' v n∧Kept w w':=by
 have HH:=lH h;have E1:=lH (show ∀W,Kept w W→Calls Tryz.prog 130 #[v1] W fun e w'=>∃a' m' c',e=.returned (.slice a' m' c')∧Vec.Reads w' (.slice a' m' c') n.need∧(∀b off sp,a'=some ⟨b,off,sp⟩→W.heap.size≤b)∧Kept W w' from fun W k=>by
  obtain⟨x,y,rfl,p,q,r⟩:=h.need;exact qD x _ y n.need W (r.kept k) p q hl.need)
 have E2:=lH (show ∀W,Kept w W→Calls Tryz.prog 131 #[v2] W fun e w'=>∃a' m' c',e=.returned (.slice a' m' c')∧Reads jy w' (.slice a' m' c') n.labels∧(∀b off sp,a'=some ⟨b,off,sp⟩→W.heap.size≤b)∧Kept W w' from fun W k=>by
  obtain⟨x,y,rfl,p,q,r⟩:=h.labels;exact qb x _ y n.labels W (r.kept k) p q hl.labels)
 have E3:=lH (show ∀W,Kept w W→Calls Tryz.prog 134 #[v3] W fun e w'=>∃a' m' c',e=.returned (.slice a' m' c')∧Reads jS w' (.slice a' m' c') n.sel∧(∀b off sp,a'=some ⟨b,off,sp⟩→W.heap.size≤b)∧Kept W w' from fun W k=>by
  obtain⟨x,y,rfl,p,q,r⟩:=h.sel;exact jb6 x _ y n.sel W (r.kept k) p q hl.sel)
 have E4:=lH (show ∀W,Kept w W→Calls Tryz.prog 135 #[v4] W fun e w'=>∃a' m' c',e=.returned (.slice a' m' c')∧Reads jz w' (.slice a' m' c') n.tols∧(∀b off sp,a'=some ⟨b,off,sp⟩→W.heap.size≤b)∧Kept W w' from fun W k=>by
  obtain⟨x,y,rfl,p,q,r⟩:=h.tols;exact jhw x _ y n.tols W (r.kept k) p q hl.tols)
 obtain⟨x0,hx0⟩:=eX (n.name)
 obtain⟨x1,hx1⟩:=eX (n.owner)
 obtain⟨x2,hx2⟩:=eX (n.prio)
 obtain⟨x3,hx3⟩:=eX (n.key)
 obtain⟨x4,hx4⟩:=eX (n.most)
 obtain⟨x5,hx5⟩:=eX (n.node)
 obtain⟨x6,hx6⟩:=eX (n.hold)
 unfold jw;rw[hx0,hx1,hx2,hx3,hx4,hx5,hx6];have UH:=lH (And.intro hx0 (And.intro hx1 (And.intro hx2 (And.intro hx3 (And.intro hx4 (And.intro hx5 hx6))))));clear h hl hx0 hx1 hx2 hx3 hx4 hx5 hx6;obtain⟨Z,hZ⟩:=eX ((w.alloc (.cells #[.string x0,.string x1,.int .i64 x2,v1,v2,v3,v4,.string x3,.int .i64 x4,.string x5,.bool x6] 52)).alloc (.cells #[.string ⟨#[]⟩,.string ⟨#[]⟩,.int .i64 0,.slice none 0 0,.slice none 0 0,.slice none 0 0,.slice none 0 0,.string ⟨#[]⟩,.int .i64 0,.string ⟨#[]⟩,.bool false] 52))
 have hkz:Kept w Z:=by rw[←hZ];exact jm _ _ _
 have hzs:Z.heap.size=w.heap.size+2:=by rw[←hZ];simp
 have Q0:=lH (show je w.heap.size [.string x0,.string x1,.int .i64 x2,v1,v2,v3,v4,.string x3,.int .i64 x4,.string x5,.bool x6] Z from jb w (.string x0) [.string x1,.int .i64 x2,v1,v2,v3,v4,.string x3,.int .i64 x4,.string x5,.bool x6] 52 Z (by rw[←hZ];exact ja _ _));have Q1:=lH (show je (w.heap.size+1) [.string ⟨#[]⟩,.string ⟨#[]⟩,.int .i64 0,.slice none 0 0,.slice none 0 0,.slice none 0 0,.slice none 0 0,.string ⟨#[]⟩,.int .i64 0,.string ⟨#[]⟩,.bool false] Z by
  have:=jb (w.alloc (.cells #[.string x0,.string x1,.int .i64 x2,v1,v2,v3,v4,.string x3,.int .i64 x4,.string x5,.bool x6] 52)) (.string ⟨#[]⟩) [.string ⟨#[]⟩,.int .i64 0,.slice none 0 0,.slice none 0 0,.slice none 0 0,.slice none 0 0,.string ⟨#[]⟩,.int .i64 0,.string ⟨#[]⟩,.bool false] 52 Z (by rw[hZ];exact Kept.refl _);rw[World.size_alloc] at this;exact this)
 have K:=lH hkz;have HZ:=lH (show w.heap.size+2≤Z.heap.size by omega);clear hkz hzs;go_enter Tryz.func84,Tryz.ntmps84;have y:=Q0.out.at_ 3 _ rfl;go_wp2_with fail
 try rw[hZ]
 clear hZ;clear y;refine(E1.out _ K.out).mono ?_;rintro e w1 ⟨b1,n1,d1,rfl,rr,gg,k⟩;obtain⟨G1,R1,K,HZ,Q0,Q1⟩:=lH6 (show jU (w.heap.size+2) b1 from fun b o s e=>Nat.le_trans HZ.out (gg b o s e)) rr (K.out.trans k) (Nat.le_trans HZ.out k.size) (Q0.out.kept k) (Q1.out.kept k);clear rr gg k;have y:=Q0.out.at_ 3 _ rfl;have x:=Q0.out.free 3;obtain⟨Q0,Q1,R1,K,HZ⟩:=lH5 (show je w.heap.size [.string x0,.string x1,.int .i64 x2,.slice b1 n1 d1,v2,v3,v4,.string x3,.int .i64 x4,.string x5,.bool x6] (w1.setCell ⟨w.heap.size,3,none⟩ (.slice b1 n1 d1)) from Q0.out.set (j:=3) (by simp)) (Q1.out.other (p:=w.heap.size) (j:=3) (u:=.slice b1 n1 d1) (by omega)) (JS (p:=w.heap.size) (j:=3) (u:=.slice b1 n1 d1) R1.out G1.out (by omega)) (show Kept w (w1.setCell ⟨w.heap.size,3,none⟩ (.slice b1 n1 d1)) from K.out.setCell (p:=⟨w.heap.size,3,none⟩) (Nat.le_refl _) _) (show w.heap.size+2≤(w1.setCell ⟨w.heap.size,3,none⟩ (.slice b1 n1 d1)).heap.size by simpa [World.setCell] using HZ.out);have y9:=Q0.out.at_ 4 _ rfl;go_wp2_with fail
 clear y x y9;obtain⟨W1,hW1⟩:=eX (w1.setCell ⟨w.heap.size,3,none⟩ (.slice b1 n1 d1))
 rw[hW1] at Q0 Q1 R1 K HZ ⊢;clear hW1;refine(E2.out _ K.out).mono ?_;rintro e w2 ⟨b2,n2,d2,rfl,rr,gg,k⟩;obtain⟨G2,R2,K,HZ,Q0,Q1,R1⟩:=lH7 (show jU (w.heap.size+2) b2 from fun b o s e=>Nat.le_trans HZ.out (gg b o s e)) rr (K.out.trans k) (Nat.le_trans HZ.out k.size) (Q0.out.kept k) (Q1.out.kept k) (R1.out.kept k);clear rr gg k;have y:=Q0.out.at_ 4 _ rfl;have x:=Q0.out.free 4;obtain⟨Q0,Q1,R1,R2,K,HZ⟩:=lH6 (show je w.heap.size [.string x0,.string x1,.int .i64 x2,.slice b1 n1 d1,.slice b2 n2 d2,v3,v4,.string x3,.int .i64 x4,.string x5,.bool x6] (w2.setCell ⟨w.heap.size,4,none⟩ (.slice b2 n2 d2)) from Q0.out.set (j:=4) (by simp)) (Q1.out.other (p:=w.heap.size) (j:=4) (u:=.slice b2 n2 d2) (by omega)) (JS (p:=w.heap.size) (j:=4) (u:=.slice b2 n2 d2) R1.out G1.out (by omega)) (Jv (p:=w.heap.size) (j:=4) (u:=.slice b2 n2 d2) R2.out G2.out (by omega)) (show Kept w (w2.setCell ⟨w.heap.size,4,none⟩ (.slice b2 n2 d2)) from K.out.setCell (p:=⟨w.heap.size,4,none⟩) (Nat.le_refl _) _) (show w.heap.size+2≤(w2.setCell ⟨w.heap.size,4,none⟩ (.slice b2 n2 d2)).heap.size by simpa [World.setCell] using HZ.out);have y9:=Q0.out.at_ 5 _ rfl;go_wp2_with fail
 clear y x y9;obtain⟨W2,hW2⟩:=eX (w2.setCell ⟨w.heap.size,4,none⟩ (.slice b2 n2 d2))
 rw[hW2] at Q0 Q1 R1 R2 K HZ ⊢;clear hW2;refine(E3.out _ K.out).mono ?_;rintro e w3 ⟨b3,n3,d3,rfl,rr,gg,k⟩;obtain⟨G3,R3,K,HZ,Q0,Q1,R1,R2⟩:=lH8 (show jU (w.heap.size+2) b3 from fun b o s e=>Nat.le_trans HZ.out (gg b o s e)) rr (K.out.trans k) (Nat.le_trans HZ.out k.size) (Q0.out.kept k) (Q1.out.kept k) (R1.out.kept k) (R2.out.kept k);clear rr gg k;have y:=Q0.out.at_ 5 _ rfl;have x:=Q0.out.free 5;obtain⟨Q0,Q1,R1,R2,R3,K,HZ⟩:=lH7 (show je w.heap.size [.string x0,.string x1,.int .i64 x2,.slice b1 n1 d1,.slice b2 n2 d2,.slice b3 n3 d3,v4,.string x3,.int .i64 x4,.string x5,.bool x6] (w3.setCell ⟨w.heap.size,5,none⟩ (.slice b3 n3 d3)) from Q0.out.set (j:=5) (by simp)) (Q1.out.other (p:=w.heap.size) (j:=5) (u:=.slice b3 n3 d3) (by omega)) (JS (p:=w.heap.size) (j:=5) (u:=.slice b3 n3 d3) R1.out G1.out (by omega)) (Jv (p:=w.heap.size) (j:=5) (u:=.slice b3 n3 d3) R2.out G2.out (by omega)) (Jv (p:=w.heap.size) (j:=5) (u:=.slice b3 n3 d3) R3.out G3.out (by omega)) (show Kept w (w3.setCell ⟨w.heap.size,5,none⟩ (.slice b3 n3 d3)) from K.out.setCell (p:=⟨w.heap.size,5,none⟩) (Nat.le_refl _) _) (show w.heap.size+2≤(w3.setCell ⟨w.heap.size,5,none⟩ (.slice b3 n3 d3)).heap.size by simpa [World.setCell] using HZ.out);have y9:=Q0.out.at_ 6 _ rfl;go_wp2_with fail
 clear y x y9;obtain⟨W3,hW3⟩:=eX (w3.setCell ⟨w.heap.size,5,none⟩ (.slice b3 n3 d3))
 rw[hW3] at Q0 Q1 R1 R2 R3 K HZ ⊢;clear hW3;refine(E4.out _ K.out).mono ?_;rintro e w4 ⟨b4,n4,d4,rfl,rr,gg,k⟩;obtain⟨G4,R4,K,HZ,Q0,Q1,R1,R2⟩:=lH8 (show jU (w.heap.size+2) b4 from fun b o s e=>Nat.le_trans HZ.out (gg b o s e)) rr (K.out.trans k) (Nat.le_trans HZ.out k.size) (Q0.out.kept k) (Q1.out.kept k) (R1.out.kept k) (R2.out.kept k);have R3:=lH (R3.out.kept k);clear rr gg k;have y:=Q0.out.at_ 6 _ rfl;have x:=Q0.out.free 6;obtain⟨Q0,Q1,R1,R2,R3,R4,K,HZ⟩:=lH8 (show je w.heap.size [.string x0,.string x1,.int .i64 x2,.slice b1 n1 d1,.slice b2 n2 d2,.slice b3 n3 d3,.slice b4 n4 d4,.string x3,.int .i64 x4,.string x5,.bool x6] (w4.setCell ⟨w.heap.size,6,none⟩ (.slice b4 n4 d4)) from Q0.out.set (j:=6) (by simp)) (Q1.out.other (p:=w.heap.size) (j:=6) (u:=.slice b4 n4 d4) (by omega)) (JS (p:=w.heap.size) (j:=6) (u:=.slice b4 n4 d4) R1.out G1.out (by omega)) (Jv (p:=w.heap.size) (j:=6) (u:=.slice b4 n4 d4) R2.out G2.out (by omega)) (Jv (p:=w.heap.size) (j:=6) (u:=.slice b4 n4 d4) R3.out G3.out (by omega)) (Jv (p:=w.heap.size) (j:=6) (u:=.slice b4 n4 d4) R4.out G4.out (by omega)) (show Kept w (w4.setCell ⟨w.heap.size,6,none⟩ (.slice b4 n4 d4)) from K.out.setCell (p:=⟨w.heap.size,6,none⟩) (Nat.le_refl _) _) (show w.heap.size+2≤(w4.setCell ⟨w.heap.size,6,none⟩ (.slice b4 n4 d4)).heap.size by simpa [World.setCell] using HZ.out);obtain⟨y0,y1,y2,y3,y4,y5,y6,y7,y8,y9,y10⟩:=Q0.out.at11;obtain⟨z0,z1,z2,z3,z4,z5,z6,z7,z8,z9,z10⟩:=Q1.out.at11;have f0:=Q1.out.free 0;have f1:=Q1.out.free 1;have f2:=Q1.out.free 2;have f3:=Q1.out.free 3;have f4:=Q1.out.free 4;have f5:=Q1.out.free 5;have f6:=Q1.out.free 6;have f7:=Q1.out.free 7;have f8:=Q1.out.free 8;have f9:=Q1.out.free 9;have f10:=Q1.out.free 10;have P:=lH (j4 (vs:=[.string x0,.string x1,.int .i64 x2,.slice b1 n1 d1,.slice b2 n2 d2,.slice b3 n3 d3,.slice b4 n4 d4,.string x3,.int .i64 x4,.string x5,.bool x6]) Q1.out rfl);go_wp2;obtain⟨WE,hWE⟩:=eX ((w4.setCell ⟨w.heap.size,6,none⟩ (.slice b4 n4 d4)).setCells (w.heap.size+1) 0 [.string x0,.string x1,.int .i64 x2,.slice b1 n1 d1,.slice b2 n2 d2,.slice b3 n3 d3,.slice b4 n4 d4,.string x3,.int .i64 x4,.string x5,.bool x6])
 have hWE2:((((((((((((w4.setCell ⟨w.heap.size,6,none⟩ (.slice b4 n4 d4)).setCell ⟨w.heap.size+1,0,none⟩ (.string x0)).setCell ⟨w.heap.size+1,1,none⟩ (.string x1)).setCell ⟨w.heap.size+1,2,none⟩ (.int .i64 x2)).setCell ⟨w.heap.size+1,3,none⟩ (.slice b1 n1 d1)).setCell ⟨w.heap.size+1,4,none⟩ (.slice b2 n2 d2)).setCell ⟨w.heap.size+1,5,none⟩ (.slice b3 n3 d3)).setCell ⟨w.heap.size+1,6,none⟩ (.slice b4 n4 d4)).setCell ⟨w.heap.size+1,7,none⟩ (.string x3)).setCell ⟨w.heap.size+1,8,none⟩ (.int .i64 x4)).setCell ⟨w.heap.size+1,9,none⟩ (.string x5)).setCell ⟨w.heap.size+1,10,none⟩ (.bool x6))=WE:=hWE;rw[hWE] at P;rw[hWE2];clear hWE hWE2;obtain⟨PC,hsz,hbl,hkp⟩:=P.out;refine bodyPost_ret (by simp[results,Tryz.results84,go_sem,PC.at_ 0 _ rfl,PC.at_ 1 _ rfl,PC.at_ 2 _ rfl,PC.at_ 3 _ rfl,PC.at_ 4 _ rfl,PC.at_ 5 _ rfl,PC.at_ 6 _ rfl,PC.at_ 7 _ rfl,PC.at_ 8 _ rfl,PC.at_ 9 _ rfl,PC.at_ 10 _ rfl];try rfl) rfl ?_;obtain⟨hx0,hx1,hx2,hx3,hx4,hx5,hx6⟩:=UH.out;exact⟨_,rfl,⟨b1,n1,d1,b2,n2,d2,b3,n3,d3,b4,n4,d4,by unfold jw;rw[hx0,hx1,hx2,hx3,hx4,hx5,hx6],(show ji _ (.slice b1 n1 d1) (.slice b2 n2 d2) (.slice b3 n3 d3) (.slice b4 n4 d4) n from ji.far (B:=w.heap.size+2) ⟨HH.out.name,HH.out.owner,HH.out.key,HH.out.node,HH.out.prio,HH.out.most,R1.out,R2.out,R3.out,R4.out⟩ hsz (fun b hb=>hbl b (by omega)) G1.out G2.out G3.out G4.out),G1.out.less (by omega),G2.out.less (by omega),G3.out.less (by omega),G4.out.less (by omega)⟩,hkp _ _ (by omega) K.out⟩
theorem jdu (n:Nod) (a1 a2 a3:Option Addr) (m1 c1 m2 c2 m3 c3:Nat) (w:World) (h:zl w (.slice a1 m1 c1) (.slice a2 m2 c2) (.slice a3 m3 c3) n) (hl:zW n) :
 Calls Tryz.prog 82 #[.agg #[.string n.name,.slice a1 m1 c1,.slice a2 m2 c2,.slice a3 m3 c3,.bool n.cordon]] w fun e w'=>∃v,e=.returned v∧Jp w.heap.size w' v n∧Kept w w':=by
 have hsz:=h.size;obtain⟨x1,y1,e1,p1,q1,r1⟩:=h.cap
 cases e1
 obtain⟨x2,y2,e2,p2,q2,r2⟩:=h.labels
 cases e2
 obtain⟨x3,y3,e3,p3,q3,r3⟩:=h.taints
 cases e3
 obtain⟨H1,H2,H3⟩:=lH3 (fun W (k:Kept w W)=>qD a1 n.cap.length c1 n.cap W (r1.kept k) p1 q1 hl.cap) (fun W (k:Kept w W)=>qb a2 n.labels.length c2 n.labels W (r2.kept k) p2 q2 hl.labels) (fun W (k:Kept w W)=>jbA a3 n.taints.length c3 n.taints W (r3.kept k) p3 q3 hl.taints);obtain⟨k1,hk1⟩:=eX (n.cap.length)
 obtain⟨k2,hk2⟩:=eX (n.labels.length)
 obtain⟨k3,hk3⟩:=eX (n.taints.length)
 obtain⟨x,hx⟩:=eX (n.name)
 obtain⟨cd,hcd⟩:=eX (n.cordon)
 have hxs:x.size≤maxLen:=by rw[←hx];exact hsz
 rw[hk1] at H1;rw[hk2] at H2;rw[hk3] at H3;rw[hk1,hk2,hk3,hx,hcd];have HX:=lH hx;have TX:=lH hcd;clear h hl p1 q1 r1 p2 q2 r2 p3 q3 r3 hk1 hk2 hk3 hx hcd hsz;obtain⟨Z,hZ⟩:=eX ((w.alloc (.cells #[.string x,.slice a1 k1 c1,.slice a2 k2 c2,.slice a3 k3 c3,.bool cd] 78)).alloc (.cells #[.string ⟨#[]⟩,.slice none 0 0,.slice none 0 0,.slice none 0 0,.bool false] 78))
 have hkz:Kept w Z:=by rw[←hZ];exact jm _ _ _
 have hzs:Z.heap.size=w.heap.size+2:=by rw[←hZ];simp
 have Q0:=lH (show zi w.heap.size (.string x) (.slice a1 k1 c1) (.slice a2 k2 c2) (.slice a3 k3 c3) (.bool cd) Z from YS w _ _ _ _ _ 78 Z (by rw[←hZ];exact ja _ _));have Q1:=lH (show zi (w.heap.size+1) (.string ⟨#[]⟩) (.slice none 0 0) (.slice none 0 0) (.slice none 0 0) (.bool false) Z by
  have:=YS (w.alloc (.cells #[.string x,.slice a1 k1 c1,.slice a2 k2 c2,.slice a3 k3 c3,.bool cd] 78)) (.string ⟨#[]⟩) (.slice none 0 0) (.slice none 0 0) (.slice none 0 0) (.bool false) 78 Z (by rw[hZ];exact Kept.refl _);rw[World.size_alloc] at this;exact this)
 have K:=lH hkz;have hs0:w.heap.size+2≤Z.heap.size:=by omega
 clear hkz hzs;obtain⟨⟨y0,y1,y2,y3,y4⟩,x0,x1,x2,x3,x4⟩:=Q0.out;go_enter Tryz.func82,Tryz.ntmps82;go_wp2_with fail
 try rw[hZ]
 clear hZ;clear y0 y1 y2 y3 y4 x0 x1 x2 x3 x4;refine(H1.out _ K.out).mono ?_;rintro e w1 ⟨b1,n1,d1,rfl,rr,gg,k⟩;obtain⟨Un,RA,K⟩:=lH3 (show ∀b off sp,b1=some ⟨b,off,sp⟩→w.heap.size+2≤b from fun b o s e=>by have:=gg b o s e;omega) rr (K.out.trans k);have hs1:w.heap.size+2≤w1.heap.size:=by have:=k.size;omega
 have Q0:=lH (Q0.out.kept k);have Q1:=lH (Q1.out.kept k);clear rr gg k hs0;obtain⟨⟨y0,y1,y2,y3,y4⟩,x0,x1,x2,x3,x4⟩:=Q0.out;obtain⟨Q0,Q1,RA,K⟩:=lH4 (Q0.out.set1 (.slice b1 n1 d1)) (Q1.out.other (p:=w.heap.size) (j:=1) (u:=.slice b1 n1 d1) (by omega)) (JS (p:=w.heap.size) (j:=1) (u:=.slice b1 n1 d1) RA.out Un.out (by omega)) (show Kept w (w1.setCell ⟨w.heap.size,1,none⟩ (.slice b1 n1 d1)) from K.out.setCell (p:=⟨w.heap.size,1,none⟩) (Nat.le_refl _) _);have hs0:w.heap.size+2≤(w1.setCell ⟨w.heap.size,1,none⟩ (.slice b1 n1 d1)).heap.size:=by simpa [World.setCell] using hs1
 clear hs1;obtain⟨⟨z0,z1,z2,z3,z4⟩,-⟩:=Q0.out;go_wp2_with fail
 clear y0 y1 y2 y3 y4 x0 x1 x2 x3 x4 z0 z1 z2 z3 z4;obtain⟨W1,hW1⟩:=eX (w1.setCell ⟨w.heap.size,1,none⟩ (.slice b1 n1 d1))
 rw[hW1] at Q0 Q1 RA K hs0 ⊢;clear hW1;refine(H2.out _ K.out).mono ?_;rintro e w2 ⟨b2,n2,d2,rfl,rr,gg,k⟩;obtain⟨Ve,RB,K⟩:=lH3 (show ∀b off sp,b2=some ⟨b,off,sp⟩→w.heap.size+2≤b from fun b o s e=>by have:=gg b o s e;omega) rr (K.out.trans k);have hs1:w.heap.size+2≤w2.heap.size:=by have:=k.size;omega
 obtain⟨Q0,Q1,RA⟩:=lH3 (Q0.out.kept k) (Q1.out.kept k) (RA.out.kept k);clear rr gg k hs0;obtain⟨⟨y0,y1,y2,y3,y4⟩,x0,x1,x2,x3,x4⟩:=Q0.out;obtain⟨Q0,Q1,RA,RB,K⟩:=lH5 (Q0.out.set2 (.slice b2 n2 d2)) (Q1.out.other (p:=w.heap.size) (j:=2) (u:=.slice b2 n2 d2) (by omega)) (JS (p:=w.heap.size) (j:=2) (u:=.slice b2 n2 d2) RA.out Un.out (by omega)) (Jv (p:=w.heap.size) (j:=2) (u:=.slice b2 n2 d2) RB.out Ve.out (by omega)) (show Kept w (w2.setCell ⟨w.heap.size,2,none⟩ (.slice b2 n2 d2)) from K.out.setCell (p:=⟨w.heap.size,2,none⟩) (Nat.le_refl _) _);have hs0:w.heap.size+2≤(w2.setCell ⟨w.heap.size,2,none⟩ (.slice b2 n2 d2)).heap.size:=by simpa [World.setCell] using hs1
 clear hs1;obtain⟨⟨z0,z1,z2,z3,z4⟩,-⟩:=Q0.out;go_wp2_with fail
 clear y0 y1 y2 y3 y4 x0 x1 x2 x3 x4 z0 z1 z2 z3 z4;obtain⟨W2,hW2⟩:=eX (w2.setCell ⟨w.heap.size,2,none⟩ (.slice b2 n2 d2))
 rw[hW2] at Q0 Q1 RA RB K hs0 ⊢;clear hW2;refine(H3.out _ K.out).mono ?_;rintro e w3 ⟨b3,n3,d3,rfl,rr,gg,k⟩;obtain⟨U0,RC,K⟩:=lH3 (show ∀b off sp,b3=some ⟨b,off,sp⟩→w.heap.size+2≤b from fun b o s e=>by have:=gg b o s e;omega) rr (K.out.trans k);have hs1:w.heap.size+2≤w3.heap.size:=by have:=k.size;omega
 obtain⟨Q0,Q1,RA,RB⟩:=lH4 (Q0.out.kept k) (Q1.out.kept k) (RA.out.kept k) (RB.out.kept k);clear rr gg k hs0;obtain⟨⟨y0,y1,y2,y3,y4⟩,x0,x1,x2,x3,x4⟩:=Q0.out;obtain⟨Q0,Q1,RA,RB,RC,K⟩:=lH6 (Q0.out.set3 (.slice b3 n3 d3)) (Q1.out.other (p:=w.heap.size) (j:=3) (u:=.slice b3 n3 d3) (by omega)) (JS (p:=w.heap.size) (j:=3) (u:=.slice b3 n3 d3) RA.out Un.out (by omega)) (Jv (p:=w.heap.size) (j:=3) (u:=.slice b3 n3 d3) RB.out Ve.out (by omega)) (Jv (p:=w.heap.size) (j:=3) (u:=.slice b3 n3 d3) RC.out U0.out (by omega)) (show Kept w (w3.setCell ⟨w.heap.size,3,none⟩ (.slice b3 n3 d3)) from K.out.setCell (p:=⟨w.heap.size,3,none⟩) (Nat.le_refl _) _);have hs0:w.heap.size+2≤(w3.setCell ⟨w.heap.size,3,none⟩ (.slice b3 n3 d3)).heap.size:=by simpa [World.setCell] using hs1
 clear hs1;obtain⟨⟨z0,z1,z2,z3,z4⟩,-⟩:=Q0.out;obtain⟨⟨g0,g1,g2,g3,g4⟩,f0,f1,f2,f3,f4⟩:=Q1.out;go_wp2;have P:=lH (Zc ⟨g0,g1,g2,g3,g4⟩ x b1 b2 b3 n1 d1 n2 d2 n3 d3 cd);clear y0 y1 y2 y3 y4 x0 x1 x2 x3 x4 z0 z1 z2 z3 z4 g0 g1 g2 g3 g4 f0 f1 f2 f3 f4;obtain⟨W3,hW3⟩:=eX (w3.setCell ⟨w.heap.size,3,none⟩ (.slice b3 n3 d3))
 rw[hW3] at RA RB RC K hs0 P ⊢;obtain⟨WE,hWE⟩:=eX ((((((W3.setCell ⟨w.heap.size+1,0,none⟩ (.string x)).setCell ⟨w.heap.size+1,1,none⟩ (.slice b1 n1 d1)).setCell ⟨w.heap.size+1,2,none⟩ (.slice b2 n2 d2)).setCell ⟨w.heap.size+1,3,none⟩ (.slice b3 n3 d3)).setCell ⟨w.heap.size+1,4,none⟩ (.bool cd)))
 rw[hWE] at P ⊢;clear hWE hW3;obtain⟨⟨e0,e1,e2,e3,e4⟩,hsz,hbl,hkp⟩:=P.out;refine bodyPost_ret (by simp[results,Tryz.results82,go_sem,e0,e1,e2,e3,e4];try rfl) rfl ?_;exact⟨_,rfl,⟨b1,n1,d1,b2,n2,d2,b3,n3,d3,by rw[HX.out,TX.out],by rw[HX.out];exact hxs,RA.out.far hsz (fun b o s e=>hbl b (by have:=Un.out b o s e;omega)),RB.out.far hsz (fun b o s e=>hbl b (by have:=Ve.out b o s e;omega)),RC.out.far hsz (fun b o s e=>hbl b (by have:=U0.out b o s e;omega)),fun b o s e=>Nat.le_trans (Nat.le_add_right _ 2) (Un.out b o s e),fun b o s e=>Nat.le_trans (Nat.le_add_right _ 2) (Ve.out b o s e),fun b o s e=>Nat.le_trans (Nat.le_add_right _ 2) (U0.out b o s e)⟩,hkp _ _ (Nat.le_succ _) K.out⟩
theorem jb5 (k:Bd) (a1:Option Addr) (m1 c1:Nat) (w:World) (h:zk w (.slice a1 m1 c1) k) (hl:k.sel.length≤1000000) :
 Calls Tryz.prog 86 #[Xp k (.slice a1 m1 c1)] w fun e w'=>∃v,e=.returned v∧ZF w.heap.size w' v k∧Kept w w':=by
 obtain⟨x,s,m⟩:=k;have HH:=lH h;have E1:=lH (show ∀W,Kept w W→Calls Tryz.prog 134 #[.slice a1 m1 c1] W fun e w'=>∃a' m' c',e=.returned (.slice a' m' c')∧Reads jS w' (.slice a' m' c') s∧(∀b off sp,a'=some ⟨b,off,sp⟩→W.heap.size≤b)∧Kept W w' from fun W k=>by
  obtain⟨p,y,e,q1,q2,r⟩:=h.sel
  cases e
  exact jb6 a1 _ c1 s W (r.kept k) q1 q2 hl)
 obtain⟨Z,hZ⟩:=eX ((w.alloc (.cells #[.string x,.slice a1 m1 c1,.int .i64 m] 108)).alloc (.cells #[.string ⟨#[]⟩,.slice none 0 0,.int .i64 0] 108))
 have hkz:Kept w Z:=by rw[←hZ];exact jm _ _ _
 have hzs:Z.heap.size=w.heap.size+2:=by rw[←hZ];simp
 have Q0:=lH (show je w.heap.size [.string x,.slice a1 m1 c1,.int .i64 m] Z from jb w (.string x) [.slice a1 m1 c1,.int .i64 m] 108 Z (by rw[←hZ];exact ja _ _));have Q1:=lH (show je (w.heap.size+1) [.string ⟨#[]⟩,.slice none 0 0,.int .i64 0] Z by
  have:=jb (w.alloc (.cells #[.string x,.slice a1 m1 c1,.int .i64 m] 108)) (.string ⟨#[]⟩) [.slice none 0 0,.int .i64 0] 108 Z (by rw[hZ];exact Kept.refl _);rw[World.size_alloc] at this;exact this)
 have K:=lH hkz;have HZ:=lH (show w.heap.size+2≤Z.heap.size by omega);clear hkz hzs h hl;unfold Xp;dsimp only;go_enter Tryz.func86,Tryz.ntmps86;have y:=Q0.out.at_ 1 _ rfl;go_wp2_with fail
 try rw[hZ]
 clear hZ;clear y;refine(E1.out _ K.out).mono ?_;rintro e w1 ⟨b1,n1,d1,rfl,rr,gg,k⟩;obtain⟨G1,R1,K,HZ,Q0,Q1⟩:=lH6 (show jU (w.heap.size+2) b1 from fun b o s e=>Nat.le_trans HZ.out (gg b o s e)) rr (K.out.trans k) (Nat.le_trans HZ.out k.size) (Q0.out.kept k) (Q1.out.kept k);clear rr gg k;have y:=Q0.out.at_ 1 _ rfl;have xf:=Q0.out.free 1;obtain⟨Q0,Q1,R1,K⟩:=lH4 (show je w.heap.size [.string x,.slice b1 n1 d1,.int .i64 m] (w1.setCell ⟨w.heap.size,1,none⟩ (.slice b1 n1 d1)) from Q0.out.set (j:=1) (by simp)) (Q1.out.other (p:=w.heap.size) (j:=1) (u:=.slice b1 n1 d1) (by omega)) (Jv (p:=w.heap.size) (j:=1) (u:=.slice b1 n1 d1) R1.out G1.out (by omega)) (show Kept w (w1.setCell ⟨w.heap.size,1,none⟩ (.slice b1 n1 d1)) from K.out.setCell (p:=⟨w.heap.size,1,none⟩) (Nat.le_refl _) _);obtain⟨y0,y1,y2⟩:=Q0.out.at3;obtain⟨g0,g1,g2⟩:=Q1.out.at3;have f0:=Q1.out.free 0;have f1:=Q1.out.free 1;have f2:=Q1.out.free 2;have P:=lH (j4 (vs:=[.string x,.slice b1 n1 d1,.int .i64 m]) Q1.out rfl);go_wp2;obtain⟨WE,hWE⟩:=eX ((w1.setCell ⟨w.heap.size,1,none⟩ (.slice b1 n1 d1)).setCells (w.heap.size+1) 0 [.string x,.slice b1 n1 d1,.int .i64 m])
 have hWE2:((((w1.setCell ⟨w.heap.size,1,none⟩ (.slice b1 n1 d1)).setCell ⟨(w.heap.size+1),0,none⟩ (.string x)).setCell ⟨(w.heap.size+1),1,none⟩ (.slice b1 n1 d1)).setCell ⟨(w.heap.size+1),2,none⟩ (.int .i64 m))=WE:=hWE;rw[hWE] at P;try rw[hWE2]
 clear hWE hWE2;obtain⟨PC,hsz,hbl,hkp⟩:=P.out;refine bodyPost_ret (by simp[results,Tryz.results86,go_sem,PC.at_ 0 _ rfl,PC.at_ 1 _ rfl,PC.at_ 2 _ rfl];try rfl) rfl ?_;exact⟨_,rfl,⟨b1,n1,d1,rfl,⟨HH.out.name,HH.out.floor,R1.out.far hsz (fun b o s e=>hbl b (by have:=G1.out b o s e;omega))⟩,G1.out.less (by omega)⟩,hkp _ _ (by omega) K.out⟩
theorem jga {w:World} {a:Option Addr} {len:Nat} {l:List Nod} (h:jt w a len l):∃lx:List NX,(lx.map fun z=>z.1)=l∧jn zp w a len lx∧∀z ∈ lx,At3 w z:=by
 obtain⟨h0,h1,h2⟩:=h;rcases h2 with h2 | ⟨b,off,rfl,hb,hc⟩
 · have:l=[]:=List.eq_nil_of_length_eq_zero (by omega);subst this;subst h2;exact⟨[],rfl,jn.nil w a,fun z hz=>absurd hz (by simp)⟩
 · have step:∀m,m≤l.length→∃lx:List NX,(lx.map fun z=>z.1)=l.take m∧(∀i x j u,lx[i]?=some x→(zp.cs x)[j]?=some u→w.cell? ⟨b,off+i*5+j,none⟩=some u)∧∀z ∈ lx,At3 w z:=by
    intro m
    induction m with
    | zero=>exact fun _=>⟨[],rfl,fun i x j u hi=>by simp at hi,fun z hz=>absurd hz (by simp)⟩
    | succ m ih =>
     intro hm;obtain⟨lx,e,hcell,hat⟩:=ih (by omega);obtain⟨n,hn⟩:∃n,l[m]?=some n:=⟨_,List.getElem?_eq_getElem (by omega)⟩
     obtain⟨a1,m1,c1,a2,m2,c2,a3,m3,c3,p0,p1,p2,p3,p4,hp⟩:=hc m n hn;have hlen:lx.length=m:=by
      have:=congrArg List.length e;rw[List.length_map,List.length_take] at this;omega
     refine⟨lx++[(n,(a1,m1,c1),(a2,m2,c2),(a3,m3,c3))],?_,?_,?_⟩
     · rw[List.map_append,e,zF hn];rfl
     · intro i x j u hi hj;by_cases him:i<m
       · rw[List.getElem?_append_left (by omega)] at hi;exact hcell i x j u hi hj
       · have hi2:=(List.getElem?_eq_some_iff.1 hi).1;rw[List.length_append,List.length_singleton] at hi2;obtain rfl:i=m:=by omega
         rw[List.getElem?_append_right (by omega),hlen,Nat.sub_self] at hi;obtain rfl:=Option.some.inj hi
         match j,hj with
         | 0,hj=>obtain rfl:=Option.some.inj hj;exact p0
         | 1,hj=>obtain rfl:=Option.some.inj hj;exact p1
         | 2,hj=>obtain rfl:=Option.some.inj hj;exact p2
         | 3,hj=>obtain rfl:=Option.some.inj hj;exact p3
         | 4,hj=>obtain rfl:=Option.some.inj hj;exact p4
         | j+5,hj=>simp[zp] at hj
     · intro z hz;rcases List.mem_append.1 hz with hz | hz
       · exact hat z hz
       · obtain rfl:z=_:=List.mem_singleton.1 hz;exact hp
   obtain⟨lx,e,hcell,hat⟩:=step l.length (Nat.le_refl _);rw[List.take_of_length_le (Nat.le_refl _)] at e;have hl:lx.length=len:=by rw[←h0,←e,List.length_map]
   exact⟨lx,e,⟨hl,h1,fun _ _=>trivial,.inr ⟨b,off,rfl,hb,hcell⟩⟩,hat⟩
theorem jgy {w:World} {a:Option Addr} {len:Nat} {l:List Bd} (h:zA w a len l):∃lx:List BX,(lx.map fun z=>z.1)=l∧jn j9 w a len lx∧∀z ∈ lx,At1 w z:=by
 obtain⟨h0,h1,h2⟩:=h;rcases h2 with h2 | ⟨b,off,rfl,hb,hc⟩
 · have:l=[]:=List.eq_nil_of_length_eq_zero (by omega);subst this;subst h2;exact⟨[],rfl,jn.nil w a,fun z hz=>absurd hz (by simp)⟩
 · have step:∀m,m≤l.length→∃lx:List BX,(lx.map fun z=>z.1)=l.take m∧(∀i x j u,lx[i]?=some x→(j9.cs x)[j]?=some u→w.cell? ⟨b,off+i*3+j,none⟩=some u)∧∀z ∈ lx,At1 w z:=by
    intro m
    induction m with
    | zero=>exact fun _=>⟨[],rfl,fun i x j u hi=>by simp at hi,fun z hz=>absurd hz (by simp)⟩
    | succ m ih =>
     intro hm;obtain⟨lx,e,hcell,hat⟩:=ih (by omega);obtain⟨n,hn⟩:∃n,l[m]?=some n:=⟨_,List.getElem?_eq_getElem (by omega)⟩
     obtain⟨w1,p0,p1,p2,hp⟩:=hc m n hn;obtain⟨a1,m1,c1,rfl⟩:=hp.spelt;have hlen:lx.length=m:=by
      have:=congrArg List.length e;rw[List.length_map,List.length_take] at this;omega
     refine⟨lx++[(n,(a1,m1,c1))],?_,?_,?_⟩
     · rw[List.map_append,e,zF hn];rfl
     · intro i x j u hi hj;by_cases him:i<m
       · rw[List.getElem?_append_left (by omega)] at hi;exact hcell i x j u hi hj
       · have hi2:=(List.getElem?_eq_some_iff.1 hi).1;rw[List.length_append,List.length_singleton] at hi2;obtain rfl:i=m:=by omega
         rw[List.getElem?_append_right (by omega),hlen,Nat.sub_self] at hi;obtain rfl:=Option.some.inj hi
         match j,hj with
         | 0,hj=>obtain rfl:=Option.some.inj hj;exact p0
         | 1,hj=>obtain rfl:=Option.some.inj hj;exact p1
         | 2,hj=>obtain rfl:=Option.some.inj hj;exact p2
         | j+3,hj=>simp[j9] at hj
     · intro z hz;rcases List.mem_append.1 hz with hz | hz
       · exact hat z hz
       · obtain rfl:z=_:=List.mem_singleton.1 hz;exact hp
   obtain⟨lx,e,hcell,hat⟩:=step l.length (Nat.le_refl _);rw[List.take_of_length_le (Nat.le_refl _)] at e;have hl:lx.length=len:=by rw[←h0,←e,List.length_map]
   exact⟨lx,e,⟨hl,h1,fun _ _=>trivial,.inr ⟨b,off,rfl,hb,hcell⟩⟩,hat⟩
theorem jgI {w:World} {a:Option Addr} {len:Nat} {l:List Pd} (h:jC w a len l):∃lx:List PX,(lx.map fun z=>z.1)=l∧jn PodLay0 w a len lx∧∀z ∈ lx,At4 w z:=by
 obtain⟨h0,h1,h2⟩:=h;rcases h2 with h2 | ⟨b,off,rfl,hb,hc⟩
 · have:l=[]:=List.eq_nil_of_length_eq_zero (by omega);subst this;subst h2;exact⟨[],rfl,jn.nil w a,fun z hz=>absurd hz (by simp)⟩
 · have step:∀m,m≤l.length→∃lx:List PX,(lx.map fun z=>z.1)=l.take m∧(∀i x j u,lx[i]?=some x→(PodLay0.cs x)[j]?=some u→w.cell? ⟨b,off+i*11+j,none⟩=some u)∧∀z ∈ lx,At4 w z:=by
    intro m
    induction m with
    | zero=>exact fun _=>⟨[],rfl,fun i x j u hi=>by simp at hi,fun z hz=>absurd hz (by simp)⟩
    | succ m ih =>
     intro hm;obtain⟨lx,e,hcell,hat⟩:=ih (by omega);obtain⟨n,hn⟩:∃n,l[m]?=some n:=⟨_,List.getElem?_eq_getElem (by omega)⟩
     obtain⟨v1,v2,v3,v4,p0,p1,p2,p3,p4,p5,p6,p7,p8,p9,p10,hp⟩:=hc m n hn;obtain⟨b1,n1,d1,b2,n2,d2,b3,n3,d3,b4,n4,d4,rfl,rfl,rfl,rfl⟩:=hp.spelt;have hlen:lx.length=m:=by
      have:=congrArg List.length e;rw[List.length_map,List.length_take] at this;omega
     refine⟨lx++[(n,(b1,n1,d1),(b2,n2,d2),(b3,n3,d3),(b4,n4,d4))],?_,?_,?_⟩
     · rw[List.map_append,e,zF hn];rfl
     · intro i x j u hi hj;by_cases him:i<m
       · rw[List.getElem?_append_left (by omega)] at hi;exact hcell i x j u hi hj
       · have hi2:=(List.getElem?_eq_some_iff.1 hi).1;rw[List.length_append,List.length_singleton] at hi2;obtain rfl:i=m:=by omega
         rw[List.getElem?_append_right (by omega),hlen,Nat.sub_self] at hi;obtain rfl:=Option.some.inj hi
         match j,hj with
         | 0,hj=>obtain rfl:=Option.some.inj hj;exact p0
         | 1,hj=>obtain rfl:=Option.some.inj hj;exact p1
         | 2,hj=>obtain rfl:=Option.some.inj hj;exact p2
         | 3,hj=>obtain rfl:=Option.some.inj hj;exact p3
         | 4,hj=>obtain rfl:=Option.some.inj hj;exact p4
         | 5,hj=>obtain rfl:=Option.some.inj hj;exact p5
         | 6,hj=>obtain rfl:=Option.some.inj hj;exact p6
         | 7,hj=>obtain rfl:=Option.some.inj hj;exact p7
         | 8,hj=>obtain rfl:=Option.some.inj hj;exact p8
         | 9,hj=>obtain rfl:=Option.some.inj hj;exact p9
         | 10,hj=>obtain rfl:=Option.some.inj hj;exact p10
         | j+11,hj=>simp[PodLay0] at hj
     · intro z hz;rcases List.mem_append.1 hz with hz | hz
       · exact hat z hz
       · obtain rfl:z=_:=List.mem_singleton.1 hz;exact ji.at4 hp
   obtain⟨lx,e,hcell,hat⟩:=step l.length (Nat.le_refl _);rw[List.take_of_length_le (Nat.le_refl _)] at e;have hl:lx.length=len:=by rw[←h0,←e,List.length_map]
   exact⟨lx,e,⟨hl,h1,fun _ _=>trivial,.inr ⟨b,off,rfl,hb,hcell⟩⟩,hat⟩
theorem jkU:Kind 22 78 5 96:=by
 obtain⟨i,hi,hz,h1,h2⟩:=info_parts (show (Tryz.prog.info? 78).map (fun i=>(i.zero,i.size,i.bytes))=some (some (.agg #[.string ByteArray.empty,.slice none 0 0,.slice none 0 0,.slice none 0 0,.bool false]),5,96) by kernel_rfl);exact⟨i,_,Tryz.underlying22,hi,hz,h1,h2,rfl,by decide⟩
theorem jdK (a:Option Addr) (len cap:Nat) (lx:List NX) (w:World) (hr:jn zp w a len lx) (hc:len≤cap) (hm:cap≤maxLen) (hn:len≤100000) :
 Calls Tryz.prog 129 #[.slice a len cap] w fun e w'=>((e=.returned (.slice none 0 0)∧lx=[])∨∃g c,e=.returned (.slice (some ⟨g,0,none⟩) len c)∧Own zp 78 w' w.heap.size (.slice (some ⟨g,0,none⟩) len c) lx)∧Kept w w':=by
 have hl:=hr.1;have q22:∀(w:World) (a:Option Addr) (n c n' c':Nat),(binOp .eql 22 (.slice a n c) (.slice none n' c')).run Tryz.prog w=.ok (.bool a.isNone) w:=fun w a n c n' c'=>Lib.run_eql_slice_nil w _ _ a n c n' c' Tryz.underlying22
 cases a with
 | none =>
  have h0:len=0:=by
   rcases hr.form with h | ⟨b,off,h⟩
   · exact h
   · cases h
  subst h0;have hl0:lx=[]:=List.eq_nil_of_length_eq_zero hl;subst hl0;clear hr hl;go_enter Tryz.func129,Tryz.ntmps129;go_wp2;go_ret;exact⟨.inl ⟨rfl,by first | rfl | trivial⟩,Kept.refl _⟩
 | some ad =>
  have HR:=lH hr;have HL:=lH hl;have hrl:(jd zp lx).length=len*5:=by rw[jR,hl];rfl
  have hb1:0+len≤maxLen:=by unfold maxLen;omega
  have hb2:((0+len)+(0+len) / 4+192)*96≤281474976710656:=by omega
  clear hr hl;go_enter Tryz.func129,Tryz.ntmps129;go_wp2_with (at_builtin;refine zK jkU _ rfl (.tmp 5) (.tmp 6) rfl w.heap.size (by simp) w.heap.size 0 0 [] rfl (JZ w w.heap.size 5 _ (Nat.le_refl _)) _ len (jd zp lx) rfl hrl (zR _ _) (jn.src (HR.out.kept (ja _ _))) hb1 hb2 ?_;intro g1 k1 W1 ho hd hg;have HO:=lH ho;have HD:=lH hd;clear ho hd hg;refine Hid.out ?_)
  refine lH ?_;simp only[Nat.zero_add,List.nil_append] at HO ⊢;go_wp2;go_ret;exact⟨.inr ⟨g1,k1,rfl,by rw[HL.out];exact HO.out,fun x _=>trivial⟩,Below.trans (ja w _) HD.out⟩
theorem jjM:Kind 23 52 11 184:=by
 obtain⟨i,hi,hz,h1,h2⟩:=info_parts (show (Tryz.prog.info? 52).map (fun i=>(i.zero,i.size,i.bytes))=some (some (.agg #[.string ByteArray.empty,.string ByteArray.empty,.int .i64 0,.slice none 0 0,.slice none 0 0,.slice none 0 0,.slice none 0 0,.string ByteArray.empty,.int .i64 0,.string ByteArray.empty,.bool false]),11,184) by kernel_rfl);exact⟨i,_,Tryz.underlying23,hi,hz,h1,h2,rfl,by decide⟩
theorem jdz (a:Option Addr) (len cap:Nat) (lx:List PX) (w:World) (hr:jn PodLay0 w a len lx) (hc:len≤cap) (hm:cap≤maxLen) (hn:len≤100000) :
 Calls Tryz.prog 133 #[.slice a len cap] w fun e w'=>((e=.returned (.slice none 0 0)∧lx=[])∨∃g c,e=.returned (.slice (some ⟨g,0,none⟩) len c)∧Own PodLay0 52 w' w.heap.size (.slice (some ⟨g,0,none⟩) len c) lx)∧Kept w w':=by
 have hl:=hr.1;have q22:∀(w:World) (a:Option Addr) (n c n' c':Nat),(binOp .eql 23 (.slice a n c) (.slice none n' c')).run Tryz.prog w=.ok (.bool a.isNone) w:=fun w a n c n' c'=>Lib.run_eql_slice_nil w _ _ a n c n' c' Tryz.underlying23
 cases a with
 | none =>
  have h0:len=0:=by
   rcases hr.form with h | ⟨b,off,h⟩
   · exact h
   · cases h
  subst h0;have hl0:lx=[]:=List.eq_nil_of_length_eq_zero hl;subst hl0;clear hr hl;go_enter Tryz.func133,Tryz.ntmps133;go_wp2;go_ret;exact⟨.inl ⟨rfl,by first | rfl | trivial⟩,Kept.refl _⟩
 | some ad =>
  have HR:=lH hr;have HL:=lH hl;have hrl:(jd PodLay0 lx).length=len*11:=by rw[jR,hl];rfl
  have hb1:0+len≤maxLen:=by unfold maxLen;omega
  have hb2:((0+len)+(0+len) / 4+192)*184≤281474976710656:=by omega
  clear hr hl;go_enter Tryz.func133,Tryz.ntmps133;go_wp2_with (at_builtin;refine zK jjM _ rfl (.tmp 5) (.tmp 6) rfl w.heap.size (by simp) w.heap.size 0 0 [] rfl (JZ w w.heap.size 11 _ (Nat.le_refl _)) _ len (jd PodLay0 lx) rfl hrl (zR _ _) (jn.src (HR.out.kept (ja _ _))) hb1 hb2 ?_;intro g1 k1 W1 ho hd hg;have HO:=lH ho;have HD:=lH hd;clear ho hd hg;refine Hid.out ?_)
  refine lH ?_;simp only[Nat.zero_add,List.nil_append] at HO ⊢;go_wp2;go_ret;exact⟨.inr ⟨g1,k1,rfl,by rw[HL.out];exact HO.out,fun x _=>trivial⟩,Below.trans (ja w _) HD.out⟩
theorem jjP:Kind 24 108 3 48:=by
 obtain⟨i,hi,hz,h1,h2⟩:=info_parts (show (Tryz.prog.info? 108).map (fun i=>(i.zero,i.size,i.bytes))=some (some (.agg #[.string ByteArray.empty,.slice none 0 0,.int .i64 0]),3,48) by kernel_rfl);exact⟨i,_,Tryz.underlying24,hi,hz,h1,h2,rfl,by decide⟩
theorem jdM (a:Option Addr) (len cap:Nat) (lx:List BX) (w:World) (hr:jn j9 w a len lx) (hc:len≤cap) (hm:cap≤maxLen) (hn:len≤100000) :
 Calls Tryz.prog 136 #[.slice a len cap] w fun e w'=>((e=.returned (.slice none 0 0)∧lx=[])∨∃g c,e=.returned (.slice (some ⟨g,0,none⟩) len c)∧Own j9 108 w' w.heap.size (.slice (some ⟨g,0,none⟩) len c) lx)∧Kept w w':=by
 have hl:=hr.1;have q22:∀(w:World) (a:Option Addr) (n c n' c':Nat),(binOp .eql 24 (.slice a n c) (.slice none n' c')).run Tryz.prog w=.ok (.bool a.isNone) w:=fun w a n c n' c'=>Lib.run_eql_slice_nil w _ _ a n c n' c' Tryz.underlying24
 cases a with
 | none =>
  have h0:len=0:=by
   rcases hr.form with h | ⟨b,off,h⟩
   · exact h
   · cases h
  subst h0;have hl0:lx=[]:=List.eq_nil_of_length_eq_zero hl;subst hl0;clear hr hl;go_enter Tryz.func136,Tryz.ntmps136;go_wp2;go_ret;exact⟨.inl ⟨rfl,by first | rfl | trivial⟩,Kept.refl _⟩
 | some ad =>
  have HR:=lH hr;have HL:=lH hl;have hrl:(jd j9 lx).length=len*3:=by rw[jR,hl];rfl
  have hb1:0+len≤maxLen:=by unfold maxLen;omega
  have hb2:((0+len)+(0+len) / 4+192)*48≤281474976710656:=by omega
  clear hr hl;go_enter Tryz.func136,Tryz.ntmps136;go_wp2_with (at_builtin;refine zK jjP _ rfl (.tmp 5) (.tmp 6) rfl w.heap.size (by simp) w.heap.size 0 0 [] rfl (JZ w w.heap.size 3 _ (Nat.le_refl _)) _ len (jd j9 lx) rfl hrl (zR _ _) (jn.src (HR.out.kept (ja _ _))) hb1 hb2 ?_;intro g1 k1 W1 ho hd hg;have HO:=lH ho;have HD:=lH hd;clear ho hd hg;refine Hid.out ?_)
  refine lH ?_;simp only[Nat.zero_add,List.nil_append] at HO ⊢;go_wp2;go_ret;exact⟨.inr ⟨g1,k1,rfl,by rw[HL.out];exact HO.out,fun x _=>trivial⟩,Below.trans (ja w _) HD.out⟩
end Go.Proofs.YtibepooajeakfaaGreat
