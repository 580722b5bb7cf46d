/- C. -/
import Derived.Test.YtibepooajeakfaaGreatG0
import Derived.Test.YtibepooajeakfaaGreatG1
import Derived.Test.YtibepooajeakfaaGreatG2
import Derived.Test.YtibepooajeakfaaGreatG3
import Derived.Test.YtibepooajeakfaaGreatG4
import Derived.Test.YtibepooajeakfaaGreatG5
import Derived.Test.YtibepooajeakfaaGreatG6
import Derived.Test.YtibepooajeakfaaGreatG7
import Derived.Test.YtibepooajeakfaaGreatG8
set_option linter.unusedVariables false
set_option maxRecDepth 100000
set_option maxHeartbeats 25600000
namespace Go.Proofs.YtibepooajeakfaaGreat
open Go.RowKit
theorem jV {x:Int} {t:List Int} (h:x=0):orL (x::t)=orL t:=by subst h;rfl
theorem jL {x v:Int} {t:List Int} (h:x=v) (hv:v≠0):orL (x::t)=v:=by
 subst h;show (if x≠0 then x else orL t)=x;rw[if_pos hv]
theorem YG {x:Int}:orL [x]=x:=by
 show (if x≠0 then x else 0)=x;by_cases h:x=0
 · rw[if_neg (fun g=>g h),h]
 · rw[if_pos h]
theorem eor {x:ByteArray} {q r:Bool} (h:(x.toList==([]:List UInt8))=q) (g:isName x=r):ZE x=(q||r):=by unfold ZE;rw[JX,h,g]
theorem jg5 (n:Pd) (v1 v2 v3 v4:Value) (w:World) (h:ji w v1 v2 v3 v4 n) :
 Calls Tryz.prog 113 #[jy n v1 v2 v3 v4] w (Say (.int .i64 (zG n)) w):=by
 obtain⟨x0,x1,x2,l1,l2,l3,l4,x3,x4,x5,x6⟩:=n;have s0:x0.size≤maxLen:=h.name;have s1:x1.size≤maxLen:=h.owner;have s3:x3.size≤maxLen:=h.key;have s5:x5.size≤maxLen:=h.node;obtain⟨W0,hW0⟩:=eX (w.alloc (.cells #[.string x0,.string x1,.int .i64 x2,v1,v2,v3,v4,.string x3,.int .i64 x4,.string x5,.bool x6] 42))
 have hk0:Kept w W0:=by rw[←hW0];exact ja _ _
 have HC:=lH (show ∀W,Kept W0 W→W.cell? ⟨w.heap.size,0,none⟩=some (.string x0)∧W.cell? ⟨w.heap.size,1,none⟩=some (.string x1)∧W.cell? ⟨w.heap.size,2,none⟩=some (.int .i64 x2)∧W.cell? ⟨w.heap.size,3,none⟩=some (v1)∧W.cell? ⟨w.heap.size,4,none⟩=some (v2)∧W.cell? ⟨w.heap.size,5,none⟩=some (v3)∧W.cell? ⟨w.heap.size,6,none⟩=some (v4)∧W.cell? ⟨w.heap.size,7,none⟩=some (.string x3)∧W.cell? ⟨w.heap.size,8,none⟩=some (.int .i64 x4)∧W.cell? ⟨w.heap.size,9,none⟩=some (.string x5)∧W.cell? ⟨w.heap.size,10,none⟩=some (.bool x6) from fun W k=>by
  have:=jc w (.string x0) [.string x1,.int .i64 x2,v1,v2,v3,v4,.string x3,.int .i64 x4,.string x5,.bool x6] 42 W (by rw[hW0];exact k);exact⟨this.at_ 0 _ rfl,this.at_ 1 _ rfl,this.at_ 2 _ rfl,this.at_ 3 _ rfl,this.at_ 4 _ rfl,this.at_ 5 _ rfl,this.at_ 6 _ rfl,this.at_ 7 _ rfl,this.at_ 8 _ rfl,this.at_ 9 _ rfl,this.at_ 10 _ rfl⟩)
 obtain⟨y1,hy1⟩:=eX (Vec.jv l1)
 obtain⟨y2,hy2⟩:=eX (J9 l2)
 obtain⟨y3,hy3⟩:=eX (Zq l3)
 obtain⟨y4,hy4⟩:=eX (JI l4)
 obtain⟨E1,E2,E3,E4,HV⟩:=lH5 (fun W (k:Kept W0 W)=>Vec.Zv (h.need.kept (hk0.trans k)) hy1) (fun W (k:Kept W0 W)=>Zv (h.labels.kept (hk0.trans k)) hy2) (fun W (k:Kept W0 W)=>jbk (h.sel.kept (hk0.trans k)) hy3) (fun W (k:Kept W0 W)=>jih (h.tols.kept (hk0.trans k)) hy4) (show zG ⟨x0,x1,x2,l1,l2,l3,l4,x3,x4,x5,x6⟩=orL [Z7 x0 x1,YE x2 x6,y1,y2,y3,y4,Jm x3 x4,Ya x5] by rw[←hy1,←hy2,←hy3,←hy4];rfl);obtain⟨r0,hr0⟩:=eX (isName x0)
 obtain⟨r1,hr1⟩:=eX (isName x1)
 obtain⟨r3,hr3⟩:=eX (isName x3)
 obtain⟨r5,hr5⟩:=eX (isName x5)
 obtain⟨q1,hq1⟩:=eX ((x1.toList==([]:List UInt8)))
 obtain⟨q3,hq3⟩:=eX ((x3.toList==([]:List UInt8)))
 obtain⟨q5,hq5⟩:=eX ((x5.toList==([]:List UInt8)))
 obtain⟨N0,N1,N3,N5,HN,HS,HD⟩:=lH7 (fun W=>Vec.YO (w:=W) s0 hr0) (fun W=>Vec.YO (w:=W) s1 hr1) (fun W=>Vec.YO (w:=W) s3 hr3) (fun W=>Vec.YO (w:=W) s5 hr5) (show Z7 x0 x1=if r0=true∧(q1||r1)=true then 0 else 3 by unfold Z7;rw[eor hq1 hr1,hr0]) (show Jm x3 x4=if (q3||r3)=false then 3 else if (if q3=true then decide (x4≠0) else decide (x4<1)||decide (128<x4))=true then 1 else 0 by unfold Jm ja9;rw[eor hq3 hr3,JX,hq3]) (show Ya x5=if (q5||r5)=true then 0 else 3 by unfold Ya;rw[eor hq5 hr5]);obtain⟨zz,hzz⟩:=eX ((x2==-1))
 have HP:=lH (show YE x2 x6=if (decide (x2 < -1)||(decide (1000000<x2)||(zz != x6)))=true then 1 else 0 by unfold YE jdN;rw[show decide (x2=-1)=zz from hzz]);have Va:=lH hk0;obtain⟨c0,c1,c2,c3,c4,c5,c6,c7,c8,c9,c10⟩:=HC.out _ (Kept.refl _);clear h hk0 hy1 hy2 hy3 hy4 hr0 hr1 hr3 hr5 s0 s1 s3 s5;unfold jy;dsimp only;go_enter Tryz.func113,Tryz.ntmps113;go_wp2_with fail
 try rw[hW0]
 clear hW0;refine(N0.out _).mono ?_;rintro e w9 ⟨rfl,rfl⟩
 cases r0 with
 | false =>
  have HV:=lH (HV.out.trans (jL (v:=3) (HN.out.trans (by simp)) (by decide)));go_wp2;go_ret;exact⟨jb HV.out.symm,Va.out.trans (Kept.refl _)⟩
 | true =>
  cases q1 with
  | true =>
   have HV:=lH (HV.out.trans (jV (HN.out.trans (by simp))));by_cases p1:x2 < -1
   · have HV:=lH (HV.out.trans (jL (v:=1) (HP.out.trans (by simp[p1])) (by decide)));clear hzz;go_wp2;go_ret;exact⟨jb HV.out.symm,Va.out.trans (Kept.refl _)⟩
   · have p1:-1≤x2:=by omega
     by_cases p2:1000000<x2
     · have HV:=lH (HV.out.trans (jL (v:=1) (HP.out.trans (by simp[p2])) (by decide)));clear hzz;go_wp2;go_ret;exact⟨jb HV.out.symm,Va.out.trans (Kept.refl _)⟩
     · have p2:x2≤1000000:=by omega
       have HP:=lH (HP.out.trans (show (if (decide (x2 < -1)||(decide (1000000<x2)||(zz != x6)))=true then 1 else 0)=(if (zz != x6)=true then 1 else 0) by rw[show decide (x2 < -1)=false by simp;omega,show decide (1000000<x2)=false by simp;omega];rfl))
       cases zz<;>cases x6
       ·
        have HV:=lH (HV.out.trans (jV HP.out));go_wp2_with fail
        refine(E1.out _ (Kept.refl _)).mono ?_;rintro e w1 ⟨rfl,k⟩;have K1:=lH (Kept.trans (Kept.refl _) k);clear k c0 c1 c2 c3 c4 c5 c6 c7 c8 c9 c10;obtain⟨c0,c1,c2,c3,c4,c5,c6,c7,c8,c9,c10⟩:=HC.out _ K1.out;by_cases z1:y1=0;rotate_left
        · have z9:(y1 != 0)=true:=by simpa using z1
          have HV:=lH (HV.out.trans (jL rfl z1));clear z1;go_wp2;go_ret;exact⟨jb HV.out.symm,Va.out.trans K1.out⟩
        subst z1;have HV:=lH (HV.out.trans (jV rfl));go_wp2_with fail
        refine(E2.out _ K1.out).mono ?_;rintro e w2 ⟨rfl,k⟩;have K2:=lH (Kept.trans K1.out k);clear k c0 c1 c2 c3 c4 c5 c6 c7 c8 c9 c10;obtain⟨c0,c1,c2,c3,c4,c5,c6,c7,c8,c9,c10⟩:=HC.out _ K2.out;by_cases z2:y2=0;rotate_left
        · have z9:(y2 != 0)=true:=by simpa using z2
          have HV:=lH (HV.out.trans (jL rfl z2));clear z2;go_wp2;go_ret;exact⟨jb HV.out.symm,Va.out.trans K2.out⟩
        subst z2;have HV:=lH (HV.out.trans (jV rfl));go_wp2_with fail
        refine(E3.out _ K2.out).mono ?_;rintro e w3 ⟨rfl,k⟩;have K3:=lH (Kept.trans K2.out k);clear k c0 c1 c2 c3 c4 c5 c6 c7 c8 c9 c10;obtain⟨c0,c1,c2,c3,c4,c5,c6,c7,c8,c9,c10⟩:=HC.out _ K3.out;by_cases z3:y3=0;rotate_left
        · have z9:(y3 != 0)=true:=by simpa using z3
          have HV:=lH (HV.out.trans (jL rfl z3));clear z3;go_wp2;go_ret;exact⟨jb HV.out.symm,Va.out.trans K3.out⟩
        subst z3;have HV:=lH (HV.out.trans (jV rfl));go_wp2_with fail
        refine(E4.out _ K3.out).mono ?_;rintro e w4 ⟨rfl,k⟩;have K4:=lH (Kept.trans K3.out k);clear k c0 c1 c2 c3 c4 c5 c6 c7 c8 c9 c10;obtain⟨c0,c1,c2,c3,c4,c5,c6,c7,c8,c9,c10⟩:=HC.out _ K4.out;by_cases z4:y4=0;rotate_left
        · have z9:(y4 != 0)=true:=by simpa using z4
          have HV:=lH (HV.out.trans (jL rfl z4));clear z4;go_wp2;go_ret;exact⟨jb HV.out.symm,Va.out.trans K4.out⟩
        subst z4;have HV:=lH (HV.out.trans (jV rfl))
        cases q3 with
        | true =>
         by_cases m1:x4=0
         · subst m1;have HV:=lH (HV.out.trans (jV HS.out));have HV:=lH (HV.out.trans (YG.trans HD.out))
           cases q5 with
           | true =>
            go_wp2;go_ret;exact⟨jb HV.out.symm,Va.out.trans K4.out⟩
           | false =>
            go_wp2_with fail
            refine(N5.out _).mono ?_;rintro e w9 ⟨rfl,rfl⟩
            cases r5 with
            | false =>
             go_wp2;go_ret;exact⟨jb HV.out.symm,Va.out.trans K4.out⟩
            | true =>
             go_wp2;go_ret;exact⟨jb HV.out.symm,Va.out.trans K4.out⟩
         · have HV:=lH (HV.out.trans (jL (v:=1) (HS.out.trans (by simp[m1])) (by decide)));have m1:(x4 != 0)=true:=by simpa using m1
           go_wp2;go_ret;exact⟨jb HV.out.symm,Va.out.trans K4.out⟩
        | false =>
         go_wp2_with fail
         refine(N3.out _).mono ?_;rintro e w9 ⟨rfl,rfl⟩
         cases r3 with
         | false =>
          have HV:=lH (HV.out.trans (jL (v:=3) HS.out (by decide)));go_wp2;go_ret;exact⟨jb HV.out.symm,Va.out.trans K4.out⟩
         | true =>
          by_cases m1:x4<1
          · have HV:=lH (HV.out.trans (jL (v:=1) (HS.out.trans (by simp[m1])) (by decide)));go_wp2;go_ret;exact⟨jb HV.out.symm,Va.out.trans K4.out⟩
          · have m1:1≤x4:=by omega
            by_cases m2:128<x4
            · have HV:=lH (HV.out.trans (jL (v:=1) (HS.out.trans (by simp[m2])) (by decide)));go_wp2;go_ret;exact⟨jb HV.out.symm,Va.out.trans K4.out⟩
            · have m2:x4≤128:=by omega
              have HV:=lH (HV.out.trans (jV (HS.out.trans (by rw[show decide (x4<1)=false by simp;omega,show decide (128<x4)=false by simp;omega];rfl))));have HV:=lH (HV.out.trans (YG.trans HD.out))
              cases q5 with
              | true =>
               go_wp2;go_ret;exact⟨jb HV.out.symm,Va.out.trans K4.out⟩
              | false =>
               go_wp2_with fail
               refine(N5.out _).mono ?_;rintro e w9 ⟨rfl,rfl⟩
               cases r5 with
               | false =>
                go_wp2;go_ret;exact⟨jb HV.out.symm,Va.out.trans K4.out⟩
               | true =>
                go_wp2;go_ret;exact⟨jb HV.out.symm,Va.out.trans K4.out⟩
       ·
        have HV:=lH (HV.out.trans (jL (v:=1) HP.out (by decide)));go_wp2;go_ret;exact⟨jb HV.out.symm,Va.out.trans (Kept.refl _)⟩
       ·
        have HV:=lH (HV.out.trans (jL (v:=1) HP.out (by decide)));go_wp2;go_ret;exact⟨jb HV.out.symm,Va.out.trans (Kept.refl _)⟩
       ·
        have HV:=lH (HV.out.trans (jV HP.out));go_wp2_with fail
        refine(E1.out _ (Kept.refl _)).mono ?_;rintro e w1 ⟨rfl,k⟩;have K1:=lH (Kept.trans (Kept.refl _) k);clear k c0 c1 c2 c3 c4 c5 c6 c7 c8 c9 c10;obtain⟨c0,c1,c2,c3,c4,c5,c6,c7,c8,c9,c10⟩:=HC.out _ K1.out;by_cases z1:y1=0;rotate_left
        · have z9:(y1 != 0)=true:=by simpa using z1
          have HV:=lH (HV.out.trans (jL rfl z1));clear z1;go_wp2;go_ret;exact⟨jb HV.out.symm,Va.out.trans K1.out⟩
        subst z1;have HV:=lH (HV.out.trans (jV rfl));go_wp2_with fail
        refine(E2.out _ K1.out).mono ?_;rintro e w2 ⟨rfl,k⟩;have K2:=lH (Kept.trans K1.out k);clear k c0 c1 c2 c3 c4 c5 c6 c7 c8 c9 c10;obtain⟨c0,c1,c2,c3,c4,c5,c6,c7,c8,c9,c10⟩:=HC.out _ K2.out;by_cases z2:y2=0;rotate_left
        · have z9:(y2 != 0)=true:=by simpa using z2
          have HV:=lH (HV.out.trans (jL rfl z2));clear z2;go_wp2;go_ret;exact⟨jb HV.out.symm,Va.out.trans K2.out⟩
        subst z2;have HV:=lH (HV.out.trans (jV rfl));go_wp2_with fail
        refine(E3.out _ K2.out).mono ?_;rintro e w3 ⟨rfl,k⟩;have K3:=lH (Kept.trans K2.out k);clear k c0 c1 c2 c3 c4 c5 c6 c7 c8 c9 c10;obtain⟨c0,c1,c2,c3,c4,c5,c6,c7,c8,c9,c10⟩:=HC.out _ K3.out;by_cases z3:y3=0;rotate_left
        · have z9:(y3 != 0)=true:=by simpa using z3
          have HV:=lH (HV.out.trans (jL rfl z3));clear z3;go_wp2;go_ret;exact⟨jb HV.out.symm,Va.out.trans K3.out⟩
        subst z3;have HV:=lH (HV.out.trans (jV rfl));go_wp2_with fail
        refine(E4.out _ K3.out).mono ?_;rintro e w4 ⟨rfl,k⟩;have K4:=lH (Kept.trans K3.out k);clear k c0 c1 c2 c3 c4 c5 c6 c7 c8 c9 c10;obtain⟨c0,c1,c2,c3,c4,c5,c6,c7,c8,c9,c10⟩:=HC.out _ K4.out;by_cases z4:y4=0;rotate_left
        · have z9:(y4 != 0)=true:=by simpa using z4
          have HV:=lH (HV.out.trans (jL rfl z4));clear z4;go_wp2;go_ret;exact⟨jb HV.out.symm,Va.out.trans K4.out⟩
        subst z4;have HV:=lH (HV.out.trans (jV rfl))
        cases q3 with
        | true =>
         by_cases m1:x4=0
         · subst m1;have HV:=lH (HV.out.trans (jV HS.out));have HV:=lH (HV.out.trans (YG.trans HD.out))
           cases q5 with
           | true =>
            go_wp2;go_ret;exact⟨jb HV.out.symm,Va.out.trans K4.out⟩
           | false =>
            go_wp2_with fail
            refine(N5.out _).mono ?_;rintro e w9 ⟨rfl,rfl⟩
            cases r5 with
            | false =>
             go_wp2;go_ret;exact⟨jb HV.out.symm,Va.out.trans K4.out⟩
            | true =>
             go_wp2;go_ret;exact⟨jb HV.out.symm,Va.out.trans K4.out⟩
         · have HV:=lH (HV.out.trans (jL (v:=1) (HS.out.trans (by simp[m1])) (by decide)));have m1:(x4 != 0)=true:=by simpa using m1
           go_wp2;go_ret;exact⟨jb HV.out.symm,Va.out.trans K4.out⟩
        | false =>
         go_wp2_with fail
         refine(N3.out _).mono ?_;rintro e w9 ⟨rfl,rfl⟩
         cases r3 with
         | false =>
          have HV:=lH (HV.out.trans (jL (v:=3) HS.out (by decide)));go_wp2;go_ret;exact⟨jb HV.out.symm,Va.out.trans K4.out⟩
         | true =>
          by_cases m1:x4<1
          · have HV:=lH (HV.out.trans (jL (v:=1) (HS.out.trans (by simp[m1])) (by decide)));go_wp2;go_ret;exact⟨jb HV.out.symm,Va.out.trans K4.out⟩
          · have m1:1≤x4:=by omega
            by_cases m2:128<x4
            · have HV:=lH (HV.out.trans (jL (v:=1) (HS.out.trans (by simp[m2])) (by decide)));go_wp2;go_ret;exact⟨jb HV.out.symm,Va.out.trans K4.out⟩
            · have m2:x4≤128:=by omega
              have HV:=lH (HV.out.trans (jV (HS.out.trans (by rw[show decide (x4<1)=false by simp;omega,show decide (128<x4)=false by simp;omega];rfl))));have HV:=lH (HV.out.trans (YG.trans HD.out))
              cases q5 with
              | true =>
               go_wp2;go_ret;exact⟨jb HV.out.symm,Va.out.trans K4.out⟩
              | false =>
               go_wp2_with fail
               refine(N5.out _).mono ?_;rintro e w9 ⟨rfl,rfl⟩
               cases r5 with
               | false =>
                go_wp2;go_ret;exact⟨jb HV.out.symm,Va.out.trans K4.out⟩
               | true =>
                go_wp2;go_ret;exact⟨jb HV.out.symm,Va.out.trans K4.out⟩
  | false =>
   go_wp2_with fail
   refine(N1.out _).mono ?_;rintro e w9 ⟨rfl,rfl⟩
   cases r1 with
   | false =>
    have HV:=lH (HV.out.trans (jL (v:=3) (HN.out.trans (by simp)) (by decide)));go_wp2;go_ret;exact⟨jb HV.out.symm,Va.out.trans (Kept.refl _)⟩
   | true =>
    have HV:=lH (HV.out.trans (jV (HN.out.trans (by simp))));by_cases p1:x2 < -1
    · have HV:=lH (HV.out.trans (jL (v:=1) (HP.out.trans (by simp[p1])) (by decide)));clear hzz;go_wp2;go_ret;exact⟨jb HV.out.symm,Va.out.trans (Kept.refl _)⟩
    · have p1:-1≤x2:=by omega
      by_cases p2:1000000<x2
      · have HV:=lH (HV.out.trans (jL (v:=1) (HP.out.trans (by simp[p2])) (by decide)));clear hzz;go_wp2;go_ret;exact⟨jb HV.out.symm,Va.out.trans (Kept.refl _)⟩
      · have p2:x2≤1000000:=by omega
        have HP:=lH (HP.out.trans (show (if (decide (x2 < -1)||(decide (1000000<x2)||(zz != x6)))=true then 1 else 0)=(if (zz != x6)=true then 1 else 0) by rw[show decide (x2 < -1)=false by simp;omega,show decide (1000000<x2)=false by simp;omega];rfl))
        cases zz<;>cases x6
        ·
         have HV:=lH (HV.out.trans (jV HP.out));go_wp2_with fail
         refine(E1.out _ (Kept.refl _)).mono ?_;rintro e w1 ⟨rfl,k⟩;have K1:=lH (Kept.trans (Kept.refl _) k);clear k c0 c1 c2 c3 c4 c5 c6 c7 c8 c9 c10;obtain⟨c0,c1,c2,c3,c4,c5,c6,c7,c8,c9,c10⟩:=HC.out _ K1.out;by_cases z1:y1=0;rotate_left
         · have z9:(y1 != 0)=true:=by simpa using z1
           have HV:=lH (HV.out.trans (jL rfl z1));clear z1;go_wp2;go_ret;exact⟨jb HV.out.symm,Va.out.trans K1.out⟩
         subst z1;have HV:=lH (HV.out.trans (jV rfl));go_wp2_with fail
         refine(E2.out _ K1.out).mono ?_;rintro e w2 ⟨rfl,k⟩;have K2:=lH (Kept.trans K1.out k);clear k c0 c1 c2 c3 c4 c5 c6 c7 c8 c9 c10;obtain⟨c0,c1,c2,c3,c4,c5,c6,c7,c8,c9,c10⟩:=HC.out _ K2.out;by_cases z2:y2=0;rotate_left
         · have z9:(y2 != 0)=true:=by simpa using z2
           have HV:=lH (HV.out.trans (jL rfl z2));clear z2;go_wp2;go_ret;exact⟨jb HV.out.symm,Va.out.trans K2.out⟩
         subst z2;have HV:=lH (HV.out.trans (jV rfl));go_wp2_with fail
         refine(E3.out _ K2.out).mono ?_;rintro e w3 ⟨rfl,k⟩;have K3:=lH (Kept.trans K2.out k);clear k c0 c1 c2 c3 c4 c5 c6 c7 c8 c9 c10;obtain⟨c0,c1,c2,c3,c4,c5,c6,c7,c8,c9,c10⟩:=HC.out _ K3.out;by_cases z3:y3=0;rotate_left
         · have z9:(y3 != 0)=true:=by simpa using z3
           have HV:=lH (HV.out.trans (jL rfl z3));clear z3;go_wp2;go_ret;exact⟨jb HV.out.symm,Va.out.trans K3.out⟩
         subst z3;have HV:=lH (HV.out.trans (jV rfl));go_wp2_with fail
         refine(E4.out _ K3.out).mono ?_;rintro e w4 ⟨rfl,k⟩;have K4:=lH (Kept.trans K3.out k);clear k c0 c1 c2 c3 c4 c5 c6 c7 c8 c9 c10;obtain⟨c0,c1,c2,c3,c4,c5,c6,c7,c8,c9,c10⟩:=HC.out _ K4.out;by_cases z4:y4=0;rotate_left
         · have z9:(y4 != 0)=true:=by simpa using z4
           have HV:=lH (HV.out.trans (jL rfl z4));clear z4;go_wp2;go_ret;exact⟨jb HV.out.symm,Va.out.trans K4.out⟩
         subst z4;have HV:=lH (HV.out.trans (jV rfl))
         cases q3 with
         | true =>
          by_cases m1:x4=0
          · subst m1;have HV:=lH (HV.out.trans (jV HS.out));have HV:=lH (HV.out.trans (YG.trans HD.out))
            cases q5 with
            | true =>
             go_wp2;go_ret;exact⟨jb HV.out.symm,Va.out.trans K4.out⟩
            | false =>
             go_wp2_with fail
             refine(N5.out _).mono ?_;rintro e w9 ⟨rfl,rfl⟩
             cases r5 with
             | false =>
              go_wp2;go_ret;exact⟨jb HV.out.symm,Va.out.trans K4.out⟩
             | true =>
              go_wp2;go_ret;exact⟨jb HV.out.symm,Va.out.trans K4.out⟩
          · have HV:=lH (HV.out.trans (jL (v:=1) (HS.out.trans (by simp[m1])) (by decide)));have m1:(x4 != 0)=true:=by simpa using m1
            go_wp2;go_ret;exact⟨jb HV.out.symm,Va.out.trans K4.out⟩
         | false =>
          go_wp2_with fail
          refine(N3.out _).mono ?_;rintro e w9 ⟨rfl,rfl⟩
          cases r3 with
          | false =>
           have HV:=lH (HV.out.trans (jL (v:=3) HS.out (by decide)));go_wp2;go_ret;exact⟨jb HV.out.symm,Va.out.trans K4.out⟩
          | true =>
           by_cases m1:x4<1
           · have HV:=lH (HV.out.trans (jL (v:=1) (HS.out.trans (by simp[m1])) (by decide)));go_wp2;go_ret;exact⟨jb HV.out.symm,Va.out.trans K4.out⟩
           · have m1:1≤x4:=by omega
             by_cases m2:128<x4
             · have HV:=lH (HV.out.trans (jL (v:=1) (HS.out.trans (by simp[m2])) (by decide)));go_wp2;go_ret;exact⟨jb HV.out.symm,Va.out.trans K4.out⟩
             · have m2:x4≤128:=by omega
               have HV:=lH (HV.out.trans (jV (HS.out.trans (by rw[show decide (x4<1)=false by simp;omega,show decide (128<x4)=false by simp;omega];rfl))));have HV:=lH (HV.out.trans (YG.trans HD.out))
               cases q5 with
               | true =>
                go_wp2;go_ret;exact⟨jb HV.out.symm,Va.out.trans K4.out⟩
               | false =>
                go_wp2_with fail
                refine(N5.out _).mono ?_;rintro e w9 ⟨rfl,rfl⟩
                cases r5 with
                | false =>
                 go_wp2;go_ret;exact⟨jb HV.out.symm,Va.out.trans K4.out⟩
                | true =>
                 go_wp2;go_ret;exact⟨jb HV.out.symm,Va.out.trans K4.out⟩
        ·
         have HV:=lH (HV.out.trans (jL (v:=1) HP.out (by decide)));go_wp2;go_ret;exact⟨jb HV.out.symm,Va.out.trans (Kept.refl _)⟩
        ·
         have HV:=lH (HV.out.trans (jL (v:=1) HP.out (by decide)));go_wp2;go_ret;exact⟨jb HV.out.symm,Va.out.trans (Kept.refl _)⟩
        ·
         have HV:=lH (HV.out.trans (jV HP.out));go_wp2_with fail
         refine(E1.out _ (Kept.refl _)).mono ?_;rintro e w1 ⟨rfl,k⟩;have K1:=lH (Kept.trans (Kept.refl _) k);clear k c0 c1 c2 c3 c4 c5 c6 c7 c8 c9 c10;obtain⟨c0,c1,c2,c3,c4,c5,c6,c7,c8,c9,c10⟩:=HC.out _ K1.out;by_cases z1:y1=0;rotate_left
         · have z9:(y1 != 0)=true:=by simpa using z1
           have HV:=lH (HV.out.trans (jL rfl z1));clear z1;go_wp2;go_ret;exact⟨jb HV.out.symm,Va.out.trans K1.out⟩
         subst z1;have HV:=lH (HV.out.trans (jV rfl));go_wp2_with fail
         refine(E2.out _ K1.out).mono ?_;rintro e w2 ⟨rfl,k⟩;have K2:=lH (Kept.trans K1.out k);clear k c0 c1 c2 c3 c4 c5 c6 c7 c8 c9 c10;obtain⟨c0,c1,c2,c3,c4,c5,c6,c7,c8,c9,c10⟩:=HC.out _ K2.out;by_cases z2:y2=0;rotate_left
         · have z9:(y2 != 0)=true:=by simpa using z2
           have HV:=lH (HV.out.trans (jL rfl z2));clear z2;go_wp2;go_ret;exact⟨jb HV.out.symm,Va.out.trans K2.out⟩
         subst z2;have HV:=lH (HV.out.trans (jV rfl));go_wp2_with fail
         refine(E3.out _ K2.out).mono ?_;rintro e w3 ⟨rfl,k⟩;have K3:=lH (Kept.trans K2.out k);clear k c0 c1 c2 c3 c4 c5 c6 c7 c8 c9 c10;obtain⟨c0,c1,c2,c3,c4,c5,c6,c7,c8,c9,c10⟩:=HC.out _ K3.out;by_cases z3:y3=0;rotate_left
         · have z9:(y3 != 0)=true:=by simpa using z3
           have HV:=lH (HV.out.trans (jL rfl z3));clear z3;go_wp2;go_ret;exact⟨jb HV.out.symm,Va.out.trans K3.out⟩
         subst z3;have HV:=lH (HV.out.trans (jV rfl));go_wp2_with fail
         refine(E4.out _ K3.out).mono ?_;rintro e w4 ⟨rfl,k⟩;have K4:=lH (Kept.trans K3.out k);clear k c0 c1 c2 c3 c4 c5 c6 c7 c8 c9 c10;obtain⟨c0,c1,c2,c3,c4,c5,c6,c7,c8,c9,c10⟩:=HC.out _ K4.out;by_cases z4:y4=0;rotate_left
         · have z9:(y4 != 0)=true:=by simpa using z4
           have HV:=lH (HV.out.trans (jL rfl z4));clear z4;go_wp2;go_ret;exact⟨jb HV.out.symm,Va.out.trans K4.out⟩
         subst z4;have HV:=lH (HV.out.trans (jV rfl))
         cases q3 with
         | true =>
          by_cases m1:x4=0
          · subst m1;have HV:=lH (HV.out.trans (jV HS.out));have HV:=lH (HV.out.trans (YG.trans HD.out))
            cases q5 with
            | true =>
             go_wp2;go_ret;exact⟨jb HV.out.symm,Va.out.trans K4.out⟩
            | false =>
             go_wp2_with fail
             refine(N5.out _).mono ?_;rintro e w9 ⟨rfl,rfl⟩
             cases r5 with
             | false =>
              go_wp2;go_ret;exact⟨jb HV.out.symm,Va.out.trans K4.out⟩
             | true =>
              go_wp2;go_ret;exact⟨jb HV.out.symm,Va.out.trans K4.out⟩
          · have HV:=lH (HV.out.trans (jL (v:=1) (HS.out.trans (by simp[m1])) (by decide)));have m1:(x4 != 0)=true:=by simpa using m1
            go_wp2;go_ret;exact⟨jb HV.out.symm,Va.out.trans K4.out⟩
         | false =>
          go_wp2_with fail
          refine(N3.out _).mono ?_;rintro e w9 ⟨rfl,rfl⟩
          cases r3 with
          | false =>
           have HV:=lH (HV.out.trans (jL (v:=3) HS.out (by decide)));go_wp2;go_ret;exact⟨jb HV.out.symm,Va.out.trans K4.out⟩
          | true =>
           by_cases m1:x4<1
           · have HV:=lH (HV.out.trans (jL (v:=1) (HS.out.trans (by simp[m1])) (by decide)));go_wp2;go_ret;exact⟨jb HV.out.symm,Va.out.trans K4.out⟩
           · have m1:1≤x4:=by omega
             by_cases m2:128<x4
             · have HV:=lH (HV.out.trans (jL (v:=1) (HS.out.trans (by simp[m2])) (by decide)));go_wp2;go_ret;exact⟨jb HV.out.symm,Va.out.trans K4.out⟩
             · have m2:x4≤128:=by omega
               have HV:=lH (HV.out.trans (jV (HS.out.trans (by rw[show decide (x4<1)=false by simp;omega,show decide (128<x4)=false by simp;omega];rfl))));have HV:=lH (HV.out.trans (YG.trans HD.out))
               cases q5 with
               | true =>
                go_wp2;go_ret;exact⟨jb HV.out.symm,Va.out.trans K4.out⟩
               | false =>
                go_wp2_with fail
                refine(N5.out _).mono ?_;rintro e w9 ⟨rfl,rfl⟩
                cases r5 with
                | false =>
                 go_wp2;go_ret;exact⟨jb HV.out.symm,Va.out.trans K4.out⟩
                | true =>
                 go_wp2;go_ret;exact⟨jb HV.out.symm,Va.out.trans K4.out⟩
theorem jdk (a:Option Addr) (len cap:Nat) (l:List Pd) (w:World) (hr:jx w a len l) :
 Calls Tryz.prog 61 #[.slice a len cap] w (Say (.int .i64 (jD l)) w):=by
 have hl:=hr.1;have hm:=hr.2.1;unfold maxLen at hm;by_cases h32:128<len
 · have HV:=lH (show jD l=4 by unfold jD;rw[if_pos (by omega)]);clear hr hl;go_enter Tryz.func61,Tryz.ntmps61;go_wp2;go_ret;exact⟨jb HV.out.symm,Kept.refl _⟩
 · have HV:=lH (show jD l=jW none l by unfold jD;rw[if_neg (by omega)]);have h32':len≤128:=by omega
   by_cases h0:len=0
   · subst h0;have HE:=lH (show jD l=0 by rw[HV.out,List.eq_nil_of_length_eq_zero hl];rfl);clear hr hl h32;go_enter Tryz.func61,Tryz.ntmps61;go_wp2;refine wp_loop_rounds 1 ?_;rw[rounds_succ];go_wp2;go_ret;exact⟨jb HE.out.symm,Kept.refl _⟩
   · obtain⟨b,off,rfl⟩:=hr.form.resolve_left h0;have HR:=lH hr;have HL:=lH hl;clear hr hl h0 h32;go_enter Tryz.func61,Tryz.ntmps61;go_wp2;go_loopw [3] (fun i wr=>∃k:Nat,k≤len∧i=.int .i64 k∧jW (ZB l k) (l.drop k)=jW none l∧Kept w wr) (fun i _=>len-(intOf i).toNat)
     case atStart=>exact⟨0,Nat.zero_le _,rfl,rfl,Kept.refl _⟩
     case round =>
      obtain⟨k,hk,rfl,hrest,hK⟩:=hrel;obtain⟨HS,HT,HK⟩:=lH3 (HV.out.trans hrest.symm) hrest hK;by_cases hlt:k<len
      · obtain⟨n,a1,m1,c1,a2,m2,c2,a3,m3,c3,a4,m4,c4,hn,hd,hb,p0,p1,p2,p3,p4,p5,p6,p7,p8,p9,p10,hat⟩:=(HR.out.kept hK).at_ hlt;obtain⟨VH,HD,VD⟩:=lH3 hat hd (jbQ hn);have VE:=lH (fun W (kk:Kept wr W)=>jg5 n (.slice a1 m1 c1) (.slice a2 m2 c2) (.slice a3 m3 c3) (.slice a4 m4 c4) W (VH.out.kept kk));unfold jy at VE;obtain⟨ck,hck⟩:=eX (zG n)
        have VG:=lH hck;rw[hck] at VE;have hkk:(k:Int)<(len:Int):=by omega
        clear hrest hK hat hd hck;by_cases z1:ck=0
        · subst z1;by_cases h0:k=0
          · have hd0:decide (0<k)=false:=by subst h0;decide
            have HP:=lH (jbR (l:=l) h0 n.name);clear h0;go_wp2_with fail
            refine(VE.out _ (Kept.refl _)).mono ?_;rintro e w1 ⟨rfl,kk⟩;have KW:=lH kk;clear kk;go_wp2;go_quiet (fail)
            go_wp2;go_roundw
            case rel=>exact⟨k+1,by omega,by go_num,(show jW (ZB l (k+1)) (l.drop (k+1))=jW none l by rw[←HT.out,HD.out,ZT VG.out HP.out,VD.out]),HK.out.trans (KW.out.trans (Kept.drewN _ _))⟩
            case measure=>simp[intOf];omega
          · have hd0:decide (0<k)=true:=by simp;omega
            have g1:0≤(k:Int)-1:=by omega
            have g2:(k:Int)-1<(len:Int):=by omega
            have g3:((k:Int)-1).toNat=k-1:=by omega
            obtain⟨n9,_,_,_,_,_,_,_,_,_,_,_,_,hn9,-,hb9,o0,-⟩:=(HR.out.kept HK.out).at_ (show k-1<len by omega);have HP:=lH (jbW (l:=l) h0 hn9 n.name);clear h0 hn9;by_cases n3:leS n.name n9.name=true
            · have n3':(Op.bytesLess n.name.toList n9.name.toList||n.name.toList==n9.name.toList)=true:=n3;have N3:=lH n3;clear n3;go_wp2_with fail
              refine(VE.out _ (Kept.refl _)).mono ?_;rintro e w1 ⟨rfl,kk⟩;have KW:=lH kk;have o1:=cell_later kk o0;have p99:=cell_later kk p0;clear kk;go_wp2;go_quiet (fail)
              go_wp2;go_ret;exact⟨jb (show (13:Int)=jD l by rw[HS.out,HD.out,Xz VG.out (HP.out.trans N3.out)]),HK.out.trans (KW.out.trans (Kept.drewN _ _))⟩
            · have n3:leS n.name n9.name=false:=by simpa using n3
              have n3':(Op.bytesLess n.name.toList n9.name.toList||n.name.toList==n9.name.toList)=false:=n3;have N3:=lH n3;clear n3;go_wp2_with fail
              refine(VE.out _ (Kept.refl _)).mono ?_;rintro e w1 ⟨rfl,kk⟩;have KW:=lH kk;have o1:=cell_later kk o0;have p99:=cell_later kk p0;clear kk;go_wp2;go_quiet (fail)
              go_wp2;go_roundw
              case rel=>exact⟨k+1,by omega,by go_num,(show jW (ZB l (k+1)) (l.drop (k+1))=jW none l by rw[←HT.out,HD.out,ZT VG.out (HP.out.trans N3.out),VD.out]),HK.out.trans (KW.out.trans (Kept.drewN _ _))⟩
              case measure=>simp[intOf];omega
        · have z1':(ck != 0)=true:=by simpa using z1
          have HB:=lH (show jD l=ck by rw[HS.out,HD.out,jan (by rw[VG.out];exact z1),VG.out]);clear z1;go_wp2_with fail
          refine(VE.out _ (Kept.refl _)).mono ?_;rintro e w1 ⟨rfl,kk⟩;have KW:=lH kk;clear kk;go_wp2;go_ret;exact⟨jb HB.out.symm,HK.out.trans KW.out⟩
      · have HE:=lH (show jD l=0 by rw[HS.out,List.drop_of_length_le (by rw[HL.out];omega)];rfl);clear hrest hK;go_wp2;go_ret;exact⟨jb HE.out.symm,HK.out⟩
theorem jhe {v:Value} {l:List Pd} {c:Int} {w:World} (h:Jo w v l) (hc:jD l=c):Calls Tryz.prog 61 #[v] w (Say (.int .i64 c) w):=by
 subst hc;obtain⟨a,cap,rfl,_,_,hr⟩:=h;exact jdk a _ cap l w hr
theorem jgE (n:Bd) (v1:Value) (w:World) (h:zp w v1 n) :
 Calls Tryz.prog 114 #[JZ n v1] w (Say (.int .i64 (Jq n)) w):=by
 obtain⟨x0,l3,m⟩:=n;obtain⟨W0,hW0⟩:=eX (w.alloc (.cells #[.string x0,v1,.int .i64 m] 131))
 have hk0:Kept w W0:=by rw[←hW0];exact ja _ _
 have HC:=lH (show ∀W,Kept W0 W→W.cell? ⟨w.heap.size,0,none⟩=some (.string x0)∧W.cell? ⟨w.heap.size,1,none⟩=some (v1)∧W.cell? ⟨w.heap.size,2,none⟩=some (.int .i64 m) from fun W k=>by
  have:=jc w (.string x0) [v1,.int .i64 m] 131 W (by rw[hW0];exact k);exact⟨this.at_ 0 _ rfl,this.at_ 1 _ rfl,this.at_ 2 _ rfl⟩)
 obtain⟨y3,hy3⟩:=eX (Zq l3)
 obtain⟨r0,hr0⟩:=eX (isName x0)
 obtain⟨E3,N0,HV,Va⟩:=lH4 (jbk (h.sel.kept hk0) hy3) (fun W=>Vec.YO (w:=W) h.name hr0) (show Jq ⟨x0,l3,m⟩=orL [if r0=true then 0 else 3,y3,zR m] by rw[←hy3,←hr0];rfl) hk0;clear h hk0 hy3 hr0;obtain⟨c0,c1,c2⟩:=HC.out _ (Kept.refl _);unfold JZ;dsimp only
 cases r0 with
 | false =>
  have HW:=lH (show Jq ⟨x0,l3,m⟩=3 by rw[HV.out];rfl);go_enter Tryz.func114,Tryz.ntmps114;go_wp2_with fail
  try rw[hW0]
  refine(N0.out _).mono ?_;rintro e w1 ⟨rfl,rfl⟩;go_wp2;go_ret;exact⟨jb HW.out.symm,Va.out⟩
 | true =>
  by_cases z:y3=0
  · subst z;by_cases z1:m<0
    · have HW:=lH (show Jq ⟨x0,l3,m⟩=1 by rw[HV.out,show zR m=1 by unfold zR;rw[if_pos (.inl z1)]];rfl);go_enter Tryz.func114,Tryz.ntmps114;go_wp2_with fail
      try rw[hW0]
      refine(N0.out _).mono ?_;rintro e w1 ⟨rfl,rfl⟩;go_wp2_with fail
      refine E3.out.mono ?_;rintro e w2 ⟨rfl,k⟩;obtain⟨d0,d1,d2⟩:=HC.out _ k;go_wp2;go_ret;exact⟨jb HW.out.symm,Va.out.trans k⟩
    · by_cases z2:128<m
      · have HW:=lH (show Jq ⟨x0,l3,m⟩=1 by rw[HV.out,show zR m=1 by unfold zR;rw[if_pos (.inr z2)]];rfl);have z1':0≤m:=by omega
        clear z1;go_enter Tryz.func114,Tryz.ntmps114;go_wp2_with fail
        try rw[hW0]
        refine(N0.out _).mono ?_;rintro e w1 ⟨rfl,rfl⟩;go_wp2_with fail
        refine E3.out.mono ?_;rintro e w2 ⟨rfl,k⟩;obtain⟨d0,d1,d2⟩:=HC.out _ k;go_wp2;go_ret;exact⟨jb HW.out.symm,Va.out.trans k⟩
      · have HW:=lH (show Jq ⟨x0,l3,m⟩=0 by rw[HV.out,show zR m=0 by unfold zR;rw[if_neg (by omega)]];rfl);have z1':0≤m:=by omega
        have z2':m≤128:=by omega
        clear z1 z2;go_enter Tryz.func114,Tryz.ntmps114;go_wp2_with fail
        try rw[hW0]
        refine(N0.out _).mono ?_;rintro e w1 ⟨rfl,rfl⟩;go_wp2_with fail
        refine E3.out.mono ?_;rintro e w2 ⟨rfl,k⟩;obtain⟨d0,d1,d2⟩:=HC.out _ k;go_wp2;go_ret;exact⟨jb HW.out.symm,Va.out.trans k⟩
  · have HW:=lH (show Jq ⟨x0,l3,m⟩=y3 by
     rw[HV.out];show (if (0:Int)≠0 then 0 else if y3≠0 then y3 else _)=y3;rw[if_neg (by decide),if_pos z])
    have z':(y3 != 0)=true:=by simpa using z
    clear z;go_enter Tryz.func114,Tryz.ntmps114;go_wp2_with fail
    try rw[hW0]
    refine(N0.out _).mono ?_;rintro e w1 ⟨rfl,rfl⟩;go_wp2_with fail
    refine E3.out.mono ?_;rintro e w2 ⟨rfl,k⟩;go_wp2;go_ret;exact⟨jb HW.out.symm,Va.out.trans k⟩
theorem jdI (a:Option Addr) (len cap:Nat) (l:List Bd) (w:World) (hr:j8 w a len l) :
 Calls Tryz.prog 62 #[.slice a len cap] w (Say (.int .i64 (jH l)) w):=by
 have hl:=hr.1;have hm:=hr.2.1;unfold maxLen at hm;by_cases h32:8<len
 · have HV:=lH (show jH l=4 by unfold jH;rw[if_pos (by omega)]);clear hr hl;go_enter Tryz.func62,Tryz.ntmps62;go_wp2;go_ret;exact⟨jb HV.out.symm,Kept.refl _⟩
 · have HV:=lH (show jH l=jX none l by unfold jH;rw[if_neg (by omega)]);have h32':len≤8:=by omega
   by_cases h0:len=0
   · subst h0;have HE:=lH (show jH l=0 by rw[HV.out,List.eq_nil_of_length_eq_zero hl];rfl);clear hr hl h32;go_enter Tryz.func62,Tryz.ntmps62;go_wp2;refine wp_loop_rounds 1 ?_;rw[rounds_succ];go_wp2;go_ret;exact⟨jb HE.out.symm,Kept.refl _⟩
   · obtain⟨b,off,rfl⟩:=hr.form.resolve_left h0;have HR:=lH hr;have HL:=lH hl;clear hr hl h0 h32;go_enter Tryz.func62,Tryz.ntmps62;go_wp2;go_loopw [3] (fun i wr=>∃k:Nat,k≤len∧i=.int .i64 k∧jX (ZC l k) (l.drop k)=jX none l∧Kept w wr) (fun i _=>len-(intOf i).toNat)
     case atStart=>exact⟨0,Nat.zero_le _,rfl,rfl,Kept.refl _⟩
     case round =>
      obtain⟨k,hk,rfl,hrest,hK⟩:=hrel;obtain⟨HS,HT,HK⟩:=lH3 (HV.out.trans hrest.symm) hrest hK;by_cases hlt:k<len
      · obtain⟨n,a1,m1,c1,hn,hd,hb,p0,p1,p2,hat⟩:=(HR.out.kept hK).at_ hlt;obtain⟨VH,HD,VD⟩:=lH3 hat hd (jbN hn);have VE:=lH (fun W (kk:Kept wr W)=>jgE n (.slice a1 m1 c1) W (VH.out.kept kk));unfold JZ at VE;obtain⟨ck,hck⟩:=eX (Jq n)
        have VG:=lH hck;rw[hck] at VE;have hkk:(k:Int)<(len:Int):=by omega
        clear hrest hK hat hd hck;by_cases z1:ck=0
        · subst z1;by_cases h0:k=0
          · have hd0:decide (0<k)=false:=by subst h0;decide
            have HP:=lH (jbD (l:=l) h0 n.name);clear h0;go_wp2_with fail
            refine(VE.out _ (Kept.refl _)).mono ?_;rintro e w1 ⟨rfl,kk⟩;have KW:=lH kk;clear kk;go_wp2;go_quiet (fail)
            go_wp2;go_roundw
            case rel=>exact⟨k+1,by omega,by go_num,(show jX (ZC l (k+1)) (l.drop (k+1))=jX none l by rw[←HT.out,HD.out,XC VG.out HP.out,VD.out]),HK.out.trans (KW.out.trans (Kept.drewN _ _))⟩
            case measure=>simp[intOf];omega
          · have hd0:decide (0<k)=true:=by simp;omega
            have g1:0≤(k:Int)-1:=by omega
            have g2:(k:Int)-1<(len:Int):=by omega
            have g3:((k:Int)-1).toNat=k-1:=by omega
            obtain⟨n9,_,_,_,hn9,-,hb9,o0,-⟩:=(HR.out.kept HK.out).at_ (show k-1<len by omega);have HP:=lH (jbO (l:=l) h0 hn9 n.name);clear h0 hn9;by_cases n3:leS n.name n9.name=true
            · have n3':(Op.bytesLess n.name.toList n9.name.toList||n.name.toList==n9.name.toList)=true:=n3;have N3:=lH n3;clear n3;go_wp2_with fail
              refine(VE.out _ (Kept.refl _)).mono ?_;rintro e w1 ⟨rfl,kk⟩;have KW:=lH kk;have o1:=cell_later kk o0;have p99:=cell_later kk p0;clear kk;go_wp2;go_quiet (fail)
              go_wp2;go_ret;exact⟨jb (show (13:Int)=jH l by rw[HS.out,HD.out,jbP VG.out (HP.out.trans N3.out)]),HK.out.trans (KW.out.trans (Kept.drewN _ _))⟩
            · have n3:leS n.name n9.name=false:=by simpa using n3
              have n3':(Op.bytesLess n.name.toList n9.name.toList||n.name.toList==n9.name.toList)=false:=n3;have N3:=lH n3;clear n3;go_wp2_with fail
              refine(VE.out _ (Kept.refl _)).mono ?_;rintro e w1 ⟨rfl,kk⟩;have KW:=lH kk;have o1:=cell_later kk o0;have p99:=cell_later kk p0;clear kk;go_wp2;go_quiet (fail)
              go_wp2;go_roundw
              case rel=>exact⟨k+1,by omega,by go_num,(show jX (ZC l (k+1)) (l.drop (k+1))=jX none l by rw[←HT.out,HD.out,XC VG.out (HP.out.trans N3.out),VD.out]),HK.out.trans (KW.out.trans (Kept.drewN _ _))⟩
              case measure=>simp[intOf];omega
        · have z1':(ck != 0)=true:=by simpa using z1
          have HB:=lH (show jH l=ck by rw[HS.out,HD.out,jd7 (by rw[VG.out];exact z1),VG.out]);clear z1;go_wp2_with fail
          refine(VE.out _ (Kept.refl _)).mono ?_;rintro e w1 ⟨rfl,kk⟩;have KW:=lH kk;clear kk;go_wp2;go_ret;exact⟨jb HB.out.symm,HK.out.trans KW.out⟩
      · have HE:=lH (show jH l=0 by rw[HS.out,List.drop_of_length_le (by rw[HL.out];omega)];rfl);clear hrest hK;go_wp2;go_ret;exact⟨jb HE.out.symm,HK.out⟩
theorem jg3 {v:Value} {l:List Bd} {c:Int} {w:World} (h:Zg w v l) (hc:jH l=c):Calls Tryz.prog 62 #[v] w (Say (.int .i64 c) w):=by
 subst hc;obtain⟨a,cap,rfl,_,_,hr⟩:=h;exact jdI a _ cap l w hr
theorem jnS {v v':Value} {l l':Vec.V} {c:Bool} {w:World} (h:Vec.Reads w v l) (h':Vec.Reads w v' l') (e:Vec.jB l' l=c) :
 Calls Tryz.prog 65 #[v,v'] w (Say (.bool c) w):=by
 subst e;obtain⟨a,cap,rfl,_,_,h3⟩:=h;obtain⟨a',cap',rfl,_,_,h3'⟩:=h';exact Vec.jkd a a' _ cap _ cap' l l' w h3 h3'
theorem jlU {s:Clu} {n:Nod} (h:n ∈ s.nodes):JU s n.name=jJ n.name s.pods []:=by
 cases hf:jl s.nodes n.name with
 | some n'=>exact jaQ hf
 | none =>
  unfold jl at hf;have:=List.find?_eq_none.1 hf n h;exact absurd (zh n.name) (by simpa using this)
theorem jjO {v:Value} {s:Clu} {c:Int} {w:World} (h:jC w v s) (hcc:zO s=c):Calls Tryz.prog 25 #[v] w (Say (.int .i64 c) w):=by
 subst hcc;have h0:=h;obtain⟨v1,v2,v3,rfl,⟨a,cap,rfl,l1,m1,h1⟩,⟨b,cp,rfl,l2,m2,h2⟩,⟨d,cb,rfl,l3,m3,h3⟩⟩:=h;obtain⟨nl,pl,bl⟩:=s;dsimp only at *;obtain⟨len,hlen⟩:=eX (nl.length)
 obtain⟨m,hm⟩:=eX (pl.length)
 obtain⟨n,hn⟩:=eX (bl.length)
 rw[hlen] at h1 l1;rw[hm] at h2 l2;rw[hn] at h3 l3;try rw[hlen]
 try rw[hm]
 try rw[hn]
 clear hn;rw[hlen,hm] at h0;have hn3:bl.length=n:=h3.1;rw[hn3] at h0;obtain⟨Z,hZ⟩:=eX (w.alloc (.cells #[.slice a len cap,.slice b m cp,.slice d n cb] 33))
 have hkz:Kept w Z:=by rw[←hZ];exact ja _ _
 obtain⟨HQ,HN,HP,Tr,V2,VY,Ny,Vc⟩:=lH8 (show jf w.heap.size [.slice a len cap,.slice b m cp,.slice d n cb] Z from jc w (.slice a len cap) [.slice b m cp,.slice d n cb] 33 Z (by rw[hZ];exact Kept.refl _)) (h1.kept hkz) (h2.kept hkz) (h0.kept hkz) (jaj l1 m1 (h1.kept hkz)) (jhE l2 m2 (h2.kept hkz)) (jdA l3 m3 (h3.kept hkz)) hkz;have UF:=lH hlen;have Tq:=lH hm;have hml1:=Nat.le_trans l1 m1;have hml2:=Nat.le_trans l2 m2;unfold maxLen at hml1 hml2;clear h1 h2 h3 h0 l1 l2 l3 m1 m2 m3 hkz hn3;obtain⟨x1,hx1⟩:=eX (jI nl)
 have Hx1:=lH hx1;obtain⟨x2,hx2⟩:=eX (jD pl)
 have Hx2:=lH hx2;obtain⟨x3,hx3⟩:=eX (jH bl)
 have Hx3:=lH hx3;have cq0:=(HQ.out.kept (Kept.refl _)).at_ 0 _ rfl;have cq1:=(HQ.out.kept (Kept.refl _)).at_ 1 _ rfl;have cq2:=(HQ.out.kept (Kept.refl _)).at_ 2 _ rfl;go_enter Tryz.func25,Tryz.ntmps25;go_wp2_with fail
 try rw[hZ]
 clear hZ;refine(jh7 V2.out hx1).mono ?_;rintro e w1 ⟨rfl,kk⟩;have K:=lH kk;clear kk hx1 cq0 cq1 cq2;have cq0:=(HQ.out.kept K.out).at_ 0 _ rfl;have cq1:=(HQ.out.kept K.out).at_ 1 _ rfl;have cq2:=(HQ.out.kept K.out).at_ 2 _ rfl;by_cases hc:¬x1=0
 · have HX:=lH (jay (nl:=nl) (pl:=pl) (bl:=bl) (c:=x1) (by unfold or3;rw[Hx1.out,if_pos hc]) hc);have hcn:(x1 != 0)=true:=by simpa using hc
   clear hc;go_wp2;go_ret;exact⟨jb HX.out.symm,Vc.out.trans K.out⟩
 obtain rfl:x1=0:=Decidable.of_not_not hc;clear hc;go_wp2_with fail
 refine(jhe (VY.out.kept K.out) hx2).mono ?_;rintro e w2 ⟨rfl,kk⟩;have K:=lH (K.out.trans kk);clear kk hx2 cq0 cq1 cq2;have cq0:=(HQ.out.kept K.out).at_ 0 _ rfl;have cq1:=(HQ.out.kept K.out).at_ 1 _ rfl;have cq2:=(HQ.out.kept K.out).at_ 2 _ rfl;by_cases hc:¬x2=0
 · have HX:=lH (jay (nl:=nl) (pl:=pl) (bl:=bl) (c:=x2) (by unfold or3;rw[Hx1.out,Hx2.out,if_neg (by decide),if_pos hc]) hc);have hcn:(x2 != 0)=true:=by simpa using hc
   clear hc;go_wp2;go_ret;exact⟨jb HX.out.symm,Vc.out.trans K.out⟩
 obtain rfl:x2=0:=Decidable.of_not_not hc;clear hc;go_wp2_with fail
 refine(jg3 (Ny.out.kept K.out) hx3).mono ?_;rintro e w3 ⟨rfl,kk⟩;have K:=lH (K.out.trans kk);clear kk hx3 cq0 cq1 cq2;have cq0:=(HQ.out.kept K.out).at_ 0 _ rfl;have cq1:=(HQ.out.kept K.out).at_ 1 _ rfl;have cq2:=(HQ.out.kept K.out).at_ 2 _ rfl;by_cases hc:¬x3=0
 · have HX:=lH (jay (nl:=nl) (pl:=pl) (bl:=bl) (c:=x3) (by unfold or3;rw[Hx1.out,Hx2.out,Hx3.out,if_neg (by decide),if_neg (by decide)]) hc);have hcn:(x3 != 0)=true:=by simpa using hc
   clear hc;go_wp2;go_ret;exact⟨jb HX.out.symm,Vc.out.trans K.out⟩
 obtain rfl:x3=0:=Decidable.of_not_not hc;clear hc;have Ue:=lH (show or3 (jI nl) (jD pl) (jH bl)=0 by unfold or3;rw[Hx1.out,Hx2.out,Hx3.out];rfl);clear Hx1 Hx2 Hx3;go_wp2;clear cq0 cq1 cq2;go_loopw [4] (fun i wr=>∃k:Nat,k≤m∧i=.int .i64 k∧jA nl (pl.drop k)=jA nl pl∧Kept Z wr) (fun i _=>m-(intOf i).toNat)
 case atStart=>exact⟨0,Nat.zero_le _,rfl,rfl,K.out⟩
 case round =>
  obtain⟨k,hk,rfl,hrest,hK⟩:=hrel;have HS:=lH hrest;have HK:=lH hK;have cq0:=(HQ.out.kept hK).at_ 0 _ rfl;have cq1:=(HQ.out.kept hK).at_ 1 _ rfl;have cq2:=(HQ.out.kept hK).at_ 2 _ rfl;by_cases hlt:k<m
  · obtain⟨b9,off,rfl⟩:=HP.out.form.resolve_left (by omega);obtain⟨pd,x1,y1,z1,x2,y2,z2,x3,y3,z3,x4,y4,z4,hn,hd,hb,p0,p1,p2,p3,p4,p5,p6,p7,p8,p9,p10,hat⟩:=(HP.out.kept hK).at_ hlt;have HD:=lH hd;have hkk:(k:Int)<(m:Int):=by omega
    have hk0:¬(k:Int)<0:=by omega
    obtain⟨t,ht⟩:=eX ((pd.node.toList==([]:List UInt8)))
    have Ua:=lH (show zo pd.node=t by rw[JX];exact ht);clear hrest hat hn hd
    cases t with
     | true =>
      have HX:=lH (show jA nl (pl.drop (k+1))=jA nl pl by rw[←HS.out,HD.out,jbS Ua.out]);clear hK;go_wp2;go_roundw
      case rel=>exact⟨k+1,by omega,by go_num,HX.out,HK.out⟩
      case measure=>simp[intOf];omega
     | false =>
      have HF:=lH (show ∀W,Kept wr W→W.cell? ⟨w.heap.size,0,none⟩=some (.slice a len cap)∧W.cell? ⟨w.heap.size,1,none⟩=some (.slice (some ⟨b9,off,none⟩) m cp)∧W.cell? ⟨b9,off+k*11,none⟩=some (.string pd.name)∧W.cell? ⟨b9,off+k*11+1,none⟩=some (.string pd.owner)∧W.cell? ⟨b9,off+k*11+2,none⟩=some (.int .i64 pd.prio)∧W.cell? ⟨b9,off+k*11+3,none⟩=some (.slice x1 y1 z1)∧W.cell? ⟨b9,off+k*11+4,none⟩=some (.slice x2 y2 z2)∧W.cell? ⟨b9,off+k*11+5,none⟩=some (.slice x3 y3 z3)∧W.cell? ⟨b9,off+k*11+6,none⟩=some (.slice x4 y4 z4)∧W.cell? ⟨b9,off+k*11+7,none⟩=some (.string pd.key)∧W.cell? ⟨b9,off+k*11+8,none⟩=some (.int .i64 pd.most)∧W.cell? ⟨b9,off+k*11+9,none⟩=some (.string pd.node)∧W.cell? ⟨b9,off+k*11+10,none⟩=some (.bool pd.hold) from fun W kk=>⟨cell_later kk cq0,cell_later kk cq1,cell_later kk p0,cell_later kk p1,cell_later kk p2,cell_later kk p3,cell_later kk p4,cell_later kk p5,cell_later kk p6,cell_later kk p7,cell_later kk p8,cell_later kk p9,cell_later kk p10⟩);obtain⟨o,ho⟩:=eX (jl nl pd.node)
      have RT:=lH ho;have Ul:=lH (fun W (kk:Kept wr W)=>jj8 (x:=pd.node) (V2.out.kept (HK.out.trans kk)));rw[ho] at Ul;clear hK ho;go_upto_region 14 with fail
      go_cut [5,6] from 42 to 54 (fun s5 s6 wx=>s6=.bool o.isSome∧Kept wr wx)
      case first =>
       refine wp_region_held_drew (S:=fun W=>W.cell? ⟨w.heap.size,0,none⟩=some (.slice a len cap)∧W.cell? ⟨w.heap.size,1,none⟩=some (.slice (some ⟨b9,off,none⟩) m cp)∧W.cell? ⟨b9,off+k*11,none⟩=some (.string pd.name)∧W.cell? ⟨b9,off+k*11+1,none⟩=some (.string pd.owner)∧W.cell? ⟨b9,off+k*11+2,none⟩=some (.int .i64 pd.prio)∧W.cell? ⟨b9,off+k*11+3,none⟩=some (.slice x1 y1 z1)∧W.cell? ⟨b9,off+k*11+4,none⟩=some (.slice x2 y2 z2)∧W.cell? ⟨b9,off+k*11+5,none⟩=some (.slice x3 y3 z3)∧W.cell? ⟨b9,off+k*11+6,none⟩=some (.slice x4 y4 z4)∧W.cell? ⟨b9,off+k*11+7,none⟩=some (.string pd.key)∧W.cell? ⟨b9,off+k*11+8,none⟩=some (.int .i64 pd.most)∧W.cell? ⟨b9,off+k*11+9,none⟩=some (.string pd.node)∧W.cell? ⟨b9,off+k*11+10,none⟩=some (.bool pd.hold)) (by kernel_rfl) (HF.out _ (Kept.drew _)) (fun hHeld=>?_);refine tkI 0 ?_;refine tkI 1 ?_;refine tkI 2 ?_;refine tkI 3 ?_;refine tkI 4 ?_;refine tkI 5 ?_;refine tkI 6 ?_;refine tkI 7 ?_;try simp only[nP]
       have J0:=lH (Kept.drew wr);refine rdH (rs:=[8,12]) (h:=coH (fun K9 Ky=>?_) (coH (fun K9 Ky=>?_) AllReadyH.nil))
       · go_simp;refine(Ul.out _ J0.out).mono ?_;rintro e w5 ⟨v9,rfl,hr,kk⟩;have J0:=lH (J0.out.trans kk);obtain⟨nn,hnn⟩:=eX (o.getD Nod.zero)
         rw[hnn] at hr;obtain⟨y1,y2,y3,rfl,hat⟩:=hr;have g1:=hat.cap;have g2:=hat.labels;have g3:=hat.taints;obtain⟨b1,d1,rfl,-,-,-⟩:=g1;obtain⟨b2,d2,rfl,-,-,-⟩:=g2;obtain⟨b3,d3,rfl,-,-,-⟩:=g3;unfold zi;obtain⟨n1,hn1⟩:=eX (nn.cap.length)
         obtain⟨n2,hn2⟩:=eX (nn.labels.length)
         obtain⟨n3,hn3⟩:=eX (nn.taints.length)
         rw[hn1,hn2,hn3];clear hat kk hn1 hn2 hn3 hnn;refine Ky.out _ _ (HF.out _ J0.out) (fun _=>?_);clear Ky K9;try simp only[nP]
         refine tkI 9 ?_;refine tkI 10 ?_;refine tkI 11 ?_;try simp only[nP]
         refine rd1 12 fun K9 Ky=>?_;go_simp;obtain⟨Vb,Vt,J0⟩:=lH3 (jc w5 (.string ⟨#[]⟩) [.slice none 0 0,.slice none 0 0,.slice none 0 0,.bool false] 122 _ (Kept.refl _)) J0.out.size (J0.out.trans (ja w5 (.cells #[.string ⟨#[]⟩,.slice none 0 0,.slice none 0 0,.slice none 0 0,.bool false] 122)));refine Ky.out _ _ (HF.out _ J0.out) (fun _=>?_);clear Ky K9;try simp only[nP]
         obtain⟨wa,hwa⟩:=eX (w5.alloc (.cells #[.string ⟨#[]⟩,.slice none 0 0,.slice none 0 0,.slice none 0 0,.bool false] 122))
         rw[hwa] at J0 Vb ⊢;obtain⟨qa,hqa⟩:=eX (w5.heap.size)
         rw[hqa] at Vt;rw[hqa] at Vb ⊢;clear hwa hqa;obtain⟨z0,z1,z2,z3,z4⟩:=Vb.out.at5;have f0:=Vb.out.free 0;have f1:=Vb.out.free 1;have f2:=Vb.out.free 2;have f3:=Vb.out.free 3;have f4:=Vb.out.free 4;refine rd1 13 fun K9 Ky=>?_;go_simp;obtain⟨WE,hWE⟩:=eX (wa.setCells qa 0 [.string nn.name,.slice b1 n1 d1,.slice b2 n2 d2,.slice b3 n3 d3,.bool nn.cordon])
         have hWE2:(((((wa.setCell ⟨qa,0,none⟩ (.string nn.name)).setCell ⟨qa,1,none⟩ (.slice b1 n1 d1)).setCell ⟨qa,2,none⟩ (.slice b2 n2 d2)).setCell ⟨qa,3,none⟩ (.slice b3 n3 d3)).setCell ⟨qa,4,none⟩ (.bool nn.cordon))=WE:=hWE;try rw[hWE2]
         have JE:=lH (show Kept wr WE by rw[←hWE];exact jt qa _ _ _ _ _ Vt.out J0.out);clear hWE hWE2 z0 f0 z1 f1 z2 f2 z3 f3 z4 f4;refine Ky.out _ _ (HF.out _ JE.out) (fun _=>?_);clear Ky K9;try simp only[nP]
         refine tkI 14 ?_;try simp only[nP]
         refine wpAnyH_done (by kernel_rfl) ?_ _;go_wp2;go_meet
         case rel=>exact⟨rfl,JE.out⟩
       · go_simp;have Vb:=lH (jc wr (.string ⟨#[]⟩) [.slice none 0 0,.slice none 0 0,.slice none 0 0,.bool false] 122 _ (Kept.drew (wr.alloc (.cells #[.string ⟨#[]⟩,.slice none 0 0,.slice none 0 0,.slice none 0 0,.bool false] 122))));have J0:=lH ((ja wr (.cells #[.string ⟨#[]⟩,.slice none 0 0,.slice none 0 0,.slice none 0 0,.bool false] 122)).trans (Kept.drew _));skip;refine Ky.out _ _ (HF.out _ J0.out) (fun _=>?_);clear Ky K9;try simp only[nP]
         obtain⟨wa,hwa⟩:=eX ((wr.alloc (.cells #[.string ⟨#[]⟩,.slice none 0 0,.slice none 0 0,.slice none 0 0,.bool false] 122)).drew)
         rw[hwa] at J0 Vb ⊢;obtain⟨qa,hqa⟩:=eX (wr.heap.size)
         have Vt:=lH (Nat.le_of_eq hqa);rw[hqa] at Vb ⊢;clear hwa hqa;refine rd1 8 fun K9 Ky=>?_;go_simp;refine(Ul.out _ J0.out).mono ?_;rintro e w5 ⟨v9,rfl,hr,kk⟩;have J0:=lH (J0.out.trans kk);obtain⟨nn,hnn⟩:=eX (o.getD Nod.zero)
         rw[hnn] at hr;obtain⟨y1,y2,y3,rfl,hat⟩:=hr;have g1:=hat.cap;have g2:=hat.labels;have g3:=hat.taints;obtain⟨b1,d1,rfl,-,-,-⟩:=g1;obtain⟨b2,d2,rfl,-,-,-⟩:=g2;obtain⟨b3,d3,rfl,-,-,-⟩:=g3;unfold zi;obtain⟨n1,hn1⟩:=eX (nn.cap.length)
         obtain⟨n2,hn2⟩:=eX (nn.labels.length)
         obtain⟨n3,hn3⟩:=eX (nn.taints.length)
         rw[hn1,hn2,hn3];have Vb:=lH (Vb.out.kept kk);clear hat kk hn1 hn2 hn3 hnn;refine Ky.out _ _ (HF.out _ J0.out) (fun _=>?_);clear Ky K9;try simp only[nP]
         refine tkI 9 ?_;refine tkI 10 ?_;refine tkI 11 ?_;try simp only[nP]
         obtain⟨z0,z1,z2,z3,z4⟩:=Vb.out.at5;have f0:=Vb.out.free 0;have f1:=Vb.out.free 1;have f2:=Vb.out.free 2;have f3:=Vb.out.free 3;have f4:=Vb.out.free 4;refine rd1 13 fun K9 Ky=>?_;go_simp;obtain⟨WE,hWE⟩:=eX (w5.setCells qa 0 [.string nn.name,.slice b1 n1 d1,.slice b2 n2 d2,.slice b3 n3 d3,.bool nn.cordon])
         have hWE2:(((((w5.setCell ⟨qa,0,none⟩ (.string nn.name)).setCell ⟨qa,1,none⟩ (.slice b1 n1 d1)).setCell ⟨qa,2,none⟩ (.slice b2 n2 d2)).setCell ⟨qa,3,none⟩ (.slice b3 n3 d3)).setCell ⟨qa,4,none⟩ (.bool nn.cordon))=WE:=hWE;try rw[hWE2]
         have JE:=lH (show Kept wr WE by rw[←hWE];exact jt qa _ _ _ _ _ Vt.out J0.out);clear hWE hWE2 z0 f0 z1 f1 z2 f2 z3 f3 z4 f4;refine Ky.out _ _ (HF.out _ JE.out) (fun _=>?_);clear Ky K9;try simp only[nP]
         refine tkI 14 ?_;try simp only[nP]
         refine wpAnyH_done (by kernel_rfl) ?_ _;go_wp2;go_meet
         case rel=>exact⟨rfl,JE.out⟩
      case rest =>
       obtain⟨rfl,hkx⟩:=hcut;have KX:=lH (HK.out.trans hkx);clear hkx cq0 cq1 cq2 p0 p1 p2 p3 p4 p5 p6 p7 p8 p9 p10
       cases o with
       | none =>
        have HX:=lH (jbm Ue.out (show jA nl pl=3 by rw[←HS.out,HD.out,qL Ua.out (by rw[RT.out];rfl)]) (by decide));go_wp2;go_ret;exact⟨jb HX.out.symm,Vc.out.trans KX.out⟩
       | some nod =>
        have HX:=lH (show jA nl (pl.drop (k+1))=jA nl pl by rw[←HS.out,HD.out,jbZ (by rw[RT.out];rfl)]);go_wp2;go_roundw
        case rel=>exact⟨k+1,by omega,by go_num,HX.out,KX.out⟩
        case measure=>simp[intOf];omega
  · have V1:=lH (show jA nl pl=0 by rw[←hrest,List.drop_of_length_le (by rw[Tq.out];omega)];rfl);have hkk:¬(k:Int)<(m:Int):=by omega
    clear hrest hK;go_wp2;clear cq0 cq1 cq2;go_loopw [7] (fun i wr=>∃k:Nat,k≤len∧i=.int .i64 k∧jM pl (nl.drop k)=jM pl nl∧Kept Z wr) (fun i _=>len-(intOf i).toNat)
    case atStart=>exact⟨0,Nat.zero_le _,rfl,rfl,HK.out⟩
    case round =>
     obtain⟨k,hk,rfl,hrest,hK⟩:=hrel;have HS:=lH hrest;have HK:=lH hK;have cq0:=(HQ.out.kept hK).at_ 0 _ rfl;have cq1:=(HQ.out.kept hK).at_ 1 _ rfl;have cq2:=(HQ.out.kept hK).at_ 2 _ rfl;by_cases hlt:k<len
     · obtain⟨b9,off,rfl⟩:=HN.out.form.resolve_left (by omega);obtain⟨n9,x1,y1,z1,x2,y2,z2,x3,y3,z3,hn,hd,hb,p0,p1,p2,p3,p4,hat⟩:=(HN.out.kept hK).at_ hlt;have HD:=lH hd;have hkk:(k:Int)<(len:Int):=by omega
       have hk0:¬(k:Int)<0:=by omega
       obtain⟨c,uu,hcu⟩:∃c uu,jJ n9.name pl []=(c,uu):=⟨_,_,rfl⟩
       have Rl:=lH hcu;have hus:JU ⟨nl,pl,bl⟩ n9.name=(c,uu):=(jlU (s:=⟨nl,pl,bl⟩) (List.mem_of_getElem? hn)).trans hcu;have RU:=lH (fun W (kk:Kept wr W)=>jly (Tr.out.kept (HK.out.trans kk)) n9.name);rw[hus] at RU;have Rm:=lH hat.cap;have HF:=lH (show ∀W,Kept wr W→W.cell? ⟨w.heap.size,0,none⟩=some (.slice (some ⟨b9,off,none⟩) len cap)∧W.cell? ⟨w.heap.size,1,none⟩=some (.slice b m cp)∧W.cell? ⟨w.heap.size,2,none⟩=some (.slice d n cb)∧W.cell? ⟨b9,off+k*5,none⟩=some (.string n9.name)∧W.cell? ⟨b9,off+k*5+1,none⟩=some (.slice x1 y1 z1)∧W.cell? ⟨b9,off+k*5+2,none⟩=some (.slice x2 y2 z2)∧W.cell? ⟨b9,off+k*5+3,none⟩=some (.slice x3 y3 z3)∧W.cell? ⟨b9,off+k*5+4,none⟩=some (.bool n9.cordon) from fun W kk=>⟨cell_later kk cq0,cell_later kk cq1,cell_later kk cq2,cell_later kk p0,cell_later kk p1,cell_later kk p2,cell_later kk p3,cell_later kk p4⟩);clear hrest hK hat hn hd hcu hus;go_upto_region 20 with fail
       refine wp_region_held_drew (S:=fun W=>W.cell? ⟨w.heap.size,0,none⟩=some (.slice (some ⟨b9,off,none⟩) len cap)∧W.cell? ⟨w.heap.size,1,none⟩=some (.slice b m cp)∧W.cell? ⟨w.heap.size,2,none⟩=some (.slice d n cb)∧W.cell? ⟨b9,off+k*5,none⟩=some (.string n9.name)∧W.cell? ⟨b9,off+k*5+1,none⟩=some (.slice x1 y1 z1)∧W.cell? ⟨b9,off+k*5+2,none⟩=some (.slice x2 y2 z2)∧W.cell? ⟨b9,off+k*5+3,none⟩=some (.slice x3 y3 z3)∧W.cell? ⟨b9,off+k*5+4,none⟩=some (.bool n9.cordon)) (by kernel_rfl) (HF.out _ (Kept.drew _)) (fun hHeld=>?_);refine tkI 0 ?_;refine tkI 1 ?_;refine tkI 2 ?_;refine tkI 3 ?_;refine tkI 4 ?_;refine tkI 5 ?_;refine tkI 6 ?_;try simp only[nP]
       refine rd1 7 fun K9 Ky=>?_;go_simp;refine(RU.out _ (Kept.drew _)).mono ?_;rintro e w6 ⟨y9,rfl,hy,kk⟩;have J:=lH ((Kept.drew wr).trans kk);have HY:=lH hy;clear hy kk;refine Ky.out _ _ (HF.out _ J.out) (fun _=>?_);clear Ky K9;try simp only[nP]
       refine tkI 8 ?_;refine tkI 9 ?_;refine tkI 10 ?_;refine tkI 11 ?_;refine tkI 12 ?_;try simp only[nP]
       refine wpAnyH_done (by kernel_rfl) ?_ _;clear cq0 cq1 cq2 p0 p1 p2 p3 p4;obtain⟨cq0,cq1,cq2,p0,p1,p2,p3,p4⟩:=HF.out _ J.out;by_cases hc:¬c=0
       · have HX:=lH (XL (bl:=bl) Ue.out V1.out (show jM pl nl=c by rw[←HS.out,HD.out,jaX Rl.out hc]) hc);have hcn:(c != 0)=true:=by simpa using hc
         clear hc;go_wp2;go_ret;exact⟨jb HX.out.symm,Vc.out.trans (HK.out.trans J.out)⟩
       obtain rfl:c=0:=Decidable.of_not_not hc;clear hc;obtain⟨t,ht⟩:=eX (Vec.jB n9.cap uu)
       have HT:=lH ht;have UG:=lH (jnS HY.out (Rm.out.kept J.out) ht);clear ht;go_wp2_with fail
       refine UG.out.mono ?_;rintro e w7 ⟨rfl,kk⟩;have KW:=lH (HK.out.trans (J.out.trans kk));clear kk cq0 cq1 cq2 p0 p1 p2 p3 p4
       cases t with
       | false =>
        have HX:=lH (XL (bl:=bl) Ue.out V1.out (show jM pl nl=7 by rw[←HS.out,HD.out,jaw Rl.out HT.out]) (by decide));go_wp2;go_ret;exact⟨jb HX.out.symm,Vc.out.trans KW.out⟩
       | true =>
        have HX:=lH (show jM pl (nl.drop (k+1))=jM pl nl by rw[←HS.out,HD.out,XB Rl.out HT.out]);go_wp2;go_roundw
        case rel=>exact⟨k+1,by omega,by go_num,HX.out,KW.out⟩
        case measure=>simp[intOf];omega
     · have Rj:=lH (show jM pl nl=0 by rw[←hrest,List.drop_of_length_le (by rw[UF.out];omega)];rfl);have hkk:¬(k:Int)<(len:Int):=by omega
       clear hrest hK;have HX:=lH (jag (bl:=bl) Ue.out V1.out Rj.out);go_wp2_with fail
       refine(jjZ (Tr.out.kept HK.out)).mono ?_;rintro e w8 ⟨y9,rfl,hy,kk⟩;have KW:=lH (HK.out.trans kk);clear hy kk cq0 cq1 cq2;go_wp2;go_ret;exact⟨jb HX.out.symm,Vc.out.trans KW.out⟩
theorem Zr (n:Pd) (v1 v2 v3 v4:Value) (w:World) (h:ji w v1 v2 v3 v4 n) (hl:JM n) :
 Calls Tryz.prog 84 #[jy n v1 v2 v3 v4] w fun e w'=>∃v,e=.returned v∧Yc w.heap.size w' v n∧Kept w w':=by
 have HH:=lH h;have E1:=lH (show ∀W,Kept w W→Calls Tryz.prog 130 #[v1] W fun e w'=>∃a' m' c',e=.returned (.slice a' m' c')∧Vec.Reads w' (.slice a' m' c') n.need∧(∀b off sp,a'=some ⟨b,off,sp⟩→W.heap.size≤b)∧Kept W w' from fun W k=>by
  obtain⟨x,y,rfl,p,q,r⟩:=h.need;exact jap x _ y n.need W (r.kept k) p q hl.need)
 have E2:=lH (show ∀W,Kept w W→Calls Tryz.prog 131 #[v2] W fun e w'=>∃a' m' c',e=.returned (.slice a' m' c')∧Reads jz w' (.slice a' m' c') n.labels∧(∀b off sp,a'=some ⟨b,off,sp⟩→W.heap.size≤b)∧Kept W w' from fun W k=>by
  obtain⟨x,y,rfl,p,q,r⟩:=h.labels;exact jao x _ y n.labels W (r.kept k) p q hl.labels)
 have E3:=lH (show ∀W,Kept w W→Calls Tryz.prog 134 #[v3] W fun e w'=>∃a' m' c',e=.returned (.slice a' m' c')∧Reads jP w' (.slice a' m' c') n.sel∧(∀b off sp,a'=some ⟨b,off,sp⟩→W.heap.size≤b)∧Kept W w' from fun W k=>by
  obtain⟨x,y,rfl,p,q,r⟩:=h.sel;exact jde x _ y n.sel W (r.kept k) p q hl.sel)
 have E4:=lH (show ∀W,Kept w W→Calls Tryz.prog 135 #[v4] W fun e w'=>∃a' m' c',e=.returned (.slice a' m' c')∧Reads ju w' (.slice a' m' c') n.tols∧(∀b off sp,a'=some ⟨b,off,sp⟩→W.heap.size≤b)∧Kept W w' from fun W k=>by
  obtain⟨x,y,rfl,p,q,r⟩:=h.tols;exact jiv x _ y n.tols W (r.kept k) p q hl.tols)
 obtain⟨x0,hx0⟩:=eX (n.name)
 obtain⟨x1,hx1⟩:=eX (n.owner)
 obtain⟨x2,hx2⟩:=eX (n.prio)
 obtain⟨x3,hx3⟩:=eX (n.key)
 obtain⟨x4,hx4⟩:=eX (n.most)
 obtain⟨x5,hx5⟩:=eX (n.node)
 obtain⟨x6,hx6⟩:=eX (n.hold)
 unfold jy;rw[hx0,hx1,hx2,hx3,hx4,hx5,hx6];have UQ:=lH (And.intro hx0 (And.intro hx1 (And.intro hx2 (And.intro hx3 (And.intro hx4 (And.intro hx5 hx6))))));clear h hl hx0 hx1 hx2 hx3 hx4 hx5 hx6;obtain⟨Z,hZ⟩:=eX ((w.alloc (.cells #[.string x0,.string x1,.int .i64 x2,v1,v2,v3,v4,.string x3,.int .i64 x4,.string x5,.bool x6] 52)).alloc (.cells #[.string ⟨#[]⟩,.string ⟨#[]⟩,.int .i64 0,.slice none 0 0,.slice none 0 0,.slice none 0 0,.slice none 0 0,.string ⟨#[]⟩,.int .i64 0,.string ⟨#[]⟩,.bool false] 52))
 have hkz:Kept w Z:=by rw[←hZ];exact jn _ _ _
 have hzs:Z.heap.size=w.heap.size+2:=by rw[←hZ];simp
 have Q0:=lH (show jf w.heap.size [.string x0,.string x1,.int .i64 x2,v1,v2,v3,v4,.string x3,.int .i64 x4,.string x5,.bool x6] Z from jc w (.string x0) [.string x1,.int .i64 x2,v1,v2,v3,v4,.string x3,.int .i64 x4,.string x5,.bool x6] 52 Z (by rw[←hZ];exact ja _ _));have Q1:=lH (show jf (w.heap.size+1) [.string ⟨#[]⟩,.string ⟨#[]⟩,.int .i64 0,.slice none 0 0,.slice none 0 0,.slice none 0 0,.slice none 0 0,.string ⟨#[]⟩,.int .i64 0,.string ⟨#[]⟩,.bool false] Z by
  have:=jc (w.alloc (.cells #[.string x0,.string x1,.int .i64 x2,v1,v2,v3,v4,.string x3,.int .i64 x4,.string x5,.bool x6] 52)) (.string ⟨#[]⟩) [.string ⟨#[]⟩,.int .i64 0,.slice none 0 0,.slice none 0 0,.slice none 0 0,.slice none 0 0,.string ⟨#[]⟩,.int .i64 0,.string ⟨#[]⟩,.bool false] 52 Z (by rw[hZ];exact Kept.refl _);rw[World.size_alloc] at this;exact this)
 have K:=lH hkz;have HZ:=lH (show w.heap.size+2≤Z.heap.size by omega);clear hkz hzs;go_enter Tryz.func84,Tryz.ntmps84;have y:=Q0.out.at_ 3 _ rfl;go_wp2_with fail
 try rw[hZ]
 clear hZ;clear y;refine(E1.out _ K.out).mono ?_;rintro e w1 ⟨b1,n1,d1,rfl,rr,gg,k⟩;obtain⟨G1,R1,K,HZ,Q0,Q1⟩:=lH6 (show j4 (w.heap.size+2) b1 from fun b o s e=>Nat.le_trans HZ.out (gg b o s e)) rr (K.out.trans k) (Nat.le_trans HZ.out k.size) (Q0.out.kept k) (Q1.out.kept k);clear rr gg k;have y:=Q0.out.at_ 3 _ rfl;have x:=Q0.out.free 3;obtain⟨Q0,Q1,R1,K,HZ⟩:=lH5 (show jf w.heap.size [.string x0,.string x1,.int .i64 x2,.slice b1 n1 d1,v2,v3,v4,.string x3,.int .i64 x4,.string x5,.bool x6] (w1.setCell ⟨w.heap.size,3,none⟩ (.slice b1 n1 d1)) from Q0.out.set (j:=3) (by simp)) (Q1.out.other (p:=w.heap.size) (j:=3) (u:=.slice b1 n1 d1) (by omega)) (Zm (p:=w.heap.size) (j:=3) (u:=.slice b1 n1 d1) R1.out G1.out (by omega)) (show Kept w (w1.setCell ⟨w.heap.size,3,none⟩ (.slice b1 n1 d1)) from K.out.setCell (p:=⟨w.heap.size,3,none⟩) (Nat.le_refl _) _) (show w.heap.size+2≤(w1.setCell ⟨w.heap.size,3,none⟩ (.slice b1 n1 d1)).heap.size by simpa [World.setCell] using HZ.out);have y9:=Q0.out.at_ 4 _ rfl;go_wp2_with fail
 clear y x y9;obtain⟨W1,hW1⟩:=eX (w1.setCell ⟨w.heap.size,3,none⟩ (.slice b1 n1 d1))
 rw[hW1] at Q0 Q1 R1 K HZ ⊢;clear hW1;refine(E2.out _ K.out).mono ?_;rintro e w2 ⟨b2,n2,d2,rfl,rr,gg,k⟩;obtain⟨G2,R2,K,HZ,Q0,Q1,R1⟩:=lH7 (show j4 (w.heap.size+2) b2 from fun b o s e=>Nat.le_trans HZ.out (gg b o s e)) rr (K.out.trans k) (Nat.le_trans HZ.out k.size) (Q0.out.kept k) (Q1.out.kept k) (R1.out.kept k);clear rr gg k;have y:=Q0.out.at_ 4 _ rfl;have x:=Q0.out.free 4;obtain⟨Q0,Q1,R1,R2,K,HZ⟩:=lH6 (show jf w.heap.size [.string x0,.string x1,.int .i64 x2,.slice b1 n1 d1,.slice b2 n2 d2,v3,v4,.string x3,.int .i64 x4,.string x5,.bool x6] (w2.setCell ⟨w.heap.size,4,none⟩ (.slice b2 n2 d2)) from Q0.out.set (j:=4) (by simp)) (Q1.out.other (p:=w.heap.size) (j:=4) (u:=.slice b2 n2 d2) (by omega)) (Zm (p:=w.heap.size) (j:=4) (u:=.slice b2 n2 d2) R1.out G1.out (by omega)) (JS (p:=w.heap.size) (j:=4) (u:=.slice b2 n2 d2) R2.out G2.out (by omega)) (show Kept w (w2.setCell ⟨w.heap.size,4,none⟩ (.slice b2 n2 d2)) from K.out.setCell (p:=⟨w.heap.size,4,none⟩) (Nat.le_refl _) _) (show w.heap.size+2≤(w2.setCell ⟨w.heap.size,4,none⟩ (.slice b2 n2 d2)).heap.size by simpa [World.setCell] using HZ.out);have y9:=Q0.out.at_ 5 _ rfl;go_wp2_with fail
 clear y x y9;obtain⟨W2,hW2⟩:=eX (w2.setCell ⟨w.heap.size,4,none⟩ (.slice b2 n2 d2))
 rw[hW2] at Q0 Q1 R1 R2 K HZ ⊢;clear hW2;refine(E3.out _ K.out).mono ?_;rintro e w3 ⟨b3,n3,d3,rfl,rr,gg,k⟩;obtain⟨G3,R3,K,HZ,Q0,Q1,R1,R2⟩:=lH8 (show j4 (w.heap.size+2) b3 from fun b o s e=>Nat.le_trans HZ.out (gg b o s e)) rr (K.out.trans k) (Nat.le_trans HZ.out k.size) (Q0.out.kept k) (Q1.out.kept k) (R1.out.kept k) (R2.out.kept k);clear rr gg k;have y:=Q0.out.at_ 5 _ rfl;have x:=Q0.out.free 5;obtain⟨Q0,Q1,R1,R2,R3,K,HZ⟩:=lH7 (show jf w.heap.size [.string x0,.string x1,.int .i64 x2,.slice b1 n1 d1,.slice b2 n2 d2,.slice b3 n3 d3,v4,.string x3,.int .i64 x4,.string x5,.bool x6] (w3.setCell ⟨w.heap.size,5,none⟩ (.slice b3 n3 d3)) from Q0.out.set (j:=5) (by simp)) (Q1.out.other (p:=w.heap.size) (j:=5) (u:=.slice b3 n3 d3) (by omega)) (Zm (p:=w.heap.size) (j:=5) (u:=.slice b3 n3 d3) R1.out G1.out (by omega)) (JS (p:=w.heap.size) (j:=5) (u:=.slice b3 n3 d3) R2.out G2.out (by omega)) (JS (p:=w.heap.size) (j:=5) (u:=.slice b3 n3 d3) R3.out G3.out (by omega)) (show Kept w (w3.setCell ⟨w.heap.size,5,none⟩ (.slice b3 n3 d3)) from K.out.setCell (p:=⟨w.heap.size,5,none⟩) (Nat.le_refl _) _) (show w.heap.size+2≤(w3.setCell ⟨w.heap.size,5,none⟩ (.slice b3 n3 d3)).heap.size by simpa [World.setCell] using HZ.out);have y9:=Q0.out.at_ 6 _ rfl;go_wp2_with fail
 clear y x y9;obtain⟨W3,hW3⟩:=eX (w3.setCell ⟨w.heap.size,5,none⟩ (.slice b3 n3 d3))
 rw[hW3] at Q0 Q1 R1 R2 R3 K HZ ⊢;clear hW3;refine(E4.out _ K.out).mono ?_;rintro e w4 ⟨b4,n4,d4,rfl,rr,gg,k⟩;obtain⟨G4,R4,K,HZ,Q0,Q1,R1,R2⟩:=lH8 (show j4 (w.heap.size+2) b4 from fun b o s e=>Nat.le_trans HZ.out (gg b o s e)) rr (K.out.trans k) (Nat.le_trans HZ.out k.size) (Q0.out.kept k) (Q1.out.kept k) (R1.out.kept k) (R2.out.kept k);have R3:=lH (R3.out.kept k);clear rr gg k;have y:=Q0.out.at_ 6 _ rfl;have x:=Q0.out.free 6;obtain⟨Q0,Q1,R1,R2,R3,R4,K,HZ⟩:=lH8 (show jf w.heap.size [.string x0,.string x1,.int .i64 x2,.slice b1 n1 d1,.slice b2 n2 d2,.slice b3 n3 d3,.slice b4 n4 d4,.string x3,.int .i64 x4,.string x5,.bool x6] (w4.setCell ⟨w.heap.size,6,none⟩ (.slice b4 n4 d4)) from Q0.out.set (j:=6) (by simp)) (Q1.out.other (p:=w.heap.size) (j:=6) (u:=.slice b4 n4 d4) (by omega)) (Zm (p:=w.heap.size) (j:=6) (u:=.slice b4 n4 d4) R1.out G1.out (by omega)) (JS (p:=w.heap.size) (j:=6) (u:=.slice b4 n4 d4) R2.out G2.out (by omega)) (JS (p:=w.heap.size) (j:=6) (u:=.slice b4 n4 d4) R3.out G3.out (by omega)) (JS (p:=w.heap.size) (j:=6) (u:=.slice b4 n4 d4) R4.out G4.out (by omega)) (show Kept w (w4.setCell ⟨w.heap.size,6,none⟩ (.slice b4 n4 d4)) from K.out.setCell (p:=⟨w.heap.size,6,none⟩) (Nat.le_refl _) _) (show w.heap.size+2≤(w4.setCell ⟨w.heap.size,6,none⟩ (.slice b4 n4 d4)).heap.size by simpa [World.setCell] using HZ.out);obtain⟨y0,y1,y2,y3,y4,y5,y6,y7,y8,y9,y10⟩:=Q0.out.at11;obtain⟨z0,z1,z2,z3,z4,z5,z6,z7,z8,z9,z10⟩:=Q1.out.at11;have f0:=Q1.out.free 0;have f1:=Q1.out.free 1;have f2:=Q1.out.free 2;have f3:=Q1.out.free 3;have f4:=Q1.out.free 4;have f5:=Q1.out.free 5;have f6:=Q1.out.free 6;have f7:=Q1.out.free 7;have f8:=Q1.out.free 8;have f9:=Q1.out.free 9;have f10:=Q1.out.free 10;have P:=lH (j5 (vs:=[.string x0,.string x1,.int .i64 x2,.slice b1 n1 d1,.slice b2 n2 d2,.slice b3 n3 d3,.slice b4 n4 d4,.string x3,.int .i64 x4,.string x5,.bool x6]) Q1.out rfl);go_wp2;obtain⟨WE,hWE⟩:=eX ((w4.setCell ⟨w.heap.size,6,none⟩ (.slice b4 n4 d4)).setCells (w.heap.size+1) 0 [.string x0,.string x1,.int .i64 x2,.slice b1 n1 d1,.slice b2 n2 d2,.slice b3 n3 d3,.slice b4 n4 d4,.string x3,.int .i64 x4,.string x5,.bool x6])
 have hWE2:((((((((((((w4.setCell ⟨w.heap.size,6,none⟩ (.slice b4 n4 d4)).setCell ⟨w.heap.size+1,0,none⟩ (.string x0)).setCell ⟨w.heap.size+1,1,none⟩ (.string x1)).setCell ⟨w.heap.size+1,2,none⟩ (.int .i64 x2)).setCell ⟨w.heap.size+1,3,none⟩ (.slice b1 n1 d1)).setCell ⟨w.heap.size+1,4,none⟩ (.slice b2 n2 d2)).setCell ⟨w.heap.size+1,5,none⟩ (.slice b3 n3 d3)).setCell ⟨w.heap.size+1,6,none⟩ (.slice b4 n4 d4)).setCell ⟨w.heap.size+1,7,none⟩ (.string x3)).setCell ⟨w.heap.size+1,8,none⟩ (.int .i64 x4)).setCell ⟨w.heap.size+1,9,none⟩ (.string x5)).setCell ⟨w.heap.size+1,10,none⟩ (.bool x6))=WE:=hWE;rw[hWE] at P;rw[hWE2];clear hWE hWE2;obtain⟨PC,hsz,hbl,hkp⟩:=P.out;refine bodyPost_ret (by simp[results,Tryz.results84,go_sem,PC.at_ 0 _ rfl,PC.at_ 1 _ rfl,PC.at_ 2 _ rfl,PC.at_ 3 _ rfl,PC.at_ 4 _ rfl,PC.at_ 5 _ rfl,PC.at_ 6 _ rfl,PC.at_ 7 _ rfl,PC.at_ 8 _ rfl,PC.at_ 9 _ rfl,PC.at_ 10 _ rfl];try rfl) rfl ?_;obtain⟨hx0,hx1,hx2,hx3,hx4,hx5,hx6⟩:=UQ.out;exact⟨_,rfl,⟨b1,n1,d1,b2,n2,d2,b3,n3,d3,b4,n4,d4,by unfold jy;rw[hx0,hx1,hx2,hx3,hx4,hx5,hx6],(show ji _ (.slice b1 n1 d1) (.slice b2 n2 d2) (.slice b3 n3 d3) (.slice b4 n4 d4) n from ji.far (B:=w.heap.size+2) ⟨HH.out.name,HH.out.owner,HH.out.key,HH.out.node,HH.out.prio,HH.out.most,R1.out,R2.out,R3.out,R4.out⟩ hsz (fun b hb=>hbl b (by omega)) G1.out G2.out G3.out G4.out),G1.out.less (by omega),G2.out.less (by omega),G3.out.less (by omega),G4.out.less (by omega)⟩,hkp _ _ (by omega) K.out⟩
theorem jeB (n:Nod) (a1 a2 a3:Option Addr) (m1 c1 m2 c2 m3 c3:Nat) (w:World) (h:zr w (.slice a1 m1 c1) (.slice a2 m2 c2) (.slice a3 m3 c3) n) (hl:zP n) :
 Calls Tryz.prog 82 #[.agg #[.string n.name,.slice a1 m1 c1,.slice a2 m2 c2,.slice a3 m3 c3,.bool n.cordon]] w fun e w'=>∃v,e=.returned v∧JO w.heap.size w' v n∧Kept w w':=by
 have hsz:=h.size;obtain⟨x1,y1,e1,p1,q1,r1⟩:=h.cap
 cases e1
 obtain⟨x2,y2,e2,p2,q2,r2⟩:=h.labels
 cases e2
 obtain⟨x3,y3,e3,p3,q3,r3⟩:=h.taints
 cases e3
 obtain⟨H1,H2,H3⟩:=lH3 (fun W (k:Kept w W)=>jap a1 n.cap.length c1 n.cap W (r1.kept k) p1 q1 hl.cap) (fun W (k:Kept w W)=>jao a2 n.labels.length c2 n.labels W (r2.kept k) p2 q2 hl.labels) (fun W (k:Kept w W)=>jc2 a3 n.taints.length c3 n.taints W (r3.kept k) p3 q3 hl.taints);obtain⟨k1,hk1⟩:=eX (n.cap.length)
 obtain⟨k2,hk2⟩:=eX (n.labels.length)
 obtain⟨k3,hk3⟩:=eX (n.taints.length)
 obtain⟨x,hx⟩:=eX (n.name)
 obtain⟨cd,hcd⟩:=eX (n.cordon)
 have hxs:x.size≤maxLen:=by rw[←hx];exact hsz
 rw[hk1] at H1;rw[hk2] at H2;rw[hk3] at H3;rw[hk1,hk2,hk3,hx,hcd];have HX:=lH hx;have Ra:=lH hcd;clear h hl p1 q1 r1 p2 q2 r2 p3 q3 r3 hk1 hk2 hk3 hx hcd hsz;obtain⟨Z,hZ⟩:=eX ((w.alloc (.cells #[.string x,.slice a1 k1 c1,.slice a2 k2 c2,.slice a3 k3 c3,.bool cd] 78)).alloc (.cells #[.string ⟨#[]⟩,.slice none 0 0,.slice none 0 0,.slice none 0 0,.bool false] 78))
 have hkz:Kept w Z:=by rw[←hZ];exact jn _ _ _
 have hzs:Z.heap.size=w.heap.size+2:=by rw[←hZ];simp
 have Q0:=lH (show zy w.heap.size (.string x) (.slice a1 k1 c1) (.slice a2 k2 c2) (.slice a3 k3 c3) (.bool cd) Z from Xk w _ _ _ _ _ 78 Z (by rw[←hZ];exact ja _ _));have Q1:=lH (show zy (w.heap.size+1) (.string ⟨#[]⟩) (.slice none 0 0) (.slice none 0 0) (.slice none 0 0) (.bool false) Z by
  have:=Xk (w.alloc (.cells #[.string x,.slice a1 k1 c1,.slice a2 k2 c2,.slice a3 k3 c3,.bool cd] 78)) (.string ⟨#[]⟩) (.slice none 0 0) (.slice none 0 0) (.slice none 0 0) (.bool false) 78 Z (by rw[hZ];exact Kept.refl _);rw[World.size_alloc] at this;exact this)
 have K:=lH hkz;have hs0:w.heap.size+2≤Z.heap.size:=by omega
 clear hkz hzs;obtain⟨⟨y0,y1,y2,y3,y4⟩,x0,x1,x2,x3,x4⟩:=Q0.out;go_enter Tryz.func82,Tryz.ntmps82;go_wp2_with fail
 try rw[hZ]
 clear hZ;clear y0 y1 y2 y3 y4 x0 x1 x2 x3 x4;refine(H1.out _ K.out).mono ?_;rintro e w1 ⟨b1,n1,d1,rfl,rr,gg,k⟩;obtain⟨Ut,RA,K⟩:=lH3 (show ∀b off sp,b1=some ⟨b,off,sp⟩→w.heap.size+2≤b from fun b o s e=>by have:=gg b o s e;omega) rr (K.out.trans k);have hs1:w.heap.size+2≤w1.heap.size:=by have:=k.size;omega
 have Q0:=lH (Q0.out.kept k);have Q1:=lH (Q1.out.kept k);clear rr gg k hs0;obtain⟨⟨y0,y1,y2,y3,y4⟩,x0,x1,x2,x3,x4⟩:=Q0.out;obtain⟨Q0,Q1,RA,K⟩:=lH4 (Q0.out.set1 (.slice b1 n1 d1)) (Q1.out.other (p:=w.heap.size) (j:=1) (u:=.slice b1 n1 d1) (by omega)) (Zm (p:=w.heap.size) (j:=1) (u:=.slice b1 n1 d1) RA.out Ut.out (by omega)) (show Kept w (w1.setCell ⟨w.heap.size,1,none⟩ (.slice b1 n1 d1)) from K.out.setCell (p:=⟨w.heap.size,1,none⟩) (Nat.le_refl _) _);have hs0:w.heap.size+2≤(w1.setCell ⟨w.heap.size,1,none⟩ (.slice b1 n1 d1)).heap.size:=by simpa [World.setCell] using hs1
 clear hs1;obtain⟨⟨z0,z1,z2,z3,z4⟩,-⟩:=Q0.out;go_wp2_with fail
 clear y0 y1 y2 y3 y4 x0 x1 x2 x3 x4 z0 z1 z2 z3 z4;obtain⟨W1,hW1⟩:=eX (w1.setCell ⟨w.heap.size,1,none⟩ (.slice b1 n1 d1))
 rw[hW1] at Q0 Q1 RA K hs0 ⊢;clear hW1;refine(H2.out _ K.out).mono ?_;rintro e w2 ⟨b2,n2,d2,rfl,rr,gg,k⟩;obtain⟨Vh,RB,K⟩:=lH3 (show ∀b off sp,b2=some ⟨b,off,sp⟩→w.heap.size+2≤b from fun b o s e=>by have:=gg b o s e;omega) rr (K.out.trans k);have hs1:w.heap.size+2≤w2.heap.size:=by have:=k.size;omega
 obtain⟨Q0,Q1,RA⟩:=lH3 (Q0.out.kept k) (Q1.out.kept k) (RA.out.kept k);clear rr gg k hs0;obtain⟨⟨y0,y1,y2,y3,y4⟩,x0,x1,x2,x3,x4⟩:=Q0.out;obtain⟨Q0,Q1,RA,RB,K⟩:=lH5 (Q0.out.set2 (.slice b2 n2 d2)) (Q1.out.other (p:=w.heap.size) (j:=2) (u:=.slice b2 n2 d2) (by omega)) (Zm (p:=w.heap.size) (j:=2) (u:=.slice b2 n2 d2) RA.out Ut.out (by omega)) (JS (p:=w.heap.size) (j:=2) (u:=.slice b2 n2 d2) RB.out Vh.out (by omega)) (show Kept w (w2.setCell ⟨w.heap.size,2,none⟩ (.slice b2 n2 d2)) from K.out.setCell (p:=⟨w.heap.size,2,none⟩) (Nat.le_refl _) _);have hs0:w.heap.size+2≤(w2.setCell ⟨w.heap.size,2,none⟩ (.slice b2 n2 d2)).heap.size:=by simpa [World.setCell] using hs1
 clear hs1;obtain⟨⟨z0,z1,z2,z3,z4⟩,-⟩:=Q0.out;go_wp2_with fail
 clear y0 y1 y2 y3 y4 x0 x1 x2 x3 x4 z0 z1 z2 z3 z4;obtain⟨W2,hW2⟩:=eX (w2.setCell ⟨w.heap.size,2,none⟩ (.slice b2 n2 d2))
 rw[hW2] at Q0 Q1 RA RB K hs0 ⊢;clear hW2;refine(H3.out _ K.out).mono ?_;rintro e w3 ⟨b3,n3,d3,rfl,rr,gg,k⟩;obtain⟨U6,RC,K⟩:=lH3 (show ∀b off sp,b3=some ⟨b,off,sp⟩→w.heap.size+2≤b from fun b o s e=>by have:=gg b o s e;omega) rr (K.out.trans k);have hs1:w.heap.size+2≤w3.heap.size:=by have:=k.size;omega
 obtain⟨Q0,Q1,RA,RB⟩:=lH4 (Q0.out.kept k) (Q1.out.kept k) (RA.out.kept k) (RB.out.kept k);clear rr gg k hs0;obtain⟨⟨y0,y1,y2,y3,y4⟩,x0,x1,x2,x3,x4⟩:=Q0.out;obtain⟨Q0,Q1,RA,RB,RC,K⟩:=lH6 (Q0.out.set3 (.slice b3 n3 d3)) (Q1.out.other (p:=w.heap.size) (j:=3) (u:=.slice b3 n3 d3) (by omega)) (Zm (p:=w.heap.size) (j:=3) (u:=.slice b3 n3 d3) RA.out Ut.out (by omega)) (JS (p:=w.heap.size) (j:=3) (u:=.slice b3 n3 d3) RB.out Vh.out (by omega)) (JS (p:=w.heap.size) (j:=3) (u:=.slice b3 n3 d3) RC.out U6.out (by omega)) (show Kept w (w3.setCell ⟨w.heap.size,3,none⟩ (.slice b3 n3 d3)) from K.out.setCell (p:=⟨w.heap.size,3,none⟩) (Nat.le_refl _) _);have hs0:w.heap.size+2≤(w3.setCell ⟨w.heap.size,3,none⟩ (.slice b3 n3 d3)).heap.size:=by simpa [World.setCell] using hs1
 clear hs1;obtain⟨⟨z0,z1,z2,z3,z4⟩,-⟩:=Q0.out;obtain⟨⟨g0,g1,g2,g3,g4⟩,f0,f1,f2,f3,f4⟩:=Q1.out;go_wp2;have P:=lH (ZF ⟨g0,g1,g2,g3,g4⟩ x b1 b2 b3 n1 d1 n2 d2 n3 d3 cd);clear y0 y1 y2 y3 y4 x0 x1 x2 x3 x4 z0 z1 z2 z3 z4 g0 g1 g2 g3 g4 f0 f1 f2 f3 f4;obtain⟨W3,hW3⟩:=eX (w3.setCell ⟨w.heap.size,3,none⟩ (.slice b3 n3 d3))
 rw[hW3] at RA RB RC K hs0 P ⊢;obtain⟨WE,hWE⟩:=eX ((((((W3.setCell ⟨w.heap.size+1,0,none⟩ (.string x)).setCell ⟨w.heap.size+1,1,none⟩ (.slice b1 n1 d1)).setCell ⟨w.heap.size+1,2,none⟩ (.slice b2 n2 d2)).setCell ⟨w.heap.size+1,3,none⟩ (.slice b3 n3 d3)).setCell ⟨w.heap.size+1,4,none⟩ (.bool cd)))
 rw[hWE] at P ⊢;clear hWE hW3;obtain⟨⟨e0,e1,e2,e3,e4⟩,hsz,hbl,hkp⟩:=P.out;refine bodyPost_ret (by simp[results,Tryz.results82,go_sem,e0,e1,e2,e3,e4];try rfl) rfl ?_;exact⟨_,rfl,⟨b1,n1,d1,b2,n2,d2,b3,n3,d3,by rw[HX.out,Ra.out],by rw[HX.out];exact hxs,RA.out.far hsz (fun b o s e=>hbl b (by have:=Ut.out b o s e;omega)),RB.out.far hsz (fun b o s e=>hbl b (by have:=Vh.out b o s e;omega)),RC.out.far hsz (fun b o s e=>hbl b (by have:=U6.out b o s e;omega)),fun b o s e=>Nat.le_trans (Nat.le_add_right _ 2) (Ut.out b o s e),fun b o s e=>Nat.le_trans (Nat.le_add_right _ 2) (Vh.out b o s e),fun b o s e=>Nat.le_trans (Nat.le_add_right _ 2) (U6.out b o s e)⟩,hkp _ _ (Nat.le_succ _) K.out⟩
theorem jcK (k:Bd) (a1:Option Addr) (m1 c1:Nat) (w:World) (h:zp w (.slice a1 m1 c1) k) (hl:k.sel.length≤1000000) :
 Calls Tryz.prog 86 #[JZ k (.slice a1 m1 c1)] w fun e w'=>∃v,e=.returned v∧Yb w.heap.size w' v k∧Kept w w':=by
 obtain⟨x,s,m⟩:=k;have HH:=lH h;have E1:=lH (show ∀W,Kept w W→Calls Tryz.prog 134 #[.slice a1 m1 c1] W fun e w'=>∃a' m' c',e=.returned (.slice a' m' c')∧Reads jP w' (.slice a' m' c') s∧(∀b off sp,a'=some ⟨b,off,sp⟩→W.heap.size≤b)∧Kept W w' from fun W k=>by
  obtain⟨p,y,e,q1,q2,r⟩:=h.sel
  cases e
  exact jde a1 _ c1 s W (r.kept k) q1 q2 hl)
 obtain⟨Z,hZ⟩:=eX ((w.alloc (.cells #[.string x,.slice a1 m1 c1,.int .i64 m] 108)).alloc (.cells #[.string ⟨#[]⟩,.slice none 0 0,.int .i64 0] 108))
 have hkz:Kept w Z:=by rw[←hZ];exact jn _ _ _
 have hzs:Z.heap.size=w.heap.size+2:=by rw[←hZ];simp
 have Q0:=lH (show jf w.heap.size [.string x,.slice a1 m1 c1,.int .i64 m] Z from jc w (.string x) [.slice a1 m1 c1,.int .i64 m] 108 Z (by rw[←hZ];exact ja _ _));have Q1:=lH (show jf (w.heap.size+1) [.string ⟨#[]⟩,.slice none 0 0,.int .i64 0] Z by
  have:=jc (w.alloc (.cells #[.string x,.slice a1 m1 c1,.int .i64 m] 108)) (.string ⟨#[]⟩) [.slice none 0 0,.int .i64 0] 108 Z (by rw[hZ];exact Kept.refl _);rw[World.size_alloc] at this;exact this)
 have K:=lH hkz;have HZ:=lH (show w.heap.size+2≤Z.heap.size by omega);clear hkz hzs h hl;unfold JZ;dsimp only;go_enter Tryz.func86,Tryz.ntmps86;have y:=Q0.out.at_ 1 _ rfl;go_wp2_with fail
 try rw[hZ]
 clear hZ;clear y;refine(E1.out _ K.out).mono ?_;rintro e w1 ⟨b1,n1,d1,rfl,rr,gg,k⟩;obtain⟨G1,R1,K,HZ,Q0,Q1⟩:=lH6 (show j4 (w.heap.size+2) b1 from fun b o s e=>Nat.le_trans HZ.out (gg b o s e)) rr (K.out.trans k) (Nat.le_trans HZ.out k.size) (Q0.out.kept k) (Q1.out.kept k);clear rr gg k;have y:=Q0.out.at_ 1 _ rfl;have xf:=Q0.out.free 1;obtain⟨Q0,Q1,R1,K⟩:=lH4 (show jf w.heap.size [.string x,.slice b1 n1 d1,.int .i64 m] (w1.setCell ⟨w.heap.size,1,none⟩ (.slice b1 n1 d1)) from Q0.out.set (j:=1) (by simp)) (Q1.out.other (p:=w.heap.size) (j:=1) (u:=.slice b1 n1 d1) (by omega)) (JS (p:=w.heap.size) (j:=1) (u:=.slice b1 n1 d1) R1.out G1.out (by omega)) (show Kept w (w1.setCell ⟨w.heap.size,1,none⟩ (.slice b1 n1 d1)) from K.out.setCell (p:=⟨w.heap.size,1,none⟩) (Nat.le_refl _) _);obtain⟨y0,y1,y2⟩:=Q0.out.at3;obtain⟨g0,g1,g2⟩:=Q1.out.at3;have f0:=Q1.out.free 0;have f1:=Q1.out.free 1;have f2:=Q1.out.free 2;have P:=lH (j5 (vs:=[.string x,.slice b1 n1 d1,.int .i64 m]) Q1.out rfl);go_wp2;obtain⟨WE,hWE⟩:=eX ((w1.setCell ⟨w.heap.size,1,none⟩ (.slice b1 n1 d1)).setCells (w.heap.size+1) 0 [.string x,.slice b1 n1 d1,.int .i64 m])
 have hWE2:((((w1.setCell ⟨w.heap.size,1,none⟩ (.slice b1 n1 d1)).setCell ⟨(w.heap.size+1),0,none⟩ (.string x)).setCell ⟨(w.heap.size+1),1,none⟩ (.slice b1 n1 d1)).setCell ⟨(w.heap.size+1),2,none⟩ (.int .i64 m))=WE:=hWE;rw[hWE] at P;try rw[hWE2]
 clear hWE hWE2;obtain⟨PC,hsz,hbl,hkp⟩:=P.out;refine bodyPost_ret (by simp[results,Tryz.results86,go_sem,PC.at_ 0 _ rfl,PC.at_ 1 _ rfl,PC.at_ 2 _ rfl];try rfl) rfl ?_;exact⟨_,rfl,⟨b1,n1,d1,rfl,⟨HH.out.name,HH.out.floor,R1.out.far hsz (fun b o s e=>hbl b (by have:=G1.out b o s e;omega))⟩,G1.out.less (by omega)⟩,hkp _ _ (by omega) K.out⟩
theorem jhX {w:World} {a:Option Addr} {len:Nat} {l:List Nod} (h:jo w a len l):∃lx:List NX,(lx.map fun z=>z.1)=l∧jk zH w a len lx∧∀z ∈ lx,At3 w z:=by
 obtain⟨h0,h1,h2⟩:=h;rcases h2 with h2 | ⟨b,off,rfl,hb,hc⟩
 · have:l=[]:=List.eq_nil_of_length_eq_zero (by omega);subst this;subst h2;exact⟨[],rfl,jk.nil w a,fun z hz=>absurd hz (by simp)⟩
 · have step:∀m,m≤l.length→∃lx:List NX,(lx.map fun z=>z.1)=l.take m∧(∀i x j u,lx[i]?=some x→(zH.cs x)[j]?=some u→w.cell? ⟨b,off+i*5+j,none⟩=some u)∧∀z ∈ lx,At3 w z:=by
    intro m
    induction m with
    | zero=>exact fun _=>⟨[],rfl,fun i x j u hi=>by simp at hi,fun z hz=>absurd hz (by simp)⟩
    | succ m ih =>
     intro hm;obtain⟨lx,e,hcell,hat⟩:=ih (by omega);obtain⟨n,hn⟩:∃n,l[m]?=some n:=⟨_,List.getElem?_eq_getElem (by omega)⟩
     obtain⟨a1,m1,c1,a2,m2,c2,a3,m3,c3,p0,p1,p2,p3,p4,hp⟩:=hc m n hn;have hlen:lx.length=m:=by
      have:=congrArg List.length e;rw[List.length_map,List.length_take] at this;omega
     refine⟨lx++[(n,(a1,m1,c1),(a2,m2,c2),(a3,m3,c3))],?_,?_,?_⟩
     · rw[List.map_append,e,zI hn];rfl
     · intro i x j u hi hj;by_cases him:i<m
       · rw[List.getElem?_append_left (by omega)] at hi;exact hcell i x j u hi hj
       · have hi2:=(List.getElem?_eq_some_iff.1 hi).1;rw[List.length_append,List.length_singleton] at hi2;obtain rfl:i=m:=by omega
         rw[List.getElem?_append_right (by omega),hlen,Nat.sub_self] at hi;obtain rfl:=Option.some.inj hi
         match j,hj with
         | 0,hj=>obtain rfl:=Option.some.inj hj;exact p0
         | 1,hj=>obtain rfl:=Option.some.inj hj;exact p1
         | 2,hj=>obtain rfl:=Option.some.inj hj;exact p2
         | 3,hj=>obtain rfl:=Option.some.inj hj;exact p3
         | 4,hj=>obtain rfl:=Option.some.inj hj;exact p4
         | j+5,hj=>simp[zH] at hj
     · intro z hz;rcases List.mem_append.1 hz with hz | hz
       · exact hat z hz
       · obtain rfl:z=_:=List.mem_singleton.1 hz;exact hp
   obtain⟨lx,e,hcell,hat⟩:=step l.length (Nat.le_refl _);rw[List.take_of_length_le (Nat.le_refl _)] at e;have hl:lx.length=len:=by rw[←h0,←e,List.length_map]
   exact⟨lx,e,⟨hl,h1,fun _ _=>trivial,.inr ⟨b,off,rfl,hb,hcell⟩⟩,hat⟩
theorem jhk {w:World} {a:Option Addr} {len:Nat} {l:List Bd} (h:j8 w a len l):∃lx:List BX,(lx.map fun z=>z.1)=l∧jk zv w a len lx∧∀z ∈ lx,At1 w z:=by
 obtain⟨h0,h1,h2⟩:=h;rcases h2 with h2 | ⟨b,off,rfl,hb,hc⟩
 · have:l=[]:=List.eq_nil_of_length_eq_zero (by omega);subst this;subst h2;exact⟨[],rfl,jk.nil w a,fun z hz=>absurd hz (by simp)⟩
 · have step:∀m,m≤l.length→∃lx:List BX,(lx.map fun z=>z.1)=l.take m∧(∀i x j u,lx[i]?=some x→(zv.cs x)[j]?=some u→w.cell? ⟨b,off+i*3+j,none⟩=some u)∧∀z ∈ lx,At1 w z:=by
    intro m
    induction m with
    | zero=>exact fun _=>⟨[],rfl,fun i x j u hi=>by simp at hi,fun z hz=>absurd hz (by simp)⟩
    | succ m ih =>
     intro hm;obtain⟨lx,e,hcell,hat⟩:=ih (by omega);obtain⟨n,hn⟩:∃n,l[m]?=some n:=⟨_,List.getElem?_eq_getElem (by omega)⟩
     obtain⟨w1,p0,p1,p2,hp⟩:=hc m n hn;obtain⟨a1,m1,c1,rfl⟩:=hp.spelt;have hlen:lx.length=m:=by
      have:=congrArg List.length e;rw[List.length_map,List.length_take] at this;omega
     refine⟨lx++[(n,(a1,m1,c1))],?_,?_,?_⟩
     · rw[List.map_append,e,zI hn];rfl
     · intro i x j u hi hj;by_cases him:i<m
       · rw[List.getElem?_append_left (by omega)] at hi;exact hcell i x j u hi hj
       · have hi2:=(List.getElem?_eq_some_iff.1 hi).1;rw[List.length_append,List.length_singleton] at hi2;obtain rfl:i=m:=by omega
         rw[List.getElem?_append_right (by omega),hlen,Nat.sub_self] at hi;obtain rfl:=Option.some.inj hi
         match j,hj with
         | 0,hj=>obtain rfl:=Option.some.inj hj;exact p0
         | 1,hj=>obtain rfl:=Option.some.inj hj;exact p1
         | 2,hj=>obtain rfl:=Option.some.inj hj;exact p2
         | j+3,hj=>simp[zv] at hj
     · intro z hz;rcases List.mem_append.1 hz with hz | hz
       · exact hat z hz
       · obtain rfl:z=_:=List.mem_singleton.1 hz;exact hp
   obtain⟨lx,e,hcell,hat⟩:=step l.length (Nat.le_refl _);rw[List.take_of_length_le (Nat.le_refl _)] at e;have hl:lx.length=len:=by rw[←h0,←e,List.length_map]
   exact⟨lx,e,⟨hl,h1,fun _ _=>trivial,.inr ⟨b,off,rfl,hb,hcell⟩⟩,hat⟩
theorem jhY {w:World} {a:Option Addr} {len:Nat} {l:List Pd} (h:jx w a len l):∃lx:List PX,(lx.map fun z=>z.1)=l∧jk PodLay0 w a len lx∧∀z ∈ lx,At4 w z:=by
 obtain⟨h0,h1,h2⟩:=h;rcases h2 with h2 | ⟨b,off,rfl,hb,hc⟩
 · have:l=[]:=List.eq_nil_of_length_eq_zero (by omega);subst this;subst h2;exact⟨[],rfl,jk.nil w a,fun z hz=>absurd hz (by simp)⟩
 · have step:∀m,m≤l.length→∃lx:List PX,(lx.map fun z=>z.1)=l.take m∧(∀i x j u,lx[i]?=some x→(PodLay0.cs x)[j]?=some u→w.cell? ⟨b,off+i*11+j,none⟩=some u)∧∀z ∈ lx,At4 w z:=by
    intro m
    induction m with
    | zero=>exact fun _=>⟨[],rfl,fun i x j u hi=>by simp at hi,fun z hz=>absurd hz (by simp)⟩
    | succ m ih =>
     intro hm;obtain⟨lx,e,hcell,hat⟩:=ih (by omega);obtain⟨n,hn⟩:∃n,l[m]?=some n:=⟨_,List.getElem?_eq_getElem (by omega)⟩
     obtain⟨v1,v2,v3,v4,p0,p1,p2,p3,p4,p5,p6,p7,p8,p9,p10,hp⟩:=hc m n hn;obtain⟨b1,n1,d1,b2,n2,d2,b3,n3,d3,b4,n4,d4,rfl,rfl,rfl,rfl⟩:=hp.spelt;have hlen:lx.length=m:=by
      have:=congrArg List.length e;rw[List.length_map,List.length_take] at this;omega
     refine⟨lx++[(n,(b1,n1,d1),(b2,n2,d2),(b3,n3,d3),(b4,n4,d4))],?_,?_,?_⟩
     · rw[List.map_append,e,zI hn];rfl
     · intro i x j u hi hj;by_cases him:i<m
       · rw[List.getElem?_append_left (by omega)] at hi;exact hcell i x j u hi hj
       · have hi2:=(List.getElem?_eq_some_iff.1 hi).1;rw[List.length_append,List.length_singleton] at hi2;obtain rfl:i=m:=by omega
         rw[List.getElem?_append_right (by omega),hlen,Nat.sub_self] at hi;obtain rfl:=Option.some.inj hi
         match j,hj with
         | 0,hj=>obtain rfl:=Option.some.inj hj;exact p0
         | 1,hj=>obtain rfl:=Option.some.inj hj;exact p1
         | 2,hj=>obtain rfl:=Option.some.inj hj;exact p2
         | 3,hj=>obtain rfl:=Option.some.inj hj;exact p3
         | 4,hj=>obtain rfl:=Option.some.inj hj;exact p4
         | 5,hj=>obtain rfl:=Option.some.inj hj;exact p5
         | 6,hj=>obtain rfl:=Option.some.inj hj;exact p6
         | 7,hj=>obtain rfl:=Option.some.inj hj;exact p7
         | 8,hj=>obtain rfl:=Option.some.inj hj;exact p8
         | 9,hj=>obtain rfl:=Option.some.inj hj;exact p9
         | 10,hj=>obtain rfl:=Option.some.inj hj;exact p10
         | j+11,hj=>simp[PodLay0] at hj
     · intro z hz;rcases List.mem_append.1 hz with hz | hz
       · exact hat z hz
       · obtain rfl:z=_:=List.mem_singleton.1 hz;exact ji.at4 hp
   obtain⟨lx,e,hcell,hat⟩:=step l.length (Nat.le_refl _);rw[List.take_of_length_le (Nat.le_refl _)] at e;have hl:lx.length=len:=by rw[←h0,←e,List.length_map]
   exact⟨lx,e,⟨hl,h1,fun _ _=>trivial,.inr ⟨b,off,rfl,hb,hcell⟩⟩,hat⟩
theorem jl3:Kind 22 78 5 96:=by
 obtain⟨i,hi,hz,h1,h2⟩:=info_parts (show (Tryz.prog.info? 78).map (fun i=>(i.zero,i.size,i.bytes))=some (some (.agg #[.string ByteArray.empty,.slice none 0 0,.slice none 0 0,.slice none 0 0,.bool false]),5,96) by kernel_rfl);exact⟨i,_,Tryz.underlying22,hi,hz,h1,h2,rfl,by decide⟩
theorem jeJ (a:Option Addr) (len cap:Nat) (lx:List NX) (w:World) (hr:jk zH w a len lx) (hc:len≤cap) (hm:cap≤maxLen) (hn:len≤100000) :
 Calls Tryz.prog 129 #[.slice a len cap] w fun e w'=>((e=.returned (.slice none 0 0)∧lx=[])∨∃g c,e=.returned (.slice (some ⟨g,0,none⟩) len c)∧Own zH 78 w' w.heap.size (.slice (some ⟨g,0,none⟩) len c) lx)∧Kept w w':=by
 have hl:=hr.1;have q22:∀(w:World) (a:Option Addr) (n c n' c':Nat),(binOp .eql 22 (.slice a n c) (.slice none n' c')).run Tryz.prog w=.ok (.bool a.isNone) w:=fun w a n c n' c'=>Lib.run_eql_slice_nil w _ _ a n c n' c' Tryz.underlying22
 cases a with
 | none =>
  have h0:len=0:=by
   rcases hr.form with h | ⟨b,off,h⟩
   · exact h
   · cases h
  subst h0;have hl0:lx=[]:=List.eq_nil_of_length_eq_zero hl;subst hl0;clear hr hl;go_enter Tryz.func129,Tryz.ntmps129;go_wp2;go_ret;exact⟨.inl ⟨rfl,by first | rfl | trivial⟩,Kept.refl _⟩
 | some ad =>
  have HR:=lH hr;have HL:=lH hl;have hrl:(je zH lx).length=len*5:=by rw[jZ,hl];rfl
  have hb1:0+len≤maxLen:=by unfold maxLen;omega
  have hb2:((0+len)+(0+len) / 4+192)*96≤281474976710656:=by omega
  clear hr hl;go_enter Tryz.func129,Tryz.ntmps129;go_wp2_with (at_builtin;refine Jb jl3 _ rfl (.tmp 5) (.tmp 6) rfl w.heap.size (by simp) w.heap.size 0 0 [] rfl (Zw w w.heap.size 5 _ (Nat.le_refl _)) _ len (je zH lx) rfl hrl (Ji _ _) (jk.src (HR.out.kept (ja _ _))) hb1 hb2 ?_;intro g1 k1 W1 ho hd hg;have HO:=lH ho;have HD:=lH hd;clear ho hd hg;refine Hid.out ?_)
  refine lH ?_;simp only[Nat.zero_add,List.nil_append] at HO ⊢;go_wp2;go_ret;exact⟨.inr ⟨g1,k1,rfl,by rw[HL.out];exact HO.out,fun x _=>trivial⟩,Below.trans (ja w _) HD.out⟩
theorem jmn:Kind 23 52 11 184:=by
 obtain⟨i,hi,hz,h1,h2⟩:=info_parts (show (Tryz.prog.info? 52).map (fun i=>(i.zero,i.size,i.bytes))=some (some (.agg #[.string ByteArray.empty,.string ByteArray.empty,.int .i64 0,.slice none 0 0,.slice none 0 0,.slice none 0 0,.slice none 0 0,.string ByteArray.empty,.int .i64 0,.string ByteArray.empty,.bool false]),11,184) by kernel_rfl);exact⟨i,_,Tryz.underlying23,hi,hz,h1,h2,rfl,by decide⟩
theorem jeL (a:Option Addr) (len cap:Nat) (lx:List PX) (w:World) (hr:jk PodLay0 w a len lx) (hc:len≤cap) (hm:cap≤maxLen) (hn:len≤100000) :
 Calls Tryz.prog 133 #[.slice a len cap] w fun e w'=>((e=.returned (.slice none 0 0)∧lx=[])∨∃g c,e=.returned (.slice (some ⟨g,0,none⟩) len c)∧Own PodLay0 52 w' w.heap.size (.slice (some ⟨g,0,none⟩) len c) lx)∧Kept w w':=by
 have hl:=hr.1;have q22:∀(w:World) (a:Option Addr) (n c n' c':Nat),(binOp .eql 23 (.slice a n c) (.slice none n' c')).run Tryz.prog w=.ok (.bool a.isNone) w:=fun w a n c n' c'=>Lib.run_eql_slice_nil w _ _ a n c n' c' Tryz.underlying23
 cases a with
 | none =>
  have h0:len=0:=by
   rcases hr.form with h | ⟨b,off,h⟩
   · exact h
   · cases h
  subst h0;have hl0:lx=[]:=List.eq_nil_of_length_eq_zero hl;subst hl0;clear hr hl;go_enter Tryz.func133,Tryz.ntmps133;go_wp2;go_ret;exact⟨.inl ⟨rfl,by first | rfl | trivial⟩,Kept.refl _⟩
 | some ad =>
  have HR:=lH hr;have HL:=lH hl;have hrl:(je PodLay0 lx).length=len*11:=by rw[jZ,hl];rfl
  have hb1:0+len≤maxLen:=by unfold maxLen;omega
  have hb2:((0+len)+(0+len) / 4+192)*184≤281474976710656:=by omega
  clear hr hl;go_enter Tryz.func133,Tryz.ntmps133;go_wp2_with (at_builtin;refine Jb jmn _ rfl (.tmp 5) (.tmp 6) rfl w.heap.size (by simp) w.heap.size 0 0 [] rfl (Zw w w.heap.size 11 _ (Nat.le_refl _)) _ len (je PodLay0 lx) rfl hrl (Ji _ _) (jk.src (HR.out.kept (ja _ _))) hb1 hb2 ?_;intro g1 k1 W1 ho hd hg;have HO:=lH ho;have HD:=lH hd;clear ho hd hg;refine Hid.out ?_)
  refine lH ?_;simp only[Nat.zero_add,List.nil_append] at HO ⊢;go_wp2;go_ret;exact⟨.inr ⟨g1,k1,rfl,by rw[HL.out];exact HO.out,fun x _=>trivial⟩,Below.trans (ja w _) HD.out⟩
theorem jlH:Kind 24 108 3 48:=by
 obtain⟨i,hi,hz,h1,h2⟩:=info_parts (show (Tryz.prog.info? 108).map (fun i=>(i.zero,i.size,i.bytes))=some (some (.agg #[.string ByteArray.empty,.slice none 0 0,.int .i64 0]),3,48) by kernel_rfl);exact⟨i,_,Tryz.underlying24,hi,hz,h1,h2,rfl,by decide⟩
theorem jez (a:Option Addr) (len cap:Nat) (lx:List BX) (w:World) (hr:jk zv w a len lx) (hc:len≤cap) (hm:cap≤maxLen) (hn:len≤100000) :
 Calls Tryz.prog 136 #[.slice a len cap] w fun e w'=>((e=.returned (.slice none 0 0)∧lx=[])∨∃g c,e=.returned (.slice (some ⟨g,0,none⟩) len c)∧Own zv 108 w' w.heap.size (.slice (some ⟨g,0,none⟩) len c) lx)∧Kept w w':=by
 have hl:=hr.1;have q22:∀(w:World) (a:Option Addr) (n c n' c':Nat),(binOp .eql 24 (.slice a n c) (.slice none n' c')).run Tryz.prog w=.ok (.bool a.isNone) w:=fun w a n c n' c'=>Lib.run_eql_slice_nil w _ _ a n c n' c' Tryz.underlying24
 cases a with
 | none =>
  have h0:len=0:=by
   rcases hr.form with h | ⟨b,off,h⟩
   · exact h
   · cases h
  subst h0;have hl0:lx=[]:=List.eq_nil_of_length_eq_zero hl;subst hl0;clear hr hl;go_enter Tryz.func136,Tryz.ntmps136;go_wp2;go_ret;exact⟨.inl ⟨rfl,by first | rfl | trivial⟩,Kept.refl _⟩
 | some ad =>
  have HR:=lH hr;have HL:=lH hl;have hrl:(je zv lx).length=len*3:=by rw[jZ,hl];rfl
  have hb1:0+len≤maxLen:=by unfold maxLen;omega
  have hb2:((0+len)+(0+len) / 4+192)*48≤281474976710656:=by omega
  clear hr hl;go_enter Tryz.func136,Tryz.ntmps136;go_wp2_with (at_builtin;refine Jb jlH _ rfl (.tmp 5) (.tmp 6) rfl w.heap.size (by simp) w.heap.size 0 0 [] rfl (Zw w w.heap.size 3 _ (Nat.le_refl _)) _ len (je zv lx) rfl hrl (Ji _ _) (jk.src (HR.out.kept (ja _ _))) hb1 hb2 ?_;intro g1 k1 W1 ho hd hg;have HO:=lH ho;have HD:=lH hd;clear ho hd hg;refine Hid.out ?_)
  refine lH ?_;simp only[Nat.zero_add,List.nil_append] at HO ⊢;go_wp2;go_ret;exact⟨.inr ⟨g1,k1,rfl,by rw[HL.out];exact HO.out,fun x _=>trivial⟩,Below.trans (ja w _) HD.out⟩
end Go.Proofs.YtibepooajeakfaaGreat
