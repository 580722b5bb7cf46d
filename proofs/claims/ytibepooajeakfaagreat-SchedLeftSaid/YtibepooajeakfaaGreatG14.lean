/- C. -/
import Derived.Test.YtibepooajeakfaaGreatG0
import Derived.Test.YtibepooajeakfaaGreatG1
import Derived.Test.YtibepooajeakfaaGreatG2
import Derived.Test.YtibepooajeakfaaGreatG3
import Derived.Test.YtibepooajeakfaaGreatG4
import Derived.Test.YtibepooajeakfaaGreatG6
import Derived.Test.YtibepooajeakfaaGreatG7
import Derived.Test.YtibepooajeakfaaGreatG8
import Derived.Test.YtibepooajeakfaaGreatG11
set_option linter.unusedVariables false
set_option maxRecDepth 100000
set_option maxHeartbeats 25600000
namespace Go.Proofs.YtibepooajeakfaaGreat
open Go.RowKit
theorem jP {x:Int} {t:List Int} (h:x=0):orL (x::t)=orL t:=by subst h;rfl
theorem jH {x v:Int} {t:List Int} (h:x=v) (hv:v≠0):orL (x::t)=v:=by
 subst h;show (if x≠0 then x else orL t)=x;rw[if_pos hv]
theorem Z1 {x:Int}:orL [x]=x:=by
 show (if x≠0 then x else 0)=x;by_cases h:x=0
 · rw[if_neg (fun g=>g h),h]
 · rw[if_pos h]
theorem eor {x:ByteArray} {q r:Bool} (h:(x.toList==([]:List UInt8))=q) (g:isName x=r):XX x=(q||r):=by unfold XX;rw[ZM,h,g]
theorem jfw (n:Pd) (v1 v2 v3 v4:Value) (w:World) (h:ji w v1 v2 v3 v4 n) :
 Calls Tryz.prog 113 #[jw n v1 v2 v3 v4] w (Say (.int .i64 (zN n)) w):=by
 obtain⟨x0,x1,x2,l1,l2,l3,l4,x3,x4,x5,x6⟩:=n;have s0:x0.size≤maxLen:=h.name;have s1:x1.size≤maxLen:=h.owner;have s3:x3.size≤maxLen:=h.key;have s5:x5.size≤maxLen:=h.node;obtain⟨W0,hW0⟩:=eX (w.alloc (.cells #[.string x0,.string x1,.int .i64 x2,v1,v2,v3,v4,.string x3,.int .i64 x4,.string x5,.bool x6] 42))
 have hk0:Kept w W0:=by rw[←hW0];exact ja _ _
 have HC:=lH (show ∀W,Kept W0 W→W.cell? ⟨w.heap.size,0,none⟩=some (.string x0)∧W.cell? ⟨w.heap.size,1,none⟩=some (.string x1)∧W.cell? ⟨w.heap.size,2,none⟩=some (.int .i64 x2)∧W.cell? ⟨w.heap.size,3,none⟩=some (v1)∧W.cell? ⟨w.heap.size,4,none⟩=some (v2)∧W.cell? ⟨w.heap.size,5,none⟩=some (v3)∧W.cell? ⟨w.heap.size,6,none⟩=some (v4)∧W.cell? ⟨w.heap.size,7,none⟩=some (.string x3)∧W.cell? ⟨w.heap.size,8,none⟩=some (.int .i64 x4)∧W.cell? ⟨w.heap.size,9,none⟩=some (.string x5)∧W.cell? ⟨w.heap.size,10,none⟩=some (.bool x6) from fun W k=>by
  have:=jb w (.string x0) [.string x1,.int .i64 x2,v1,v2,v3,v4,.string x3,.int .i64 x4,.string x5,.bool x6] 42 W (by rw[hW0];exact k);exact⟨this.at_ 0 _ rfl,this.at_ 1 _ rfl,this.at_ 2 _ rfl,this.at_ 3 _ rfl,this.at_ 4 _ rfl,this.at_ 5 _ rfl,this.at_ 6 _ rfl,this.at_ 7 _ rfl,this.at_ 8 _ rfl,this.at_ 9 _ rfl,this.at_ 10 _ rfl⟩)
 obtain⟨y1,hy1⟩:=eX (Vec.jv l1)
 obtain⟨y2,hy2⟩:=eX (YV l2)
 obtain⟨y3,hy3⟩:=eX (Xq l3)
 obtain⟨y4,hy4⟩:=eX (ZX l4)
 obtain⟨E1,E2,E3,E4,HV⟩:=lH5 (fun W (k:Kept W0 W)=>Vec.J4 (h.need.kept (hk0.trans k)) hy1) (fun W (k:Kept W0 W)=>J4 (h.labels.kept (hk0.trans k)) hy2) (fun W (k:Kept W0 W)=>jap (h.sel.kept (hk0.trans k)) hy3) (fun W (k:Kept W0 W)=>jg7 (h.tols.kept (hk0.trans k)) hy4) (show zN ⟨x0,x1,x2,l1,l2,l3,l4,x3,x4,x5,x6⟩=orL [qv x0 x1,jaG x2 x6,y1,y2,y3,y4,Xz x3 x4,X5 x5] by rw[←hy1,←hy2,←hy3,←hy4];rfl);obtain⟨r0,hr0⟩:=eX (isName x0)
 obtain⟨r1,hr1⟩:=eX (isName x1)
 obtain⟨r3,hr3⟩:=eX (isName x3)
 obtain⟨r5,hr5⟩:=eX (isName x5)
 obtain⟨q1,hq1⟩:=eX ((x1.toList==([]:List UInt8)))
 obtain⟨q3,hq3⟩:=eX ((x3.toList==([]:List UInt8)))
 obtain⟨q5,hq5⟩:=eX ((x5.toList==([]:List UInt8)))
 obtain⟨N0,N1,N3,N5,HN,HS,HD⟩:=lH7 (fun W=>Vec.Yc (w:=W) s0 hr0) (fun W=>Vec.Yc (w:=W) s1 hr1) (fun W=>Vec.Yc (w:=W) s3 hr3) (fun W=>Vec.Yc (w:=W) s5 hr5) (show qv x0 x1=if r0=true∧(q1||r1)=true then 0 else 3 by unfold qv;rw[eor hq1 hr1,hr0]) (show Xz x3 x4=if (q3||r3)=false then 3 else if (if q3=true then decide (x4≠0) else decide (x4<1)||decide (128<x4))=true then 1 else 0 by unfold Xz jde;rw[eor hq3 hr3,ZM,hq3]) (show X5 x5=if (q5||r5)=true then 0 else 3 by unfold X5;rw[eor hq5 hr5]);obtain⟨zz,hzz⟩:=eX ((x2==-1))
 have HP:=lH (show jaG x2 x6=if (decide (x2 < -1)||(decide (1000000<x2)||(zz != x6)))=true then 1 else 0 by unfold jaG jgJ;rw[show decide (x2=-1)=zz from hzz]);have Vd:=lH hk0;obtain⟨c0,c1,c2,c3,c4,c5,c6,c7,c8,c9,c10⟩:=HC.out _ (Kept.refl _);clear h hk0 hy1 hy2 hy3 hy4 hr0 hr1 hr3 hr5 s0 s1 s3 s5;unfold jw;dsimp only;go_enter Tryz.func113,Tryz.ntmps113;go_wp2_with fail
 try rw[hW0]
 clear hW0;refine(N0.out _).mono ?_;rintro e w9 ⟨rfl,rfl⟩
 cases r0 with
 | false =>
  have HV:=lH (HV.out.trans (jH (v:=3) (HN.out.trans (by simp)) (by decide)));go_wp2;go_ret;exact⟨jc HV.out.symm,Vd.out.trans (Kept.refl _)⟩
 | true =>
  cases q1 with
  | true =>
   have HV:=lH (HV.out.trans (jP (HN.out.trans (by simp))));by_cases p1:x2 < -1
   · have HV:=lH (HV.out.trans (jH (v:=1) (HP.out.trans (by simp[p1])) (by decide)));clear hzz;go_wp2;go_ret;exact⟨jc HV.out.symm,Vd.out.trans (Kept.refl _)⟩
   · have p1:-1≤x2:=by omega
     by_cases p2:1000000<x2
     · have HV:=lH (HV.out.trans (jH (v:=1) (HP.out.trans (by simp[p2])) (by decide)));clear hzz;go_wp2;go_ret;exact⟨jc HV.out.symm,Vd.out.trans (Kept.refl _)⟩
     · have p2:x2≤1000000:=by omega
       have HP:=lH (HP.out.trans (show (if (decide (x2 < -1)||(decide (1000000<x2)||(zz != x6)))=true then 1 else 0)=(if (zz != x6)=true then 1 else 0) by rw[show decide (x2 < -1)=false by simp;omega,show decide (1000000<x2)=false by simp;omega];rfl))
       cases zz<;>cases x6
       ·
        have HV:=lH (HV.out.trans (jP HP.out));go_wp2_with fail
        refine(E1.out _ (Kept.refl _)).mono ?_;rintro e w1 ⟨rfl,k⟩;have K1:=lH (Kept.trans (Kept.refl _) k);clear k c0 c1 c2 c3 c4 c5 c6 c7 c8 c9 c10;obtain⟨c0,c1,c2,c3,c4,c5,c6,c7,c8,c9,c10⟩:=HC.out _ K1.out;by_cases z1:y1=0;rotate_left
        · have z9:(y1 != 0)=true:=by simpa using z1
          have HV:=lH (HV.out.trans (jH rfl z1));clear z1;go_wp2;go_ret;exact⟨jc HV.out.symm,Vd.out.trans K1.out⟩
        subst z1;have HV:=lH (HV.out.trans (jP rfl));go_wp2_with fail
        refine(E2.out _ K1.out).mono ?_;rintro e w2 ⟨rfl,k⟩;have K2:=lH (Kept.trans K1.out k);clear k c0 c1 c2 c3 c4 c5 c6 c7 c8 c9 c10;obtain⟨c0,c1,c2,c3,c4,c5,c6,c7,c8,c9,c10⟩:=HC.out _ K2.out;by_cases z2:y2=0;rotate_left
        · have z9:(y2 != 0)=true:=by simpa using z2
          have HV:=lH (HV.out.trans (jH rfl z2));clear z2;go_wp2;go_ret;exact⟨jc HV.out.symm,Vd.out.trans K2.out⟩
        subst z2;have HV:=lH (HV.out.trans (jP rfl));go_wp2_with fail
        refine(E3.out _ K2.out).mono ?_;rintro e w3 ⟨rfl,k⟩;have K3:=lH (Kept.trans K2.out k);clear k c0 c1 c2 c3 c4 c5 c6 c7 c8 c9 c10;obtain⟨c0,c1,c2,c3,c4,c5,c6,c7,c8,c9,c10⟩:=HC.out _ K3.out;by_cases z3:y3=0;rotate_left
        · have z9:(y3 != 0)=true:=by simpa using z3
          have HV:=lH (HV.out.trans (jH rfl z3));clear z3;go_wp2;go_ret;exact⟨jc HV.out.symm,Vd.out.trans K3.out⟩
        subst z3;have HV:=lH (HV.out.trans (jP rfl));go_wp2_with fail
        refine(E4.out _ K3.out).mono ?_;rintro e w4 ⟨rfl,k⟩;have K4:=lH (Kept.trans K3.out k);clear k c0 c1 c2 c3 c4 c5 c6 c7 c8 c9 c10;obtain⟨c0,c1,c2,c3,c4,c5,c6,c7,c8,c9,c10⟩:=HC.out _ K4.out;by_cases z4:y4=0;rotate_left
        · have z9:(y4 != 0)=true:=by simpa using z4
          have HV:=lH (HV.out.trans (jH rfl z4));clear z4;go_wp2;go_ret;exact⟨jc HV.out.symm,Vd.out.trans K4.out⟩
        subst z4;have HV:=lH (HV.out.trans (jP rfl))
        cases q3 with
        | true =>
         by_cases m1:x4=0
         · subst m1;have HV:=lH (HV.out.trans (jP HS.out));have HV:=lH (HV.out.trans (Z1.trans HD.out))
           cases q5 with
           | true =>
            go_wp2;go_ret;exact⟨jc HV.out.symm,Vd.out.trans K4.out⟩
           | false =>
            go_wp2_with fail
            refine(N5.out _).mono ?_;rintro e w9 ⟨rfl,rfl⟩
            cases r5 with
            | false =>
             go_wp2;go_ret;exact⟨jc HV.out.symm,Vd.out.trans K4.out⟩
            | true =>
             go_wp2;go_ret;exact⟨jc HV.out.symm,Vd.out.trans K4.out⟩
         · have HV:=lH (HV.out.trans (jH (v:=1) (HS.out.trans (by simp[m1])) (by decide)));have m1:(x4 != 0)=true:=by simpa using m1
           go_wp2;go_ret;exact⟨jc HV.out.symm,Vd.out.trans K4.out⟩
        | false =>
         go_wp2_with fail
         refine(N3.out _).mono ?_;rintro e w9 ⟨rfl,rfl⟩
         cases r3 with
         | false =>
          have HV:=lH (HV.out.trans (jH (v:=3) HS.out (by decide)));go_wp2;go_ret;exact⟨jc HV.out.symm,Vd.out.trans K4.out⟩
         | true =>
          by_cases m1:x4<1
          · have HV:=lH (HV.out.trans (jH (v:=1) (HS.out.trans (by simp[m1])) (by decide)));go_wp2;go_ret;exact⟨jc HV.out.symm,Vd.out.trans K4.out⟩
          · have m1:1≤x4:=by omega
            by_cases m2:128<x4
            · have HV:=lH (HV.out.trans (jH (v:=1) (HS.out.trans (by simp[m2])) (by decide)));go_wp2;go_ret;exact⟨jc HV.out.symm,Vd.out.trans K4.out⟩
            · have m2:x4≤128:=by omega
              have HV:=lH (HV.out.trans (jP (HS.out.trans (by rw[show decide (x4<1)=false by simp;omega,show decide (128<x4)=false by simp;omega];rfl))));have HV:=lH (HV.out.trans (Z1.trans HD.out))
              cases q5 with
              | true =>
               go_wp2;go_ret;exact⟨jc HV.out.symm,Vd.out.trans K4.out⟩
              | false =>
               go_wp2_with fail
               refine(N5.out _).mono ?_;rintro e w9 ⟨rfl,rfl⟩
               cases r5 with
               | false =>
                go_wp2;go_ret;exact⟨jc HV.out.symm,Vd.out.trans K4.out⟩
               | true =>
                go_wp2;go_ret;exact⟨jc HV.out.symm,Vd.out.trans K4.out⟩
       ·
        have HV:=lH (HV.out.trans (jH (v:=1) HP.out (by decide)));go_wp2;go_ret;exact⟨jc HV.out.symm,Vd.out.trans (Kept.refl _)⟩
       ·
        have HV:=lH (HV.out.trans (jH (v:=1) HP.out (by decide)));go_wp2;go_ret;exact⟨jc HV.out.symm,Vd.out.trans (Kept.refl _)⟩
       ·
        have HV:=lH (HV.out.trans (jP HP.out));go_wp2_with fail
        refine(E1.out _ (Kept.refl _)).mono ?_;rintro e w1 ⟨rfl,k⟩;have K1:=lH (Kept.trans (Kept.refl _) k);clear k c0 c1 c2 c3 c4 c5 c6 c7 c8 c9 c10;obtain⟨c0,c1,c2,c3,c4,c5,c6,c7,c8,c9,c10⟩:=HC.out _ K1.out;by_cases z1:y1=0;rotate_left
        · have z9:(y1 != 0)=true:=by simpa using z1
          have HV:=lH (HV.out.trans (jH rfl z1));clear z1;go_wp2;go_ret;exact⟨jc HV.out.symm,Vd.out.trans K1.out⟩
        subst z1;have HV:=lH (HV.out.trans (jP rfl));go_wp2_with fail
        refine(E2.out _ K1.out).mono ?_;rintro e w2 ⟨rfl,k⟩;have K2:=lH (Kept.trans K1.out k);clear k c0 c1 c2 c3 c4 c5 c6 c7 c8 c9 c10;obtain⟨c0,c1,c2,c3,c4,c5,c6,c7,c8,c9,c10⟩:=HC.out _ K2.out;by_cases z2:y2=0;rotate_left
        · have z9:(y2 != 0)=true:=by simpa using z2
          have HV:=lH (HV.out.trans (jH rfl z2));clear z2;go_wp2;go_ret;exact⟨jc HV.out.symm,Vd.out.trans K2.out⟩
        subst z2;have HV:=lH (HV.out.trans (jP rfl));go_wp2_with fail
        refine(E3.out _ K2.out).mono ?_;rintro e w3 ⟨rfl,k⟩;have K3:=lH (Kept.trans K2.out k);clear k c0 c1 c2 c3 c4 c5 c6 c7 c8 c9 c10;obtain⟨c0,c1,c2,c3,c4,c5,c6,c7,c8,c9,c10⟩:=HC.out _ K3.out;by_cases z3:y3=0;rotate_left
        · have z9:(y3 != 0)=true:=by simpa using z3
          have HV:=lH (HV.out.trans (jH rfl z3));clear z3;go_wp2;go_ret;exact⟨jc HV.out.symm,Vd.out.trans K3.out⟩
        subst z3;have HV:=lH (HV.out.trans (jP rfl));go_wp2_with fail
        refine(E4.out _ K3.out).mono ?_;rintro e w4 ⟨rfl,k⟩;have K4:=lH (Kept.trans K3.out k);clear k c0 c1 c2 c3 c4 c5 c6 c7 c8 c9 c10;obtain⟨c0,c1,c2,c3,c4,c5,c6,c7,c8,c9,c10⟩:=HC.out _ K4.out;by_cases z4:y4=0;rotate_left
        · have z9:(y4 != 0)=true:=by simpa using z4
          have HV:=lH (HV.out.trans (jH rfl z4));clear z4;go_wp2;go_ret;exact⟨jc HV.out.symm,Vd.out.trans K4.out⟩
        subst z4;have HV:=lH (HV.out.trans (jP rfl))
        cases q3 with
        | true =>
         by_cases m1:x4=0
         · subst m1;have HV:=lH (HV.out.trans (jP HS.out));have HV:=lH (HV.out.trans (Z1.trans HD.out))
           cases q5 with
           | true =>
            go_wp2;go_ret;exact⟨jc HV.out.symm,Vd.out.trans K4.out⟩
           | false =>
            go_wp2_with fail
            refine(N5.out _).mono ?_;rintro e w9 ⟨rfl,rfl⟩
            cases r5 with
            | false =>
             go_wp2;go_ret;exact⟨jc HV.out.symm,Vd.out.trans K4.out⟩
            | true =>
             go_wp2;go_ret;exact⟨jc HV.out.symm,Vd.out.trans K4.out⟩
         · have HV:=lH (HV.out.trans (jH (v:=1) (HS.out.trans (by simp[m1])) (by decide)));have m1:(x4 != 0)=true:=by simpa using m1
           go_wp2;go_ret;exact⟨jc HV.out.symm,Vd.out.trans K4.out⟩
        | false =>
         go_wp2_with fail
         refine(N3.out _).mono ?_;rintro e w9 ⟨rfl,rfl⟩
         cases r3 with
         | false =>
          have HV:=lH (HV.out.trans (jH (v:=3) HS.out (by decide)));go_wp2;go_ret;exact⟨jc HV.out.symm,Vd.out.trans K4.out⟩
         | true =>
          by_cases m1:x4<1
          · have HV:=lH (HV.out.trans (jH (v:=1) (HS.out.trans (by simp[m1])) (by decide)));go_wp2;go_ret;exact⟨jc HV.out.symm,Vd.out.trans K4.out⟩
          · have m1:1≤x4:=by omega
            by_cases m2:128<x4
            · have HV:=lH (HV.out.trans (jH (v:=1) (HS.out.trans (by simp[m2])) (by decide)));go_wp2;go_ret;exact⟨jc HV.out.symm,Vd.out.trans K4.out⟩
            · have m2:x4≤128:=by omega
              have HV:=lH (HV.out.trans (jP (HS.out.trans (by rw[show decide (x4<1)=false by simp;omega,show decide (128<x4)=false by simp;omega];rfl))));have HV:=lH (HV.out.trans (Z1.trans HD.out))
              cases q5 with
              | true =>
               go_wp2;go_ret;exact⟨jc HV.out.symm,Vd.out.trans K4.out⟩
              | false =>
               go_wp2_with fail
               refine(N5.out _).mono ?_;rintro e w9 ⟨rfl,rfl⟩
               cases r5 with
               | false =>
                go_wp2;go_ret;exact⟨jc HV.out.symm,Vd.out.trans K4.out⟩
               | true =>
                go_wp2;go_ret;exact⟨jc HV.out.symm,Vd.out.trans K4.out⟩
  | false =>
   go_wp2_with fail
   refine(N1.out _).mono ?_;rintro e w9 ⟨rfl,rfl⟩
   cases r1 with
   | false =>
    have HV:=lH (HV.out.trans (jH (v:=3) (HN.out.trans (by simp)) (by decide)));go_wp2;go_ret;exact⟨jc HV.out.symm,Vd.out.trans (Kept.refl _)⟩
   | true =>
    have HV:=lH (HV.out.trans (jP (HN.out.trans (by simp))));by_cases p1:x2 < -1
    · have HV:=lH (HV.out.trans (jH (v:=1) (HP.out.trans (by simp[p1])) (by decide)));clear hzz;go_wp2;go_ret;exact⟨jc HV.out.symm,Vd.out.trans (Kept.refl _)⟩
    · have p1:-1≤x2:=by omega
      by_cases p2:1000000<x2
      · have HV:=lH (HV.out.trans (jH (v:=1) (HP.out.trans (by simp[p2])) (by decide)));clear hzz;go_wp2;go_ret;exact⟨jc HV.out.symm,Vd.out.trans (Kept.refl _)⟩
      · have p2:x2≤1000000:=by omega
        have HP:=lH (HP.out.trans (show (if (decide (x2 < -1)||(decide (1000000<x2)||(zz != x6)))=true then 1 else 0)=(if (zz != x6)=true then 1 else 0) by rw[show decide (x2 < -1)=false by simp;omega,show decide (1000000<x2)=false by simp;omega];rfl))
        cases zz<;>cases x6
        ·
         have HV:=lH (HV.out.trans (jP HP.out));go_wp2_with fail
         refine(E1.out _ (Kept.refl _)).mono ?_;rintro e w1 ⟨rfl,k⟩;have K1:=lH (Kept.trans (Kept.refl _) k);clear k c0 c1 c2 c3 c4 c5 c6 c7 c8 c9 c10;obtain⟨c0,c1,c2,c3,c4,c5,c6,c7,c8,c9,c10⟩:=HC.out _ K1.out;by_cases z1:y1=0;rotate_left
         · have z9:(y1 != 0)=true:=by simpa using z1
           have HV:=lH (HV.out.trans (jH rfl z1));clear z1;go_wp2;go_ret;exact⟨jc HV.out.symm,Vd.out.trans K1.out⟩
         subst z1;have HV:=lH (HV.out.trans (jP rfl));go_wp2_with fail
         refine(E2.out _ K1.out).mono ?_;rintro e w2 ⟨rfl,k⟩;have K2:=lH (Kept.trans K1.out k);clear k c0 c1 c2 c3 c4 c5 c6 c7 c8 c9 c10;obtain⟨c0,c1,c2,c3,c4,c5,c6,c7,c8,c9,c10⟩:=HC.out _ K2.out;by_cases z2:y2=0;rotate_left
         · have z9:(y2 != 0)=true:=by simpa using z2
           have HV:=lH (HV.out.trans (jH rfl z2));clear z2;go_wp2;go_ret;exact⟨jc HV.out.symm,Vd.out.trans K2.out⟩
         subst z2;have HV:=lH (HV.out.trans (jP rfl));go_wp2_with fail
         refine(E3.out _ K2.out).mono ?_;rintro e w3 ⟨rfl,k⟩;have K3:=lH (Kept.trans K2.out k);clear k c0 c1 c2 c3 c4 c5 c6 c7 c8 c9 c10;obtain⟨c0,c1,c2,c3,c4,c5,c6,c7,c8,c9,c10⟩:=HC.out _ K3.out;by_cases z3:y3=0;rotate_left
         · have z9:(y3 != 0)=true:=by simpa using z3
           have HV:=lH (HV.out.trans (jH rfl z3));clear z3;go_wp2;go_ret;exact⟨jc HV.out.symm,Vd.out.trans K3.out⟩
         subst z3;have HV:=lH (HV.out.trans (jP rfl));go_wp2_with fail
         refine(E4.out _ K3.out).mono ?_;rintro e w4 ⟨rfl,k⟩;have K4:=lH (Kept.trans K3.out k);clear k c0 c1 c2 c3 c4 c5 c6 c7 c8 c9 c10;obtain⟨c0,c1,c2,c3,c4,c5,c6,c7,c8,c9,c10⟩:=HC.out _ K4.out;by_cases z4:y4=0;rotate_left
         · have z9:(y4 != 0)=true:=by simpa using z4
           have HV:=lH (HV.out.trans (jH rfl z4));clear z4;go_wp2;go_ret;exact⟨jc HV.out.symm,Vd.out.trans K4.out⟩
         subst z4;have HV:=lH (HV.out.trans (jP rfl))
         cases q3 with
         | true =>
          by_cases m1:x4=0
          · subst m1;have HV:=lH (HV.out.trans (jP HS.out));have HV:=lH (HV.out.trans (Z1.trans HD.out))
            cases q5 with
            | true =>
             go_wp2;go_ret;exact⟨jc HV.out.symm,Vd.out.trans K4.out⟩
            | false =>
             go_wp2_with fail
             refine(N5.out _).mono ?_;rintro e w9 ⟨rfl,rfl⟩
             cases r5 with
             | false =>
              go_wp2;go_ret;exact⟨jc HV.out.symm,Vd.out.trans K4.out⟩
             | true =>
              go_wp2;go_ret;exact⟨jc HV.out.symm,Vd.out.trans K4.out⟩
          · have HV:=lH (HV.out.trans (jH (v:=1) (HS.out.trans (by simp[m1])) (by decide)));have m1:(x4 != 0)=true:=by simpa using m1
            go_wp2;go_ret;exact⟨jc HV.out.symm,Vd.out.trans K4.out⟩
         | false =>
          go_wp2_with fail
          refine(N3.out _).mono ?_;rintro e w9 ⟨rfl,rfl⟩
          cases r3 with
          | false =>
           have HV:=lH (HV.out.trans (jH (v:=3) HS.out (by decide)));go_wp2;go_ret;exact⟨jc HV.out.symm,Vd.out.trans K4.out⟩
          | true =>
           by_cases m1:x4<1
           · have HV:=lH (HV.out.trans (jH (v:=1) (HS.out.trans (by simp[m1])) (by decide)));go_wp2;go_ret;exact⟨jc HV.out.symm,Vd.out.trans K4.out⟩
           · have m1:1≤x4:=by omega
             by_cases m2:128<x4
             · have HV:=lH (HV.out.trans (jH (v:=1) (HS.out.trans (by simp[m2])) (by decide)));go_wp2;go_ret;exact⟨jc HV.out.symm,Vd.out.trans K4.out⟩
             · have m2:x4≤128:=by omega
               have HV:=lH (HV.out.trans (jP (HS.out.trans (by rw[show decide (x4<1)=false by simp;omega,show decide (128<x4)=false by simp;omega];rfl))));have HV:=lH (HV.out.trans (Z1.trans HD.out))
               cases q5 with
               | true =>
                go_wp2;go_ret;exact⟨jc HV.out.symm,Vd.out.trans K4.out⟩
               | false =>
                go_wp2_with fail
                refine(N5.out _).mono ?_;rintro e w9 ⟨rfl,rfl⟩
                cases r5 with
                | false =>
                 go_wp2;go_ret;exact⟨jc HV.out.symm,Vd.out.trans K4.out⟩
                | true =>
                 go_wp2;go_ret;exact⟨jc HV.out.symm,Vd.out.trans K4.out⟩
        ·
         have HV:=lH (HV.out.trans (jH (v:=1) HP.out (by decide)));go_wp2;go_ret;exact⟨jc HV.out.symm,Vd.out.trans (Kept.refl _)⟩
        ·
         have HV:=lH (HV.out.trans (jH (v:=1) HP.out (by decide)));go_wp2;go_ret;exact⟨jc HV.out.symm,Vd.out.trans (Kept.refl _)⟩
        ·
         have HV:=lH (HV.out.trans (jP HP.out));go_wp2_with fail
         refine(E1.out _ (Kept.refl _)).mono ?_;rintro e w1 ⟨rfl,k⟩;have K1:=lH (Kept.trans (Kept.refl _) k);clear k c0 c1 c2 c3 c4 c5 c6 c7 c8 c9 c10;obtain⟨c0,c1,c2,c3,c4,c5,c6,c7,c8,c9,c10⟩:=HC.out _ K1.out;by_cases z1:y1=0;rotate_left
         · have z9:(y1 != 0)=true:=by simpa using z1
           have HV:=lH (HV.out.trans (jH rfl z1));clear z1;go_wp2;go_ret;exact⟨jc HV.out.symm,Vd.out.trans K1.out⟩
         subst z1;have HV:=lH (HV.out.trans (jP rfl));go_wp2_with fail
         refine(E2.out _ K1.out).mono ?_;rintro e w2 ⟨rfl,k⟩;have K2:=lH (Kept.trans K1.out k);clear k c0 c1 c2 c3 c4 c5 c6 c7 c8 c9 c10;obtain⟨c0,c1,c2,c3,c4,c5,c6,c7,c8,c9,c10⟩:=HC.out _ K2.out;by_cases z2:y2=0;rotate_left
         · have z9:(y2 != 0)=true:=by simpa using z2
           have HV:=lH (HV.out.trans (jH rfl z2));clear z2;go_wp2;go_ret;exact⟨jc HV.out.symm,Vd.out.trans K2.out⟩
         subst z2;have HV:=lH (HV.out.trans (jP rfl));go_wp2_with fail
         refine(E3.out _ K2.out).mono ?_;rintro e w3 ⟨rfl,k⟩;have K3:=lH (Kept.trans K2.out k);clear k c0 c1 c2 c3 c4 c5 c6 c7 c8 c9 c10;obtain⟨c0,c1,c2,c3,c4,c5,c6,c7,c8,c9,c10⟩:=HC.out _ K3.out;by_cases z3:y3=0;rotate_left
         · have z9:(y3 != 0)=true:=by simpa using z3
           have HV:=lH (HV.out.trans (jH rfl z3));clear z3;go_wp2;go_ret;exact⟨jc HV.out.symm,Vd.out.trans K3.out⟩
         subst z3;have HV:=lH (HV.out.trans (jP rfl));go_wp2_with fail
         refine(E4.out _ K3.out).mono ?_;rintro e w4 ⟨rfl,k⟩;have K4:=lH (Kept.trans K3.out k);clear k c0 c1 c2 c3 c4 c5 c6 c7 c8 c9 c10;obtain⟨c0,c1,c2,c3,c4,c5,c6,c7,c8,c9,c10⟩:=HC.out _ K4.out;by_cases z4:y4=0;rotate_left
         · have z9:(y4 != 0)=true:=by simpa using z4
           have HV:=lH (HV.out.trans (jH rfl z4));clear z4;go_wp2;go_ret;exact⟨jc HV.out.symm,Vd.out.trans K4.out⟩
         subst z4;have HV:=lH (HV.out.trans (jP rfl))
         cases q3 with
         | true =>
          by_cases m1:x4=0
          · subst m1;have HV:=lH (HV.out.trans (jP HS.out));have HV:=lH (HV.out.trans (Z1.trans HD.out))
            cases q5 with
            | true =>
             go_wp2;go_ret;exact⟨jc HV.out.symm,Vd.out.trans K4.out⟩
            | false =>
             go_wp2_with fail
             refine(N5.out _).mono ?_;rintro e w9 ⟨rfl,rfl⟩
             cases r5 with
             | false =>
              go_wp2;go_ret;exact⟨jc HV.out.symm,Vd.out.trans K4.out⟩
             | true =>
              go_wp2;go_ret;exact⟨jc HV.out.symm,Vd.out.trans K4.out⟩
          · have HV:=lH (HV.out.trans (jH (v:=1) (HS.out.trans (by simp[m1])) (by decide)));have m1:(x4 != 0)=true:=by simpa using m1
            go_wp2;go_ret;exact⟨jc HV.out.symm,Vd.out.trans K4.out⟩
         | false =>
          go_wp2_with fail
          refine(N3.out _).mono ?_;rintro e w9 ⟨rfl,rfl⟩
          cases r3 with
          | false =>
           have HV:=lH (HV.out.trans (jH (v:=3) HS.out (by decide)));go_wp2;go_ret;exact⟨jc HV.out.symm,Vd.out.trans K4.out⟩
          | true =>
           by_cases m1:x4<1
           · have HV:=lH (HV.out.trans (jH (v:=1) (HS.out.trans (by simp[m1])) (by decide)));go_wp2;go_ret;exact⟨jc HV.out.symm,Vd.out.trans K4.out⟩
           · have m1:1≤x4:=by omega
             by_cases m2:128<x4
             · have HV:=lH (HV.out.trans (jH (v:=1) (HS.out.trans (by simp[m2])) (by decide)));go_wp2;go_ret;exact⟨jc HV.out.symm,Vd.out.trans K4.out⟩
             · have m2:x4≤128:=by omega
               have HV:=lH (HV.out.trans (jP (HS.out.trans (by rw[show decide (x4<1)=false by simp;omega,show decide (128<x4)=false by simp;omega];rfl))));have HV:=lH (HV.out.trans (Z1.trans HD.out))
               cases q5 with
               | true =>
                go_wp2;go_ret;exact⟨jc HV.out.symm,Vd.out.trans K4.out⟩
               | false =>
                go_wp2_with fail
                refine(N5.out _).mono ?_;rintro e w9 ⟨rfl,rfl⟩
                cases r5 with
                | false =>
                 go_wp2;go_ret;exact⟨jc HV.out.symm,Vd.out.trans K4.out⟩
                | true =>
                 go_wp2;go_ret;exact⟨jc HV.out.symm,Vd.out.trans K4.out⟩
theorem jcu (a:Option Addr) (len cap:Nat) (l:List Pd) (w:World) (hr:jC w a len l) :
 Calls Tryz.prog 61 #[.slice a len cap] w (Say (.int .i64 (jK l)) w):=by
 have hl:=hr.1;have hm:=hr.2.1;unfold maxLen at hm;by_cases h32:128<len
 · have HV:=lH (show jK l=4 by unfold jK;rw[if_pos (by omega)]);clear hr hl;go_enter Tryz.func61,Tryz.ntmps61;go_wp2;go_ret;exact⟨jc HV.out.symm,Kept.refl _⟩
 · have HV:=lH (show jK l=zg none l by unfold jK;rw[if_neg (by omega)]);have h32':len≤128:=by omega
   by_cases h0:len=0
   · subst h0;have HE:=lH (show jK l=0 by rw[HV.out,List.eq_nil_of_length_eq_zero hl];rfl);clear hr hl h32;go_enter Tryz.func61,Tryz.ntmps61;go_wp2;refine wp_loop_rounds 1 ?_;rw[rounds_succ];go_wp2;go_ret;exact⟨jc HE.out.symm,Kept.refl _⟩
   · obtain⟨b,off,rfl⟩:=hr.form.resolve_left h0;have HR:=lH hr;have HL:=lH hl;clear hr hl h0 h32;go_enter Tryz.func61,Tryz.ntmps61;go_wp2;go_loopw [3] (fun i wr=>∃k:Nat,k≤len∧i=.int .i64 k∧zg (Ym l k) (l.drop k)=zg none l∧Kept w wr) (fun i _=>len-(intOf i).toNat)
     case atStart=>exact⟨0,Nat.zero_le _,rfl,rfl,Kept.refl _⟩
     case round =>
      obtain⟨k,hk,rfl,hrest,hK⟩:=hrel;obtain⟨HS,HT,HK⟩:=lH3 (HV.out.trans hrest.symm) hrest hK;by_cases hlt:k<len
      · obtain⟨n,a1,m1,c1,a2,m2,c2,a3,m3,c3,a4,m4,c4,hn,hd,hb,p0,p1,p2,p3,p4,p5,p6,p7,p8,p9,p10,hat⟩:=(HR.out.kept hK).at_ hlt;obtain⟨VD,HD,VC⟩:=lH3 hat hd (jfR hn);have VT:=lH (fun W (kk:Kept wr W)=>jfw n (.slice a1 m1 c1) (.slice a2 m2 c2) (.slice a3 m3 c3) (.slice a4 m4 c4) W (VD.out.kept kk));unfold jw at VT;obtain⟨ck,hck⟩:=eX (zN n)
        have VW:=lH hck;rw[hck] at VT;have hkk:(k:Int)<(len:Int):=by omega
        clear hrest hK hat hd hck;by_cases z1:ck=0
        · subst z1;by_cases h0:k=0
          · have hd0:decide (0<k)=false:=by subst h0;decide
            have HP:=lH (jf4 (l:=l) h0 n.name);clear h0;go_wp2_with fail
            refine(VT.out _ (Kept.refl _)).mono ?_;rintro e w1 ⟨rfl,kk⟩;have KW:=lH kk;clear kk;go_wp2;go_quiet (fail)
            go_wp2;go_roundw
            case rel=>exact⟨k+1,by omega,by go_num,(show zg (Ym l (k+1)) (l.drop (k+1))=zg none l by rw[←HT.out,HD.out,YP VW.out HP.out,VC.out]),HK.out.trans (KW.out.trans (Kept.drewN _ _))⟩
            case measure=>simp[intOf];omega
          · have hd0:decide (0<k)=true:=by simp;omega
            have g1:0≤(k:Int)-1:=by omega
            have g2:(k:Int)-1<(len:Int):=by omega
            have g3:((k:Int)-1).toNat=k-1:=by omega
            obtain⟨n9,_,_,_,_,_,_,_,_,_,_,_,_,hn9,-,hb9,o0,-⟩:=(HR.out.kept HK.out).at_ (show k-1<len by omega);have HP:=lH (jfW (l:=l) h0 hn9 n.name);clear h0 hn9;by_cases n3:leS n.name n9.name=true
            · have n3':(Op.bytesLess n.name.toList n9.name.toList||n.name.toList==n9.name.toList)=true:=n3;have N3:=lH n3;clear n3;go_wp2_with fail
              refine(VT.out _ (Kept.refl _)).mono ?_;rintro e w1 ⟨rfl,kk⟩;have KW:=lH kk;have o1:=cell_later kk o0;have p99:=cell_later kk p0;clear kk;go_wp2;go_quiet (fail)
              go_wp2;go_ret;exact⟨jc (show (13:Int)=jK l by rw[HS.out,HD.out,X9 VW.out (HP.out.trans N3.out)]),HK.out.trans (KW.out.trans (Kept.drewN _ _))⟩
            · have n3:leS n.name n9.name=false:=by simpa using n3
              have n3':(Op.bytesLess n.name.toList n9.name.toList||n.name.toList==n9.name.toList)=false:=n3;have N3:=lH n3;clear n3;go_wp2_with fail
              refine(VT.out _ (Kept.refl _)).mono ?_;rintro e w1 ⟨rfl,kk⟩;have KW:=lH kk;have o1:=cell_later kk o0;have p99:=cell_later kk p0;clear kk;go_wp2;go_quiet (fail)
              go_wp2;go_roundw
              case rel=>exact⟨k+1,by omega,by go_num,(show zg (Ym l (k+1)) (l.drop (k+1))=zg none l by rw[←HT.out,HD.out,YP VW.out (HP.out.trans N3.out),VC.out]),HK.out.trans (KW.out.trans (Kept.drewN _ _))⟩
              case measure=>simp[intOf];omega
        · have z1':(ck != 0)=true:=by simpa using z1
          have HB:=lH (show jK l=ck by rw[HS.out,HD.out,jbg (by rw[VW.out];exact z1),VW.out]);clear z1;go_wp2_with fail
          refine(VT.out _ (Kept.refl _)).mono ?_;rintro e w1 ⟨rfl,kk⟩;have KW:=lH kk;clear kk;go_wp2;go_ret;exact⟨jc HB.out.symm,HK.out.trans KW.out⟩
      · have HE:=lH (show jK l=0 by rw[HS.out,List.drop_of_length_le (by rw[HL.out];omega)];rfl);clear hrest hK;go_wp2;go_ret;exact⟨jc HE.out.symm,HK.out⟩
theorem jfT {v:Value} {l:List Pd} {c:Int} {w:World} (h:zU w v l) (hc:jK l=c):Calls Tryz.prog 61 #[v] w (Say (.int .i64 c) w):=by
 subst hc;obtain⟨a,cap,rfl,_,_,hr⟩:=h;exact jcu a _ cap l w hr
theorem jfH (n:Bd) (v1:Value) (w:World) (h:zk w v1 n) :
 Calls Tryz.prog 114 #[Xp n v1] w (Say (.int .i64 (JJ n)) w):=by
 obtain⟨x0,l3,m⟩:=n;obtain⟨W0,hW0⟩:=eX (w.alloc (.cells #[.string x0,v1,.int .i64 m] 131))
 have hk0:Kept w W0:=by rw[←hW0];exact ja _ _
 have HC:=lH (show ∀W,Kept W0 W→W.cell? ⟨w.heap.size,0,none⟩=some (.string x0)∧W.cell? ⟨w.heap.size,1,none⟩=some (v1)∧W.cell? ⟨w.heap.size,2,none⟩=some (.int .i64 m) from fun W k=>by
  have:=jb w (.string x0) [v1,.int .i64 m] 131 W (by rw[hW0];exact k);exact⟨this.at_ 0 _ rfl,this.at_ 1 _ rfl,this.at_ 2 _ rfl⟩)
 obtain⟨y3,hy3⟩:=eX (Xq l3)
 obtain⟨r0,hr0⟩:=eX (isName x0)
 obtain⟨E3,N0,HV,Vd⟩:=lH4 (jap (h.sel.kept hk0) hy3) (fun W=>Vec.Yc (w:=W) h.name hr0) (show JJ ⟨x0,l3,m⟩=orL [if r0=true then 0 else 3,y3,Zs m] by rw[←hy3,←hr0];rfl) hk0;clear h hk0 hy3 hr0;obtain⟨c0,c1,c2⟩:=HC.out _ (Kept.refl _);unfold Xp;dsimp only
 cases r0 with
 | false =>
  have HW:=lH (show JJ ⟨x0,l3,m⟩=3 by rw[HV.out];rfl);go_enter Tryz.func114,Tryz.ntmps114;go_wp2_with fail
  try rw[hW0]
  refine(N0.out _).mono ?_;rintro e w1 ⟨rfl,rfl⟩;go_wp2;go_ret;exact⟨jc HW.out.symm,Vd.out⟩
 | true =>
  by_cases z:y3=0
  · subst z;by_cases z1:m<0
    · have HW:=lH (show JJ ⟨x0,l3,m⟩=1 by rw[HV.out,show Zs m=1 by unfold Zs;rw[if_pos (.inl z1)]];rfl);go_enter Tryz.func114,Tryz.ntmps114;go_wp2_with fail
      try rw[hW0]
      refine(N0.out _).mono ?_;rintro e w1 ⟨rfl,rfl⟩;go_wp2_with fail
      refine E3.out.mono ?_;rintro e w2 ⟨rfl,k⟩;obtain⟨d0,d1,d2⟩:=HC.out _ k;go_wp2;go_ret;exact⟨jc HW.out.symm,Vd.out.trans k⟩
    · by_cases z2:128<m
      · have HW:=lH (show JJ ⟨x0,l3,m⟩=1 by rw[HV.out,show Zs m=1 by unfold Zs;rw[if_pos (.inr z2)]];rfl);have z1':0≤m:=by omega
        clear z1;go_enter Tryz.func114,Tryz.ntmps114;go_wp2_with fail
        try rw[hW0]
        refine(N0.out _).mono ?_;rintro e w1 ⟨rfl,rfl⟩;go_wp2_with fail
        refine E3.out.mono ?_;rintro e w2 ⟨rfl,k⟩;obtain⟨d0,d1,d2⟩:=HC.out _ k;go_wp2;go_ret;exact⟨jc HW.out.symm,Vd.out.trans k⟩
      · have HW:=lH (show JJ ⟨x0,l3,m⟩=0 by rw[HV.out,show Zs m=0 by unfold Zs;rw[if_neg (by omega)]];rfl);have z1':0≤m:=by omega
        have z2':m≤128:=by omega
        clear z1 z2;go_enter Tryz.func114,Tryz.ntmps114;go_wp2_with fail
        try rw[hW0]
        refine(N0.out _).mono ?_;rintro e w1 ⟨rfl,rfl⟩;go_wp2_with fail
        refine E3.out.mono ?_;rintro e w2 ⟨rfl,k⟩;obtain⟨d0,d1,d2⟩:=HC.out _ k;go_wp2;go_ret;exact⟨jc HW.out.symm,Vd.out.trans k⟩
  · have HW:=lH (show JJ ⟨x0,l3,m⟩=y3 by
     rw[HV.out];show (if (0:Int)≠0 then 0 else if y3≠0 then y3 else _)=y3;rw[if_neg (by decide),if_pos z])
    have z':(y3 != 0)=true:=by simpa using z
    clear z;go_enter Tryz.func114,Tryz.ntmps114;go_wp2_with fail
    try rw[hW0]
    refine(N0.out _).mono ?_;rintro e w1 ⟨rfl,rfl⟩;go_wp2_with fail
    refine E3.out.mono ?_;rintro e w2 ⟨rfl,k⟩;go_wp2;go_ret;exact⟨jc HW.out.symm,Vd.out.trans k⟩
theorem jcr (a:Option Addr) (len cap:Nat) (l:List Bd) (w:World) (hr:zA w a len l) :
 Calls Tryz.prog 62 #[.slice a len cap] w (Say (.int .i64 (jZ l)) w):=by
 have hl:=hr.1;have hm:=hr.2.1;unfold maxLen at hm;by_cases h32:8<len
 · have HV:=lH (show jZ l=4 by unfold jZ;rw[if_pos (by omega)]);clear hr hl;go_enter Tryz.func62,Tryz.ntmps62;go_wp2;go_ret;exact⟨jc HV.out.symm,Kept.refl _⟩
 · have HV:=lH (show jZ l=zj none l by unfold jZ;rw[if_neg (by omega)]);have h32':len≤8:=by omega
   by_cases h0:len=0
   · subst h0;have HE:=lH (show jZ l=0 by rw[HV.out,List.eq_nil_of_length_eq_zero hl];rfl);clear hr hl h32;go_enter Tryz.func62,Tryz.ntmps62;go_wp2;refine wp_loop_rounds 1 ?_;rw[rounds_succ];go_wp2;go_ret;exact⟨jc HE.out.symm,Kept.refl _⟩
   · obtain⟨b,off,rfl⟩:=hr.form.resolve_left h0;have HR:=lH hr;have HL:=lH hl;clear hr hl h0 h32;go_enter Tryz.func62,Tryz.ntmps62;go_wp2;go_loopw [3] (fun i wr=>∃k:Nat,k≤len∧i=.int .i64 k∧zj (Yh l k) (l.drop k)=zj none l∧Kept w wr) (fun i _=>len-(intOf i).toNat)
     case atStart=>exact⟨0,Nat.zero_le _,rfl,rfl,Kept.refl _⟩
     case round =>
      obtain⟨k,hk,rfl,hrest,hK⟩:=hrel;obtain⟨HS,HT,HK⟩:=lH3 (HV.out.trans hrest.symm) hrest hK;by_cases hlt:k<len
      · obtain⟨n,a1,m1,c1,hn,hd,hb,p0,p1,p2,hat⟩:=(HR.out.kept hK).at_ hlt;obtain⟨VD,HD,VC⟩:=lH3 hat hd (jfU hn);have VT:=lH (fun W (kk:Kept wr W)=>jfH n (.slice a1 m1 c1) W (VD.out.kept kk));unfold Xp at VT;obtain⟨ck,hck⟩:=eX (JJ n)
        have VW:=lH hck;rw[hck] at VT;have hkk:(k:Int)<(len:Int):=by omega
        clear hrest hK hat hd hck;by_cases z1:ck=0
        · subst z1;by_cases h0:k=0
          · have hd0:decide (0<k)=false:=by subst h0;decide
            have HP:=lH (jfN (l:=l) h0 n.name);clear h0;go_wp2_with fail
            refine(VT.out _ (Kept.refl _)).mono ?_;rintro e w1 ⟨rfl,kk⟩;have KW:=lH kk;clear kk;go_wp2;go_quiet (fail)
            go_wp2;go_roundw
            case rel=>exact⟨k+1,by omega,by go_num,(show zj (Yh l (k+1)) (l.drop (k+1))=zj none l by rw[←HT.out,HD.out,jb3 VW.out HP.out,VC.out]),HK.out.trans (KW.out.trans (Kept.drewN _ _))⟩
            case measure=>simp[intOf];omega
          · have hd0:decide (0<k)=true:=by simp;omega
            have g1:0≤(k:Int)-1:=by omega
            have g2:(k:Int)-1<(len:Int):=by omega
            have g3:((k:Int)-1).toNat=k-1:=by omega
            obtain⟨n9,_,_,_,hn9,-,hb9,o0,-⟩:=(HR.out.kept HK.out).at_ (show k-1<len by omega);have HP:=lH (jfB (l:=l) h0 hn9 n.name);clear h0 hn9;by_cases n3:leS n.name n9.name=true
            · have n3':(Op.bytesLess n.name.toList n9.name.toList||n.name.toList==n9.name.toList)=true:=n3;have N3:=lH n3;clear n3;go_wp2_with fail
              refine(VT.out _ (Kept.refl _)).mono ?_;rintro e w1 ⟨rfl,kk⟩;have KW:=lH kk;have o1:=cell_later kk o0;have p99:=cell_later kk p0;clear kk;go_wp2;go_quiet (fail)
              go_wp2;go_ret;exact⟨jc (show (13:Int)=jZ l by rw[HS.out,HD.out,jfm VW.out (HP.out.trans N3.out)]),HK.out.trans (KW.out.trans (Kept.drewN _ _))⟩
            · have n3:leS n.name n9.name=false:=by simpa using n3
              have n3':(Op.bytesLess n.name.toList n9.name.toList||n.name.toList==n9.name.toList)=false:=n3;have N3:=lH n3;clear n3;go_wp2_with fail
              refine(VT.out _ (Kept.refl _)).mono ?_;rintro e w1 ⟨rfl,kk⟩;have KW:=lH kk;have o1:=cell_later kk o0;have p99:=cell_later kk p0;clear kk;go_wp2;go_quiet (fail)
              go_wp2;go_roundw
              case rel=>exact⟨k+1,by omega,by go_num,(show zj (Yh l (k+1)) (l.drop (k+1))=zj none l by rw[←HT.out,HD.out,jb3 VW.out (HP.out.trans N3.out),VC.out]),HK.out.trans (KW.out.trans (Kept.drewN _ _))⟩
              case measure=>simp[intOf];omega
        · have z1':(ck != 0)=true:=by simpa using z1
          have HB:=lH (show jZ l=ck by rw[HS.out,HD.out,jiV (by rw[VW.out];exact z1),VW.out]);clear z1;go_wp2_with fail
          refine(VT.out _ (Kept.refl _)).mono ?_;rintro e w1 ⟨rfl,kk⟩;have KW:=lH kk;clear kk;go_wp2;go_ret;exact⟨jc HB.out.symm,HK.out.trans KW.out⟩
      · have HE:=lH (show jZ l=0 by rw[HS.out,List.drop_of_length_le (by rw[HL.out];omega)];rfl);clear hrest hK;go_wp2;go_ret;exact⟨jc HE.out.symm,HK.out⟩
theorem jfk {v:Value} {l:List Bd} {c:Int} {w:World} (h:JK w v l) (hc:jZ l=c):Calls Tryz.prog 62 #[v] w (Say (.int .i64 c) w):=by
 subst hc;obtain⟨a,cap,rfl,_,_,hr⟩:=h;exact jcr a _ cap l w hr
end Go.Proofs.YtibepooajeakfaaGreat
