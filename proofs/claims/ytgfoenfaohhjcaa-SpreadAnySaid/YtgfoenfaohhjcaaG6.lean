/- What serves all packages,and package by package the contracts of the functions that the law calls. -/
import Derived.Test.YtgfoenfaohhjcaaG0
import Derived.Test.YtgfoenfaohhjcaaG1
import Derived.Test.YtgfoenfaohhjcaaG2
import Derived.Test.YtgfoenfaohhjcaaG3
import Derived.Test.YtgfoenfaohhjcaaG4
import Derived.Test.YtgfoenfaohhjcaaG5
set_option linter.unusedVariables false
set_option maxRecDepth 100000
set_option maxHeartbeats 25600000
namespace Go.Proofs.Ytgfoenfaohhjcaa
open Go.RowKit
theorem jt {x:Int} {t:List Int} (h:x=0):orL (x::t)=orL t:=by subst h;rfl
theorem jk {x v:Int} {t:List Int} (h:x=v) (hv:v≠0):orL (x::t)=v:=by
 subst h;show (if x≠0 then x else orL t)=x;rw[if_pos hv]
theorem JB {x:Int}:orL [x]=x:=by
 show (if x≠0 then x else 0)=x;by_cases h:x=0
 · rw[if_neg (fun g=>g h),h]
 · rw[if_pos h]
theorem eor {x:ByteArray} {q r:Bool} (h:(x.toList==([]:List UInt8))=q) (g:isName x=r):YG x=(q||r):=by unfold YG;rw[zB,h,g]
theorem Y4 (n:Pd) (v1 v2 v3 v4:Value) (w:World) (h:jA w v1 v2 v3 v4 n) :
 Calls Try.prog 9 #[jy n v1 v2 v3 v4] w (Say (.int .i64 (zw n)) w):=by
 obtain⟨x0,x1,x2,l1,l2,l3,l4,x3,x4,x5,x6⟩:=n;have s0:x0.size≤maxLen:=h.name;have s1:x1.size≤maxLen:=h.owner;have s3:x3.size≤maxLen:=h.key;have s5:x5.size≤maxLen:=h.node;obtain⟨W0,hW0⟩:∃Z,w.alloc (.cells #[.string x0,.string x1,.int .i64 x2,v1,v2,v3,v4,.string x3,.int .i64 x4,.string x5,.bool x6] 45)=Z:=⟨_,rfl⟩
 have hk0:Kept w W0:=by rw[←hW0];exact ja _ _
 have HC:=lH (show ∀W,Kept W0 W→W.cell? ⟨w.heap.size,0,none⟩=some (.string x0)∧W.cell? ⟨w.heap.size,1,none⟩=some (.string x1)∧W.cell? ⟨w.heap.size,2,none⟩=some (.int .i64 x2)∧W.cell? ⟨w.heap.size,3,none⟩=some (v1)∧W.cell? ⟨w.heap.size,4,none⟩=some (v2)∧W.cell? ⟨w.heap.size,5,none⟩=some (v3)∧W.cell? ⟨w.heap.size,6,none⟩=some (v4)∧W.cell? ⟨w.heap.size,7,none⟩=some (.string x3)∧W.cell? ⟨w.heap.size,8,none⟩=some (.int .i64 x4)∧W.cell? ⟨w.heap.size,9,none⟩=some (.string x5)∧W.cell? ⟨w.heap.size,10,none⟩=some (.bool x6) from fun W k=>by
  have:=jd w (.string x0) [.string x1,.int .i64 x2,v1,v2,v3,v4,.string x3,.int .i64 x4,.string x5,.bool x6] 45 W (by rw[hW0];exact k);exact⟨this.at_ 0 _ rfl,this.at_ 1 _ rfl,this.at_ 2 _ rfl,this.at_ 3 _ rfl,this.at_ 4 _ rfl,this.at_ 5 _ rfl,this.at_ 6 _ rfl,this.at_ 7 _ rfl,this.at_ 8 _ rfl,this.at_ 9 _ rfl,this.at_ 10 _ rfl⟩)
 obtain⟨y1,hy1⟩:∃y,Vec.jn l1=y:=⟨_,rfl⟩
 obtain⟨y2,hy2⟩:∃y,JK l2=y:=⟨_,rfl⟩
 obtain⟨y3,hy3⟩:∃y,Zr l3=y:=⟨_,rfl⟩
 obtain⟨y4,hy4⟩:∃y,Ju l4=y:=⟨_,rfl⟩
 have E1:=lH (fun W (k:Kept W0 W)=>Vec.zR (h.need.kept (hk0.trans k)) hy1);have E2:=lH (fun W (k:Kept W0 W)=>zR (h.labels.kept (hk0.trans k)) hy2);have E3:=lH (fun W (k:Kept W0 W)=>Yt (h.sel.kept (hk0.trans k)) hy3);have E4:=lH (fun W (k:Kept W0 W)=>jbs (h.tols.kept (hk0.trans k)) hy4);have HV:=lH (show zw ⟨x0,x1,x2,l1,l2,l3,l4,x3,x4,x5,x6⟩=orL [Zo x0 x1,YQ x2 x6,y1,y2,y3,y4,ZI x3 x4,YP x5] by rw[←hy1,←hy2,←hy3,←hy4];rfl);obtain⟨r0,hr0⟩:∃r,isName x0=r:=⟨_,rfl⟩
 obtain⟨r1,hr1⟩:∃r,isName x1=r:=⟨_,rfl⟩
 obtain⟨r3,hr3⟩:∃r,isName x3=r:=⟨_,rfl⟩
 obtain⟨r5,hr5⟩:∃r,isName x5=r:=⟨_,rfl⟩
 obtain⟨q1,hq1⟩:∃q,(x1.toList==([]:List UInt8))=q:=⟨_,rfl⟩
 obtain⟨q3,hq3⟩:∃q,(x3.toList==([]:List UInt8))=q:=⟨_,rfl⟩
 obtain⟨q5,hq5⟩:∃q,(x5.toList==([]:List UInt8))=q:=⟨_,rfl⟩
 have N0:=lH (fun W=>Vec.JN (w:=W) s0 hr0);have N1:=lH (fun W=>Vec.JN (w:=W) s1 hr1);have N3:=lH (fun W=>Vec.JN (w:=W) s3 hr3);have N5:=lH (fun W=>Vec.JN (w:=W) s5 hr5);have HN:=lH (show Zo x0 x1=if r0=true∧(q1||r1)=true then 0 else 3 by unfold Zo;rw[eor hq1 hr1,hr0]);have HS:=lH (show ZI x3 x4=if (q3||r3)=false then 3 else if (if q3=true then decide (x4≠0) else decide (x4<1)||decide (128<x4))=true then 1 else 0 by unfold ZI X9;rw[eor hq3 hr3,zB,hq3]);have HD:=lH (show YP x5=if (q5||r5)=true then 0 else 3 by unfold YP;rw[eor hq5 hr5]);obtain⟨zz,hzz⟩:∃z,(x2==-1)=z:=⟨_,rfl⟩
 have HP:=lH (show YQ x2 x6=if (decide (x2 < -1)||(decide (1000000<x2)||(zz != x6)))=true then 1 else 0 by unfold YQ jaQ;rw[show decide (x2=-1)=zz from hzz]);have HK0:=lH hk0;obtain⟨c0,c1,c2,c3,c4,c5,c6,c7,c8,c9,c10⟩:=HC.out _ (Kept.refl _);clear h hk0 hy1 hy2 hy3 hy4 hr0 hr1 hr3 hr5 s0 s1 s3 s5;unfold jy;dsimp only;go_enter Try.func9,Try.ntmps9;go_wp2_with fail
 try rw[hW0]
 clear hW0;refine(N0.out _).mono ?_;rintro e w9 ⟨rfl,rfl⟩
 cases r0 with
 | false =>
  have HV:=lH (HV.out.trans (jk (v:=3) (HN.out.trans (by simp)) (by decide)));go_wp2;go_ret;exact⟨jb HV.out.symm,HK0.out.trans (Kept.refl _)⟩
 | true =>
  cases q1 with
  | true =>
   have HV:=lH (HV.out.trans (jt (HN.out.trans (by simp))));by_cases p1:x2 < -1
   · have HV:=lH (HV.out.trans (jk (v:=1) (HP.out.trans (by simp[p1])) (by decide)));clear hzz;go_wp2;go_ret;exact⟨jb HV.out.symm,HK0.out.trans (Kept.refl _)⟩
   · have p1:-1≤x2:=by omega
     by_cases p2:1000000<x2
     · have HV:=lH (HV.out.trans (jk (v:=1) (HP.out.trans (by simp[p2])) (by decide)));clear hzz;go_wp2;go_ret;exact⟨jb HV.out.symm,HK0.out.trans (Kept.refl _)⟩
     · have p2:x2≤1000000:=by omega
       have HP:=lH (HP.out.trans (show (if (decide (x2 < -1)||(decide (1000000<x2)||(zz != x6)))=true then 1 else 0)=(if (zz != x6)=true then 1 else 0) by rw[show decide (x2 < -1)=false by simp;omega,show decide (1000000<x2)=false by simp;omega];rfl))
       cases zz<;>cases x6
       ·
        have HV:=lH (HV.out.trans (jt HP.out));go_wp2_with fail
        refine(E1.out _ (Kept.refl _)).mono ?_;rintro e w1 ⟨rfl,k⟩;have K1:=lH (Kept.trans (Kept.refl _) k);clear k c0 c1 c2 c3 c4 c5 c6 c7 c8 c9 c10;obtain⟨c0,c1,c2,c3,c4,c5,c6,c7,c8,c9,c10⟩:=HC.out _ K1.out;by_cases z1:y1=0;rotate_left
        · have z9:(y1 != 0)=true:=by simpa using z1
          have HV:=lH (HV.out.trans (jk rfl z1));clear z1;go_wp2;go_ret;exact⟨jb HV.out.symm,HK0.out.trans K1.out⟩
        subst z1;have HV:=lH (HV.out.trans (jt rfl));go_wp2_with fail
        refine(E2.out _ K1.out).mono ?_;rintro e w2 ⟨rfl,k⟩;have K2:=lH (Kept.trans K1.out k);clear k c0 c1 c2 c3 c4 c5 c6 c7 c8 c9 c10;obtain⟨c0,c1,c2,c3,c4,c5,c6,c7,c8,c9,c10⟩:=HC.out _ K2.out;by_cases z2:y2=0;rotate_left
        · have z9:(y2 != 0)=true:=by simpa using z2
          have HV:=lH (HV.out.trans (jk rfl z2));clear z2;go_wp2;go_ret;exact⟨jb HV.out.symm,HK0.out.trans K2.out⟩
        subst z2;have HV:=lH (HV.out.trans (jt rfl));go_wp2_with fail
        refine(E3.out _ K2.out).mono ?_;rintro e w3 ⟨rfl,k⟩;have K3:=lH (Kept.trans K2.out k);clear k c0 c1 c2 c3 c4 c5 c6 c7 c8 c9 c10;obtain⟨c0,c1,c2,c3,c4,c5,c6,c7,c8,c9,c10⟩:=HC.out _ K3.out;by_cases z3:y3=0;rotate_left
        · have z9:(y3 != 0)=true:=by simpa using z3
          have HV:=lH (HV.out.trans (jk rfl z3));clear z3;go_wp2;go_ret;exact⟨jb HV.out.symm,HK0.out.trans K3.out⟩
        subst z3;have HV:=lH (HV.out.trans (jt rfl));go_wp2_with fail
        refine(E4.out _ K3.out).mono ?_;rintro e w4 ⟨rfl,k⟩;have K4:=lH (Kept.trans K3.out k);clear k c0 c1 c2 c3 c4 c5 c6 c7 c8 c9 c10;obtain⟨c0,c1,c2,c3,c4,c5,c6,c7,c8,c9,c10⟩:=HC.out _ K4.out;by_cases z4:y4=0;rotate_left
        · have z9:(y4 != 0)=true:=by simpa using z4
          have HV:=lH (HV.out.trans (jk rfl z4));clear z4;go_wp2;go_ret;exact⟨jb HV.out.symm,HK0.out.trans K4.out⟩
        subst z4;have HV:=lH (HV.out.trans (jt rfl))
        cases q3 with
        | true =>
         by_cases m1:x4=0
         · subst m1;have HV:=lH (HV.out.trans (jt HS.out));have HV:=lH (HV.out.trans (JB.trans HD.out))
           cases q5 with
           | true =>
            go_wp2;go_ret;exact⟨jb HV.out.symm,HK0.out.trans K4.out⟩
           | false =>
            go_wp2_with fail
            refine(N5.out _).mono ?_;rintro e w9 ⟨rfl,rfl⟩
            cases r5 with
            | false =>
             go_wp2;go_ret;exact⟨jb HV.out.symm,HK0.out.trans K4.out⟩
            | true =>
             go_wp2;go_ret;exact⟨jb HV.out.symm,HK0.out.trans K4.out⟩
         · have HV:=lH (HV.out.trans (jk (v:=1) (HS.out.trans (by simp[m1])) (by decide)));have m1:(x4 != 0)=true:=by simpa using m1
           go_wp2;go_ret;exact⟨jb HV.out.symm,HK0.out.trans K4.out⟩
        | false =>
         go_wp2_with fail
         refine(N3.out _).mono ?_;rintro e w9 ⟨rfl,rfl⟩
         cases r3 with
         | false =>
          have HV:=lH (HV.out.trans (jk (v:=3) HS.out (by decide)));go_wp2;go_ret;exact⟨jb HV.out.symm,HK0.out.trans K4.out⟩
         | true =>
          by_cases m1:x4<1
          · have HV:=lH (HV.out.trans (jk (v:=1) (HS.out.trans (by simp[m1])) (by decide)));go_wp2;go_ret;exact⟨jb HV.out.symm,HK0.out.trans K4.out⟩
          · have m1:1≤x4:=by omega
            by_cases m2:128<x4
            · have HV:=lH (HV.out.trans (jk (v:=1) (HS.out.trans (by simp[m2])) (by decide)));go_wp2;go_ret;exact⟨jb HV.out.symm,HK0.out.trans K4.out⟩
            · have m2:x4≤128:=by omega
              have HV:=lH (HV.out.trans (jt (HS.out.trans (by rw[show decide (x4<1)=false by simp;omega,show decide (128<x4)=false by simp;omega];rfl))));have HV:=lH (HV.out.trans (JB.trans HD.out))
              cases q5 with
              | true =>
               go_wp2;go_ret;exact⟨jb HV.out.symm,HK0.out.trans K4.out⟩
              | false =>
               go_wp2_with fail
               refine(N5.out _).mono ?_;rintro e w9 ⟨rfl,rfl⟩
               cases r5 with
               | false =>
                go_wp2;go_ret;exact⟨jb HV.out.symm,HK0.out.trans K4.out⟩
               | true =>
                go_wp2;go_ret;exact⟨jb HV.out.symm,HK0.out.trans K4.out⟩
       ·
        have HV:=lH (HV.out.trans (jk (v:=1) HP.out (by decide)));go_wp2;go_ret;exact⟨jb HV.out.symm,HK0.out.trans (Kept.refl _)⟩
       ·
        have HV:=lH (HV.out.trans (jk (v:=1) HP.out (by decide)));go_wp2;go_ret;exact⟨jb HV.out.symm,HK0.out.trans (Kept.refl _)⟩
       ·
        have HV:=lH (HV.out.trans (jt HP.out));go_wp2_with fail
        refine(E1.out _ (Kept.refl _)).mono ?_;rintro e w1 ⟨rfl,k⟩;have K1:=lH (Kept.trans (Kept.refl _) k);clear k c0 c1 c2 c3 c4 c5 c6 c7 c8 c9 c10;obtain⟨c0,c1,c2,c3,c4,c5,c6,c7,c8,c9,c10⟩:=HC.out _ K1.out;by_cases z1:y1=0;rotate_left
        · have z9:(y1 != 0)=true:=by simpa using z1
          have HV:=lH (HV.out.trans (jk rfl z1));clear z1;go_wp2;go_ret;exact⟨jb HV.out.symm,HK0.out.trans K1.out⟩
        subst z1;have HV:=lH (HV.out.trans (jt rfl));go_wp2_with fail
        refine(E2.out _ K1.out).mono ?_;rintro e w2 ⟨rfl,k⟩;have K2:=lH (Kept.trans K1.out k);clear k c0 c1 c2 c3 c4 c5 c6 c7 c8 c9 c10;obtain⟨c0,c1,c2,c3,c4,c5,c6,c7,c8,c9,c10⟩:=HC.out _ K2.out;by_cases z2:y2=0;rotate_left
        · have z9:(y2 != 0)=true:=by simpa using z2
          have HV:=lH (HV.out.trans (jk rfl z2));clear z2;go_wp2;go_ret;exact⟨jb HV.out.symm,HK0.out.trans K2.out⟩
        subst z2;have HV:=lH (HV.out.trans (jt rfl));go_wp2_with fail
        refine(E3.out _ K2.out).mono ?_;rintro e w3 ⟨rfl,k⟩;have K3:=lH (Kept.trans K2.out k);clear k c0 c1 c2 c3 c4 c5 c6 c7 c8 c9 c10;obtain⟨c0,c1,c2,c3,c4,c5,c6,c7,c8,c9,c10⟩:=HC.out _ K3.out;by_cases z3:y3=0;rotate_left
        · have z9:(y3 != 0)=true:=by simpa using z3
          have HV:=lH (HV.out.trans (jk rfl z3));clear z3;go_wp2;go_ret;exact⟨jb HV.out.symm,HK0.out.trans K3.out⟩
        subst z3;have HV:=lH (HV.out.trans (jt rfl));go_wp2_with fail
        refine(E4.out _ K3.out).mono ?_;rintro e w4 ⟨rfl,k⟩;have K4:=lH (Kept.trans K3.out k);clear k c0 c1 c2 c3 c4 c5 c6 c7 c8 c9 c10;obtain⟨c0,c1,c2,c3,c4,c5,c6,c7,c8,c9,c10⟩:=HC.out _ K4.out;by_cases z4:y4=0;rotate_left
        · have z9:(y4 != 0)=true:=by simpa using z4
          have HV:=lH (HV.out.trans (jk rfl z4));clear z4;go_wp2;go_ret;exact⟨jb HV.out.symm,HK0.out.trans K4.out⟩
        subst z4;have HV:=lH (HV.out.trans (jt rfl))
        cases q3 with
        | true =>
         by_cases m1:x4=0
         · subst m1;have HV:=lH (HV.out.trans (jt HS.out));have HV:=lH (HV.out.trans (JB.trans HD.out))
           cases q5 with
           | true =>
            go_wp2;go_ret;exact⟨jb HV.out.symm,HK0.out.trans K4.out⟩
           | false =>
            go_wp2_with fail
            refine(N5.out _).mono ?_;rintro e w9 ⟨rfl,rfl⟩
            cases r5 with
            | false =>
             go_wp2;go_ret;exact⟨jb HV.out.symm,HK0.out.trans K4.out⟩
            | true =>
             go_wp2;go_ret;exact⟨jb HV.out.symm,HK0.out.trans K4.out⟩
         · have HV:=lH (HV.out.trans (jk (v:=1) (HS.out.trans (by simp[m1])) (by decide)));have m1:(x4 != 0)=true:=by simpa using m1
           go_wp2;go_ret;exact⟨jb HV.out.symm,HK0.out.trans K4.out⟩
        | false =>
         go_wp2_with fail
         refine(N3.out _).mono ?_;rintro e w9 ⟨rfl,rfl⟩
         cases r3 with
         | false =>
          have HV:=lH (HV.out.trans (jk (v:=3) HS.out (by decide)));go_wp2;go_ret;exact⟨jb HV.out.symm,HK0.out.trans K4.out⟩
         | true =>
          by_cases m1:x4<1
          · have HV:=lH (HV.out.trans (jk (v:=1) (HS.out.trans (by simp[m1])) (by decide)));go_wp2;go_ret;exact⟨jb HV.out.symm,HK0.out.trans K4.out⟩
          · have m1:1≤x4:=by omega
            by_cases m2:128<x4
            · have HV:=lH (HV.out.trans (jk (v:=1) (HS.out.trans (by simp[m2])) (by decide)));go_wp2;go_ret;exact⟨jb HV.out.symm,HK0.out.trans K4.out⟩
            · have m2:x4≤128:=by omega
              have HV:=lH (HV.out.trans (jt (HS.out.trans (by rw[show decide (x4<1)=false by simp;omega,show decide (128<x4)=false by simp;omega];rfl))));have HV:=lH (HV.out.trans (JB.trans HD.out))
              cases q5 with
              | true =>
               go_wp2;go_ret;exact⟨jb HV.out.symm,HK0.out.trans K4.out⟩
              | false =>
               go_wp2_with fail
               refine(N5.out _).mono ?_;rintro e w9 ⟨rfl,rfl⟩
               cases r5 with
               | false =>
                go_wp2;go_ret;exact⟨jb HV.out.symm,HK0.out.trans K4.out⟩
               | true =>
                go_wp2;go_ret;exact⟨jb HV.out.symm,HK0.out.trans K4.out⟩
  | false =>
   go_wp2_with fail
   refine(N1.out _).mono ?_;rintro e w9 ⟨rfl,rfl⟩
   cases r1 with
   | false =>
    have HV:=lH (HV.out.trans (jk (v:=3) (HN.out.trans (by simp)) (by decide)));go_wp2;go_ret;exact⟨jb HV.out.symm,HK0.out.trans (Kept.refl _)⟩
   | true =>
    have HV:=lH (HV.out.trans (jt (HN.out.trans (by simp))));by_cases p1:x2 < -1
    · have HV:=lH (HV.out.trans (jk (v:=1) (HP.out.trans (by simp[p1])) (by decide)));clear hzz;go_wp2;go_ret;exact⟨jb HV.out.symm,HK0.out.trans (Kept.refl _)⟩
    · have p1:-1≤x2:=by omega
      by_cases p2:1000000<x2
      · have HV:=lH (HV.out.trans (jk (v:=1) (HP.out.trans (by simp[p2])) (by decide)));clear hzz;go_wp2;go_ret;exact⟨jb HV.out.symm,HK0.out.trans (Kept.refl _)⟩
      · have p2:x2≤1000000:=by omega
        have HP:=lH (HP.out.trans (show (if (decide (x2 < -1)||(decide (1000000<x2)||(zz != x6)))=true then 1 else 0)=(if (zz != x6)=true then 1 else 0) by rw[show decide (x2 < -1)=false by simp;omega,show decide (1000000<x2)=false by simp;omega];rfl))
        cases zz<;>cases x6
        ·
         have HV:=lH (HV.out.trans (jt HP.out));go_wp2_with fail
         refine(E1.out _ (Kept.refl _)).mono ?_;rintro e w1 ⟨rfl,k⟩;have K1:=lH (Kept.trans (Kept.refl _) k);clear k c0 c1 c2 c3 c4 c5 c6 c7 c8 c9 c10;obtain⟨c0,c1,c2,c3,c4,c5,c6,c7,c8,c9,c10⟩:=HC.out _ K1.out;by_cases z1:y1=0;rotate_left
         · have z9:(y1 != 0)=true:=by simpa using z1
           have HV:=lH (HV.out.trans (jk rfl z1));clear z1;go_wp2;go_ret;exact⟨jb HV.out.symm,HK0.out.trans K1.out⟩
         subst z1;have HV:=lH (HV.out.trans (jt rfl));go_wp2_with fail
         refine(E2.out _ K1.out).mono ?_;rintro e w2 ⟨rfl,k⟩;have K2:=lH (Kept.trans K1.out k);clear k c0 c1 c2 c3 c4 c5 c6 c7 c8 c9 c10;obtain⟨c0,c1,c2,c3,c4,c5,c6,c7,c8,c9,c10⟩:=HC.out _ K2.out;by_cases z2:y2=0;rotate_left
         · have z9:(y2 != 0)=true:=by simpa using z2
           have HV:=lH (HV.out.trans (jk rfl z2));clear z2;go_wp2;go_ret;exact⟨jb HV.out.symm,HK0.out.trans K2.out⟩
         subst z2;have HV:=lH (HV.out.trans (jt rfl));go_wp2_with fail
         refine(E3.out _ K2.out).mono ?_;rintro e w3 ⟨rfl,k⟩;have K3:=lH (Kept.trans K2.out k);clear k c0 c1 c2 c3 c4 c5 c6 c7 c8 c9 c10;obtain⟨c0,c1,c2,c3,c4,c5,c6,c7,c8,c9,c10⟩:=HC.out _ K3.out;by_cases z3:y3=0;rotate_left
         · have z9:(y3 != 0)=true:=by simpa using z3
           have HV:=lH (HV.out.trans (jk rfl z3));clear z3;go_wp2;go_ret;exact⟨jb HV.out.symm,HK0.out.trans K3.out⟩
         subst z3;have HV:=lH (HV.out.trans (jt rfl));go_wp2_with fail
         refine(E4.out _ K3.out).mono ?_;rintro e w4 ⟨rfl,k⟩;have K4:=lH (Kept.trans K3.out k);clear k c0 c1 c2 c3 c4 c5 c6 c7 c8 c9 c10;obtain⟨c0,c1,c2,c3,c4,c5,c6,c7,c8,c9,c10⟩:=HC.out _ K4.out;by_cases z4:y4=0;rotate_left
         · have z9:(y4 != 0)=true:=by simpa using z4
           have HV:=lH (HV.out.trans (jk rfl z4));clear z4;go_wp2;go_ret;exact⟨jb HV.out.symm,HK0.out.trans K4.out⟩
         subst z4;have HV:=lH (HV.out.trans (jt rfl))
         cases q3 with
         | true =>
          by_cases m1:x4=0
          · subst m1;have HV:=lH (HV.out.trans (jt HS.out));have HV:=lH (HV.out.trans (JB.trans HD.out))
            cases q5 with
            | true =>
             go_wp2;go_ret;exact⟨jb HV.out.symm,HK0.out.trans K4.out⟩
            | false =>
             go_wp2_with fail
             refine(N5.out _).mono ?_;rintro e w9 ⟨rfl,rfl⟩
             cases r5 with
             | false =>
              go_wp2;go_ret;exact⟨jb HV.out.symm,HK0.out.trans K4.out⟩
             | true =>
              go_wp2;go_ret;exact⟨jb HV.out.symm,HK0.out.trans K4.out⟩
          · have HV:=lH (HV.out.trans (jk (v:=1) (HS.out.trans (by simp[m1])) (by decide)));have m1:(x4 != 0)=true:=by simpa using m1
            go_wp2;go_ret;exact⟨jb HV.out.symm,HK0.out.trans K4.out⟩
         | false =>
          go_wp2_with fail
          refine(N3.out _).mono ?_;rintro e w9 ⟨rfl,rfl⟩
          cases r3 with
          | false =>
           have HV:=lH (HV.out.trans (jk (v:=3) HS.out (by decide)));go_wp2;go_ret;exact⟨jb HV.out.symm,HK0.out.trans K4.out⟩
          | true =>
           by_cases m1:x4<1
           · have HV:=lH (HV.out.trans (jk (v:=1) (HS.out.trans (by simp[m1])) (by decide)));go_wp2;go_ret;exact⟨jb HV.out.symm,HK0.out.trans K4.out⟩
           · have m1:1≤x4:=by omega
             by_cases m2:128<x4
             · have HV:=lH (HV.out.trans (jk (v:=1) (HS.out.trans (by simp[m2])) (by decide)));go_wp2;go_ret;exact⟨jb HV.out.symm,HK0.out.trans K4.out⟩
             · have m2:x4≤128:=by omega
               have HV:=lH (HV.out.trans (jt (HS.out.trans (by rw[show decide (x4<1)=false by simp;omega,show decide (128<x4)=false by simp;omega];rfl))));have HV:=lH (HV.out.trans (JB.trans HD.out))
               cases q5 with
               | true =>
                go_wp2;go_ret;exact⟨jb HV.out.symm,HK0.out.trans K4.out⟩
               | false =>
                go_wp2_with fail
                refine(N5.out _).mono ?_;rintro e w9 ⟨rfl,rfl⟩
                cases r5 with
                | false =>
                 go_wp2;go_ret;exact⟨jb HV.out.symm,HK0.out.trans K4.out⟩
                | true =>
                 go_wp2;go_ret;exact⟨jb HV.out.symm,HK0.out.trans K4.out⟩
        ·
         have HV:=lH (HV.out.trans (jk (v:=1) HP.out (by decide)));go_wp2;go_ret;exact⟨jb HV.out.symm,HK0.out.trans (Kept.refl _)⟩
        ·
         have HV:=lH (HV.out.trans (jk (v:=1) HP.out (by decide)));go_wp2;go_ret;exact⟨jb HV.out.symm,HK0.out.trans (Kept.refl _)⟩
        ·
         have HV:=lH (HV.out.trans (jt HP.out));go_wp2_with fail
         refine(E1.out _ (Kept.refl _)).mono ?_;rintro e w1 ⟨rfl,k⟩;have K1:=lH (Kept.trans (Kept.refl _) k);clear k c0 c1 c2 c3 c4 c5 c6 c7 c8 c9 c10;obtain⟨c0,c1,c2,c3,c4,c5,c6,c7,c8,c9,c10⟩:=HC.out _ K1.out;by_cases z1:y1=0;rotate_left
         · have z9:(y1 != 0)=true:=by simpa using z1
           have HV:=lH (HV.out.trans (jk rfl z1));clear z1;go_wp2;go_ret;exact⟨jb HV.out.symm,HK0.out.trans K1.out⟩
         subst z1;have HV:=lH (HV.out.trans (jt rfl));go_wp2_with fail
         refine(E2.out _ K1.out).mono ?_;rintro e w2 ⟨rfl,k⟩;have K2:=lH (Kept.trans K1.out k);clear k c0 c1 c2 c3 c4 c5 c6 c7 c8 c9 c10;obtain⟨c0,c1,c2,c3,c4,c5,c6,c7,c8,c9,c10⟩:=HC.out _ K2.out;by_cases z2:y2=0;rotate_left
         · have z9:(y2 != 0)=true:=by simpa using z2
           have HV:=lH (HV.out.trans (jk rfl z2));clear z2;go_wp2;go_ret;exact⟨jb HV.out.symm,HK0.out.trans K2.out⟩
         subst z2;have HV:=lH (HV.out.trans (jt rfl));go_wp2_with fail
         refine(E3.out _ K2.out).mono ?_;rintro e w3 ⟨rfl,k⟩;have K3:=lH (Kept.trans K2.out k);clear k c0 c1 c2 c3 c4 c5 c6 c7 c8 c9 c10;obtain⟨c0,c1,c2,c3,c4,c5,c6,c7,c8,c9,c10⟩:=HC.out _ K3.out;by_cases z3:y3=0;rotate_left
         · have z9:(y3 != 0)=true:=by simpa using z3
           have HV:=lH (HV.out.trans (jk rfl z3));clear z3;go_wp2;go_ret;exact⟨jb HV.out.symm,HK0.out.trans K3.out⟩
         subst z3;have HV:=lH (HV.out.trans (jt rfl));go_wp2_with fail
         refine(E4.out _ K3.out).mono ?_;rintro e w4 ⟨rfl,k⟩;have K4:=lH (Kept.trans K3.out k);clear k c0 c1 c2 c3 c4 c5 c6 c7 c8 c9 c10;obtain⟨c0,c1,c2,c3,c4,c5,c6,c7,c8,c9,c10⟩:=HC.out _ K4.out;by_cases z4:y4=0;rotate_left
         · have z9:(y4 != 0)=true:=by simpa using z4
           have HV:=lH (HV.out.trans (jk rfl z4));clear z4;go_wp2;go_ret;exact⟨jb HV.out.symm,HK0.out.trans K4.out⟩
         subst z4;have HV:=lH (HV.out.trans (jt rfl))
         cases q3 with
         | true =>
          by_cases m1:x4=0
          · subst m1;have HV:=lH (HV.out.trans (jt HS.out));have HV:=lH (HV.out.trans (JB.trans HD.out))
            cases q5 with
            | true =>
             go_wp2;go_ret;exact⟨jb HV.out.symm,HK0.out.trans K4.out⟩
            | false =>
             go_wp2_with fail
             refine(N5.out _).mono ?_;rintro e w9 ⟨rfl,rfl⟩
             cases r5 with
             | false =>
              go_wp2;go_ret;exact⟨jb HV.out.symm,HK0.out.trans K4.out⟩
             | true =>
              go_wp2;go_ret;exact⟨jb HV.out.symm,HK0.out.trans K4.out⟩
          · have HV:=lH (HV.out.trans (jk (v:=1) (HS.out.trans (by simp[m1])) (by decide)));have m1:(x4 != 0)=true:=by simpa using m1
            go_wp2;go_ret;exact⟨jb HV.out.symm,HK0.out.trans K4.out⟩
         | false =>
          go_wp2_with fail
          refine(N3.out _).mono ?_;rintro e w9 ⟨rfl,rfl⟩
          cases r3 with
          | false =>
           have HV:=lH (HV.out.trans (jk (v:=3) HS.out (by decide)));go_wp2;go_ret;exact⟨jb HV.out.symm,HK0.out.trans K4.out⟩
          | true =>
           by_cases m1:x4<1
           · have HV:=lH (HV.out.trans (jk (v:=1) (HS.out.trans (by simp[m1])) (by decide)));go_wp2;go_ret;exact⟨jb HV.out.symm,HK0.out.trans K4.out⟩
           · have m1:1≤x4:=by omega
             by_cases m2:128<x4
             · have HV:=lH (HV.out.trans (jk (v:=1) (HS.out.trans (by simp[m2])) (by decide)));go_wp2;go_ret;exact⟨jb HV.out.symm,HK0.out.trans K4.out⟩
             · have m2:x4≤128:=by omega
               have HV:=lH (HV.out.trans (jt (HS.out.trans (by rw[show decide (x4<1)=false by simp;omega,show decide (128<x4)=false by simp;omega];rfl))));have HV:=lH (HV.out.trans (JB.trans HD.out))
               cases q5 with
               | true =>
                go_wp2;go_ret;exact⟨jb HV.out.symm,HK0.out.trans K4.out⟩
               | false =>
                go_wp2_with fail
                refine(N5.out _).mono ?_;rintro e w9 ⟨rfl,rfl⟩
                cases r5 with
                | false =>
                 go_wp2;go_ret;exact⟨jb HV.out.symm,HK0.out.trans K4.out⟩
                | true =>
                 go_wp2;go_ret;exact⟨jb HV.out.symm,HK0.out.trans K4.out⟩
theorem jce {v:Value} {n:Pd} {c:Int} {w:World} (h:Zk w v n) (hc:zw n=c):Calls Try.prog 9 #[v] w (Say (.int .i64 c) w):=by
 subst hc;obtain⟨v1,v2,v3,v4,rfl,h⟩:=h;exact Y4 n v1 v2 v3 v4 w h
theorem XL (a:Option Addr) (len cap:Nat) (l:List Pd) (w:World) (hr:jN w a len l) :
 Calls Try.prog 57 #[.slice a len cap] w (Say (.int .i64 (jw l)) w):=by
 have hl:=hr.1;have hm:=hr.2.1;unfold maxLen at hm;by_cases h32:128<len
 · have HV:=lH (show jw l=4 by unfold jw;rw[if_pos (by omega)]);clear hr hl;go_enter Try.func57,Try.ntmps57;go_wp2;go_ret;exact⟨jb HV.out.symm,Kept.refl _⟩
 · have HV:=lH (show jw l=jV none l by unfold jw;rw[if_neg (by omega)]);have h32':len≤128:=by omega
   by_cases h0:len=0
   · subst h0;have HE:=lH (show jw l=0 by rw[HV.out,List.eq_nil_of_length_eq_zero hl];rfl);clear hr hl h32;go_enter Try.func57,Try.ntmps57;go_wp2;refine wp_loop_rounds 1 ?_;rw[rounds_succ];go_wp2;go_ret;exact⟨jb HE.out.symm,Kept.refl _⟩
   · obtain⟨b,off,rfl⟩:=hr.form.resolve_left h0;have HR:=lH hr;have HL:=lH hl;clear hr hl h0 h32;go_enter Try.func57,Try.ntmps57;go_wp2;go_loopw [3] (fun i wr=>∃k:Nat,k≤len∧i=.int .i64 k∧jV (JH l k) (l.drop k)=jV none l∧Kept w wr) (fun i _=>len-(intOf i).toNat)
     case atStart=>exact⟨0,Nat.zero_le _,rfl,rfl,Kept.refl _⟩
     case round =>
      obtain⟨k,hk,rfl,hrest,hK⟩:=hrel;have HS:=lH (HV.out.trans hrest.symm);have HT:=lH hrest;have HK:=lH hK;by_cases hlt:k<len
      · obtain⟨n,a1,m1,c1,a2,m2,c2,a3,m3,c3,a4,m4,c4,hn,hd,hb,p0,p1,p2,p3,p4,p5,p6,p7,p8,p9,p10,hat⟩:=(HR.out.kept hK).at_ hlt;have HAT:=lH hat;have HD:=lH hd;have HNX:=lH (jas hn);have HCK:=lH (fun W (kk:Kept wr W)=>Y4 n (.slice a1 m1 c1) (.slice a2 m2 c2) (.slice a3 m3 c3) (.slice a4 m4 c4) W (HAT.out.kept kk));unfold jy at HCK;obtain⟨ck,hck⟩:∃x,zw n=x:=⟨_,rfl⟩
        have HCN:=lH hck;rw[hck] at HCK;have hkk:(k:Int)<(len:Int):=by omega
        clear hrest hK hat hd hck;by_cases z1:ck=0
        · subst z1;by_cases h0:k=0
          · have hd0:decide (0<k)=false:=by subst h0;decide
            have HP:=lH (jav (l:=l) h0 n.name);clear h0;go_wp2_with fail
            refine(HCK.out _ (Kept.refl _)).mono ?_;rintro e w1 ⟨rfl,kk⟩;have KW:=lH kk;clear kk;go_wp2;go_quiet (fail)
            go_wp2;go_roundw
            case rel=>exact⟨k+1,by omega,by go_num,(show jV (JH l (k+1)) (l.drop (k+1))=jV none l by rw[←HT.out,HD.out,Zw HCN.out HP.out,HNX.out]),HK.out.trans (KW.out.trans (Kept.drewN _ _))⟩
            case measure=>simp[intOf];omega
          · have hd0:decide (0<k)=true:=by simp;omega
            have g1:0≤(k:Int)-1:=by omega
            have g2:(k:Int)-1<(len:Int):=by omega
            have g3:((k:Int)-1).toNat=k-1:=by omega
            obtain⟨n9,_,_,_,_,_,_,_,_,_,_,_,_,hn9,-,hb9,o0,-⟩:=(HR.out.kept HK.out).at_ (show k-1<len by omega);have HP:=lH (jaz (l:=l) h0 hn9 n.name);clear h0 hn9;by_cases n3:leS n.name n9.name=true
            · have n3':(Op.bytesLess n.name.toList n9.name.toList||n.name.toList==n9.name.toList)=true:=n3;have N3:=lH n3;clear n3;go_wp2_with fail
              refine(HCK.out _ (Kept.refl _)).mono ?_;rintro e w1 ⟨rfl,kk⟩;have KW:=lH kk;have o1:=cell_later kk o0;have p99:=cell_later kk p0;clear kk;go_wp2;go_quiet (fail)
              go_wp2;go_ret;exact⟨jb (show (13:Int)=jw l by rw[HS.out,HD.out,Z9 HCN.out (HP.out.trans N3.out)]),HK.out.trans (KW.out.trans (Kept.drewN _ _))⟩
            · have n3:leS n.name n9.name=false:=by simpa using n3
              have n3':(Op.bytesLess n.name.toList n9.name.toList||n.name.toList==n9.name.toList)=false:=n3;have N3:=lH n3;clear n3;go_wp2_with fail
              refine(HCK.out _ (Kept.refl _)).mono ?_;rintro e w1 ⟨rfl,kk⟩;have KW:=lH kk;have o1:=cell_later kk o0;have p99:=cell_later kk p0;clear kk;go_wp2;go_quiet (fail)
              go_wp2;go_roundw
              case rel=>exact⟨k+1,by omega,by go_num,(show jV (JH l (k+1)) (l.drop (k+1))=jV none l by rw[←HT.out,HD.out,Zw HCN.out (HP.out.trans N3.out),HNX.out]),HK.out.trans (KW.out.trans (Kept.drewN _ _))⟩
              case measure=>simp[intOf];omega
        · have z1':(ck != 0)=true:=by simpa using z1
          have HB:=lH (show jw l=ck by rw[HS.out,HD.out,Xf (by rw[HCN.out];exact z1),HCN.out]);clear z1;go_wp2_with fail
          refine(HCK.out _ (Kept.refl _)).mono ?_;rintro e w1 ⟨rfl,kk⟩;have KW:=lH kk;clear kk;go_wp2;go_ret;exact⟨jb HB.out.symm,HK.out.trans KW.out⟩
      · have HE:=lH (show jw l=0 by rw[HS.out,List.drop_of_length_le (by rw[HL.out];omega)];rfl);clear hrest hK;go_wp2;go_ret;exact⟨jb HE.out.symm,HK.out⟩
theorem jat {v:Value} {l:List Pd} {c:Int} {w:World} (h:zP w v l) (hc:jw l=c):Calls Try.prog 57 #[v] w (Say (.int .i64 c) w):=by
 subst hc;obtain⟨a,cap,rfl,_,_,hr⟩:=h;exact XL a _ cap l w hr
theorem jaH (n:Bd) (v1:Value) (w:World) (h:zc w v1 n) :
 Calls Try.prog 74 #[YL n v1] w (Say (.int .i64 (zL n)) w):=by
 obtain⟨x0,l3,m⟩:=n;obtain⟨W0,hW0⟩:∃Z,w.alloc (.cells #[.string x0,v1,.int .i64 m] 133)=Z:=⟨_,rfl⟩
 have hk0:Kept w W0:=by rw[←hW0];exact ja _ _
 have HC:=lH (show ∀W,Kept W0 W→W.cell? ⟨w.heap.size,0,none⟩=some (.string x0)∧W.cell? ⟨w.heap.size,1,none⟩=some (v1)∧W.cell? ⟨w.heap.size,2,none⟩=some (.int .i64 m) from fun W k=>by
  have:=jd w (.string x0) [v1,.int .i64 m] 133 W (by rw[hW0];exact k);exact⟨this.at_ 0 _ rfl,this.at_ 1 _ rfl,this.at_ 2 _ rfl⟩)
 obtain⟨y3,hy3⟩:∃y,Zr l3=y:=⟨_,rfl⟩
 obtain⟨r0,hr0⟩:∃r,isName x0=r:=⟨_,rfl⟩
 have E3:=lH (Yt (h.sel.kept hk0) hy3);have N0:=lH (fun W=>Vec.JN (w:=W) h.name hr0);have HV:=lH (show zL ⟨x0,l3,m⟩=orL [if r0=true then 0 else 3,y3,Ji m] by rw[←hy3,←hr0];rfl);have HK0:=lH hk0;clear h hk0 hy3 hr0;obtain⟨c0,c1,c2⟩:=HC.out _ (Kept.refl _);unfold YL;dsimp only
 cases r0 with
 | false =>
  have HW:=lH (show zL ⟨x0,l3,m⟩=3 by rw[HV.out];rfl);go_enter Try.func74,Try.ntmps74;go_wp2_with fail
  try rw[hW0]
  refine(N0.out _).mono ?_;rintro e w1 ⟨rfl,rfl⟩;go_wp2;go_ret;exact⟨jb HW.out.symm,HK0.out⟩
 | true =>
  by_cases z:y3=0
  · subst z;by_cases z1:m<0
    · have HW:=lH (show zL ⟨x0,l3,m⟩=1 by rw[HV.out,show Ji m=1 by unfold Ji;rw[if_pos (.inl z1)]];rfl);go_enter Try.func74,Try.ntmps74;go_wp2_with fail
      try rw[hW0]
      refine(N0.out _).mono ?_;rintro e w1 ⟨rfl,rfl⟩;go_wp2_with fail
      refine E3.out.mono ?_;rintro e w2 ⟨rfl,k⟩;obtain⟨d0,d1,d2⟩:=HC.out _ k;go_wp2;go_ret;exact⟨jb HW.out.symm,HK0.out.trans k⟩
    · by_cases z2:128<m
      · have HW:=lH (show zL ⟨x0,l3,m⟩=1 by rw[HV.out,show Ji m=1 by unfold Ji;rw[if_pos (.inr z2)]];rfl);have z1':0≤m:=by omega
        clear z1;go_enter Try.func74,Try.ntmps74;go_wp2_with fail
        try rw[hW0]
        refine(N0.out _).mono ?_;rintro e w1 ⟨rfl,rfl⟩;go_wp2_with fail
        refine E3.out.mono ?_;rintro e w2 ⟨rfl,k⟩;obtain⟨d0,d1,d2⟩:=HC.out _ k;go_wp2;go_ret;exact⟨jb HW.out.symm,HK0.out.trans k⟩
      · have HW:=lH (show zL ⟨x0,l3,m⟩=0 by rw[HV.out,show Ji m=0 by unfold Ji;rw[if_neg (by omega)]];rfl);have z1':0≤m:=by omega
        have z2':m≤128:=by omega
        clear z1 z2;go_enter Try.func74,Try.ntmps74;go_wp2_with fail
        try rw[hW0]
        refine(N0.out _).mono ?_;rintro e w1 ⟨rfl,rfl⟩;go_wp2_with fail
        refine E3.out.mono ?_;rintro e w2 ⟨rfl,k⟩;obtain⟨d0,d1,d2⟩:=HC.out _ k;go_wp2;go_ret;exact⟨jb HW.out.symm,HK0.out.trans k⟩
  · have HW:=lH (show zL ⟨x0,l3,m⟩=y3 by
     rw[HV.out];show (if (0:Int)≠0 then 0 else if y3≠0 then y3 else _)=y3;rw[if_neg (by decide),if_pos z])
    have z':(y3 != 0)=true:=by simpa using z
    clear z;go_enter Try.func74,Try.ntmps74;go_wp2_with fail
    try rw[hW0]
    refine(N0.out _).mono ?_;rintro e w1 ⟨rfl,rfl⟩;go_wp2_with fail
    refine E3.out.mono ?_;rintro e w2 ⟨rfl,k⟩;go_wp2;go_ret;exact⟨jb HW.out.symm,HK0.out.trans k⟩
theorem XH (a:Option Addr) (len cap:Nat) (l:List Bd) (w:World) (hr:zK w a len l) :
 Calls Try.prog 58 #[.slice a len cap] w (Say (.int .i64 (jB l)) w):=by
 have hl:=hr.1;have hm:=hr.2.1;unfold maxLen at hm;by_cases h32:8<len
 · have HV:=lH (show jB l=4 by unfold jB;rw[if_pos (by omega)]);clear hr hl;go_enter Try.func58,Try.ntmps58;go_wp2;go_ret;exact⟨jb HV.out.symm,Kept.refl _⟩
 · have HV:=lH (show jB l=jR none l by unfold jB;rw[if_neg (by omega)]);have h32':len≤8:=by omega
   by_cases h0:len=0
   · subst h0;have HE:=lH (show jB l=0 by rw[HV.out,List.eq_nil_of_length_eq_zero hl];rfl);clear hr hl h32;go_enter Try.func58,Try.ntmps58;go_wp2;refine wp_loop_rounds 1 ?_;rw[rounds_succ];go_wp2;go_ret;exact⟨jb HE.out.symm,Kept.refl _⟩
   · obtain⟨b,off,rfl⟩:=hr.form.resolve_left h0;have HR:=lH hr;have HL:=lH hl;clear hr hl h0 h32;go_enter Try.func58,Try.ntmps58;go_wp2;go_loopw [3] (fun i wr=>∃k:Nat,k≤len∧i=.int .i64 k∧jR (JL l k) (l.drop k)=jR none l∧Kept w wr) (fun i _=>len-(intOf i).toNat)
     case atStart=>exact⟨0,Nat.zero_le _,rfl,rfl,Kept.refl _⟩
     case round =>
      obtain⟨k,hk,rfl,hrest,hK⟩:=hrel;have HS:=lH (HV.out.trans hrest.symm);have HT:=lH hrest;have HK:=lH hK;by_cases hlt:k<len
      · obtain⟨n,a1,m1,c1,hn,hd,hb,p0,p1,p2,hat⟩:=(HR.out.kept hK).at_ hlt;have HAT:=lH hat;have HD:=lH hd;have HNX:=lH (jaM hn);have HCK:=lH (fun W (kk:Kept wr W)=>jaH n (.slice a1 m1 c1) W (HAT.out.kept kk));unfold YL at HCK;obtain⟨ck,hck⟩:∃x,zL n=x:=⟨_,rfl⟩
        have HCN:=lH hck;rw[hck] at HCK;have hkk:(k:Int)<(len:Int):=by omega
        clear hrest hK hat hd hck;by_cases z1:ck=0
        · subst z1;by_cases h0:k=0
          · have hd0:decide (0<k)=false:=by subst h0;decide
            have HP:=lH (jaw (l:=l) h0 n.name);clear h0;go_wp2_with fail
            refine(HCK.out _ (Kept.refl _)).mono ?_;rintro e w1 ⟨rfl,kk⟩;have KW:=lH kk;clear kk;go_wp2;go_quiet (fail)
            go_wp2;go_roundw
            case rel=>exact⟨k+1,by omega,by go_num,(show jR (JL l (k+1)) (l.drop (k+1))=jR none l by rw[←HT.out,HD.out,Xy HCN.out HP.out,HNX.out]),HK.out.trans (KW.out.trans (Kept.drewN _ _))⟩
            case measure=>simp[intOf];omega
          · have hd0:decide (0<k)=true:=by simp;omega
            have g1:0≤(k:Int)-1:=by omega
            have g2:(k:Int)-1<(len:Int):=by omega
            have g3:((k:Int)-1).toNat=k-1:=by omega
            obtain⟨n9,_,_,_,hn9,-,hb9,o0,-⟩:=(HR.out.kept HK.out).at_ (show k-1<len by omega);have HP:=lH (jay (l:=l) h0 hn9 n.name);clear h0 hn9;by_cases n3:leS n.name n9.name=true
            · have n3':(Op.bytesLess n.name.toList n9.name.toList||n.name.toList==n9.name.toList)=true:=n3;have N3:=lH n3;clear n3;go_wp2_with fail
              refine(HCK.out _ (Kept.refl _)).mono ?_;rintro e w1 ⟨rfl,kk⟩;have KW:=lH kk;have o1:=cell_later kk o0;have p99:=cell_later kk p0;clear kk;go_wp2;go_quiet (fail)
              go_wp2;go_ret;exact⟨jb (show (13:Int)=jB l by rw[HS.out,HD.out,jaA HCN.out (HP.out.trans N3.out)]),HK.out.trans (KW.out.trans (Kept.drewN _ _))⟩
            · have n3:leS n.name n9.name=false:=by simpa using n3
              have n3':(Op.bytesLess n.name.toList n9.name.toList||n.name.toList==n9.name.toList)=false:=n3;have N3:=lH n3;clear n3;go_wp2_with fail
              refine(HCK.out _ (Kept.refl _)).mono ?_;rintro e w1 ⟨rfl,kk⟩;have KW:=lH kk;have o1:=cell_later kk o0;have p99:=cell_later kk p0;clear kk;go_wp2;go_quiet (fail)
              go_wp2;go_roundw
              case rel=>exact⟨k+1,by omega,by go_num,(show jR (JL l (k+1)) (l.drop (k+1))=jR none l by rw[←HT.out,HD.out,Xy HCN.out (HP.out.trans N3.out),HNX.out]),HK.out.trans (KW.out.trans (Kept.drewN _ _))⟩
              case measure=>simp[intOf];omega
        · have z1':(ck != 0)=true:=by simpa using z1
          have HB:=lH (show jB l=ck by rw[HS.out,HD.out,jbP (by rw[HCN.out];exact z1),HCN.out]);clear z1;go_wp2_with fail
          refine(HCK.out _ (Kept.refl _)).mono ?_;rintro e w1 ⟨rfl,kk⟩;have KW:=lH kk;clear kk;go_wp2;go_ret;exact⟨jb HB.out.symm,HK.out.trans KW.out⟩
      · have HE:=lH (show jB l=0 by rw[HS.out,List.drop_of_length_le (by rw[HL.out];omega)];rfl);clear hrest hK;go_wp2;go_ret;exact⟨jb HE.out.symm,HK.out⟩
theorem jaL {v:Value} {l:List Bd} {c:Int} {w:World} (h:zF w v l) (hc:jB l=c):Calls Try.prog 58 #[v] w (Say (.int .i64 c) w):=by
 subst hc;obtain⟨a,cap,rfl,_,_,hr⟩:=h;exact XH a _ cap l w hr
theorem jeu {v v':Value} {l l':Vec.V} {c:Bool} {w:World} (h:Vec.Reads w v l) (h':Vec.Reads w v' l') (e:Vec.jW l' l=c) :
 Calls Try.prog 60 #[v,v'] w (Say (.bool c) w):=by
 subst e;obtain⟨a,cap,rfl,_,_,h3⟩:=h;obtain⟨a',cap',rfl,_,_,h3'⟩:=h';exact Vec.jbQ a a' _ cap _ cap' l l' w h3 h3'
theorem jdv {s:Clu} {n:Nod} (h:n ∈ s.nodes):J7 s n.name=zi n.name s.pods []:=by
 cases hf:jI s.nodes n.name with
 | some n'=>exact X6 hf
 | none =>
  unfold jI at hf;have:=List.find?_eq_none.1 hf n h;exact absurd (JU n.name) (by simpa using this)
theorem jcJ {v:Value} {s:Clu} {c:Int} {w:World} (h:jT w v s) (hcc:Jd s=c):Calls Try.prog 28 #[v] w (Say (.int .i64 c) w):=by
 subst hcc;have h0:=h;obtain⟨v1,v2,v3,rfl,⟨a,cap,rfl,l1,m1,h1⟩,⟨b,cp,rfl,l2,m2,h2⟩,⟨d,cb,rfl,l3,m3,h3⟩⟩:=h;obtain⟨nl,pl,bl⟩:=s;dsimp only at *;obtain⟨len,hlen⟩:∃q,nl.length=q:=⟨_,rfl⟩
 obtain⟨m,hm⟩:∃q,pl.length=q:=⟨_,rfl⟩
 obtain⟨n,hn⟩:∃q,bl.length=q:=⟨_,rfl⟩
 rw[hlen] at h1 l1;rw[hm] at h2 l2;rw[hn] at h3 l3;try rw[hlen]
 try rw[hm]
 try rw[hn]
 clear hn;rw[hlen,hm] at h0;have hn3:bl.length=n:=h3.1;rw[hn3] at h0;obtain⟨Z,hZ⟩:∃Z,w.alloc (.cells #[.slice a len cap,.slice b m cp,.slice d n cb] 51)=Z:=⟨_,rfl⟩
 have hkz:Kept w Z:=by rw[←hZ];exact ja _ _
 have HQ:=lH (show jh w.heap.size [.slice a len cap,.slice b m cp,.slice d n cb] Z from jd w (.slice a len cap) [.slice b m cp,.slice d n cb] 51 Z (by rw[hZ];exact Kept.refl _));have HN:=lH (h1.kept hkz);have HP:=lH (h2.kept hkz);have HC0:=lH (h0.kept hkz);have HNR:=lH (Z0 l1 m1 (h1.kept hkz));have HPR:=lH (jba l2 m2 (h2.kept hkz));have HBR:=lH (XR l3 m3 (h3.kept hkz));have HKZ:=lH hkz;have HL1:=lH hlen;have HL2:=lH hm;have hml1:=Nat.le_trans l1 m1;have hml2:=Nat.le_trans l2 m2;unfold maxLen at hml1 hml2;clear h1 h2 h3 h0 l1 l2 l3 m1 m2 m3 hkz hn3;obtain⟨x1,hx1⟩:∃q,js nl=q:=⟨_,rfl⟩
 have Hx1:=lH hx1;obtain⟨x2,hx2⟩:∃q,jw pl=q:=⟨_,rfl⟩
 have Hx2:=lH hx2;obtain⟨x3,hx3⟩:∃q,jB bl=q:=⟨_,rfl⟩
 have Hx3:=lH hx3;have cq0:=(HQ.out.kept (Kept.refl _)).at_ 0 _ rfl;have cq1:=(HQ.out.kept (Kept.refl _)).at_ 1 _ rfl;have cq2:=(HQ.out.kept (Kept.refl _)).at_ 2 _ rfl;go_enter Try.func28,Try.ntmps28;go_wp2_with fail
 try rw[hZ]
 clear hZ;refine(jby HNR.out hx1).mono ?_;rintro e w1 ⟨rfl,kk⟩;have K:=lH kk;clear kk hx1 cq0 cq1 cq2;have cq0:=(HQ.out.kept K.out).at_ 0 _ rfl;have cq1:=(HQ.out.kept K.out).at_ 1 _ rfl;have cq2:=(HQ.out.kept K.out).at_ 2 _ rfl;by_cases hc:¬x1=0
 · have HX:=lH (Ye (nl:=nl) (pl:=pl) (bl:=bl) (c:=x1) (by unfold or3;rw[Hx1.out,if_pos hc]) hc);have hcn:(x1 != 0)=true:=by simpa using hc
   clear hc;go_wp2;go_ret;exact⟨jb HX.out.symm,HKZ.out.trans K.out⟩
 obtain rfl:x1=0:=Decidable.of_not_not hc;clear hc;go_wp2_with fail
 refine(jat (HPR.out.kept K.out) hx2).mono ?_;rintro e w2 ⟨rfl,kk⟩;have K:=lH (K.out.trans kk);clear kk hx2 cq0 cq1 cq2;have cq0:=(HQ.out.kept K.out).at_ 0 _ rfl;have cq1:=(HQ.out.kept K.out).at_ 1 _ rfl;have cq2:=(HQ.out.kept K.out).at_ 2 _ rfl;by_cases hc:¬x2=0
 · have HX:=lH (Ye (nl:=nl) (pl:=pl) (bl:=bl) (c:=x2) (by unfold or3;rw[Hx1.out,Hx2.out,if_neg (by decide),if_pos hc]) hc);have hcn:(x2 != 0)=true:=by simpa using hc
   clear hc;go_wp2;go_ret;exact⟨jb HX.out.symm,HKZ.out.trans K.out⟩
 obtain rfl:x2=0:=Decidable.of_not_not hc;clear hc;go_wp2_with fail
 refine(jaL (HBR.out.kept K.out) hx3).mono ?_;rintro e w3 ⟨rfl,kk⟩;have K:=lH (K.out.trans kk);clear kk hx3 cq0 cq1 cq2;have cq0:=(HQ.out.kept K.out).at_ 0 _ rfl;have cq1:=(HQ.out.kept K.out).at_ 1 _ rfl;have cq2:=(HQ.out.kept K.out).at_ 2 _ rfl;by_cases hc:¬x3=0
 · have HX:=lH (Ye (nl:=nl) (pl:=pl) (bl:=bl) (c:=x3) (by unfold or3;rw[Hx1.out,Hx2.out,Hx3.out,if_neg (by decide),if_neg (by decide)]) hc);have hcn:(x3 != 0)=true:=by simpa using hc
   clear hc;go_wp2;go_ret;exact⟨jb HX.out.symm,HKZ.out.trans K.out⟩
 obtain rfl:x3=0:=Decidable.of_not_not hc;clear hc;have HOR:=lH (show or3 (js nl) (jw pl) (jB bl)=0 by unfold or3;rw[Hx1.out,Hx2.out,Hx3.out];rfl);clear Hx1 Hx2 Hx3;go_wp2;clear cq0 cq1 cq2;go_loopw [4] (fun i wr=>∃k:Nat,k≤m∧i=.int .i64 k∧jq nl (pl.drop k)=jq nl pl∧Kept Z wr) (fun i _=>m-(intOf i).toNat)
 case atStart=>exact⟨0,Nat.zero_le _,rfl,rfl,K.out⟩
 case round =>
  obtain⟨k,hk,rfl,hrest,hK⟩:=hrel;have HS:=lH hrest;have HK:=lH hK;have cq0:=(HQ.out.kept hK).at_ 0 _ rfl;have cq1:=(HQ.out.kept hK).at_ 1 _ rfl;have cq2:=(HQ.out.kept hK).at_ 2 _ rfl;by_cases hlt:k<m
  · obtain⟨b9,off,rfl⟩:=HP.out.form.resolve_left (by omega);obtain⟨pd,x1,y1,z1,x2,y2,z2,x3,y3,z3,x4,y4,z4,hn,hd,hb,p0,p1,p2,p3,p4,p5,p6,p7,p8,p9,p10,hat⟩:=(HP.out.kept hK).at_ hlt;have HD:=lH hd;have hkk:(k:Int)<(m:Int):=by omega
    have hk0:¬(k:Int)<0:=by omega
    obtain⟨t,ht⟩:∃t,(pd.node.toList==([]:List UInt8))=t:=⟨_,rfl⟩
    have HNO:=lH (show zu pd.node=t by rw[zB];exact ht);clear hrest hat hn hd
    cases t with
     | true =>
      have HX:=lH (show jq nl (pl.drop (k+1))=jq nl pl by rw[←HS.out,HD.out,jax HNO.out]);clear hK;go_wp2;go_roundw
      case rel=>exact⟨k+1,by omega,by go_num,HX.out,HK.out⟩
      case measure=>simp[intOf];omega
     | false =>
      have HF:=lH (show ∀W,Kept wr W→W.cell? ⟨w.heap.size,0,none⟩=some (.slice a len cap)∧W.cell? ⟨w.heap.size,1,none⟩=some (.slice (some ⟨b9,off,none⟩) m cp)∧W.cell? ⟨b9,off+k*11,none⟩=some (.string pd.name)∧W.cell? ⟨b9,off+k*11+1,none⟩=some (.string pd.owner)∧W.cell? ⟨b9,off+k*11+2,none⟩=some (.int .i64 pd.prio)∧W.cell? ⟨b9,off+k*11+3,none⟩=some (.slice x1 y1 z1)∧W.cell? ⟨b9,off+k*11+4,none⟩=some (.slice x2 y2 z2)∧W.cell? ⟨b9,off+k*11+5,none⟩=some (.slice x3 y3 z3)∧W.cell? ⟨b9,off+k*11+6,none⟩=some (.slice x4 y4 z4)∧W.cell? ⟨b9,off+k*11+7,none⟩=some (.string pd.key)∧W.cell? ⟨b9,off+k*11+8,none⟩=some (.int .i64 pd.most)∧W.cell? ⟨b9,off+k*11+9,none⟩=some (.string pd.node)∧W.cell? ⟨b9,off+k*11+10,none⟩=some (.bool pd.hold) from fun W kk=>⟨cell_later kk cq0,cell_later kk cq1,cell_later kk p0,cell_later kk p1,cell_later kk p2,cell_later kk p3,cell_later kk p4,cell_later kk p5,cell_later kk p6,cell_later kk p7,cell_later kk p8,cell_later kk p9,cell_later kk p10⟩);obtain⟨o,ho⟩:∃o,jI nl pd.node=o:=⟨_,rfl⟩
      have HFD:=lH ho;have HCC:=lH (fun W (kk:Kept wr W)=>jbS (x:=pd.node) (HNR.out.kept (HK.out.trans kk)));rw[ho] at HCC;clear hK ho;go_upto_region 14 with fail
      go_cut [5,6] from 42 to 54 (fun s5 s6 wx=>s6=.bool o.isSome∧Kept wr wx)
      case first =>
       refine wp_region_held_drew (S:=fun W=>W.cell? ⟨w.heap.size,0,none⟩=some (.slice a len cap)∧W.cell? ⟨w.heap.size,1,none⟩=some (.slice (some ⟨b9,off,none⟩) m cp)∧W.cell? ⟨b9,off+k*11,none⟩=some (.string pd.name)∧W.cell? ⟨b9,off+k*11+1,none⟩=some (.string pd.owner)∧W.cell? ⟨b9,off+k*11+2,none⟩=some (.int .i64 pd.prio)∧W.cell? ⟨b9,off+k*11+3,none⟩=some (.slice x1 y1 z1)∧W.cell? ⟨b9,off+k*11+4,none⟩=some (.slice x2 y2 z2)∧W.cell? ⟨b9,off+k*11+5,none⟩=some (.slice x3 y3 z3)∧W.cell? ⟨b9,off+k*11+6,none⟩=some (.slice x4 y4 z4)∧W.cell? ⟨b9,off+k*11+7,none⟩=some (.string pd.key)∧W.cell? ⟨b9,off+k*11+8,none⟩=some (.int .i64 pd.most)∧W.cell? ⟨b9,off+k*11+9,none⟩=some (.string pd.node)∧W.cell? ⟨b9,off+k*11+10,none⟩=some (.bool pd.hold)) (by kernel_rfl) (HF.out _ (Kept.drew _)) (fun hHeld=>?_);refine wpAnyH_take  (i:=0) (v:=?_) (by rw[List.getElem?_toArray];exact rfl) (by kernel_rfl) (by kernel_rfl) (by kernel_rfl) (by exact fun _ _ _ h=>h) (Or.inl ⟨by rfl,(by rintro W ⟨o0,o1,o2,o3,o4,o5,o6,o7,o8,o9,o10,o11,o12⟩;go_simp<;>with_reducible rfl)⟩) (by assumption) ?_;try simp only  [Act.put,List.setIfInBounds_toArray,List.set_cons_zero,List.set_cons_succ]
       refine wpAnyH_take  (i:=1) (v:=?_) (by rw[List.getElem?_toArray];exact rfl) (by kernel_rfl) (by kernel_rfl) (by kernel_rfl) (by exact fun _ _ _ h=>h) (Or.inl ⟨by rfl,(by rintro W ⟨o0,o1,o2,o3,o4,o5,o6,o7,o8,o9,o10,o11,o12⟩;go_simp<;>with_reducible rfl)⟩) (by assumption) ?_;try simp only  [Act.put,List.setIfInBounds_toArray,List.set_cons_zero,List.set_cons_succ]
       refine wpAnyH_take  (i:=2) (v:=?_) (by rw[List.getElem?_toArray];exact rfl) (by kernel_rfl) (by kernel_rfl) (by kernel_rfl) (by exact fun _ _ _ h=>h) (Or.inl ⟨by rfl,(by rintro W ⟨o0,o1,o2,o3,o4,o5,o6,o7,o8,o9,o10,o11,o12⟩;go_simp<;>with_reducible rfl)⟩) (by assumption) ?_;try simp only  [Act.put,List.setIfInBounds_toArray,List.set_cons_zero,List.set_cons_succ]
       refine wpAnyH_take  (i:=3) (v:=?_) (by rw[List.getElem?_toArray];exact rfl) (by kernel_rfl) (by kernel_rfl) (by kernel_rfl) (by exact fun _ _ _ h=>h) (Or.inl ⟨by rfl,(by rintro W ⟨o0,o1,o2,o3,o4,o5,o6,o7,o8,o9,o10,o11,o12⟩;go_simp<;>with_reducible rfl)⟩) (by assumption) ?_;try simp only  [Act.put,List.setIfInBounds_toArray,List.set_cons_zero,List.set_cons_succ]
       refine wpAnyH_take  (i:=4) (v:=?_) (by rw[List.getElem?_toArray];exact rfl) (by kernel_rfl) (by kernel_rfl) (by kernel_rfl) (by exact fun _ _ _ h=>h) (Or.inl ⟨by rfl,(by rintro W ⟨o0,o1,o2,o3,o4,o5,o6,o7,o8,o9,o10,o11,o12⟩;go_simp<;>with_reducible rfl)⟩) (by assumption) ?_;try simp only  [Act.put,List.setIfInBounds_toArray,List.set_cons_zero,List.set_cons_succ]
       refine wpAnyH_take  (i:=5) (v:=?_) (by rw[List.getElem?_toArray];exact rfl) (by kernel_rfl) (by kernel_rfl) (by kernel_rfl) (by exact fun _ _ _ h=>h) (Or.inl ⟨by rfl,(by rintro W ⟨o0,o1,o2,o3,o4,o5,o6,o7,o8,o9,o10,o11,o12⟩;go_simp<;>with_reducible rfl)⟩) (by assumption) ?_;try simp only  [Act.put,List.setIfInBounds_toArray,List.set_cons_zero,List.set_cons_succ]
       refine wpAnyH_take  (i:=6) (v:=?_) (by rw[List.getElem?_toArray];exact rfl) (by kernel_rfl) (by kernel_rfl) (by kernel_rfl) (by exact fun _ _ _ h=>h) (Or.inl ⟨by rfl,(by rintro W ⟨o0,o1,o2,o3,o4,o5,o6,o7,o8,o9,o10,o11,o12⟩;go_simp<;>with_reducible rfl)⟩) (by assumption) ?_;try simp only  [Act.put,List.setIfInBounds_toArray,List.set_cons_zero,List.set_cons_succ]
       refine wpAnyH_take  (i:=7) (v:=?_) (by rw[List.getElem?_toArray];exact rfl) (by kernel_rfl) (by kernel_rfl) (by kernel_rfl) (by exact fun _ _ _ h=>h) (Or.inl ⟨by rfl,(by rintro W ⟨o0,o1,o2,o3,o4,o5,o6,o7,o8,o9,o10,o11,o12⟩;go_simp<;>with_reducible rfl)⟩) (by assumption) ?_;try simp only  [Act.put,List.setIfInBounds_toArray,List.set_cons_zero,List.set_cons_succ]
       have J0:=lH (Kept.drew wr);refine wpAnyH_ready  (rs:=[8,12]) (by kernel_rfl) (by simp) (AllReadyH.cons  (by rw[List.getElem?_toArray];exact rfl) (fun K9 hK9=>?_) (AllReadyH.cons  (by rw[List.getElem?_toArray];exact rfl) (fun K9 hK9=>?_) AllReadyH.nil))
       · go_simp;refine(HCC.out _ J0.out).mono ?_;rintro e w5 ⟨v9,rfl,hr,kk⟩;have J0:=lH (J0.out.trans kk);obtain⟨nn,hnn⟩:∃q,o.getD Nod.zero=q:=⟨_,rfl⟩
         rw[hnn] at hr;obtain⟨y1,y2,y3,rfl,hat⟩:=hr;have g1:=hat.cap;have g2:=hat.labels;have g3:=hat.taints;obtain⟨b1,d1,rfl,-,-,-⟩:=g1;obtain⟨b2,d2,rfl,-,-,-⟩:=g2;obtain⟨b3,d3,rfl,-,-,-⟩:=g3;unfold Jo;obtain⟨n1,hn1⟩:∃q,nn.cap.length=q:=⟨_,rfl⟩
         obtain⟨n2,hn2⟩:∃q,nn.labels.length=q:=⟨_,rfl⟩
         obtain⟨n3,hn3⟩:∃q,nn.taints.length=q:=⟨_,rfl⟩
         rw[hn1,hn2,hn3];clear hat kk hn1 hn2 hn3 hnn;refine hK9.out _ _ (HF.out _ J0.out) (fun hHeld31=>?_);clear hK9 K9;try simp only  [Act.put,List.setIfInBounds_toArray,List.set_cons_zero,List.set_cons_succ]
         refine wpAnyH_take  (i:=9) (v:=?_) (by rw[List.getElem?_toArray];exact rfl) (by kernel_rfl) (by kernel_rfl) (by kernel_rfl) (by exact fun _ _ _ h=>h) (Or.inl ⟨by rfl,(by rintro W ⟨o0,o1,o2,o3,o4,o5,o6,o7,o8,o9,o10,o11,o12⟩;go_simp<;>with_reducible rfl)⟩) (by assumption) ?_;try simp only  [Act.put,List.setIfInBounds_toArray,List.set_cons_zero,List.set_cons_succ]
         refine wpAnyH_take  (i:=10) (v:=?_) (by rw[List.getElem?_toArray];exact rfl) (by kernel_rfl) (by kernel_rfl) (by kernel_rfl) (by exact fun _ _ _ h=>h) (Or.inl ⟨by rfl,(by rintro W ⟨o0,o1,o2,o3,o4,o5,o6,o7,o8,o9,o10,o11,o12⟩;go_simp<;>with_reducible rfl)⟩) (by assumption) ?_;try simp only  [Act.put,List.setIfInBounds_toArray,List.set_cons_zero,List.set_cons_succ]
         refine wpAnyH_take  (i:=11) (v:=?_) (by rw[List.getElem?_toArray];exact rfl) (by kernel_rfl) (by kernel_rfl) (by kernel_rfl) (by exact fun _ _ _ h=>h) (Or.inl ⟨by rfl,(by rintro W ⟨o0,o1,o2,o3,o4,o5,o6,o7,o8,o9,o10,o11,o12⟩;go_simp<;>with_reducible rfl)⟩) (by assumption) ?_;try simp only  [Act.put,List.setIfInBounds_toArray,List.set_cons_zero,List.set_cons_succ]
         refine wpAnyH_ready  (rs:=[12]) (by kernel_rfl) (by simp) (AllReadyH.cons  (by rw[List.getElem?_toArray];exact rfl) (fun K9 hK9=>?_) AllReadyH.nil);go_simp;have HQA:=lH (jd w5 (.string ⟨#[]⟩) [.slice none 0 0,.slice none 0 0,.slice none 0 0,.bool false] 99 _ (Kept.refl _));have HQB:=lH J0.out.size;have J0:=lH (J0.out.trans (ja w5 (.cells #[.string ⟨#[]⟩,.slice none 0 0,.slice none 0 0,.slice none 0 0,.bool false] 99)));refine hK9.out _ _ (HF.out _ J0.out) (fun hHeldA=>?_);clear hK9 K9;try simp only  [Act.put,List.setIfInBounds_toArray,List.set_cons_zero,List.set_cons_succ]
         obtain⟨wa,hwa⟩:∃W,w5.alloc (.cells #[.string ⟨#[]⟩,.slice none 0 0,.slice none 0 0,.slice none 0 0,.bool false] 99)=W:=⟨_,rfl⟩
         rw[hwa] at J0 HQA ⊢;obtain⟨qa,hqa⟩:∃q,w5.heap.size=q:=⟨_,rfl⟩
         rw[hqa] at HQB;rw[hqa] at HQA ⊢;clear hwa hqa;have z0:=HQA.out.at_ 0 _ rfl;have z1:=HQA.out.at_ 1 _ rfl;have z2:=HQA.out.at_ 2 _ rfl;have z3:=HQA.out.at_ 3 _ rfl;have z4:=HQA.out.at_ 4 _ rfl;have f0:=HQA.out.free 0;have f1:=HQA.out.free 1;have f2:=HQA.out.free 2;have f3:=HQA.out.free 3;have f4:=HQA.out.free 4;refine wpAnyH_ready  (rs:=[13]) (by kernel_rfl) (by simp) (AllReadyH.cons  (by rw[List.getElem?_toArray];exact rfl) (fun K9 hK9=>?_) AllReadyH.nil);go_simp;obtain⟨WE,hWE⟩:∃W,wa.setCells qa 0 [.string nn.name,.slice b1 n1 d1,.slice b2 n2 d2,.slice b3 n3 d3,.bool nn.cordon]=W:=⟨_,rfl⟩
         have hWE2:(((((wa.setCell ⟨qa,0,none⟩ (.string nn.name)).setCell ⟨qa,1,none⟩ (.slice b1 n1 d1)).setCell ⟨qa,2,none⟩ (.slice b2 n2 d2)).setCell ⟨qa,3,none⟩ (.slice b3 n3 d3)).setCell ⟨qa,4,none⟩ (.bool nn.cordon))=WE:=hWE;try rw[hWE2]
         have JE:=lH (show Kept wr WE by rw[←hWE];exact jf qa _ _ _ _ _ HQB.out J0.out);clear hWE hWE2 z0 f0 z1 f1 z2 f2 z3 f3 z4 f4;refine hK9.out _ _ (HF.out _ JE.out) (fun hHeldS=>?_);clear hK9 K9;try simp only  [Act.put,List.setIfInBounds_toArray,List.set_cons_zero,List.set_cons_succ]
         refine wpAnyH_take  (i:=14) (v:=?_) (by rw[List.getElem?_toArray];exact rfl) (by kernel_rfl) (by kernel_rfl) (by kernel_rfl) (by exact fun _ _ _ h=>h) (Or.inl ⟨by rfl,(by rintro W ⟨o0,o1,o2,o3,o4,o5,o6,o7,o8,o9,o10,o11,o12⟩;go_simp<;>with_reducible rfl)⟩) (by assumption) ?_;try simp only  [Act.put,List.setIfInBounds_toArray,List.set_cons_zero,List.set_cons_succ]
         refine wpAnyH_done (by kernel_rfl) ?_ _;go_wp2;go_meet
         case rel=>exact⟨rfl,JE.out⟩
       · go_simp;have HQA:=lH (jd wr (.string ⟨#[]⟩) [.slice none 0 0,.slice none 0 0,.slice none 0 0,.bool false] 99 _ (Kept.drew (wr.alloc (.cells #[.string ⟨#[]⟩,.slice none 0 0,.slice none 0 0,.slice none 0 0,.bool false] 99))));have J0:=lH ((ja wr (.cells #[.string ⟨#[]⟩,.slice none 0 0,.slice none 0 0,.slice none 0 0,.bool false] 99)).trans (Kept.drew _));skip;refine hK9.out _ _ (HF.out _ J0.out) (fun hHeldA=>?_);clear hK9 K9;try simp only  [Act.put,List.setIfInBounds_toArray,List.set_cons_zero,List.set_cons_succ]
         obtain⟨wa,hwa⟩:∃W,(wr.alloc (.cells #[.string ⟨#[]⟩,.slice none 0 0,.slice none 0 0,.slice none 0 0,.bool false] 99)).drew=W:=⟨_,rfl⟩
         rw[hwa] at J0 HQA ⊢;obtain⟨qa,hqa⟩:∃q,wr.heap.size=q:=⟨_,rfl⟩
         have HQB:=lH (Nat.le_of_eq hqa);rw[hqa] at HQA ⊢;clear hwa hqa;refine wpAnyH_ready  (rs:=[8]) (by kernel_rfl) (by simp) (AllReadyH.cons  (by rw[List.getElem?_toArray];exact rfl) (fun K9 hK9=>?_) AllReadyH.nil);go_simp;refine(HCC.out _ J0.out).mono ?_;rintro e w5 ⟨v9,rfl,hr,kk⟩;have J0:=lH (J0.out.trans kk);obtain⟨nn,hnn⟩:∃q,o.getD Nod.zero=q:=⟨_,rfl⟩
         rw[hnn] at hr;obtain⟨y1,y2,y3,rfl,hat⟩:=hr;have g1:=hat.cap;have g2:=hat.labels;have g3:=hat.taints;obtain⟨b1,d1,rfl,-,-,-⟩:=g1;obtain⟨b2,d2,rfl,-,-,-⟩:=g2;obtain⟨b3,d3,rfl,-,-,-⟩:=g3;unfold Jo;obtain⟨n1,hn1⟩:∃q,nn.cap.length=q:=⟨_,rfl⟩
         obtain⟨n2,hn2⟩:∃q,nn.labels.length=q:=⟨_,rfl⟩
         obtain⟨n3,hn3⟩:∃q,nn.taints.length=q:=⟨_,rfl⟩
         rw[hn1,hn2,hn3];have HQA:=lH (HQA.out.kept kk);clear hat kk hn1 hn2 hn3 hnn;refine hK9.out _ _ (HF.out _ J0.out) (fun hHeld61=>?_);clear hK9 K9;try simp only  [Act.put,List.setIfInBounds_toArray,List.set_cons_zero,List.set_cons_succ]
         refine wpAnyH_take  (i:=9) (v:=?_) (by rw[List.getElem?_toArray];exact rfl) (by kernel_rfl) (by kernel_rfl) (by kernel_rfl) (by exact fun _ _ _ h=>h) (Or.inl ⟨by rfl,(by rintro W ⟨o0,o1,o2,o3,o4,o5,o6,o7,o8,o9,o10,o11,o12⟩;go_simp<;>with_reducible rfl)⟩) (by assumption) ?_;try simp only  [Act.put,List.setIfInBounds_toArray,List.set_cons_zero,List.set_cons_succ]
         refine wpAnyH_take  (i:=10) (v:=?_) (by rw[List.getElem?_toArray];exact rfl) (by kernel_rfl) (by kernel_rfl) (by kernel_rfl) (by exact fun _ _ _ h=>h) (Or.inl ⟨by rfl,(by rintro W ⟨o0,o1,o2,o3,o4,o5,o6,o7,o8,o9,o10,o11,o12⟩;go_simp<;>with_reducible rfl)⟩) (by assumption) ?_;try simp only  [Act.put,List.setIfInBounds_toArray,List.set_cons_zero,List.set_cons_succ]
         refine wpAnyH_take  (i:=11) (v:=?_) (by rw[List.getElem?_toArray];exact rfl) (by kernel_rfl) (by kernel_rfl) (by kernel_rfl) (by exact fun _ _ _ h=>h) (Or.inl ⟨by rfl,(by rintro W ⟨o0,o1,o2,o3,o4,o5,o6,o7,o8,o9,o10,o11,o12⟩;go_simp<;>with_reducible rfl)⟩) (by assumption) ?_;try simp only  [Act.put,List.setIfInBounds_toArray,List.set_cons_zero,List.set_cons_succ]
         have z0:=HQA.out.at_ 0 _ rfl;have z1:=HQA.out.at_ 1 _ rfl;have z2:=HQA.out.at_ 2 _ rfl;have z3:=HQA.out.at_ 3 _ rfl;have z4:=HQA.out.at_ 4 _ rfl;have f0:=HQA.out.free 0;have f1:=HQA.out.free 1;have f2:=HQA.out.free 2;have f3:=HQA.out.free 3;have f4:=HQA.out.free 4;refine wpAnyH_ready  (rs:=[13]) (by kernel_rfl) (by simp) (AllReadyH.cons  (by rw[List.getElem?_toArray];exact rfl) (fun K9 hK9=>?_) AllReadyH.nil);go_simp;obtain⟨WE,hWE⟩:∃W,w5.setCells qa 0 [.string nn.name,.slice b1 n1 d1,.slice b2 n2 d2,.slice b3 n3 d3,.bool nn.cordon]=W:=⟨_,rfl⟩
         have hWE2:(((((w5.setCell ⟨qa,0,none⟩ (.string nn.name)).setCell ⟨qa,1,none⟩ (.slice b1 n1 d1)).setCell ⟨qa,2,none⟩ (.slice b2 n2 d2)).setCell ⟨qa,3,none⟩ (.slice b3 n3 d3)).setCell ⟨qa,4,none⟩ (.bool nn.cordon))=WE:=hWE;try rw[hWE2]
         have JE:=lH (show Kept wr WE by rw[←hWE];exact jf qa _ _ _ _ _ HQB.out J0.out);clear hWE hWE2 z0 f0 z1 f1 z2 f2 z3 f3 z4 f4;refine hK9.out _ _ (HF.out _ JE.out) (fun hHeldS=>?_);clear hK9 K9;try simp only  [Act.put,List.setIfInBounds_toArray,List.set_cons_zero,List.set_cons_succ]
         refine wpAnyH_take  (i:=14) (v:=?_) (by rw[List.getElem?_toArray];exact rfl) (by kernel_rfl) (by kernel_rfl) (by kernel_rfl) (by exact fun _ _ _ h=>h) (Or.inl ⟨by rfl,(by rintro W ⟨o0,o1,o2,o3,o4,o5,o6,o7,o8,o9,o10,o11,o12⟩;go_simp<;>with_reducible rfl)⟩) (by assumption) ?_;try simp only  [Act.put,List.setIfInBounds_toArray,List.set_cons_zero,List.set_cons_succ]
         refine wpAnyH_done (by kernel_rfl) ?_ _;go_wp2;go_meet
         case rel=>exact⟨rfl,JE.out⟩
      case rest =>
       obtain⟨rfl,hkx⟩:=hcut;have KX:=lH (HK.out.trans hkx);clear hkx cq0 cq1 cq2 p0 p1 p2 p3 p4 p5 p6 p7 p8 p9 p10
       cases o with
       | none =>
        have HX:=lH (XY HOR.out (show jq nl pl=3 by rw[←HS.out,HD.out,jbq HNO.out (by rw[HFD.out];rfl)]) (by decide));go_wp2;go_ret;exact⟨jb HX.out.symm,HKZ.out.trans KX.out⟩
       | some nod =>
        have HX:=lH (show jq nl (pl.drop (k+1))=jq nl pl by rw[←HS.out,HD.out,jaB (by rw[HFD.out];rfl)]);go_wp2;go_roundw
        case rel=>exact⟨k+1,by omega,by go_num,HX.out,KX.out⟩
        case measure=>simp[intOf];omega
  · have HPL:=lH (show jq nl pl=0 by rw[←hrest,List.drop_of_length_le (by rw[HL2.out];omega)];rfl);have hkk:¬(k:Int)<(m:Int):=by omega
    clear hrest hK;go_wp2;clear cq0 cq1 cq2;go_loopw [7] (fun i wr=>∃k:Nat,k≤len∧i=.int .i64 k∧jF pl (nl.drop k)=jF pl nl∧Kept Z wr) (fun i _=>len-(intOf i).toNat)
    case atStart=>exact⟨0,Nat.zero_le _,rfl,rfl,HK.out⟩
    case round =>
     obtain⟨k,hk,rfl,hrest,hK⟩:=hrel;have HS:=lH hrest;have HK:=lH hK;have cq0:=(HQ.out.kept hK).at_ 0 _ rfl;have cq1:=(HQ.out.kept hK).at_ 1 _ rfl;have cq2:=(HQ.out.kept hK).at_ 2 _ rfl;by_cases hlt:k<len
     · obtain⟨b9,off,rfl⟩:=HN.out.form.resolve_left (by omega);obtain⟨n9,x1,y1,z1,x2,y2,z2,x3,y3,z3,hn,hd,hb,p0,p1,p2,p3,p4,hat⟩:=(HN.out.kept hK).at_ hlt;have HD:=lH hd;have hkk:(k:Int)<(len:Int):=by omega
       have hk0:¬(k:Int)<0:=by omega
       obtain⟨c,uu,hcu⟩:∃c uu,zi n9.name pl []=(c,uu):=⟨_,_,rfl⟩
       have HCU:=lH hcu;have hus:J7 ⟨nl,pl,bl⟩ n9.name=(c,uu):=(jdv (s:=⟨nl,pl,bl⟩) (List.mem_of_getElem? hn)).trans hcu;have HUU:=lH (fun W (kk:Kept wr W)=>jdk (HC0.out.kept (HK.out.trans kk)) n9.name);rw[hus] at HUU;have HCAP:=lH hat.cap;have HF:=lH (show ∀W,Kept wr W→W.cell? ⟨w.heap.size,0,none⟩=some (.slice (some ⟨b9,off,none⟩) len cap)∧W.cell? ⟨w.heap.size,1,none⟩=some (.slice b m cp)∧W.cell? ⟨w.heap.size,2,none⟩=some (.slice d n cb)∧W.cell? ⟨b9,off+k*5,none⟩=some (.string n9.name)∧W.cell? ⟨b9,off+k*5+1,none⟩=some (.slice x1 y1 z1)∧W.cell? ⟨b9,off+k*5+2,none⟩=some (.slice x2 y2 z2)∧W.cell? ⟨b9,off+k*5+3,none⟩=some (.slice x3 y3 z3)∧W.cell? ⟨b9,off+k*5+4,none⟩=some (.bool n9.cordon) from fun W kk=>⟨cell_later kk cq0,cell_later kk cq1,cell_later kk cq2,cell_later kk p0,cell_later kk p1,cell_later kk p2,cell_later kk p3,cell_later kk p4⟩);clear hrest hK hat hn hd hcu hus;go_upto_region 20 with fail
       refine wp_region_held_drew (S:=fun W=>W.cell? ⟨w.heap.size,0,none⟩=some (.slice (some ⟨b9,off,none⟩) len cap)∧W.cell? ⟨w.heap.size,1,none⟩=some (.slice b m cp)∧W.cell? ⟨w.heap.size,2,none⟩=some (.slice d n cb)∧W.cell? ⟨b9,off+k*5,none⟩=some (.string n9.name)∧W.cell? ⟨b9,off+k*5+1,none⟩=some (.slice x1 y1 z1)∧W.cell? ⟨b9,off+k*5+2,none⟩=some (.slice x2 y2 z2)∧W.cell? ⟨b9,off+k*5+3,none⟩=some (.slice x3 y3 z3)∧W.cell? ⟨b9,off+k*5+4,none⟩=some (.bool n9.cordon)) (by kernel_rfl) (HF.out _ (Kept.drew _)) (fun hHeld=>?_);refine wpAnyH_take  (i:=0) (v:=?_) (by rw[List.getElem?_toArray];exact rfl) (by kernel_rfl) (by kernel_rfl) (by kernel_rfl) (by exact fun _ _ _ h=>h) (Or.inl ⟨by rfl,(by rintro W ⟨o0,o1,o2,o3,o4,o5,o6,o7⟩;go_simp<;>with_reducible rfl)⟩) (by assumption) ?_;try simp only  [Act.put,List.setIfInBounds_toArray,List.set_cons_zero,List.set_cons_succ]
       refine wpAnyH_take  (i:=1) (v:=?_) (by rw[List.getElem?_toArray];exact rfl) (by kernel_rfl) (by kernel_rfl) (by kernel_rfl) (by exact fun _ _ _ h=>h) (Or.inl ⟨by rfl,(by rintro W ⟨o0,o1,o2,o3,o4,o5,o6,o7⟩;go_simp<;>with_reducible rfl)⟩) (by assumption) ?_;try simp only  [Act.put,List.setIfInBounds_toArray,List.set_cons_zero,List.set_cons_succ]
       refine wpAnyH_take  (i:=2) (v:=?_) (by rw[List.getElem?_toArray];exact rfl) (by kernel_rfl) (by kernel_rfl) (by kernel_rfl) (by exact fun _ _ _ h=>h) (Or.inl ⟨by rfl,(by rintro W ⟨o0,o1,o2,o3,o4,o5,o6,o7⟩;go_simp<;>with_reducible rfl)⟩) (by assumption) ?_;try simp only  [Act.put,List.setIfInBounds_toArray,List.set_cons_zero,List.set_cons_succ]
       refine wpAnyH_take  (i:=3) (v:=?_) (by rw[List.getElem?_toArray];exact rfl) (by kernel_rfl) (by kernel_rfl) (by kernel_rfl) (by exact fun _ _ _ h=>h) (Or.inl ⟨by rfl,(by rintro W ⟨o0,o1,o2,o3,o4,o5,o6,o7⟩;go_simp<;>with_reducible rfl)⟩) (by assumption) ?_;try simp only  [Act.put,List.setIfInBounds_toArray,List.set_cons_zero,List.set_cons_succ]
       refine wpAnyH_take  (i:=4) (v:=?_) (by rw[List.getElem?_toArray];exact rfl) (by kernel_rfl) (by kernel_rfl) (by kernel_rfl) (by exact fun _ _ _ h=>h) (Or.inl ⟨by rfl,(by rintro W ⟨o0,o1,o2,o3,o4,o5,o6,o7⟩;go_simp<;>with_reducible rfl)⟩) (by assumption) ?_;try simp only  [Act.put,List.setIfInBounds_toArray,List.set_cons_zero,List.set_cons_succ]
       refine wpAnyH_take  (i:=5) (v:=?_) (by rw[List.getElem?_toArray];exact rfl) (by kernel_rfl) (by kernel_rfl) (by kernel_rfl) (by exact fun _ _ _ h=>h) (Or.inl ⟨by rfl,(by rintro W ⟨o0,o1,o2,o3,o4,o5,o6,o7⟩;go_simp<;>with_reducible rfl)⟩) (by assumption) ?_;try simp only  [Act.put,List.setIfInBounds_toArray,List.set_cons_zero,List.set_cons_succ]
       refine wpAnyH_take  (i:=6) (v:=?_) (by rw[List.getElem?_toArray];exact rfl) (by kernel_rfl) (by kernel_rfl) (by kernel_rfl) (by exact fun _ _ _ h=>h) (Or.inl ⟨by rfl,(by rintro W ⟨o0,o1,o2,o3,o4,o5,o6,o7⟩;go_simp<;>with_reducible rfl)⟩) (by assumption) ?_;try simp only  [Act.put,List.setIfInBounds_toArray,List.set_cons_zero,List.set_cons_succ]
       refine wpAnyH_ready  (rs:=[7]) (by kernel_rfl) (by simp) (AllReadyH.cons  (by rw[List.getElem?_toArray];exact rfl) (fun K9 hK9=>?_) AllReadyH.nil);go_simp;refine(HUU.out _ (Kept.drew _)).mono ?_;rintro e w6 ⟨y9,rfl,hy,kk⟩;have J:=lH ((Kept.drew wr).trans kk);have HY:=lH hy;clear hy kk;refine hK9.out _ _ (HF.out _ J.out) (fun hHeld1=>?_);clear hK9 K9;try simp only  [Act.put,List.setIfInBounds_toArray,List.set_cons_zero,List.set_cons_succ]
       refine wpAnyH_take  (i:=8) (v:=?_) (by rw[List.getElem?_toArray];exact rfl) (by kernel_rfl) (by kernel_rfl) (by kernel_rfl) (by exact fun _ _ _ h=>h) (Or.inl ⟨by rfl,(by rintro W ⟨o0,o1,o2,o3,o4,o5,o6,o7⟩;go_simp<;>with_reducible rfl)⟩) (by assumption) ?_;try simp only  [Act.put,List.setIfInBounds_toArray,List.set_cons_zero,List.set_cons_succ]
       refine wpAnyH_take  (i:=9) (v:=?_) (by rw[List.getElem?_toArray];exact rfl) (by kernel_rfl) (by kernel_rfl) (by kernel_rfl) (by exact fun _ _ _ h=>h) (Or.inl ⟨by rfl,(by rintro W ⟨o0,o1,o2,o3,o4,o5,o6,o7⟩;go_simp<;>with_reducible rfl)⟩) (by assumption) ?_;try simp only  [Act.put,List.setIfInBounds_toArray,List.set_cons_zero,List.set_cons_succ]
       refine wpAnyH_take  (i:=10) (v:=?_) (by rw[List.getElem?_toArray];exact rfl) (by kernel_rfl) (by kernel_rfl) (by kernel_rfl) (by exact fun _ _ _ h=>h) (Or.inl ⟨by rfl,(by rintro W ⟨o0,o1,o2,o3,o4,o5,o6,o7⟩;go_simp<;>with_reducible rfl)⟩) (by assumption) ?_;try simp only  [Act.put,List.setIfInBounds_toArray,List.set_cons_zero,List.set_cons_succ]
       refine wpAnyH_take  (i:=11) (v:=?_) (by rw[List.getElem?_toArray];exact rfl) (by kernel_rfl) (by kernel_rfl) (by kernel_rfl) (by exact fun _ _ _ h=>h) (Or.inl ⟨by rfl,(by rintro W ⟨o0,o1,o2,o3,o4,o5,o6,o7⟩;go_simp<;>with_reducible rfl)⟩) (by assumption) ?_;try simp only  [Act.put,List.setIfInBounds_toArray,List.set_cons_zero,List.set_cons_succ]
       refine wpAnyH_take  (i:=12) (v:=?_) (by rw[List.getElem?_toArray];exact rfl) (by kernel_rfl) (by kernel_rfl) (by kernel_rfl) (by exact fun _ _ _ h=>h) (Or.inl ⟨by rfl,(by rintro W ⟨o0,o1,o2,o3,o4,o5,o6,o7⟩;go_simp<;>with_reducible rfl)⟩) (by assumption) ?_;try simp only  [Act.put,List.setIfInBounds_toArray,List.set_cons_zero,List.set_cons_succ]
       refine wpAnyH_done (by kernel_rfl) ?_ _;clear cq0 cq1 cq2 p0 p1 p2 p3 p4;obtain⟨cq0,cq1,cq2,p0,p1,p2,p3,p4⟩:=HF.out _ J.out;by_cases hc:¬c=0
       · have HX:=lH (Y8 (bl:=bl) HOR.out HPL.out (show jF pl nl=c by rw[←HS.out,HD.out,jb4 HCU.out hc]) hc);have hcn:(c != 0)=true:=by simpa using hc
         clear hc;go_wp2;go_ret;exact⟨jb HX.out.symm,HKZ.out.trans (HK.out.trans J.out)⟩
       obtain rfl:c=0:=Decidable.of_not_not hc;clear hc;obtain⟨t,ht⟩:∃t,Vec.jW n9.cap uu=t:=⟨_,rfl⟩
       have HT:=lH ht;have HFT:=lH (jeu HY.out (HCAP.out.kept J.out) ht);clear ht;go_wp2_with fail
       refine HFT.out.mono ?_;rintro e w7 ⟨rfl,kk⟩;have KW:=lH (HK.out.trans (J.out.trans kk));clear kk cq0 cq1 cq2 p0 p1 p2 p3 p4
       cases t with
       | false =>
        have HX:=lH (Y8 (bl:=bl) HOR.out HPL.out (show jF pl nl=7 by rw[←HS.out,HD.out,jbm HCU.out HT.out]) (by decide));go_wp2;go_ret;exact⟨jb HX.out.symm,HKZ.out.trans KW.out⟩
       | true =>
        have HX:=lH (show jF pl (nl.drop (k+1))=jF pl nl by rw[←HS.out,HD.out,jbA HCU.out HT.out]);go_wp2;go_roundw
        case rel=>exact⟨k+1,by omega,by go_num,HX.out,KW.out⟩
        case measure=>simp[intOf];omega
     · have HRO:=lH (show jF pl nl=0 by rw[←hrest,List.drop_of_length_le (by rw[HL1.out];omega)];rfl);have hkk:¬(k:Int)<(len:Int):=by omega
       clear hrest hK;have HX:=lH (qL (bl:=bl) HOR.out HPL.out HRO.out);go_wp2_with fail
       refine(jcG (HC0.out.kept HK.out)).mono ?_;rintro e w8 ⟨y9,rfl,hy,kk⟩;have KW:=lH (HK.out.trans kk);clear hy kk cq0 cq1 cq2;go_wp2;go_ret;exact⟨jb HX.out.symm,HKZ.out.trans KW.out⟩
theorem qw {n:Pd} (h:zq n=true):YU n:=by
 obtain⟨-,-,-,-,h1,h2,h3,h4⟩:=jaJ h;refine⟨?_,?_,?_,?_⟩
 · unfold Vec.JP at h1;simp only[Bool.and_eq_true,decide_eq_true_eq] at h1;omega
 · have:=(jbi h2).1;omega
 · have:=(jbr h3).1;omega
 · have:=(ja6 h4).1;omega
def zX (s:Clu):Bool:=ZE s&&decide (Jd s=0)
theorem Y7 {s:Clu} (h:ZE s=true):jb7 s∧s.nodes.length≤34∧s.pods.length≤130∧s.buds.length≤20:=by
 unfold ZE Jf at h;simp only[Bool.and_eq_true,decide_eq_true_eq,List.all_eq_true] at h;obtain⟨h1,h2,⟨h3,h4⟩,h5,h6⟩:=h;refine⟨⟨fun n hn=>jdZ (h5 n hn),fun p hp=>qw (h6 p hp),fun n hn=>?_,by omega,by omega,by omega⟩,by omega,by omega,by omega⟩;have:=h4 n hn;unfold Zg Jt at this;simp only[Bool.and_eq_true,decide_eq_true_eq] at this;omega
theorem qN {s:Clu} (h:zX s=true):ZE s=true:=by unfold zX at h;exact(Bool.and_eq_true_iff.1 h).1
theorem Z5 {s:Clu} (h:zX s=true):Jd s=0:=by unfold zX at h;exact of_decide_eq_true (Bool.and_eq_true_iff.1 h).2
theorem jdK {v:Value} {s:Clu} {c:Bool} {w:World} (h:jT w v s) (hc:zX s=c):Calls Try.prog 7 #[v] w (Say (.bool c) w):=by
 subst hc;have h0:=h;obtain⟨v1,v2,v3,rfl,⟨a,cap,rfl,-,-,-⟩,⟨b,cp,rfl,-,-,-⟩,⟨d,cb,rfl,-,-,-⟩⟩:=h0;obtain⟨len,hl1⟩:∃q,s.nodes.length=q:=⟨_,rfl⟩
 obtain⟨m,hl2⟩:∃q,s.pods.length=q:=⟨_,rfl⟩
 obtain⟨n,hl3⟩:∃q,s.buds.length=q:=⟨_,rfl⟩
 rw[hl1,hl2,hl3] at h ⊢;clear hl1 hl2 hl3;obtain⟨Z,hZ⟩:∃Z,w.alloc (.cells #[.slice a len cap,.slice b m cp,.slice d n cb] 26)=Z:=⟨_,rfl⟩
 have hkz:Kept w Z:=by rw[←hZ];exact ja _ _
 have HC:=lH (show jh w.heap.size [.slice a len cap,.slice b m cp,.slice d n cb] Z from jd w (.slice a len cap) [.slice b m cp,.slice d n cb] 26 Z (by rw[hZ];exact Kept.refl _));have HV:=lH (h.kept hkz);have HKZ:=lH hkz;obtain⟨e1,he1⟩:∃e,ZE s=e:=⟨_,rfl⟩
 have HE1:=lH he1;have HG:=lH (show zX s=(e1&&decide (Jd s=0)) by unfold zX;rw[he1]);rw[HG.out];clear h hkz;have cq0:=(HC.out.kept (Kept.refl _)).at_ 0 _ rfl;have cq1:=(HC.out.kept (Kept.refl _)).at_ 1 _ rfl;have cq2:=(HC.out.kept (Kept.refl _)).at_ 2 _ rfl;go_enter Try.func7,Try.ntmps7;go_wp2_with fail
 try rw[hZ]
 clear hZ;refine(jeo HV.out he1).mono ?_;rintro e w1 ⟨rfl,kk⟩;have K:=lH kk;clear kk he1 cq0 cq1 cq2;have cq0:=(HC.out.kept K.out).at_ 0 _ rfl;have cq1:=(HC.out.kept K.out).at_ 1 _ rfl;have cq2:=(HC.out.kept K.out).at_ 2 _ rfl
 cases e1 with
 | false =>
  go_wp2;go_ret;exact⟨rfl,HKZ.out.trans K.out⟩
 | true =>
  obtain⟨L1,L2,L3,L4⟩:=Y7 HE1.out;have HL:=lH L1;clear L1;go_wp2_with fail
  refine(YR (HV.out.kept K.out) HL.out (by omega) (by omega) (by omega)).mono ?_;rintro e w2 ⟨x9,rfl,hx,kk⟩;have K2:=lH (K.out.trans kk);have HX:=lH hx;clear hx kk cq0 cq1 cq2;go_wp2_with fail
  obtain⟨c,hc⟩:∃c,Jd s=c:=⟨_,rfl⟩
  refine(jcJ HX.out hc).mono ?_;rintro e w3 ⟨rfl,kk⟩;have K3:=lH (K2.out.trans kk);have HCC:=lH hc;clear kk;rw[hc];clear hc;obtain⟨t,ht⟩:∃t,decide (c=0)=t:=⟨_,rfl⟩
  have ht':(c==0)=t:=ht;go_wp2;go_ret;exact⟨by rw[HCC.out,ht];rfl,HKZ.out.trans K3.out⟩
def Asc (l:List Pd):Prop:=l.Pairwise fun x y=>ltS x.name y.name=true
theorem jag:∀{prev:Option ByteArray} {l:List Pd},jV prev l=0→(∀q,prev=some q→∀x ∈ l,ltS q x.name=true)∧Asc l
 | _,[],_=>⟨fun q _ x h=>absurd h (by simp),.nil⟩
 | prev,n::t,h=>by
  by_cases z:zw n=0
  · by_cases y:Vec.jm prev n.name=true
    · rw[Z9 z y] at h;cases h
    · have y:Vec.jm prev n.name=false:=by simpa using y
      rw[Zw z y] at h;obtain⟨h2,h3⟩:=jag h;refine⟨fun q hq x hx=>?_,List.pairwise_cons.2 ⟨fun x hx=>h2 _ rfl x hx,h3⟩⟩;subst hq;have hlt:ltS q n.name=true:=Vec.Yp y;rcases List.mem_cons.1 hx with rfl | hx
      · exact hlt
      · exact Vec.zy hlt (h2 _ rfl x hx)
  · rw[Xf z] at h;exact absurd h z
theorem jdf {s:Clu} (h:zX s=true):Asc s.pods:=by
 have hc:=Z5 h;have h0:or3 (js s.nodes) (jw s.pods) (jB s.buds)=0:=Decidable.byContradiction fun g=>g ((Ye (nl:=s.nodes) (pl:=s.pods) (bl:=s.buds) rfl g).symm.trans hc);have ho:jw s.pods=0:=by
  unfold or3 at h0;split at h0
  · rename_i h1;exact absurd h0 h1
  · split at h0
    · exact h0
    · rename_i h1;exact Decidable.of_not_not h1
 unfold jw at ho;split at ho
 · cases ho
 · exact(jag ho).2
def Yk (l:Vec.V):Prop:=Vec.Gd l∧l.length≤8
theorem Yk.nil:Yk []:=⟨Vec.Gd.nil,by decide⟩
theorem XK {l:Vec.V} (h:Vec.jn l=0) (hf:Vec.zC l):Yk l:=⟨Vec.JR h hf,Vec.YK h⟩
structure Zy (s:Clu):Prop where
 nodes:js s.nodes=0
 pods:jw s.pods=0
 places:jq s.nodes s.pods=0
 rooms:jF s.pods s.nodes=0
 tot:(Jb s.nodes []).1=0
theorem jdw {s:Clu} (h:Jd s=0):Zy s:=by
 have h0:or3 (js s.nodes) (jw s.pods) (jB s.buds)=0:=Decidable.byContradiction fun g=>g ((Ye (nl:=s.nodes) (pl:=s.pods) (bl:=s.buds) rfl g).symm.trans h);have h1:jq s.nodes s.pods=0:=Decidable.byContradiction fun g=>g ((XY (nl:=s.nodes) (pl:=s.pods) (bl:=s.buds) h0 rfl g).symm.trans h);have h2:jF s.pods s.nodes=0:=Decidable.byContradiction fun g=>g ((Y8 (nl:=s.nodes) (pl:=s.pods) (bl:=s.buds) h0 h1 rfl g).symm.trans h);have h3:(Jb s.nodes []).1=0:=(qL (nl:=s.nodes) (pl:=s.pods) (bl:=s.buds) h0 h1 h2).symm.trans h;have ho:js s.nodes=0∧jw s.pods=0:=by
  unfold or3 at h0;split at h0
  · rename_i h1;exact absurd h0 h1
  · rename_i g1;split at h0
    · rename_i g2;exact absurd h0 g2
    · rename_i g2;exact⟨Decidable.of_not_not g1,Decidable.of_not_not g2⟩
 exact⟨ho.1,ho.2,h1,h2,h3⟩
def Zm (l:List Nod):Prop:=l.Pairwise fun x y=>ltS x.name y.name=true
theorem J9:∀{prev:Option ByteArray} {l:List Nod},jU prev l=0→(∀q,prev=some q→∀x ∈ l,ltS q x.name=true)∧Zm l∧∀n ∈ l,jE n=0
 | _,[],_=>⟨fun q _ x h=>absurd h (by simp),.nil,fun n h=>absurd h (by simp)⟩
 | prev,n::t,h=>by
  by_cases z:jE n=0
  · by_cases y:Vec.jm prev n.name=true
    · rw[Z7 z y] at h;cases h
    · have y:Vec.jm prev n.name=false:=by simpa using y
      rw[Zv z y] at h;obtain⟨h2,h3,h4⟩:=J9 h;refine⟨fun q hq x hx=>?_,List.pairwise_cons.2 ⟨fun x hx=>h2 _ rfl x hx,h3⟩,fun m hm=>?_⟩
      · subst hq;have hlt:ltS q n.name=true:=Vec.Yp y;rcases List.mem_cons.1 hx with rfl | hx
        · exact hlt
        · exact Vec.zy hlt (h2 _ rfl x hx)
      · rcases List.mem_cons.1 hm with rfl | hm
        · exact z
        · exact h4 m hm
  · rw[Xd z] at h;exact absurd h z
theorem qg:∀{l:List Nod} {p:Nod},Zm l→p ∈ l→jI l p.name=some p
 | [],_,_,h=>by cases h
 | x::t,p,h,hp=>by
  unfold jI;rcases List.mem_cons.1 hp with hp | hp
  · subst hp;exact List.find?_cons_of_pos (p:=fun n:Nod=>eqS n.name p.name) (JU _)
  · have hlt:=(List.pairwise_cons.1 h).1 p hp;exact(List.find?_cons_of_neg (p:=fun n:Nod=>eqS n.name p.name) (fun e=>Vec.Zf hlt (jJ.1 e))).trans (qg (List.pairwise_cons.1 h).2 hp)
theorem Zy.jI {s:Clu} (h:Zy s) {n:Nod} (hn:n ∈ s.nodes):jI s.nodes n.name=some n:=by
 have ho:=h.nodes;unfold js at ho;split at ho
 · cases ho
 · exact qg (J9 ho).2.1 hn
theorem Zy.cap0 {s:Clu} (h:Zy s) {n:Nod} (hn:n ∈ s.nodes):Vec.jn n.cap=0:=by
 have ho:=h.nodes;unfold js at ho;split at ho
 · cases ho
 · have hc:=(J9 ho).2.2 n hn;unfold jE at hc;split at hc
   · cases hc
   · split at hc
     · rename_i g;exact absurd hc g
     · rename_i g;exact Decidable.of_not_not g
theorem XQ:∀{prev:Option ByteArray} {l:List Pd},jV prev l=0→∀n ∈ l,zw n=0
 | prev,m::t,h,n,hn=>by
  by_cases z:zw m=0
  · by_cases y:Vec.jm prev m.name=true
    · rw[Z9 z y] at h;cases h
    · have y:Vec.jm prev m.name=false:=by simpa using y
      rw[Zw z y] at h;rcases List.mem_cons.1 hn with rfl | hn
      · exact z
      · exact XQ h n hn
  · rw[Xf z] at h;exact absurd h z
theorem Yg:∀{l:List Int},orL l=0→∀c ∈ l,c=0
 | x::t,h,c,hc=>by
  unfold orL at h;split at h
  · rename_i g;exact absurd h g
  · rename_i g;rcases List.mem_cons.1 hc with rfl | hc
    · exact Decidable.of_not_not g
    · exact Yg h c hc
theorem Zy.need0 {s:Clu} (h:Zy s) {n:Pd} (hn:n ∈ s.pods):Vec.jn n.need=0:=by
 have ho:=h.pods;unfold jw at ho;split at ho
 · cases ho
 · exact Yg (XQ ho n hn) _ (by simp[Zj])
theorem jcH {s:Clu} (h:zX s=true):Zm s.nodes:=by
 have hc:=Z5 h;have h0:or3 (js s.nodes) (jw s.pods) (jB s.buds)=0:=Decidable.byContradiction fun g=>g ((Ye (nl:=s.nodes) (pl:=s.pods) (bl:=s.buds) rfl g).symm.trans hc);have ho:js s.nodes=0:=by
  unfold or3 at h0;split at h0
  · rename_i h1;exact absurd h0 h1
  · rename_i h1;exact Decidable.of_not_not h1
 unfold js at ho;split at ho
 · cases ho
 · exact(J9 ho).2.1
theorem X4 {x y:ByteArray} (h:ltS x y=true):x≠y:=fun e=>by subst e;exact absurd (Vec.zy h h) (by rw[Vec.Z4];decide)
def jao (p:Pd):List Pd→Nat
 | []=>0
 | q::t=>(if za p q=true then 1 else 0)+jao p t
theorem jaS (p:Pd):∀l:List Pd,jao p l≤l.length
 | []=>Nat.le_refl _
 | q::t=>by have:=jaS p t;rw[jao,List.length_cons];split<;>omega
def Zn (p q:Pd) (d:ByteArray):List Nod→Nat
 | []=>0
 | n::t=>(if jr n.labels p.key=some d∧q.node=n.name then 1 else 0)+Zn p q d t
theorem Xe (p q:Pd) (d:ByteArray):∀{l:List Nod},(∀n ∈ l,q.node≠n.name)→Zn p q d l=0
 | [],_=>rfl
 | n::t,h=>by rw[Zn,if_neg fun e=>h n (by simp) e.2,Xe p q d fun x hx=>h x (by simp[hx])]
theorem ja3 (p q:Pd) (d:ByteArray):∀{l:List Nod},Zm l→Zn p q d l≤1
 | [],_=>Nat.zero_le _
 | n::t,h=>by
  obtain⟨h1,h2⟩:=List.pairwise_cons.1 h;rw[Zn];by_cases e:q.node=n.name
  · rw[Xe p q d fun x hx=>fun e2=>X4 (h1 x hx) (e.symm.trans e2)];split<;>omega
  · rw[if_neg fun g=>e g.2];have:=ja3 p q d h2;omega
theorem ZW (p:Pd) (d:ByteArray):∀l:List Nod,inD p [] d l=0
 | []=>rfl
 | n::t=>by rw[inD,ZW p d t];simp[onN]
theorem ZY (p q:Pd) (pods:List Pd) (d:ByteArray):∀l:List Nod,inD p (q::pods) d l=(if za p q=true then Zn p q d l else 0)+inD p pods d l
 | []=>by simp[inD,Zn]
 | n::t=>by
  rw[inD,inD,Zn,ZY p q pods d t,onN];by_cases h1:za p q=true<;>by_cases h2:jr n.labels p.key=some d<;>by_cases h3:q.node=n.name<;>simp[h1,h2,h3]<;>omega
theorem ja7 (p:Pd) (d:ByteArray) {nodes:List Nod} (h:Zm nodes):∀l:List Pd,inD p l d nodes≤jao p l
 | []=>by rw[ZW];exact Nat.zero_le _
 | q::t=>by
  have h1:=ja7 p d h t;have h2:=ja3 p q d h;rw[ZY,jao];split<;>omega
structure Sound (s:Clu):Prop where
 parts:Zy s
 asc:Asc s.pods
 need:∀p ∈ s.pods,Yk p.need
 cap:∀n ∈ s.nodes,Yk n.cap
theorem jcT {s:Clu} {w:World} {v:Value} (h:zX s=true) (hr:jT w v s):Sound s:=by
 have hp:=jdw (Z5 h);obtain⟨v1,v2,v3,rfl,⟨a,cap,rfl,-,-,h1⟩,⟨b,cp,rfl,-,-,h2⟩,-⟩:=hr;refine⟨hp,jdf h,fun p hm=>XK (hp.need0 hm) ?_,fun n hm=>XK (hp.cap0 hm) ?_⟩
 · obtain⟨k,hk,rfl⟩:=List.mem_iff_getElem.1 hm;rcases h2.2.2 with h0 | ⟨b,off,-,-,hc⟩
   · omega
   · obtain⟨v1,v2,v3,v4,-,-,-,-,-,-,-,-,-,-,-,hat⟩:=hc k _ (List.getElem?_eq_getElem hk);obtain⟨a9,c9,-,-,-,g⟩:=hat.need;exact g.2.2.1
 · obtain⟨k,hk,rfl⟩:=List.mem_iff_getElem.1 hm;rcases h1.2.2 with h0 | ⟨b,off,-,-,hc⟩
   · omega
   · obtain⟨a1,m1,c1,a2,m2,c2,a3,m3,c3,-,-,-,-,-,hat⟩:=hc k _ (List.getElem?_eq_getElem hk);obtain⟨a9,c9,-,-,-,g⟩:=hat.cap;exact g.2.2.1
abbrev PZ:List Value:=[.string ⟨#[]⟩,.string ⟨#[]⟩,.int .i64 0,.slice none 0 0,.slice none 0 0,.slice none 0 0,.slice none 0 0,.string ⟨#[]⟩,.int .i64 0,.string ⟨#[]⟩,.bool false]
def qJ (q:Nat) (W:World):Prop:=∀i,W.cell? ⟨q,i,none⟩=PZ[i]?
theorem jG {q:Nat} {W:World} {T:TypeId} {fr:Nat×Nat} (h:W.heap[q]?=some (.cells PZ.toArray T fr)):qJ q W:=fun i=>by
 rw[Lib.cell_of_heap h];simp
theorem YF:∀{o:Nat} {y:ByteArray},PZ[o]?=some (.string y)→y=⟨#[]⟩
 | 0,y,h=>by cases h;rfl
 | 1,y,h=>by cases h;rfl
 | 2,y,h=>by cases h
 | 3,y,h=>by cases h
 | 4,y,h=>by cases h
 | 5,y,h=>by cases h
 | 6,y,h=>by cases h
 | 7,y,h=>by cases h;rfl
 | 8,y,h=>by cases h
 | 9,y,h=>by cases h;rfl
 | 10,y,h=>by cases h
 | o+11,y,h=>by simp at h
theorem jaj:∀{o:Nat} {y:ByteArray} {a:Option Addr} {n c:Nat},PZ[o]?=some (.string y)→PZ[o+1]?=some (.slice a n c)→False
 | 0,_,_,_,_,_,h=>by cases h
 | 1,_,_,_,_,_,h=>by cases h
 | 2,_,_,_,_,h,_=>by cases h
 | 3,_,_,_,_,h,_=>by cases h
 | 4,_,_,_,_,h,_=>by cases h
 | 5,_,_,_,_,h,_=>by cases h
 | 6,_,_,_,_,h,_=>by cases h
 | 7,_,_,_,_,_,h=>by cases h
 | 8,_,_,_,_,h,_=>by cases h
 | 9,_,_,_,_,_,h=>by cases h
 | 10,_,_,_,_,h,_=>by cases h
 | o+11,_,_,_,_,h,_=>by simp at h
theorem jeG:∀{o:Nat} {x y:ByteArray} {b:Bool},PZ[o]?=some (.string x)→PZ[o+1]?=some (.string y)→PZ[o+2]?=some (.bool b)→False
 | 0,_,_,_,_,_,h=>by cases h
 | 1,_,_,_,_,h,_=>by cases h
 | 2,_,_,_,h,_,_=>by cases h
 | 3,_,_,_,h,_,_=>by cases h
 | 4,_,_,_,h,_,_=>by cases h
 | 5,_,_,_,h,_,_=>by cases h
 | 6,_,_,_,h,_,_=>by cases h
 | 7,_,_,_,_,h,_=>by cases h
 | 8,_,_,_,h,_,_=>by cases h
 | 9,_,_,_,_,h,_=>by cases h
 | 10,_,_,_,h,_,_=>by cases h
 | o+11,_,_,_,h,_,_=>by simp at h
theorem jd1:∀{o:Nat} {z:Int} {x y:ByteArray},PZ[o]?=some (.int .i64 z)→PZ[o+1]?=some (.string x)→PZ[o+2]?=some (.string y)→False
 | 0,_,_,_,h,_,_=>by cases h
 | 1,_,_,_,h,_,_=>by cases h
 | 2,_,_,_,_,h,_=>by cases h
 | 3,_,_,_,h,_,_=>by cases h
 | 4,_,_,_,h,_,_=>by cases h
 | 5,_,_,_,h,_,_=>by cases h
 | 6,_,_,_,h,_,_=>by cases h
 | 7,_,_,_,h,_,_=>by cases h
 | 8,_,_,_,_,_,h=>by cases h
 | 9,_,_,_,h,_,_=>by cases h
 | 10,_,_,_,h,_,_=>by cases h
 | o+11,_,_,_,h,_,_=>by simp at h
def NoZ {α:Type} (L:Lay α) (l:List α):Prop:=∀x ∈ l,∀o,(∀(j:Nat) u,(L.cs x)[j]?=some u→PZ[o+j]?=some u)→False
theorem Xo {α:Type} {L:Lay α} {w w':World} {a:Option Addr} {len:Nat} {l:List α} {N:Nat} (hL:NoZ L l) (h:ji L w a len l) (hs:w'.heap.size=w.heap.size) (hb:∀b,b≠N→w'.heap[b]?=w.heap[b]?) (hn:qJ N w):ji L w' a len l:=by
 obtain⟨h3,h4,h5,h6⟩:=h;refine⟨h3,h4,h5,?_⟩;rcases h6 with h6 | ⟨b,off,rfl,hlt,hc⟩
 · exact .inl h6
 · cases l with
   | nil=>exact .inl h3.symm
   | cons x t =>
    have hne:b≠N:=by
     rintro rfl;refine hL x (by simp) off fun j u hu=>?_;have:=hc 0 x j u rfl hu;rw[Nat.zero_mul,Nat.add_zero,hn] at this;exact this
    exact .inr ⟨b,off,rfl,by rw[hs];exact hlt,fun i x j u hi hj=>(World.cell?_of_block (a:=⟨b,off+i*L.m+j,none⟩) (hb b hne)).trans (hc i x j u hi hj)⟩
theorem JT {α:Type} {L:Lay α} {w w':World} {v:Value} {l:List α} {N:Nat} (hL:NoZ L l) (h:Reads L w v l) (hs:w'.heap.size=w.heap.size) (hb:∀b,b≠N→w'.heap[b]?=w.heap[b]?) (hn:qJ N w):Reads L w' v l:=by
 obtain⟨a,cap,rfl,h1,h2,h3⟩:=h;exact⟨a,cap,rfl,h1,h2,Xo hL h3 hs hb hn⟩
theorem jah {l:PL} (h:∀x ∈ l,x.1≠⟨#[]⟩):NoZ jl l:=fun x hx o hc=>h x hx (YF (hc 0 _ rfl))
theorem jca (l:NL):NoZ jv l:=fun x hx o hc=>jeG (hc 0 _ rfl) (hc 1 _ rfl) (hc 2 _ rfl)
theorem jan (l:TL):NoZ jQ l:=fun x hx o hc=>jd1 (hc 0 _ rfl) (hc 1 _ rfl) (hc 2 _ rfl)
theorem jdI (l:List NX):NoZ zH l:=fun x hx o hc=>jaj (hc 0 _ rfl) (hc 1 _ rfl)
theorem jd7 (l:List BX):NoZ zt l:=fun x hx o hc=>jaj (hc 0 _ rfl) (hc 1 _ rfl)
theorem jdL {l:List PX} (h:∀x ∈ l,x.1.name≠⟨#[]⟩):NoZ zp l:=fun x hx o hc=>h x hx (YF (hc 0 _ rfl))
theorem jcr {w w':World} {v:Value} {l:Vec.V} {N:Nat} (hL:∀x ∈ l,x.1≠⟨#[]⟩) (h:Vec.Reads w v l) (hs:w'.heap.size=w.heap.size) (hb:∀b,b≠N→w'.heap[b]?=w.heap[b]?) (hn:qJ N w):Vec.Reads w' v l:=by
 obtain⟨a,cap,rfl,h1,h2,h3⟩:=h;refine⟨a,cap,rfl,h1,h2,?_⟩;obtain⟨g0,g1,g2,g3⟩:=h3;refine⟨g0,g1,g2,?_⟩;rcases g3 with g3 | ⟨b,off,rfl,hlt,hc⟩
 · exact .inl g3
 · cases l with
   | nil=>exact .inl rfl
   | cons x t =>
    have hne:b≠N:=by
     rintro rfl;have h0:=(hc 0 (by simp)).1;rw[hn] at h0;exact hL x (by simp) (YF h0)
    refine .inr ⟨b,off,rfl,by rw[hs];exact hlt,fun i hi=>?_⟩;have e:∀j,w'.cell? ⟨b,j,none⟩=w.cell? ⟨b,j,none⟩:=fun j=>World.cell?_of_block (a:=⟨b,j,none⟩) (hb b hne);rw[e,e];exact hc i hi
theorem Yc {x:ByteArray} (h:isName x=true):x≠⟨#[]⟩:=fun e=>by
 rw[e,show isName ⟨#[]⟩=false by kernel_rfl] at h;cases h
theorem qK:∀{prev:Option ByteArray} {l:PL},zj prev l=0→∀x ∈ l,isName x.1=true
 | _,[],_,x,hx=>by cases hx
 | prev,y::t,h,x,hx=>by
  rw[zj] at h;split at h
  · cases h
  · rename_i h1;split at h
    · cases h
    · rcases List.mem_cons.1 hx with rfl | hx
      · have h1:(isName x.1&&isName x.2)=true:=by simpa using h1
        exact(Bool.and_eq_true_iff.1 h1).1
      · exact qK h x hx
theorem X1 {l:PL} (h:JK l=0):∀x ∈ l,x.1≠⟨#[]⟩:=by
 unfold JK at h;split at h
 · cases h
 · exact fun x hx=>Yc (qK h x hx)
structure XE (n:Nod):Prop where
 cap:∀x ∈ n.cap,x.1≠⟨#[]⟩
 labels:∀x ∈ n.labels,x.1≠⟨#[]⟩
structure YT (p:Pd):Prop where
 name:p.name≠⟨#[]⟩
 need:∀x ∈ p.need,x.1≠⟨#[]⟩
 labels:∀x ∈ p.labels,x.1≠⟨#[]⟩
theorem jdA {n:Nod} (h:jE n=0) (hc:Yk n.cap):XE n:=by
 refine⟨fun x hx=>Yc (hc.1.1 x hx).1,?_⟩;unfold jE at h;split at h
 · cases h
 · split at h
   · rename_i h1;exact absurd h h1
   · split at h
     · rename_i h1;exact absurd h h1
     · rename_i h1;exact X1 (Decidable.of_not_not h1)
theorem qR {p:Pd} (h:zw p=0) (hc:Yk p.need):YT p:=by
 have hz:=Yg (l:=Zj p) h;unfold Zj at hz;simp only[List.mem_cons,List.not_mem_nil,or_false] at hz;refine⟨?_,fun x hx=>Yc (hc.1.1 x hx).1,X1 (hz _ (.inr (.inr (.inr (.inl rfl)))))⟩;have h0:=hz _ (.inl rfl);unfold Zo at h0;split at h0
 · rename_i h1;exact Yc h1.1
 · cases h0
section
variable {w w':World} {N:Nat} (hs:w'.heap.size=w.heap.size) (hb:∀b,b≠N→w'.heap[b]?=w.heap[b]?) (hn:qJ N w)
include hs hb hn
theorem jcZ {v1 v2 v3:Value} {n:Nod} (hf:XE n) (h:zl w v1 v2 v3 n):zl w' v1 v2 v3 n:=⟨h.size,jcr hf.cap h.cap hs hb hn,JT (jah hf.labels) h.labels hs hb hn,JT (jca _) h.taints hs hb hn⟩
theorem zo {v1 v2 v3 v4:Value} {n:Pd} (hf:YT n) (h:jA w v1 v2 v3 v4 n):jA w' v1 v2 v3 v4 n:=⟨h.name,h.owner,h.key,h.node,h.prio,h.most,jcr hf.need h.need hs hb hn,JT (jah hf.labels) h.labels hs hb hn,JT (jan _) h.sel hs hb hn,JT (jca _) h.tols hs hb hn⟩
theorem jc2 {v:Value} {l:List Nod} (hf:∀n ∈ l,XE n) (h:zn w v l):zn w' v l:=by
 obtain⟨a,cap,rfl,h1,h2,h3⟩:=h;obtain⟨lx,hm,hr,hat⟩:=ja5 h3;exact⟨a,cap,rfl,h1,h2,by
  rw[←hm];exact Yr (by rw[hm];exact Xo (jdI lx) hr hs hb hn) fun z hz=>jcZ hs hb hn (hf _ (by rw[←hm];exact List.mem_map_of_mem hz)) (hat z hz)⟩
theorem jdR {v:Value} {l:List Pd} (hf:∀n ∈ l,YT n) (h:zP w v l):zP w' v l:=by
 obtain⟨a,cap,rfl,h1,h2,h3⟩:=h;obtain⟨lx,hm,hr,hat⟩:=ja0 h3;have hfx:∀z ∈ lx,YT z.1:=fun z hz=>hf _ (by rw[←hm];exact List.mem_map_of_mem hz);exact⟨a,cap,rfl,h1,h2,by
  rw[←hm];exact Xc (by rw[hm];exact Xo (jdL fun z hz=>(hfx z hz).name) hr hs hb hn) fun z hz=>zo hs hb hn (hfx z hz) (hat z hz)⟩
theorem jeb {v:Value} {l:List Bd} (h:zF w v l):zF w' v l:=by
 obtain⟨a,cap,rfl,h1,h2,h3⟩:=h;obtain⟨lx,hm,hr,hat⟩:=ja2 h3;exact⟨a,cap,rfl,h1,h2,by
  rw[←hm];exact qX (by rw[hm];exact Xo (jd7 lx) hr hs hb hn) fun z hz=>by
   have g:=hat z hz;exact⟨g.name,g.floor,JT (jan _) g.sel hs hb hn⟩⟩
theorem Ja {v:Value} {s:Clu} (hf:∀n ∈ s.nodes,XE n) (hg:∀n ∈ s.pods,YT n) (h:jT w v s):jT w' v s:=by
 obtain⟨v1,v2,v3,e,g⟩:=h;exact⟨v1,v2,v3,e,jc2 hs hb hn hf g.nodes,jdR hs hb hn hg g.pods,jeb hs hb hn g.buds⟩
end
theorem jP {v1 v2 v3 v4:Value} {n:Pd} {w w':World} {M:Nat} (hs:w'.heap.size=w.heap.size) (hbM:∀b,b≠M→w'.heap[b]?=w.heap[b]?) (hm:Zx w M) (h:jA w v1 v2 v3 v4 n):jA w' v1 v2 v3 v4 n:=⟨h.name,h.owner,h.key,h.node,h.prio,h.most,Y9 h.need hs hbM hm.noRow,zN jdG h.labels hs hbM hm,zN jbj h.sel hs hbM hm,zN jdD h.tols hs hbM hm⟩
theorem jbt {s:Clu} (h:Sound s):∀n ∈ s.nodes,XE n:=fun n hn=>by
 have hN:=h.parts.nodes;unfold js at hN;split at hN
 · cases hN
 · exact jdA ((J9 hN).2.2 n hn) (h.cap n hn)
theorem jbY {s:Clu} (h:Sound s):∀p ∈ s.pods,YT p:=fun p hp=>by
 have hP:=h.parts.pods;unfold jw at hP;split at hP
 · cases hP
 · exact qR (XQ hP p hp) (h.need p hp)
end Go.Proofs.Ytgfoenfaohhjcaa
namespace Go.Proofs.Ytgfoenfaohhjcaa
open Go.RowKit
theorem jcO (p q:Pd) (d:ByteArray):∀{l:List Nod},Zm l→Zn p q d l=if domV p.key q.node l=some d then 1 else 0
 | [],_=>by simp[Zn,domV]
 | n::t,h=>by
  obtain⟨h1,h2⟩:=List.pairwise_cons.1 h;rw[Zn,domV];by_cases e:q.node=n.name
  · rw[Xe p q d fun x hx=>fun e2=>X4 (h1 x hx) (e.symm.trans e2),if_pos (show eqS n.name q.node=true from jJ.2 e.symm),Nat.add_zero];by_cases g:jr n.labels p.key=some d
    · rw[if_pos ⟨g,e⟩,if_pos g]
    · rw[if_neg fun x=>g x.1,if_neg g]
  · rw[if_neg fun x=>e x.2,if_neg (show ¬eqS n.name q.node=true from fun g=>e (jJ.1 g).symm),jcO p q d h2,Nat.zero_add]
theorem jdr {key d:ByteArray} {nodes:List Nod}:d ∈ zG key nodes↔∃n ∈ nodes,jr n.labels key=some d:=by
 unfold zG;rw[List.mem_map];constructor
 · rintro ⟨x,hx,rfl⟩;have:=((Jm key nodes).2 x).1 hx;unfold Jl zS at this;obtain⟨y,hy,rfl⟩:=List.mem_map.1 this;obtain⟨n,hn,e⟩:=List.mem_filterMap.1 hy;exact⟨n,hn,by rw[Zc];exact e⟩
 · rintro ⟨n,hn,e⟩;refine⟨d.data.toList,((Jm key nodes).2 _).2 ?_,Zc d⟩;unfold Jl zS;exact List.mem_map.2 ⟨d,List.mem_filterMap.2 ⟨n,hn,e⟩,rfl⟩
theorem qD {k d:ByteArray}:∀{l:PL},jr l k=some d→∃x ∈ l,x.2=d
 | y::t,h=>by
  rw[jr] at h;split at h
  · exact⟨y,by simp,Option.some.inj h⟩
  · obtain⟨x,hx,e⟩:=qD h;exact⟨x,by simp[hx],e⟩
theorem YH:∀{prev:Option ByteArray} {l:List Nod},jU prev l=0→∀n ∈ l,jE n=0
 | _,[],_,x,hx=>by cases hx
 | prev,y::t,h,x,hx=>by
  by_cases z:jE y=0
  · by_cases b:Vec.jm prev y.name=true
    · rw[Z7 z b] at h;cases h
    · rw[Zv z (by simpa using b)] at h;rcases List.mem_cons.1 hx with rfl | hx
      · exact z
      · exact YH h x hx
  · rw[Xd z] at h;exact absurd h z
theorem jbG {s:Clu} (h:zX s=true):∀n ∈ s.nodes,jE n=0:=by
 have hc:=Z5 h;have h0:or3 (js s.nodes) (jw s.pods) (jB s.buds)=0:=Decidable.byContradiction fun g=>g ((Ye (nl:=s.nodes) (pl:=s.pods) (bl:=s.buds) rfl g).symm.trans hc);have ho:js s.nodes=0:=by
  unfold or3 at h0;split at h0
  · rename_i h1;exact absurd h0 h1
  · rename_i h1;exact Decidable.of_not_not h1
 unfold js at ho;split at ho
 · cases ho
 · exact YH ho
theorem jdm {n:Nod} (h:jE n=0):isName n.name=true:=by
 unfold jE at h;split at h
 · cases h
 · rename_i h1;simpa using h1
theorem Y1 {key x:ByteArray} (hx:isName x=false):∀{l:List Nod},(∀n ∈ l,jE n=0)→domV key x l=none
 | [],_=>rfl
 | n::t,h=>by
  rw[domV,if_neg fun e=>by
   have:=jdm (h n (by simp));rw[jJ.1 e,hx] at this
   cases this]
  exact Y1 hx fun m hm=>h m (by simp[hm])
theorem ji.preP {α:Type} {L:Lay α} {w:World} {b off len:Nat} {l:List α} {k:Nat} (h:ji L w (some ⟨b,off,none⟩) len l) (hk:k≤l.length):ji L w (some ⟨b,off,none⟩) k (l.take k):=by
 have:=h.part 0 k (by have:=h.1;omega);simpa using this
theorem ji.postP {α:Type} {L:Lay α} {w:World} {b off len:Nat} {l:List α} {k:Nat} (h:ji L w (some ⟨b,off,none⟩) len l) (hk:k≤l.length):ji L w (some ⟨b,off+k*L.m,none⟩) (l.length-k) (l.drop k):=by
 have:=h.part k (l.length-k) (by have:=h.1;omega);rw[List.take_of_length_le (by rw[List.length_drop];omega)] at this;exact this
def XO (l:List ByteArray):Prop:=l.Pairwise fun x y=>ltS x y=true
theorem jdY {key:ByteArray} {nodes:List Nod} {la:List ByteArray} (h:XO la) (hm:∀x,x ∈ la↔x ∈ zS key nodes):la=zG key nodes:=by
 have h1:la.map (fun x=>x.data.toList)=Z3 key nodes:=YJ (List.pairwise_map.2 (h.imp fun {a b} h=>by
  rw[Vec.qs,bytesLess_eq] at h;exact of_decide_eq_true h)) (Jm key nodes).1 fun x=>by
  rw[(Jm key nodes).2];unfold Jl;constructor
  · intro hx;obtain⟨y,hy,rfl⟩:=List.mem_map.1 hx;exact List.mem_map.2 ⟨y,(hm y).1 hy,rfl⟩
  · intro hx;obtain⟨y,hy,rfl⟩:=List.mem_map.1 hx;exact List.mem_map.2 ⟨y,(hm y).2 hy,rfl⟩
 unfold zG;rw[←h1,List.map_map];refine(List.map_id la).symm.trans (List.map_congr_left fun x _=>?_);exact(Zc x).symm
theorem jd3 {la:List ByteArray} {q:Nat} {d:ByteArray} (h:XO la) (h1:∀x ∈ la.take q,ltS x d=true) (h2:∀x ∈ la.drop q,ltS d x=true):XO (la.take q++d::la.drop q):=by
 refine List.pairwise_append.2 ⟨h.sublist (List.take_sublist _ _),List.pairwise_cons.2 ⟨h2,h.sublist (List.drop_sublist _ _)⟩,fun x hx y hy=>?_⟩;rcases List.mem_cons.1 hy with rfl | hy
 · exact h1 x hx
 · exact Vec.zy (h1 x hx) (h2 y hy)
theorem ins_mem' {la:List ByteArray} {q:Nat} {d x:ByteArray}:x ∈ la.take q++d::la.drop q↔x ∈ la∨x=d:=by
 rw[List.mem_append,List.mem_cons];have:x ∈ la↔x ∈ la.take q∨x ∈ la.drop q:=by
  conv=>lhs;rw[←List.take_append_drop q la]
  exact List.mem_append
 rw[this];constructor
 · rintro (h | h | h)
   · exact .inl (.inl h)
   · exact .inr h
   · exact .inl (.inr h)
 · rintro ((h | h) | h)
   · exact .inl h
   · exact .inr (.inr h)
   · exact .inr (.inl h)
theorem jcQ {la:List ByteArray} {q:Nat} {d y:ByteArray} (h:XO la) (hy:la[q]?=some y) (h1:ltS y d=false) (h2:eqS y d=false):∀x ∈ la.drop q,ltS d x=true:=by
 have hdy:ltS d y=true:=by
  cases hc:ltS d y with
  | true=>rfl
  | false =>
   have:=Vec.YO h1 hc;subst this;rw[JU] at h2;cases h2
 obtain⟨hq,rfl⟩:=List.getElem?_eq_some_iff.1 hy;intro x hx;rw[List.drop_eq_getElem_cons hq] at hx;rcases List.mem_cons.1 hx with rfl | hx
 · exact hdy
 · obtain⟨j,hj,rfl⟩:=List.mem_iff_getElem.1 hx;rw[List.getElem_drop];exact Vec.zy hdy (List.pairwise_iff_getElem.1 h q (q+1+j) hq (by rw[List.length_drop] at hj;omega) (by omega))
theorem jed {la:List ByteArray} {q:Nat} {d y:ByteArray} (h:∀x ∈ la.take q,ltS x d=true) (hy:la[q]?=some y) (h1:ltS y d=true):∀x ∈ la.take (q+1),ltS x d=true:=by
 intro x hx;rw[List.take_add_one,hy] at hx;rcases List.mem_append.1 hx with hx | hx
 · exact h x hx
 · rcases List.mem_singleton.1 hx with rfl;exact h1
theorem jdc {key:ByteArray} {l:List Nod} {k:Nat} {n:Nod} (h:l[k]?=some n) (hg:jr n.labels key=none):zS key (l.take (k+1))=zS key (l.take k):=by rw[YA h,hg];simp
theorem qY {key d:ByteArray} {l:List Nod} {k:Nat} {n:Nod} (h:l[k]?=some n) (hg:jr n.labels key=some d) {x:ByteArray}:x ∈ zS key (l.take (k+1))↔x ∈ zS key (l.take k)∨x=d:=by rw[YA h,hg];simp
theorem jc5 {w:World} {v:Value} {l:PL} {k d:ByteArray} (h:Reads jl w v l) (hd:jr l k=some d):d.size≤maxLen:=by
 obtain⟨x,hx,rfl⟩:=qD hd;obtain⟨a,cap,-,-,-,hr⟩:=h;exact(hr.2.2.1 x hx).2
theorem kindStr:Kind 57 9 1 16:=by
 obtain⟨i,hi,hz,h1,h2⟩:=info_parts (show (Try.prog.info? 9).map (fun i=>(i.zero,i.size,i.bytes))=some (some (.string ByteArray.empty),1,16) by kernel_rfl);exact⟨i,_,Try.underlying57,hi,hz,h1,h2,rfl,by decide⟩
theorem Yq (a:Option Addr) (len cap:Nat) (l:PL) (n:ByteArray) (w:World) (hr:ji jl w a len l) :
 Calls Try.prog 48 #[.slice a len cap,.string n] w fun e w'=>e=.returned (.tuple #[.string (Zb l n),.bool (Za l n)])∧w=w':=by
 have hl:=hr.1;have hm:=hr.2.1;unfold maxLen at hm;rcases hr.form with h0 | ⟨b,off,rfl⟩
 · subst h0;have HE:=lH (show jr l n=none by rw[List.eq_nil_of_length_eq_zero hl];rfl);clear hr hl;go_enter Try.func48,Try.ntmps48;go_wp2;refine wp_loop_rounds 1 ?_;rw[rounds_succ];go_wp2;go_ret2
   exact⟨Zi HE.out,rfl⟩
 · have HR:=lH hr;have HL:=lH hl;clear hr hl;go_enter Try.func48,Try.ntmps48;go_wp2;go_loop [6] (fun i=>∃k:Nat,k≤len∧i=.int .i64 k∧jr (l.drop k) n=jr l n) (fun i=>len-(intOf i).toNat)
   case atStart=>exact⟨0,Nat.zero_le _,rfl,rfl⟩
   case round =>
    obtain⟨k,hk,rfl,hrest⟩:=hrel;by_cases hlt:k<len
    · obtain⟨x,y,hx,hd,hb,hz,hz2,c1,c2⟩:=HR.out.pair hlt;have HT:=lH (hrest.symm.trans ((congrArg (fun z=>jr z n) hd).trans (XZ _ _ _ _)));clear hrest hx hd;by_cases e:eqS x n=true
      · have E:=lH e;have e':(x.toList==n.toList)=true:=e;clear e;go_wp2;go_ret2
        exact⟨Zi (HT.out.trans (if_pos E.out)),rfl⟩
      · have E:=lH e;have e':(x.toList==n.toList)=false:=by unfold eqS at e;simpa using e
        clear e;go_wp2;go_round
        case rel=>exact⟨k+1,by omega,by go_num,(HT.out.trans (if_neg E.out)).symm⟩
        case measure=>simp[intOf];omega
    · have HS:=lH (hrest.symm.trans (congrArg (fun z=>jr z n) (zM (by rw[HL.out];exact hlt))));clear hrest;go_wp2;go_ret2
      exact⟨Zi (HS.out.trans rfl),rfl⟩
end Go.Proofs.Ytgfoenfaohhjcaa
