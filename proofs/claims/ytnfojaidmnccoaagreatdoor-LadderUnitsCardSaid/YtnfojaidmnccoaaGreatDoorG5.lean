/- The law. -/
import Derived.Test.YtnfojaidmnccoaaGreatDoorG4
set_option linter.unusedVariables false
set_option maxRecDepth 100000
set_option maxHeartbeats 25600000
namespace Go.Proofs.YtnfojaidmnccoaaGreatDoor
open Go.RowKit
theorem YU {n:Int} (h:(Lit.int .u16 n).wf=true):0≤n∧n<65536:=by
 simp only[Lit.wf,IntKind.min,IntKind.max,decide_eq_true_eq] at h;simp[IntKind.signed,IntKind.bits] at h;omega
theorem qp (w:World) (u c p:Int) (T:TypeId) (hu:I64 u) (hc:I64 c) (hp:I64 p):Reads jR (w.alloc (.cells #[.int .i64 u,.int .i64 c,.int .i64 p] T)) (.slice (some ⟨w.heap.size,0,none⟩) 1 1) [(u,c,p)]:=by
 refine⟨_,1,rfl,Nat.le_refl _,by decide,rfl,(by decide:1≤maxLen),(fun x hx=>(by obtain rfl:x=(u,c,p):=(by simpa using hx);exact⟨hu,hc,hp⟩)),.inr ⟨w.heap.size,0,rfl,by simp,fun i x j v hi hj=>?_⟩⟩;have hh:=w.alloc_heap_new (.cells #[.int .i64 u,.int .i64 c,.int .i64 p] T)
 match i,hi with
 | 0,hi =>
  obtain rfl:(u,c,p)=x:=by simpa using hi
  have hj':[Value.int .i64 u,.int .i64 c,.int .i64 p][j]?=some v:=hj;rw[Lib.cell_of_heap hh];show #[Value.int .i64 u,.int .i64 c,.int .i64 p][0+0*3+j]?=some v;rw[show 0+0*3+j=j by omega];simpa using hj'
theorem Yn {l:Vec.V} {A B C P S:Nat} (h:Vec.jf l=0) (hS:A+B=S) (hA:A<100) (hB:B<29) (hC:C<129) (hP:P<1001):jU ⟨Vec.cpu,l,[(5,(C:Int),(P:Int))],(A:Int),(S:Int)⟩=0:=by
 have h1:zA Vec.cpu=0:=by kernel_rfl
 have h2:jW [(5,(C:Int),(P:Int))]=0:=by
  unfold jW;rw[if_neg (by simp),jr,YN (by dsimp only;omega) (by dsimp only;omega) (by dsimp only;omega) (by dsimp only;omega) (by dsimp only;omega)];rfl
 unfold jU;dsimp only;rw[h1,h,qX (by omega) (by omega) (by omega),h2];rfl
theorem jaT {l:Vec.V} {a b c p:Int}:atL ⟨Vec.cpu,l,[(5,c,p)],a,b⟩ []=some (5,c,p):=by
 unfold atL zr;rw[show Vec.ji [] _=0 from rfl];simp
theorem LadderUnits_walk (v:Value) (l:Vec.V) (a b c d:Int) (w:World) (hE:Vec.jX w) (hv:Vec.Reads w v l) (ha:(Lit.int .u8 a).wf=true) (hb:(Lit.int .u8 b).wf=true) (hc:(Lit.int .u8 c).wf=true) (hd:(Lit.int .u16 d).wf=true):Calls Tryz.prog 7 #[v,.int .u8 a,.int .u8 b,.int .u8 c,.int .u16 d] w fun e w'=>e=.returned (.bool true)∧Kept w w':=by
 have b1:=bounds_u8 ha;have b2:=bounds_u8 hb;have b3:=bounds_u8 hc;have b4:=YU hd;clear ha hb hc hd;obtain⟨A,hA⟩:∃q:Nat,a % 100=(q:Int):=⟨(a % 100).toNat,by omega⟩
 have hAb:A<100:=by omega
 obtain⟨B,hB⟩:∃q:Nat,b % 29=(q:Int):=⟨(b % 29).toNat,by omega⟩
 have hBb:B<29:=by omega
 obtain⟨C,hC⟩:∃q:Nat,c % 129=(q:Int):=⟨(c % 129).toNat,by omega⟩
 have hCb:C<129:=by omega
 obtain⟨P,hP⟩:∃q:Nat,d % 1001=(q:Int):=⟨(d % 1001).toNat,by omega⟩
 have hPb:P<1001:=by omega
 obtain⟨av,cv,rfl,-⟩:=id hv;obtain⟨n,hn⟩:=eX (l.length)
 rw[hn];rw[hn] at hv;clear hn;obtain⟨S,hS⟩:=eX (A+B)
 have hAB:(A:Int)+(B:Int)=(S:Int):=by omega
 have hSb:S<129:=by omega
 have HS:=lH hS;clear hS;have HV:=lH hv;have HE:=lH hE;clear hv hE;obtain⟨b1,b1x⟩:=b1;obtain⟨b2,b2x⟩:=b2;obtain⟨b3,b3x⟩:=b3;obtain⟨b4,b4x⟩:=b4;obtain⟨Ti,Tj,Tk,UR⟩:=lH4 hAb hBb hCb hPb;go_enter Tryz.func7,Tryz.ntmps7;go_wp2_with fail
 refine(YZ _ HE.out).mono ?_;rintro e w1 ⟨rfl,kk⟩;have K:=lH kk;have HV:=lH (HV.out.kept kk);clear kk;obtain⟨w2,hw2⟩:=eX (w1.alloc (.cells #[.int .i64 5,.int .i64 (C:Int),.int .i64 (P:Int)] 46))
 have k2:Kept w1 w2:=by rw[←hw2];exact ja _ _
 have VD:=lH (show Reads jR w2 (.slice (some ⟨w1.heap.size,0,none⟩) 1 1) [(5,(C:Int),(P:Int))] by rw[←hw2];exact qp w1 5 C P 46 (by unfold I64;decide) ⟨by omega,by omega⟩ ⟨by omega,by omega⟩);obtain⟨rb,hrb⟩:=eX (w1.heap.size)
 rw[hrb] at VD;obtain⟨w3,hw3⟩:=eX (w2.alloc (.cells #[.string ⟨#[99,112,117]⟩,.slice av n cv,.slice (some ⟨rb,0,none⟩) 1 1,.int .i64 (A:Int),.int .i64 (S:Int)] 26))
 have k3:Kept w2 w3:=by rw[←hw3];exact ja _ _
 have HL:=lH (ju w2 (.string ⟨#[99,112,117]⟩) [.slice av n cv,.slice (some ⟨rb,0,none⟩) 1 1,.int .i64 (A:Int),.int .i64 (S:Int)] 26 w3 (by rw[hw3];exact Kept.refl _));have hlz:w2.heap.size=rb+1:=by rw[←hw2,World.size_alloc,hrb]
 rw[hlz] at HL;obtain⟨K,Va,HV,EW2,EW3,ERB⟩:=lH6 (K.out.trans (k2.trans k3)) (show jZ w3 (.slice av n cv) (.slice (some ⟨rb,0,none⟩) 1 1) ⟨Vec.cpu,l,[(5,(C:Int),(P:Int))],(A:Int),(S:Int)⟩ from⟨(show Vec.cpu.size≤maxLen by decide),HV.out.kept (k2.trans k3),VD.out.kept k3,⟨by dsimp only;omega,by dsimp only;omega⟩,⟨by dsimp only;omega,by dsimp only;omega⟩⟩) (HV.out.kept (k2.trans k3)) hw2 hw3 hrb;clear k2 k3 hw2 hw3 hrb hlz;go_upto_region 5 with fail
 try rw[EW2.out]
 try rw[ERB.out]
 try rw[EW3.out]
 clear EW2 ERB EW3;obtain⟨y0,y1,y2,y3,y4⟩:=HL.out.at5;obtain⟨f1,hf1⟩:=eX (Z3 ⟨Vec.cpu,l,[(5,(C:Int),(P:Int))],(A:Int),(S:Int)⟩)
 have US:=lH (X3 ⟨Vec.cpu,l,[(5,(C:Int),(P:Int))],(A:Int),(S:Int)⟩ av (some ⟨rb,0,none⟩) n cv 1 1 w3 Va.out);rw[hf1] at US;clear hf1;go_wp2_with fail
 refine US.out.mono ?_;rintro e w4 ⟨rfl,kk⟩;obtain⟨K,HL,Va,HV⟩:=lH4 (K.out.trans kk) (HL.out.kept kk) (Va.out.kept kk) (HV.out.kept kk);clear kk US y0 y1 y2 y3 y4
 cases f1 with
 | false =>
  go_wp2;go_ret;exact⟨rfl,K.out⟩
 | true =>
  obtain⟨e2,he2⟩:=eX (Vec.jf l)
  have UT:=lH he2;have Ve:=lH (Vec.Z9 HV.out he2);clear he2;go_wp2_with fail
  refine(Ve.out).mono ?_;rintro e w5 ⟨rfl,kk⟩;obtain⟨K,HL,Va,HV⟩:=lH4 (K.out.trans kk) (HL.out.kept kk) (Va.out.kept kk) (HV.out.kept kk);clear kk Ve;by_cases z2:e2=0
  · subst z2;have UC:=lH (show Vec.Gd l from Vec.XC UT.out (by obtain⟨_,_,-,-,-,q⟩:=HV.out;exact q.2.2.1));have Tl:=lH (show l.length≤8 from YF (Yn UT.out HS.out Ti.out Tj.out Tk.out UR.out));obtain⟨r,hr,hfit,hchk⟩:=Xy (p:=(P:Int)) UC.out Tl.out (by omega) (by have:=UR.out;omega);obtain⟨UU,UW,TS⟩:=lH3 hfit hchk hr;obtain⟨q,hq⟩:=eX (min (max (C:Int) (A:Int)) (S:Int))
    have HW:=lH (show j6 ⟨Vec.cpu,l,[(5,(C:Int),(P:Int))],(A:Int),(S:Int)⟩ []=(q,r,0) by
     rw[jam (Yn UT.out HS.out Ti.out Tj.out Tk.out UR.out),jaT];unfold Xw;dsimp only;rw[hr];rw[if_neg (by simp),←hq];rfl)
    clear hr hfit hchk;have Uc:=lH (Ym ⟨Vec.cpu,l,[(5,(C:Int),(P:Int))],(A:Int),(S:Int)⟩ av (some ⟨rb,0,none⟩) n cv 1 1 (.slice none 0 0) [] w5 Va.out (Vec.Reads.nil _));rw[HW.out] at Uc;unfold XD at Uc;dsimp only at Uc;obtain⟨y0,y1,y2,y3,y4⟩:=HL.out.at5;go_wp2_with fail
    refine(Uc.out).mono ?_;rintro e w6 ⟨xw,rfl,hrd,kk⟩;obtain⟨K,HL,Va,HV,Vy⟩:=lH5 (K.out.trans kk) (HL.out.kept kk) (Va.out.kept kk) (HV.out.kept kk) hrd;clear hrd kk Uc y0 y1 y2 y3 y4;have Tm:=lH (Vec.jbc Vy.out HV.out UU.out);go_wp2_with fail
    refine(Tm.out).mono ?_;rintro e w7 ⟨rfl,kk⟩;obtain⟨K,HL,Va,HV,Vy⟩:=lH5 (K.out.trans kk) (HL.out.kept kk) (Va.out.kept kk) (HV.out.kept kk) (Vy.out.kept kk);clear kk Tm;have Tn:=lH (Vec.Z9 Vy.out UW.out);go_wp2_with fail
    refine(Tn.out).mono ?_;rintro e w8 ⟨rfl,kk⟩;obtain⟨K,HL,Va,HV,Vy⟩:=lH5 (K.out.trans kk) (HL.out.kept kk) (Va.out.kept kk) (HV.out.kept kk) (Vy.out.kept kk);clear kk Tn;by_cases hP1:P=1000
    · subst hP1;have hrl:r=l:=by
       have h1:=TS.out;rw[show ((1000:Nat):Int)=1000 from rfl,Vec.XG UC.out Tl.out] at h1;exact(Prod.mk.inj h1).2.symm
      have TT:=lH (Vec.jbk Vy.out HV.out (Vec.jaP hrl));clear hrl;go_wp2_with fail
      refine TT.out.mono ?_;rintro e w9 ⟨rfl,kk⟩;have K:=lH (K.out.trans kk);clear kk;go_wp2;go_ret;exact⟨rfl,K.out⟩
    · have hP2:((P:Int) != 1000)=true:=by simp;omega
      clear hP1;go_wp2;go_ret;exact⟨rfl,K.out⟩
  · have z2':(e2 != 0)=true:=by simpa using z2
    clear z2;go_wp2;go_ret;exact⟨rfl,K.out⟩
end Go.Proofs.YtnfojaidmnccoaaGreatDoor
