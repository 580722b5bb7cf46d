/- C. -/
import Derived.Test.YtibepooajeakfaaGreatG0
import Derived.Test.YtibepooajeakfaaGreatG2
import Derived.Test.YtibepooajeakfaaGreatG4
import Derived.Test.YtibepooajeakfaaGreatG5
import Derived.Test.YtibepooajeakfaaGreatG6
import Derived.Test.YtibepooajeakfaaGreatG8
import Derived.Lib.AppendZerosOnto
import Derived.Lib.Overlaps
set_option linter.unusedVariables false
set_option maxRecDepth 100000
set_option maxHeartbeats 25600000
namespace Go.Proofs.YtibepooajeakfaaGreat
open Go.RowKit
theorem Kept.oneB (w:World) (c:Array Value) (t:TypeId):Kept w (w.alloc (.cells c t)):=(Below.refl _ _).alloc (Nat.le_refl _) _
theorem jaj (x y:Nat):FloatKind.f64.format.order x y=if isNaN x||isNaN y then none else some (ZA (jr x) (jr y)):=jko x y
theorem jeB (x:Nat):(FloatKind.f64.format.order x x != some .eq)=isNaN x:=by
 rw[jaj];cases isNaN x<;>simp[ZA]
theorem jdS (x y:Nat):(FloatKind.f64.format.order x y==some .lt)=(!isNaN x&&!isNaN y&&decide (jr x<jr y)):=by
 rw[jaj];unfold ZA;cases isNaN x<;>cases isNaN y<;>simp<;>split<;>simp_all<;>first | omega | (split<;>simp_all<;>omega)
theorem jad (x y:Nat):(FloatKind.f64.format.order x y==some .gt)=(!isNaN x&&!isNaN y&&decide (jr y<jr x)):=by
 rw[jaj];unfold ZA;cases isNaN x<;>cases isNaN y<;>simp<;>split<;>simp_all<;>first | omega | (split<;>simp_all<;>omega)
theorem Y0:jr 0=0∧isNaN 0=false∧sgn 0=false∧rung 0=0:=by decide +kernel
theorem XD:jr 9218868437227405311=9218868437227405311∧isNaN 9218868437227405311=false:=by decide +kernel
theorem jjR {P:Program} (k:FloatKind) (b:Nat) (w:World):(Op.unary .neg (.float k b)).run P w=.ok (.float k (Op.negFloat k b)) w:=rfl
theorem jm0 (x:Nat):Op.negFloat .f64 x=x ^^^ 2 ^ 63:=rfl
theorem Zv (x:Nat) (w:World):Calls Tryz.prog 306 #[.float .f64 x] w fun e w'=>e=.returned (.bool (isNaN x))∧w=w':=by
 have h:=jeB x;go_enter Tryz.func306,Tryz.ntmps306;go_wp2;go_ret;exact⟨rfl,rfl⟩
theorem Z4 (x:Nat) (w:World) (hx:isNaN x=false):Calls Tryz.prog 307 #[.float .f64 x,.int .i64 (-1)] w fun e w'=>e=.returned (.bool (decide (jr x=-9218868437227405312)))∧w=w':=by
 have h:(FloatKind.f64.format.order (Op.negFloat .f64 x) 9218868437227405311==some .gt)=decide (jr x=-9218868437227405312):=by
  rw[jad,jm0,jiI,hx,XD.2,XD.1,jik];have h1:=Ze x;have h2:=(Yr x).1 hx;have eI:=je6;simp only[Bool.not_false,Bool.true_and,decide_eq_decide];omega
 have r:=@jjR Tryz.prog .f64 x;generalize Op.negFloat .f64 x=y at h r
 go_enter Tryz.func307,Tryz.ntmps307;go_wp2;go_ret;exact⟨rfl,rfl⟩
theorem Ya (x:Nat) (w:World) (hx:isNaN x=false):Calls Tryz.prog 307 #[.float .f64 x,.int .i64 1] w fun e w'=>e=.returned (.bool (decide (jr x=9218868437227405312)))∧w=w':=by
 have h:(FloatKind.f64.format.order x 9218868437227405311==some .gt)=decide (jr x=9218868437227405312):=by
  rw[jad,hx,XD.2,XD.1];have h1:=Ze x;have h2:=(Yr x).1 hx;have eI:=je6;simp only[Bool.not_false,Bool.true_and,decide_eq_decide];omega
 go_enter Tryz.func307,Tryz.ntmps307;go_wp2;go_ret;exact⟨rfl,rfl⟩
theorem jkJ (x:Nat) (w:World):(callFunc 315 #[.float .f64 x]).run Tryz.prog w=.ok (.value (.int .u64 x)) w:=by
 rw[run_callFunc_extern Tryz.func315 (by kernel_rfl) (by kernel_rfl) (by kernel_rfl) (e:=Extern.MathFloatBits.float64bits) (by kernel_rfl)];rfl
theorem jaY (x:Nat) (w:World):Calls Tryz.prog 308 #[.float .f64 x] w fun e w'=>e=.returned (.bool (sgn x))∧w=w':=by
 have hb:=jkJ x;have hs:decide (wrap64 (x:Int)<0)=sgn x:=by
  unfold wrap64 sgn;rw[show SGN=9223372036854775808 from rfl];rcases Nat.mod_two_eq_zero_or_one (x / 9223372036854775808) with h | h
  · rw[h];simp;omega
  · rw[h];simp;omega
 go_enter Tryz.func308,Tryz.ntmps308;go_wp2;go_ret;exact⟨rfl,rfl⟩
theorem jdd (x:Nat) (w:World):Calls Tryz.prog 293 #[.float .f64 x] w fun e w'=>e=.returned (.int .i64 (cls x))∧w=w':=by
 have eI:=je6
 cases hx:isNaN x with
 | true =>
  have hc:cls x=6:=by unfold cls;rw[hx];rfl
  rw[hc];go_enter Tryz.func293,Tryz.ntmps293;go_wp2_with fail
  refine(Zv _ _).mono ?_;rintro e w' ⟨rfl,rfl⟩;go_wp2_with fail
  go_ret;exact⟨rfl,rfl⟩
 | false =>
  have h1:(FloatKind.f64.format.order x 0==some .lt)=decide (jr x<0):=by rw[jdS,hx,Y0.2.1,Y0.1];simp
  have h2:(FloatKind.f64.format.order x 0==some .gt)=decide (0<jr x):=by rw[jad,hx,Y0.2.1,Y0.1];simp
  have hc:cls x=if jr x=-9218868437227405312 then 0 else if jr x=9218868437227405312 then 5 else if jr x<0 then 1 else if 0<jr x then 4 else if sgn x then 2 else 3:=by unfold cls;rw[hx];rfl
  rw[hc];clear hc eI;by_cases a0:jr x=-9218868437227405312
  · rw[if_pos a0];go_enter Tryz.func293,Tryz.ntmps293;go_wp2_with fail
    refine(Zv _ _).mono ?_;rintro e w' ⟨rfl,rfl⟩;go_wp2_with fail
    refine(Z4 _ _ hx).mono ?_;rintro e w' ⟨rfl,rfl⟩;go_wp2_with fail
    go_ret;exact⟨rfl,rfl⟩
  · rw[if_neg a0];by_cases a1:jr x=9218868437227405312
    · rw[if_pos a1];go_enter Tryz.func293,Tryz.ntmps293;go_wp2_with fail
      refine(Zv _ _).mono ?_;rintro e w' ⟨rfl,rfl⟩;go_wp2_with fail
      refine(Z4 _ _ hx).mono ?_;rintro e w' ⟨rfl,rfl⟩;go_wp2_with fail
      refine(Ya _ _ hx).mono ?_;rintro e w' ⟨rfl,rfl⟩;go_wp2_with fail
      go_ret;exact⟨rfl,rfl⟩
    · rw[if_neg a1];by_cases a2:jr x<0
      · rw[if_pos a2];go_enter Tryz.func293,Tryz.ntmps293;go_wp2_with fail
        refine(Zv _ _).mono ?_;rintro e w' ⟨rfl,rfl⟩;go_wp2_with fail
        refine(Z4 _ _ hx).mono ?_;rintro e w' ⟨rfl,rfl⟩;go_wp2_with fail
        refine(Ya _ _ hx).mono ?_;rintro e w' ⟨rfl,rfl⟩;go_wp2_with fail
        go_ret;exact⟨rfl,rfl⟩
      · rw[if_neg a2];by_cases a3:0<jr x
        · rw[if_pos a3];go_enter Tryz.func293,Tryz.ntmps293;go_wp2_with fail
          refine(Zv _ _).mono ?_;rintro e w' ⟨rfl,rfl⟩;go_wp2_with fail
          refine(Z4 _ _ hx).mono ?_;rintro e w' ⟨rfl,rfl⟩;go_wp2_with fail
          refine(Ya _ _ hx).mono ?_;rintro e w' ⟨rfl,rfl⟩;go_wp2_with fail
          go_ret;exact⟨rfl,rfl⟩
        · rw[if_neg a3]
          cases hs:sgn x with
          | true =>
           go_enter Tryz.func293,Tryz.ntmps293;go_wp2_with fail
           refine(Zv _ _).mono ?_;rintro e w' ⟨rfl,rfl⟩;go_wp2_with fail
           refine(Z4 _ _ hx).mono ?_;rintro e w' ⟨rfl,rfl⟩;go_wp2_with fail
           refine(Ya _ _ hx).mono ?_;rintro e w' ⟨rfl,rfl⟩;go_wp2_with fail
           refine(jaY _ _).mono ?_;rintro e w' ⟨rfl,rfl⟩;go_wp2_with fail
           go_ret;exact⟨rfl,rfl⟩
          | false =>
           go_enter Tryz.func293,Tryz.ntmps293;go_wp2_with fail
           refine(Zv _ _).mono ?_;rintro e w' ⟨rfl,rfl⟩;go_wp2_with fail
           refine(Z4 _ _ hx).mono ?_;rintro e w' ⟨rfl,rfl⟩;go_wp2_with fail
           refine(Ya _ _ hx).mono ?_;rintro e w' ⟨rfl,rfl⟩;go_wp2_with fail
           refine(jaY _ _).mono ?_;rintro e w' ⟨rfl,rfl⟩;go_wp2_with fail
           go_ret;exact⟨rfl,rfl⟩
theorem qV (x:Int) (w:World):Calls Tryz.prog 120 #[.int .i64 x] w fun e w'=>e=.returned (.bool false)∧w=w':=by
 go_enter Tryz.func120,Tryz.ntmps120;go_wp2;go_ret;exact⟨rfl,rfl⟩
theorem Jd (x:Nat) (w:World):Calls Tryz.prog 309 #[.float .f64 x] w fun e w'=>e=.returned (.bool (isNaN x))∧w=w':=by
 have h:=jeB x;go_enter Tryz.func309,Tryz.ntmps309;go_wp2;go_ret;exact⟨rfl,rfl⟩
theorem jlp (x y:Int) (w:World):Calls Tryz.prog 72 #[.int .i64 x,.int .i64 y] w fun e w'=>e=.returned (.int .i64 (if x<y then -1 else if x=y then 0 else 1))∧w=w':=by
 by_cases h1:x<y
 · rw[if_pos h1];go_enter Tryz.func72,Tryz.ntmps72;go_wp2_with (go_at_call 120;refine(qV _ _).mono ?_;rintro e w' ⟨rfl,rfl⟩)
   go_ret;exact⟨rfl,rfl⟩
 · rw[if_neg h1];by_cases h2:x=y
   · rw[if_pos h2];have h3:¬y<x:=by omega
     go_enter Tryz.func72,Tryz.ntmps72;go_wp2_with (go_at_call 120;refine(qV _ _).mono ?_;rintro e w' ⟨rfl,rfl⟩)
     go_ret;exact⟨rfl,rfl⟩
   · rw[if_neg h2];have h3:y<x:=by omega
     go_enter Tryz.func72,Tryz.ntmps72;go_wp2_with (go_at_call 120;refine(qV _ _).mono ?_;rintro e w' ⟨rfl,rfl⟩)
     go_ret;exact⟨rfl,rfl⟩
theorem jcR (x y:Nat) (w:World) (h:cls x=cls y):Calls Tryz.prog 294 #[.float .f64 x,.float .f64 y] w fun e w'=>e=.returned (.int .i64 (cp x y))∧w=w':=by
 cases hx:isNaN x with
 | true =>
  obtain⟨hy,hc⟩:=jmg h hx;rw[hc];clear hc h;go_enter Tryz.func294,Tryz.ntmps294;go_wp2_with (go_at_call 309;refine(Jd _ _).mono ?_;rintro e w' ⟨rfl,rfl⟩)
  go_ret;exact⟨rfl,rfl⟩
 | false =>
  obtain⟨hy,hc⟩:=jmS h hx;rw[hc];clear hc h;have o1:(FloatKind.f64.format.order x y==some .lt)=decide (jr x<jr y):=by rw[jdS,hx,hy];simp
  have o2:(FloatKind.f64.format.order x y==some .gt)=decide (jr y<jr x):=by rw[jad,hx,hy];simp
  by_cases h1:jr x<jr y
  · rw[if_pos h1];go_enter Tryz.func294,Tryz.ntmps294;go_wp2_with (go_at_call 309;refine(Jd _ _).mono ?_;rintro e w' ⟨rfl,rfl⟩)
    go_ret;exact⟨rfl,rfl⟩
  · rw[if_neg h1];by_cases h2:jr x=jr y
    · rw[if_pos h2];have h3:¬jr y<jr x:=by omega
      go_enter Tryz.func294,Tryz.ntmps294;go_wp2_with (go_at_call 309;refine(Jd _ _).mono ?_;rintro e w' ⟨rfl,rfl⟩)
      go_ret;exact⟨rfl,rfl⟩
    · rw[if_neg h2];have h3:jr y<jr x:=by omega
      go_enter Tryz.func294,Tryz.ntmps294;go_wp2_with (go_at_call 309;refine(Jd _ _).mono ?_;rintro e w' ⟨rfl,rfl⟩)
      go_ret;exact⟨rfl,rfl⟩
open Go.RowKit Ieee
theorem jgn (x y t:Nat):isNaN ((Question.nanBits .f64 x y).cut t)=true∧(Question.nanBits .f64 x y).cut t<18446744073709551616:=by
 have e:(Question.nanBits .f64 x y).cut t=(t % 2)*9223372036854775808+9218868437227405312+1+(t / 2) % 4503599627370495:=rfl;rw[e,jgv];unfold rung;rw[show SGN=9223372036854775808 from rfl,show INF=9218868437227405312 from rfl];have ha:t % 2<2:=Nat.mod_lt _ (by decide);have hb:(t / 2) % 4503599627370495<4503599627370495:=Nat.mod_lt _ (by decide);generalize t % 2=a at ha ⊢
 generalize (t / 2) % 4503599627370495=b at hb ⊢
 omega
theorem Xi (n:Bool) {r:Nat} (h:r≤INF):isNaN (double.word n r)=false∧double.word n r<18446744073709551616∧rung (double.word n r)=r∧sgn (double.word n r)=n:=by
 have eS:SGN=9223372036854775808:=rfl;have eI:INF=9218868437227405312:=rfl;have hr:rung (double.word n r)=r:=by
  unfold rung Format.word;rw[jaA,eS];split<;>omega
 have hs:sgn (double.word n r)=n:=by
  unfold sgn Format.word;rw[jaA,eS]
  cases n
  · rw[if_neg (by simp),show r / 9223372036854775808=0 from by omega];rfl
  · rw[if_pos rfl,show (9223372036854775808+r) / 9223372036854775808=1 from by omega];rfl
 refine⟨by rw[Yr,hr];exact h,?_,hr,hs⟩;unfold Format.word;rw[jaA];split<;>omega
def jhi (mag:Nat) (place:Int):Nat:=rung (double.nearest false mag place)
theorem Xo (n:Bool) (m:Nat) (p:Int):double.nearest n m p=double.word n (jhi m p)∧jhi m p≤INF:=by
 have h:∃r,r≤INF∧∀n',double.nearest n' m p=double.word n' r:=by
  by_cases hm:m=0
  · exact⟨0,by decide,fun n'=>by unfold Format.nearest;rw[if_pos hm]⟩
  · unfold Format.nearest;simp only[hm,if_false,jbI];exact⟨min ((max (p+(m.log2:Int)-double.fractionBits) double.leastPlace-double.leastPlace).toNat*double.binade+Toward.even.cut false (m <<< (p-max (p+(m.log2:Int)-double.fractionBits) double.leastPlace).toNat) (max (p+(m.log2:Int)-double.fractionBits) double.leastPlace-p).toNat) INF,Nat.min_le_right _ _,fun n'=>rfl⟩
 obtain⟨r,hr,he⟩:=h;have:jhi m p=r:=by unfold jhi;rw[he false];exact(Xi false hr).2.2.1
 rw[this];exact⟨he n,hr⟩
theorem ja8 {d:Datum} (h:d.isNaN=false):isNaN (double.write d)=false∧double.write d<18446744073709551616:=by
 cases d with
 | number s m p =>
  unfold Format.write;dsimp only;rw[(Xo s m p).1];exact⟨(Xi s (Xo s m p).2).1,(Xi s (Xo s m p).2).2.1⟩
 | infinity s =>
  unfold Format.write;dsimp only;rw[jbI];exact⟨(Xi s (Nat.le_refl _)).1,(Xi s (Nat.le_refl _)).2.1⟩
 | nan s t=>cases h
theorem jev {a b d:Datum} (h:a.sum b=some d):d.isNaN=false:=by
 cases a<;>cases b<;>simp only[Datum.sum] at h<;>first | (cases h;done) | (split at h<;>cases h<;>rfl) | (cases h;rfl)
theorem jdw {k:Nat} {a b d:Datum} (h:a.quotient k b=some d):d.isNaN=false:=by
 cases a<;>cases b<;>simp only[Datum.quotient] at h<;>first | (cases h;done) | (cases h;rfl) | (split at h<;>first | (split at h<;>cases h<;>rfl) | (cases h;rfl))
theorem jfd {x y r:Nat} (h:double.add x y=some r):isNaN r=false∧r<18446744073709551616:=by
 unfold Format.add at h
 cases hs:(double.read x).sum (double.read y) with
 | none=>rw[hs] at h;cases h
 | some d=>rw[hs] at h;cases h;exact ja8 (jev hs)
theorem je7 {x y r:Nat} (h:double.sub x y=some r):isNaN r=false∧r<18446744073709551616:=by
 unfold Format.sub at h
 cases hs:(double.read x).sum (double.read y).opposite with
 | none=>rw[hs] at h;cases h
 | some d=>rw[hs] at h;cases h;exact ja8 (jev hs)
theorem jeo {x y r:Nat} (h:double.div x y=some r):isNaN r=false∧r<18446744073709551616:=by
 unfold Format.div at h
 cases hs:(double.read x).quotient (double.fractionBits+2) (double.read y) with
 | none=>rw[hs] at h;cases h
 | some d=>rw[hs] at h;cases h;exact ja8 (jdw hs)
def nrm (x:Nat):Option Nat:=if isNaN x then none else some x
theorem Ys {x r:Nat}:nrm x=some r↔isNaN x=false∧x=r:=by unfold nrm;cases isNaN x<;>simp
theorem YD {x:Nat}:nrm x=none↔isNaN x=true:=by unfold nrm;cases isNaN x<;>simp
theorem jcW {P:Program} (op:BinOp) (f:Nat→Nat→Option Nat) (hop:(op=.add∧f=double.add)∨(op=.sub∧f=double.sub)∨(op=.quo∧f=double.div)) (x y:Nat) (w:World) :
 ∃r n,(∀t,(binOp op t (.float .f64 x) (.float .f64 y)).run P w=.ok (.float .f64 r) (w.drewN n))∧nrm r=f x y∧r<18446744073709551616:=by
 cases h:f x y with
 | some r =>
  refine⟨r,0,fun t=>?_,?_⟩
  · rw[World.drewN_zero];refine run_float_arith w op t .f64 x y r ?_;rcases hop with ⟨rfl,rfl⟩ | ⟨rfl,rfl⟩ | ⟨rfl,rfl⟩<;>exact h
  · rw[Ys];rcases hop with ⟨rfl,rfl⟩ | ⟨rfl,rfl⟩ | ⟨rfl,rfl⟩
    · exact⟨⟨(jfd h).1,rfl⟩,(jfd h).2⟩
    · exact⟨⟨(je7 h).1,rfl⟩,(je7 h).2⟩
    · exact⟨⟨(jeo h).1,rfl⟩,(jeo h).2⟩
 | none =>
  refine⟨(Question.nanBits .f64 x y).cut (w.tape w.drawn (.nanBits .f64 x y)),1,fun t=>?_,YD.2 (jgn _ _ _).1,(jgn _ _ _).2⟩;have hd:w.drew=w.drewN 1:=rfl;rw[←hd];rcases hop with ⟨rfl,rfl⟩ | ⟨rfl,rfl⟩ | ⟨rfl,rfl⟩
  · have h':FloatKind.f64.format.add x y=none:=h;simp[binOp,Op.floatArith,h',Question.forced]
  · have h':FloatKind.f64.format.sub x y=none:=h;simp[binOp,Op.floatArith,h',Question.forced]
  · have h':FloatKind.f64.format.div x y=none:=h;simp[binOp,Op.floatArith,h',Question.forced]
theorem jk9 {P:Program} (x y:Nat) (w:World):∃r n,(∀t,(binOp .add t (.float .f64 x) (.float .f64 y)).run P w=.ok (.float .f64 r) (w.drewN n))∧nrm r=double.add x y∧r<18446744073709551616:=jcW .add _ (.inl ⟨rfl,rfl⟩) x y w
theorem jgj {P:Program} (x y:Nat) (w:World):∃r n,(∀t,(binOp .quo t (.float .f64 x) (.float .f64 y)).run P w=.ok (.float .f64 r) (w.drewN n))∧nrm r=double.div x y∧r<18446744073709551616:=jcW .quo _ (.inr (.inr ⟨rfl,rfl⟩)) x y w
def RC (x:Nat) (w:World) (e:Ending) (w':World):Prop:=e=.returned (.int .i64 (cls x))∧∃n,w'=w.drewN n
theorem jmq (x y:Int) (w:World) (t:TypeId):Calls Tryz.prog 71 #[.slice (some ⟨w.heap.size,0,none⟩) 2 2] (w.alloc (.cells #[.int .i64 x,.int .i64 y] t))
 fun e w'=>e=.returned (.int .i64 (if x=0 then y else x))∧w.alloc (.cells #[.int .i64 x,.int .i64 y] t)=w':=by
 have c0:(w.alloc (.cells #[.int .i64 x,.int .i64 y] t)).cell? ⟨w.heap.size,0,none⟩=some (.int .i64 x):=by simp
 have c1:(w.alloc (.cells #[.int .i64 x,.int .i64 y] t)).cell? ⟨w.heap.size,1,none⟩=some (.int .i64 y):=by simp
 generalize w.alloc (.cells #[.int .i64 x,.int .i64 y] t)=w1 at c0 c1 ⊢
 generalize w.heap.size=b at c0 c1 ⊢
 by_cases hx:x=0
 · subst hx;rw[if_pos rfl];by_cases hy:y=0
   · subst hy;go_enter Tryz.func71,Tryz.ntmps71;go_wp2;refine wp_loop_rounds 3 ?_;rw[rounds_succ];go_wp2;rw[rounds_succ];go_wp2;rw[rounds_succ];go_wp2;go_ret;exact⟨rfl,rfl⟩
   · go_enter Tryz.func71,Tryz.ntmps71;go_wp2;refine wp_loop_rounds 3 ?_;rw[rounds_succ];go_wp2;rw[rounds_succ];go_wp2;go_ret;exact⟨rfl,rfl⟩
 · rw[if_neg hx];go_enter Tryz.func71,Tryz.ntmps71;go_wp2;refine wp_loop_rounds 3 ?_;rw[rounds_succ];go_wp2;go_ret;exact⟨rfl,rfl⟩
def CP (x y:Nat) (w:World) (e:Ending) (w':World):Prop:=e=.returned (.int .i64 (cp x y))∧∃c t,w'=w.alloc (.cells c t)
theorem CP.kept {x y:Nat} {w:World} {e:Ending} {w':World} (h:CP x y w e w'):e=.returned (.int .i64 (cp x y))∧Kept w w':=by
 obtain⟨rfl,c,t,rfl⟩:=h;exact⟨rfl,Kept.oneB _ _ _⟩
theorem jdB (x y:Nat) (w:World):∃c:Int,Calls Tryz.prog 294 #[.float .f64 x,.float .f64 y] w fun e w'=>e=.returned (.int .i64 c)∧w=w':=by
 cases hx:isNaN x with
 | true =>
  cases hy:isNaN y with
  | true=>exact⟨_,jcR x y w (by unfold cls;rw[hx,hy];rfl)⟩
  | false =>
   refine⟨-1,?_⟩;go_enter Tryz.func294,Tryz.ntmps294;go_wp2_with (go_at_call 309;refine(Jd _ _).mono ?_;rintro e w' ⟨rfl,rfl⟩)
   go_ret;exact⟨rfl,rfl⟩
 | false =>
  cases hy:isNaN y with
  | true =>
   refine⟨1,?_⟩;go_enter Tryz.func294,Tryz.ntmps294;go_wp2_with (go_at_call 309;refine(Jd _ _).mono ?_;rintro e w' ⟨rfl,rfl⟩)
   go_ret;exact⟨rfl,rfl⟩
  | false =>
   have o1:(FloatKind.f64.format.order x y==some .lt)=decide (jr x<jr y):=by rw[jdS,hx,hy];simp
   have o2:(FloatKind.f64.format.order x y==some .gt)=decide (jr y<jr x):=by rw[jad,hx,hy];simp
   by_cases h1:jr x<jr y
   · refine⟨-1,?_⟩;go_enter Tryz.func294,Tryz.ntmps294;go_wp2_with (go_at_call 309;refine(Jd _ _).mono ?_;rintro e w' ⟨rfl,rfl⟩)
     go_ret;exact⟨rfl,rfl⟩
   · by_cases h2:jr y<jr x
     · refine⟨1,?_⟩;go_enter Tryz.func294,Tryz.ntmps294;go_wp2_with (go_at_call 309;refine(Jd _ _).mono ?_;rintro e w' ⟨rfl,rfl⟩)
       go_ret;exact⟨rfl,rfl⟩
     · refine⟨0,?_⟩;go_enter Tryz.func294,Tryz.ntmps294;go_wp2_with (go_at_call 309;refine(Jd _ _).mono ?_;rintro e w' ⟨rfl,rfl⟩)
       go_ret;exact⟨rfl,rfl⟩
theorem jaS (x y:Nat) (w:World):Calls Tryz.prog 276 #[.float .f64 x,.float .f64 y] w (CP x y w):=by
 obtain⟨c2,hc2,he⟩:∃c2:Int,(Calls Tryz.prog 294 #[.float .f64 x,.float .f64 y] w fun e w'=>e=.returned (.int .i64 c2)∧w=w') ∧
  cp x y=if (if cls x<cls y then -1 else if cls x=cls y then 0 else 1:Int)=0 then c2 else (if cls x<cls y then -1 else if cls x=cls y then 0 else 1):=by
  by_cases h2:cls x=cls y
  · refine⟨cp x y,jcR x y w h2,?_⟩;simp only[h2,Int.lt_irrefl,if_false,if_true]
  · obtain⟨c,hc⟩:=jdB x y w;refine⟨c,hc,?_⟩;by_cases h1:cls x<cls y
    · rw[if_pos h1,jkZ h1];rfl
    · rw[if_neg h1,if_neg h2,jmE (by omega)];rfl
 unfold CP;rw[he];clear he;have hcx:=jdd x w;have hcy:=jdd y w;have hci:=jlp (cls x) (cls y) w;generalize (if cls x<cls y then -1 else if cls x=cls y then 0 else 1:Int)=c1 at hci ⊢
 generalize cls x=kx at hcx hci
 generalize cls y=ky at hcy hci
 have ho:=jmq c1 c2;generalize (if c1=0 then c2 else c1)=r at ho ⊢
 have HO:=lH ho;clear ho;go_enter Tryz.func276,Tryz.ntmps276;go_wp2_with fail
 refine hcx.mono ?_;rintro e1 w1 ⟨rfl,rfl⟩;go_wp2_with fail
 refine hcy.mono ?_;rintro e1 w1 ⟨rfl,rfl⟩;go_wp2_with fail
 refine hci.mono ?_;rintro e1 w1 ⟨rfl,rfl⟩;go_wp2_with fail
 refine hc2.mono ?_;rintro e1 w1 ⟨rfl,rfl⟩;go_wp2_with fail
 refine(HO.out _ _).mono ?_;rintro e1 w1 ⟨rfl,rfl⟩;go_wp2_with fail
 go_ret;exact⟨rfl,_,_,rfl⟩
def RCP (x y:Nat) (w:World) (e:Ending) (w':World):Prop:=e=.returned (.int .i64 (cp x y))∧∃n,w'=w.drewN n
theorem RCP.kept {x y:Nat} {w:World} {e:Ending} {w':World} (h:RCP x y w e w'):e=.returned (.int .i64 (cp x y))∧Kept w w':=by
 obtain⟨rfl,n,rfl⟩:=h;exact⟨rfl,Kept.drewN _ _⟩
def AL (x y:Nat) (w:World) (e:Ending) (w':World):Prop:=e=.returned (.bool (decide (cp x y=0)))∧∃n,w'=w.drewN n
theorem AL.kept {x y:Nat} {w:World} {e:Ending} {w':World} (h:AL x y w e w'):e=.returned (.bool (decide (cp x y=0)))∧Kept w w':=by
 obtain⟨rfl,n,rfl⟩:=h;exact⟨rfl,Kept.drewN _ _⟩
abbrev TOP:Nat:=18446744073709551616
def jey (w:World) (a:Option Addr) (len:Nat) (l:List Nat):Prop :=
 l.length=len∧len≤maxLen∧(∀x ∈ l,x<TOP) ∧
  (len=0∨∃b off,a=some ⟨b,off,none⟩∧b<w.heap.size∧∀i,i<len→w.cell? ⟨b,off+i,none⟩=some (.float .f64 (l.getD i 0)))
theorem jey.kept {w w':World} {a:Option Addr} {len:Nat} {l:List Nat} (h:jey w a len l) (k:Kept w w'):jey w' a len l:=by
 obtain⟨h0,h1,h2,h3⟩:=h;refine⟨h0,h1,h2,h3.imp id ?_⟩;rintro ⟨b,off,ha,hb,hc⟩;exact⟨b,off,ha,Nat.lt_of_lt_of_le hb k.size,fun i hi=>(Below.cell k (p:=⟨b,off+i,none⟩) hb).trans (hc i hi)⟩
theorem Kept.alloc {a b:World} (h:Kept a b) (o:Obj):Kept a (b.alloc o):=h.trans ((Below.refl _ _).alloc (Nat.le_refl _) _)
def OF (a b:Int) (w:World) (e:Ending) (w':World):Prop:=∃r n,e=.returned (.float .f64 r)∧w'=w.drewN n∧nrm r=Ieee.double.div (floatOfInt .f64 a) (floatOfInt .f64 b)∧r<TOP
theorem jkC (a b:Int) (w:World):Calls Tryz.prog 296 #[.int .i64 a,.int .i64 b] w (OF a b w):=by
 unfold OF;obtain⟨r,n,hq,hn,hr⟩:=jgj (P:=Tryz.prog) (floatOfInt .f64 a) (floatOfInt .f64 b) w;have HN:=lH hn;clear hn;go_enter Tryz.func296,Tryz.ntmps296;go_wp2;go_ret;exact⟨r,n,rfl,rfl,HN.out,hr⟩
def NN (w:World) (e:Ending) (w':World):Prop:=∃r n,e=.returned (.float .f64 r)∧w'=w.drewN n∧isNaN r=true∧r<TOP
theorem jff (n:Int) (w:World):(callFunc 311 #[.int .u64 n]).run Tryz.prog w=.ok (.value (.float .f64 n.toNat)) w:=by
 rw[run_callFunc_extern Tryz.func311 (by kernel_rfl) (by kernel_rfl) (by kernel_rfl) (e:=Extern.MathFloatBits.float64frombits) (by kernel_rfl)];rfl
theorem jlt (w:World):Calls Tryz.prog 297 #[] w (NN w):=by
 unfold NN;have h:=jff 9221120237041090561;go_enter Tryz.func297,Tryz.ntmps297;go_wp2;go_ret;exact⟨_,0,rfl,rfl,by decide +kernel,by decide +kernel⟩
def jd1 (s:Option Nat) (x:Nat):Option Nat:=s.bind fun s=>Ieee.double.add s x
def qk (l:List Nat):Nat→Option Nat
 | 0=>some 0
 | k+1=>jd1 (qk l k) (l.getD k 0)
def qh (l:List Nat):Option Nat:=if l.length=0 then none else (qk l l.length).bind fun s=>Ieee.double.div s (floatOfInt .f64 l.length)
theorem qp {x:Nat} (h:isNaN x=true):∃s t,Ieee.double.read x=.nan s t:=⟨_,_,X8 ((jgv x).1 h)⟩
theorem jlz {s:Nat} (x:Nat) (h:isNaN s=true):Ieee.double.add s x=none:=by
 obtain⟨a,b,e⟩:=qp h;unfold Ieee.Format.add;rw[e]
 cases Ieee.double.read x<;>rfl
theorem jlC {s:Nat} (x:Nat) (h:isNaN s=true):Ieee.double.div s x=none:=by
 obtain⟨a,b,e⟩:=qp h;unfold Ieee.Format.div;rw[e]
 cases Ieee.double.read x<;>rfl
theorem jlT {s x r:Nat} {acc:Option Nat} (hs:nrm s=acc) (hr:nrm r=Ieee.double.add s x):nrm r=jd1 acc x:=by
 subst hs;unfold jd1
 cases hn:nrm s with
 | none=>rw[hr,jlz x (YD.1 hn)];rfl
 | some s'=>obtain⟨_,rfl⟩:=Ys.1 hn;exact hr
theorem jmd {s x r:Nat} {acc:Option Nat} (hs:nrm s=acc) (hr:nrm r=Ieee.double.div s x):nrm r=acc.bind fun s=>Ieee.double.div s x:=by
 subst hs
 cases hn:nrm s with
 | none=>rw[hr,jlC x (YD.1 hn)];rfl
 | some s'=>obtain⟨_,rfl⟩:=Ys.1 hn;exact hr
def MEA (l:List Nat) (w:World) (e:Ending) (w':World):Prop:=∃r,e=.returned (.float .f64 r)∧nrm r=qh l∧r<TOP∧Kept w w'
theorem jke (a:Option Addr) (len cap:Nat) (l:List Nat) (w:World) (hr:jey w a len l) :
 Calls Tryz.prog 279 #[.slice a len cap] w (MEA l w):=by
 unfold MEA;obtain⟨hl,hm,hx,hc⟩:=hr;unfold maxLen at hm;by_cases h0:len=0
 · subst h0;have hd:qh l=none:=by unfold qh;rw[if_pos hl]
   have HD:=lH hd;have HN:=lH (jlt);clear hd hl hc hx;go_enter Tryz.func279,Tryz.ntmps279;go_wp2_with fail
   refine(HN.out _).mono ?_;rintro e w1 ⟨r,n,rfl,rfl,hn,ht⟩;have H2:=lH hn;clear hn;go_wp2_with fail
   go_ret;exact⟨r,rfl,by rw[HD.out];exact YD.2 H2.out,ht,Kept.drewN _ _⟩
 rcases hc with rfl | ⟨b,off,rfl,hb,hc⟩
 · omega
 · have hd:qh l=(qk l len).bind fun s=>Ieee.double.div s (floatOfInt .f64 len):=by unfold qh;rw[if_neg (by omega),hl]
   obtain⟨HE,HC,HB⟩:=lH3 hd hc hb;have hb0:((len:Int)==0)=false:=by simp;omega
   clear hc hb hx hl hd;go_enter Tryz.func279,Tryz.ntmps279;go_wp2;go_loopw [3,12] (fun m i wr=>∃k s:Nat,k≤len∧i=.int .i64 k∧m=.float .f64 s∧nrm s=qk l k∧Kept w wr) (fun _ i _=>len-(intOf i).toNat)
   case atStart=>exact⟨0,0,by omega,rfl,rfl,(show nrm 0=some 0 from by decide +kernel),Kept.refl _⟩
   case round =>
    obtain⟨k,s,hk,rfl,rfl,hd,hkw⟩:=hrel;have HD:=lH hd;have HK:=lH hkw;clear hd hkw;by_cases hlt:k<len
    · have c:=(Below.cell HK.out (p:=⟨b,off+k,none⟩) HB.out).trans (HC.out k hlt);obtain⟨x,ex⟩:=eX (l.getD k 0)
      rw[ex] at c;have EX:=lH ex;clear ex;obtain⟨r,n,hq,hn,_⟩:=jk9 (P:=Tryz.prog) s x wr;have HN:=lH hn;clear hn;go_wp2;go_roundw
      case rel=>exact⟨k+1,r,by omega,by go_num,rfl,by rw[qk,EX.out];exact jlT HD.out HN.out,HK.out.trans (Kept.drewN _ _)⟩
      case measure=>simp[intOf];omega
    · have ek:k=len:=by omega
      subst ek;obtain⟨r,n,hq,hn,ht⟩:=jgj (P:=Tryz.prog) s (floatOfInt .f64 k) wr;have HN:=lH hn;clear hn;go_wp2;go_ret;exact⟨r,rfl,by rw[HE.out];exact jmd HD.out HN.out,ht,HK.out.trans (Kept.drewN _ _)⟩
def JX (a b:Int):Int:=if a<b then -1 else if b<a then 1 else 0
def ZW (a b:ByteArray):Int:=if ltS a b=true then -1 else if eqS a b=true then 0 else 1
def YO (n m:Pd):Int:=if JX m.prio n.prio≠0 then JX m.prio n.prio else ZW n.name m.name
theorem je2 (x:Int) (w:World):Calls Tryz.prog 120 #[.int .i64 x] w fun e w'=>e=.returned (.bool false)∧w=w':=by
 have h:(x != x)=false:=by simp
 go_enter Tryz.func120,Tryz.ntmps120;go_wp2;go_ret;exact⟨rfl,rfl⟩
theorem jdQ (x:ByteArray) (w:World):Calls Tryz.prog 121 #[.string x] w fun e w'=>e=.returned (.bool false)∧w=w':=by
 have h:(x.toList==x.toList)=true:=by simp
 go_enter Tryz.func121,Tryz.ntmps121;go_wp2;go_ret;exact⟨rfl,rfl⟩
theorem jep (a b:Int) (w:World):Calls Tryz.prog 72 #[.int .i64 a,.int .i64 b] w fun e w'=>e=.returned (.int .i64 (JX a b))∧w=w':=by
 have HA:=lH (je2 a w);have HB:=lH (je2 b w);by_cases h:a<b
 · have HV:=lH (show JX a b=-1 by unfold JX;rw[if_pos h]);go_enter Tryz.func72,Tryz.ntmps72;go_wp2_with fail
   refine HA.out.mono ?_;rintro e w1 ⟨rfl,rfl⟩;go_wp2_with fail
   refine HB.out.mono ?_;rintro e w2 ⟨rfl,rfl⟩;go_wp2;go_ret;exact⟨jc HV.out.symm,rfl⟩
 · have h':b≤a:=by omega
   by_cases g:b<a
   · have HV:=lH (show JX a b=1 by unfold JX;rw[if_neg h,if_pos g]);clear h;go_enter Tryz.func72,Tryz.ntmps72;go_wp2_with fail
     refine HA.out.mono ?_;rintro e w1 ⟨rfl,rfl⟩;go_wp2_with fail
     refine HB.out.mono ?_;rintro e w2 ⟨rfl,rfl⟩;go_wp2;go_ret;exact⟨jc HV.out.symm,rfl⟩
   · have g':a≤b:=by omega
     have HV:=lH (show JX a b=0 by unfold JX;rw[if_neg h,if_neg g]);clear h g;go_enter Tryz.func72,Tryz.ntmps72;go_wp2_with fail
     refine HA.out.mono ?_;rintro e w1 ⟨rfl,rfl⟩;go_wp2_with fail
     refine HB.out.mono ?_;rintro e w2 ⟨rfl,rfl⟩;go_wp2;go_ret;exact⟨jc HV.out.symm,rfl⟩
theorem je8 (a b:ByteArray) (w:World):Calls Tryz.prog 73 #[.string a,.string b] w fun e w'=>e=.returned (.int .i64 (ZW a b))∧w=w':=by
 have HA:=lH (jdQ a w);have HB:=lH (jdQ b w)
 cases h:ltS a b with
 | true =>
  have h':Op.bytesLess a.toList b.toList=true:=h;have HV:=lH (show ZW a b=-1 by unfold ZW;rw[if_pos h]);clear h;go_enter Tryz.func73,Tryz.ntmps73;go_wp2_with fail
  refine HA.out.mono ?_;rintro e w1 ⟨rfl,rfl⟩;go_wp2_with fail
  refine HB.out.mono ?_;rintro e w2 ⟨rfl,rfl⟩;go_wp2;go_ret;exact⟨jc HV.out.symm,rfl⟩
 | false =>
  have h':Op.bytesLess a.toList b.toList=false:=h
  cases g:eqS a b with
  | true =>
   have g':(a.toList==b.toList)=true:=g;have HV:=lH (show ZW a b=0 by unfold ZW;rw[if_neg (by rw[h];decide),if_pos g]);clear h g;go_enter Tryz.func73,Tryz.ntmps73;go_wp2_with fail
   refine HA.out.mono ?_;rintro e w1 ⟨rfl,rfl⟩;go_wp2_with fail
   refine HB.out.mono ?_;rintro e w2 ⟨rfl,rfl⟩;go_wp2;go_ret;exact⟨jc HV.out.symm,rfl⟩
  | false =>
   have g':(a.toList==b.toList)=false:=g;have HV:=lH (show ZW a b=1 by unfold ZW;rw[if_neg (by rw[h];decide),if_neg (by rw[g];decide)]);clear h g;go_enter Tryz.func73,Tryz.ntmps73;go_wp2_with fail
   refine HA.out.mono ?_;rintro e w1 ⟨rfl,rfl⟩;go_wp2_with fail
   refine HB.out.mono ?_;rintro e w2 ⟨rfl,rfl⟩;go_wp2;go_ret;exact⟨jc HV.out.symm,rfl⟩
theorem jj9 (W:World) (x y:Int) (T:TypeId) (i:Nat) (z:Int) (hi:([x,y]:List Int)[i]?=some z):(W.alloc (.cells #[.int .i64 x,.int .i64 y] T)).cell? ⟨W.heap.size,i,none⟩=some (.int .i64 z):=by
 refine(jb W (.int .i64 x) [.int .i64 y] T _ (Kept.refl _)).at_ i _ ?_
 match i,hi with
 | 0,h=>simpa using h
 | 1,h=>simpa using h
 | j+2,h=>simp at h
theorem Zk {P:Program} {a:Addr} {m:Mode} {w:World} (k:FloatKind) (n:Nat):(store a (.float k n) m).run P w=stored P w a (.float k n) m:=run_store P w a _ m rfl
def jkP (a b:Int):Option Nat:=Ieee.double.div (floatOfInt .f64 a) (floatOfInt .f64 b)
def jjV (s x:Option Nat):Option Nat:=s.bind fun s=>x.bind fun x=>Ieee.double.add s x
def jhc (l:List (Option Nat)):Nat→Option Nat
 | 0=>some 0
 | k+1=>jjV (jhc l k) (l.getD k none)
def jdN (l:List (Option Nat)):Option Nat:=if l.length=0 then none else (jhc l l.length).bind fun s=>Ieee.double.div s (floatOfInt .f64 l.length)
theorem jj7 {x:Nat} (s:Nat) (h:isNaN x=true):Ieee.double.add s x=none:=by
 obtain⟨a,b,e⟩:=qp h;unfold Ieee.Format.add;rw[e]
 cases Ieee.double.read s<;>rfl
theorem jj5 (s:Option Nat) (x:Nat):jd1 s x=jjV s (nrm x):=by
 unfold jd1 jjV
 cases s with
 | none=>rfl
 | some s =>
  cases hn:nrm x with
  | none=>exact jj7 s (YD.1 hn)
  | some y=>obtain⟨-,rfl⟩:=Ys.1 hn;rfl
theorem jcX (l:List Nat):∀k,k≤l.length→qk l k=jhc (l.map nrm) k
 | 0,_=>rfl
 | k+1,h=>by
  have hk:k<l.length:=h;rw[qk,jhc,jcX l k (by omega),jj5];congr 1
  simp[List.getD,hk]
theorem jiH (l:List Nat):qh l=jdN (l.map nrm):=by
 unfold qh jdN;rw[List.length_map];split
 · rfl
 · rw[jcX l _ (Nat.le_refl _)]
def jdO (o:Option Nat):Int:=match o with | none=>(SGN:Int) | some x=>key x
theorem jgg (x:Nat):key x=jdO (nrm x):=by
 cases hn:nrm x with
 | none=>have:=YD.1 hn;simp[jdO,key,this]
 | some y=>obtain⟨-,rfl⟩:=Ys.1 hn;rfl
def kO (pack:Bool) (o:Option Nat):Int:=if pack=true then -jdO o else jdO o
def JC (s:Clu) (x:ByteArray):Nod:=(jk s.nodes x).getD Nod.zero
def ZN (s:Clu) (x what:ByteArray):Option Nat:=jkP (Vec.jh (JA s x).2 what) (Vec.jh (JC s x).cap what)
def jbX (s:Clu) (x:ByteArray):Option Nat:=jdN ((JC s x).cap.map fun a=>ZN s x a.1)
def Zr (s:Clu) (x:ByteArray):Clu:=⟨[JC s x],onP x s.pods,[]⟩
def X3 (s:Clu) (p:Pd) (x:ByteArray):Option Nat:=jbX (Jb (Zr s x) { p with node:=x }) x
def jaF (s:Clu) (p:Pd) (x:ByteArray):Int:=softN p.tols (JC s x).taints
def Jo (pack:Bool) (m n:Int) (x y:Option Nat) (a b:ByteArray):Bool :=
 decide (m<n)||(decide (m=n)&&(decide (kO pack x<kO pack y)||(decide (kO pack x=kO pack y)&&ltS a b)))
def Yb (s:Clu) (p:Pd) (pack:Bool) (a b:ByteArray):Bool:=Jo pack (jaF s p a) (jaF s p b) (X3 s p a) (X3 s p b) a b
abbrev Mk:=ByteArray×Int×Nat
def Yw (pack:Bool) (a b:Mk):Bool:=Jo pack a.2.1 b.2.1 (nrm a.2.2) (nrm b.2.2) a.1 b.1
def cpM (pack:Bool) (x y:Nat):Int:=if pack=true then cp y x else cp x y
def cfM (pack:Bool) (a b:Mk):Int:=if JX a.2.1 b.2.1≠0 then JX a.2.1 b.2.1 else if cpM pack a.2.2 b.2.2≠0 then cpM pack a.2.2 b.2.2 else ZW a.1 b.1
theorem YZ {pack:Bool} {m n:Int} {x y:Option Nat} {a b:ByteArray}:Jo pack m n x y a b=true↔m<n∨(m=n∧(kO pack x<kO pack y∨(kO pack x=kO pack y∧ltS a b=true))):=by
 unfold Jo;simp only[Bool.or_eq_true,Bool.and_eq_true,decide_eq_true_eq]
theorem qm {pack:Bool} {m n:Int} {x y:Option Nat} {a b:ByteArray}:Jo pack m n x y a b=false↔¬(m<n∨(m=n∧(kO pack x<kO pack y∨(kO pack x=kO pack y∧ltS a b=true)))):=by
 rw[←Bool.not_eq_true,YZ]
theorem qP (pack:Bool) (m:Int) (x:Option Nat) (a:ByteArray):Jo pack m m x x a a=false:=by
 rw[qm,Vec.Yl];simp
theorem Xk {pack:Bool} {m n k:Int} {x y z:Option Nat} {a b c:ByteArray} (h:Jo pack m n x y a b=true) (g:Jo pack n k y z b c=true):Jo pack m k x z a c=true:=by
 rw[YZ] at *;rcases h with h | ⟨rfl,h⟩
 · rcases g with g | ⟨rfl,g⟩
   · exact .inl (by omega)
   · exact .inl h
 · rcases g with g | ⟨rfl,g⟩
   · exact .inl g
   · refine .inr ⟨rfl,?_⟩;rcases h with h | ⟨h,h2⟩
     · rcases g with g | ⟨g,g2⟩<;>exact .inl (by omega)
     · rcases g with g | ⟨g,g2⟩
       · exact .inl (by omega)
       · exact .inr ⟨by omega,Vec.zM h2 g2⟩
theorem qT {pack:Bool} {m n:Int} {x y:Option Nat} {a b:ByteArray} (h:Jo pack m n x y a b=false) (g:Jo pack n m y x b a=false):a=b∧m=n∧kO pack x=kO pack y:=by
 rw[qm] at *;have h1:m=n:=by
  by_cases e:m=n
  · exact e
  · exact absurd (show m<n∨n<m by omega) (fun q=>by rcases q with q | q;exact h (.inl q);exact g (.inl q))
 have h2:kO pack x=kO pack y:=by
  by_cases e:kO pack x=kO pack y
  · exact e
  · exact absurd (show kO pack x<kO pack y∨kO pack y<kO pack x by omega) (fun q=>by
     rcases q with q | q
     · exact h (.inr ⟨h1,.inl q⟩)
     · exact g (.inr ⟨h1.symm,.inl q⟩))
 refine⟨Vec.YE (by
  cases e:ltS a b with
  | false=>rfl
  | true=>exact absurd (.inr ⟨h1,.inr ⟨h2,e⟩⟩) h) (by
  cases e:ltS b a with
  | false=>rfl
  | true=>exact absurd (.inr ⟨h1.symm,.inr ⟨h2.symm,e⟩⟩) g),h1,h2⟩
theorem qM {pack:Bool} {m n k:Int} {x y z:Option Nat} {a b c:ByteArray} (h:Jo pack m n x y a b=false) (g:Jo pack n k y z b c=false):Jo pack m k x z a c=false:=by
 cases e:Jo pack m k x z a c with
 | false=>rfl
 | true =>
  cases q:Jo pack n m y x b a with
  | true=>rw[Xk q e] at g;cases g
  | false =>
   obtain⟨rfl,rfl,hk⟩:=qT h q;rw[qm] at g;rw[YZ,hk] at e;exact absurd e g
theorem jhk (a b:Int):(JX a b<0↔a<b)∧(JX a b=0↔a=b):=by
 unfold JX;omega
theorem jh0 (pack:Bool) (x y:Nat):(cpM pack x y<0↔kO pack (nrm x)<kO pack (nrm y))∧(cpM pack x y=0↔kO pack (nrm x)=kO pack (nrm y)):=by
 unfold cpM kO cp;rw[jgg x,jgg y]
 cases pack<;>simp<;>omega
theorem jkE (a b:ByteArray):ZW a b<0↔ltS a b=true:=by
 unfold ZW
 cases ltS a b<;>cases eqS a b<;>simp
theorem jgd (pack:Bool) (a b:Mk):cfM pack a b<0↔Yw pack a b=true:=by
 obtain⟨h1,h2⟩:=jhk a.2.1 b.2.1;obtain⟨h3,h4⟩:=jh0 pack a.2.2 b.2.2;have h5:=jkE a.1 b.1;unfold Yw;rw[YZ];unfold cfM;by_cases e:JX a.2.1 b.2.1=0
 · rw[if_neg (by simpa using e)];have e':=h2.1 e;by_cases f:cpM pack a.2.2 b.2.2=0
   · rw[if_neg (by simpa using f),h5];have f':=h4.1 f;constructor
     · exact fun h=>.inr ⟨e',.inr ⟨f',h⟩⟩
     · rintro (h | ⟨-,h | ⟨-,h⟩⟩)
       · omega
       · omega
       · exact h
   · rw[if_pos f,h3];constructor
     · exact fun h=>.inr ⟨e',.inl h⟩
     · rintro (h | ⟨-,h | ⟨h,-⟩⟩)
       · omega
       · exact h
       · exact absurd (h4.2 h) f
 · rw[if_pos e,h1];constructor
   · exact fun h=>.inl h
   · rintro (h | ⟨h,-⟩)
     · exact h
     · exact absurd (h2.2 h) e
def XV (s:Clu) (p:Pd) (pack:Bool) (l:List ByteArray):Prop:=l.Perm (jO s p s.nodes)∧l.Pairwise fun a b=>Yb s p pack b a=false
theorem jeF {s:Clu} {p:Pd} {pack:Bool} {a b:ByteArray} (h:Yb s p pack a b=false) (g:Yb s p pack b a=false):a=b:=(qT h g).1
theorem XV.unique {s:Clu} {p:Pd} {pack:Bool} {l m:List ByteArray} (h:XV s p pack l) (g:XV s p pack m):l=m :=
 List.Perm.eq_of_pairwise (fun a b _ _ h g=>jeF g h) h.2 g.2 (h.1.trans g.1.symm)
theorem jbQ (n m:Pd):YO n m<0↔(m.prio<n.prio∨(m.prio=n.prio∧ltS n.name m.name=true)):=by
 unfold YO JX ZW;by_cases h:m.prio<n.prio
 · rw[if_pos h,if_pos (by decide)];exact⟨fun _=>.inl h,fun _=>by decide⟩
 · by_cases g:n.prio<m.prio
   · rw[if_neg h,if_pos g,if_pos (by decide)];exact⟨fun q=>absurd q (by decide),fun q=>by omega⟩
   · rw[if_neg h,if_neg g,if_neg (by decide)];have e:m.prio=n.prio:=by omega
     cases q:ltS n.name m.name with
     | true=>rw[if_pos rfl];exact⟨fun _=>.inr ⟨e,rfl⟩,fun _=>by decide⟩
     | false =>
      rw[if_neg (by decide)];refine⟨fun q2=>?_,fun q2=>?_⟩
      · split at q2<;>exact absurd q2 (by decide)
      · rcases q2 with q2 | ⟨_,q2⟩
        · omega
        · cases q2
theorem jeI {a b c:Pd} (h:YO a b<0) (g:YO b c<0):YO a c<0:=by
 rw[jbQ] at h g ⊢;rcases h with h | ⟨h1,h2⟩
 · rcases g with g | ⟨g1,g2⟩
   · exact .inl (by omega)
   · exact .inl (by omega)
 · rcases g with g | ⟨g1,g2⟩
   · exact .inl (by omega)
   · exact .inr ⟨by omega,Vec.zM h2 g2⟩
def jac (d:Array Value):Nat→List Value→Array Value
 | _,[]=>d
 | k,x::r=>jac (d.setIfInBounds k x) (k+1) r
theorem Jf:∀(xs:List Value) (d:Array Value) (k:Nat),(jac d k xs).size=d.size
 | [],_,_=>rfl
 | x::r,d,k=>by rw[jac,Jf r];simp
theorem JT:∀(xs:List Value) (d:Array Value) (k j:Nat),k+xs.length≤d.size→(jac d k xs)[j]?=if k≤j∧j<k+xs.length then xs[j-k]? else d[j]?
 | [],d,k,j,_=>by rw[jac,if_neg (by simp only[List.length_nil];omega)]
 | x::r,d,k,j,h=>by
  have hl:k+(r.length+1)≤d.size:=by simpa using h
  rw[jac,JT r _ _ _ (by simp;omega)];simp only[List.length_cons];by_cases c1:k+1≤j∧j<k+1+r.length
  · rw[if_pos c1,if_pos (by omega),show j-k=(j-(k+1))+1 by omega,List.getElem?_cons_succ]
  · rw[if_neg c1];by_cases c2:j=k
    · subst c2;rw[if_pos (by omega),Nat.sub_self,List.getElem?_cons_zero,Array.getElem?_setIfInBounds_self_of_lt (by omega)]
    · rw[if_neg (by omega),Array.getElem?_setIfInBounds_ne (by omega)]
theorem JI:∀(vs:List Value) (g o:Nat) (w:World) (cur:Array Value) (e:TypeId),w.heap[g]?=some (.cells cur e (0,0))→(w.setCells g o vs).heap[g]?=some (.cells (jac cur o vs) e (0,0))
 | [],_,_,_,_,_,h=>h
 | v::r,g,o,w,cur,e,h=>by
  rw[World.setCells,jac];exact JI r g (o+1) _ _ e (heap_setCell_same w g o cur e v h)
theorem Jc {w:World} {B:Nat} {e:TypeId} {s g n cap:Nat} {xs:List Value} (h:w.ownsRow B e s (.slice (some ⟨g,0,none⟩) n cap) n xs) :
 ∃cur,B≤g∧w.heap[g]?=some (.cells cur e (0,0))∧n≤cap∧cap≤maxLen∧cur.size=cap*s∧cur.toList.take (n*s)=xs∧xs.length=n*s:=by
 obtain⟨hl,h⟩:=h;rcases h with ⟨h0,_⟩ | ⟨g2,cap2,cur,h0,hb,hg,hn,hm,hs,ht⟩
 · cases h0
 · cases h0
   exact⟨cur,hb,hg,hn,hm,hs,ht,hl⟩
theorem jfA {cur:Array Value} {m:Nat} {xs:List Value} (hl:xs.length=m) (hm:m≤cur.size) (h:∀j,j<m→cur[j]?=xs[j]?):cur.toList.take m=xs:=by
 apply List.ext_getElem?;intro j;rw[List.getElem?_take];by_cases hj:j<m
 · rw[if_pos hj,Array.getElem?_toList];exact h j hj
 · rw[if_neg hj,List.getElem?_eq_none (by omega)]
theorem XQ {cur:Array Value} {m j:Nat} {xs:List Value} (ht:cur.toList.take m=xs) (hj:j<m):cur[j]?=xs[j]?:=by
 rw[←ht,List.getElem?_take,if_pos hj,Array.getElem?_toList]
theorem X4 {w:World} {B:Nat} {e:TypeId} {s g n cap:Nat} {xs:List Value} {cur:Array Value} (hB:B≤g) (hg:w.heap[g]?=some (.cells cur e (0,0))) (hn:n≤cap) (hm:cap≤maxLen) (hs:cur.size=cap*s) (hl:xs.length=n*s) (h:∀j,j<n*s→cur[j]?=xs[j]?) :
 w.ownsRow B e s (.slice (some ⟨g,0,none⟩) n cap) n xs :=
 ⟨hl,.inr ⟨g,cap,cur,rfl,hB,hg,hn,hm,hs,jfA hl (by rw[hs];exact Nat.mul_le_mul_right s hn) h⟩⟩
theorem jki {w:World} {B:Nat} {e:TypeId} {s g n cap o:Nat} {xs vs:List Value} (h:w.ownsRow B e s (.slice (some ⟨g,0,none⟩) n cap) n xs) (ho:o+vs.length≤n*s) :
 (w.setCells g o vs).ownsRow B e s (.slice (some ⟨g,0,none⟩) n cap) n (xs.take o++vs++xs.drop (o+vs.length)):=by
 obtain⟨cur,hB,hg,hn,hm,hs,ht,hl⟩:=Jc h;have hns:n*s≤cap*s:=Nat.mul_le_mul_right s hn;refine X4 hB (JI vs g o w cur e hg) hn hm (by rw[Jf];exact hs) (by simp;omega) (fun j hj=>?_);rw[JT _ _ _ _ (by omega)];by_cases c1:o≤j∧j<o+vs.length
 · rw[if_pos c1,List.append_assoc,List.getElem?_append_right (by simp;omega),List.getElem?_append_left (by simp;omega)];congr 1
   simp;omega
 · rw[if_neg c1,XQ ht hj];by_cases c2:j<o
   · rw[List.append_assoc,List.getElem?_append_left (by simp;omega),List.getElem?_take,if_pos c2]
   · rw[List.getElem?_append_right (by simp;omega),List.getElem?_drop];congr 1
     simp;omega
theorem jeL {w:World} {B:Nat} {e:TypeId} {s g n cap i j:Nat} {xs zs:List Value} (h:w.ownsRow B e s (.slice (some ⟨g,0,none⟩) n cap) n xs) (hij:i≤j) (hj:j≤n) (hz:zs.length=(j-i)*s) :
 ((w.setCells g (i*s) (xs.drop (j*s))).setCells g ((i+(n-j))*s) zs).ownsRow B e s (.slice (some ⟨g,0,none⟩) (i+(n-j)) cap) (i+(n-j)) (xs.take (i*s)++xs.drop (j*s)):=by
 obtain⟨cur,hB,hg,hn,hm,hs,ht,hl⟩:=Jc h;have hns:n*s≤cap*s:=Nat.mul_le_mul_right s hn;have his:i*s≤j*s:=Nat.mul_le_mul_right s hij;have hjs:j*s≤n*s:=Nat.mul_le_mul_right s hj;have e1:(i+(n-j))*s=i*s+(n*s-j*s):=by rw[Nat.add_mul,Nat.sub_mul]
 have e2:(j-i)*s=j*s-i*s:=Nat.sub_mul j i s;have hld:(xs.drop (j*s)).length=n*s-j*s:=by rw[List.length_drop,hl]
 refine X4 hB (JI zs g _ _ _ e (JI _ g (i*s) w cur e hg)) (by omega) hm (by rw[Jf,Jf];exact hs) (by rw[List.length_append,List.length_take,hld,hl,e1];omega) (fun t htl=>?_);rw[e1] at htl ⊢;rw[JT _ _ _ _ (by rw[Jf,hz,e2];omega),if_neg (by omega),JT _ _ _ _ (by rw[hld];omega),hld];by_cases c1:t<i*s
 · rw[if_neg (by omega),XQ ht (by omega),List.getElem?_append_left (by rw[List.length_take,hl];omega),List.getElem?_take,if_pos c1]
 · rw[if_pos (by omega),List.getElem?_append_right (by rw[List.length_take,hl];omega),List.length_take,hl];congr 1
   omega
theorem jgX {w:World} {B:Nat} {e:TypeId} {s g n cap i:Nat} {xs vs:List Value} (h:w.ownsRow B e s (.slice (some ⟨g,0,none⟩) n cap) n xs) (hi:i≤n) (hv:vs.length=s) (hr:n+1≤cap) :
 ((w.setCells g ((i+1)*s) (xs.drop (i*s))).setCells g (i*s) vs).ownsRow B e s (.slice (some ⟨g,0,none⟩) (n+1) cap) (n+1) (xs.take (i*s)++vs++xs.drop (i*s)):=by
 obtain⟨cur,hB,hg,hn,hm,hs,ht,hl⟩:=Jc h;have hns:(n+1)*s≤cap*s:=Nat.mul_le_mul_right s hr;have his:i*s≤n*s:=Nat.mul_le_mul_right s hi;have e0:(n+1)*s=n*s+s:=by rw[Nat.add_mul,Nat.one_mul]
 have e1:(i+1)*s=i*s+s:=by rw[Nat.add_mul,Nat.one_mul]
 have hld:(xs.drop (i*s)).length=n*s-i*s:=by rw[List.length_drop,hl]
 refine X4 hB (JI vs g _ _ _ e (JI _ g ((i+1)*s) w cur e hg)) hr hm (by rw[Jf,Jf];exact hs) (by rw[List.length_append,List.length_append,List.length_take,hld,hl,e0];omega) (fun t htl=>?_);rw[e0] at htl;rw[JT _ _ _ _ (by rw[Jf,hv];omega),hv];by_cases c1:t<i*s
 · rw[if_neg (by omega),JT _ _ _ _ (by rw[hld,e1];omega),if_neg (by omega),XQ ht (by omega),List.append_assoc,List.getElem?_append_left (by rw[List.length_take,hl];omega),List.getElem?_take,if_pos c1]
 · by_cases c2:t<i*s+s
   · rw[if_pos (by omega),List.append_assoc,List.getElem?_append_right (by rw[List.length_take,hl];omega),List.getElem?_append_left (by rw[List.length_take,hl,hv];omega),List.length_take,hl];congr 1
     omega
   · rw[if_neg (by omega),JT _ _ _ _ (by rw[hld,e1];omega),hld,e1,if_pos (by omega),List.getElem?_append_right (by rw[List.length_append,List.length_take,hl,hv];omega),List.length_append,List.length_take,hl,hv];congr 1
     omega
theorem ZU (w:World) (dT sT ty elem:TypeId) (i0:TypeInfo) (b o dLen dCap:Nat) (a:Addr) (sLen sCap:Nat) (cs:List Value)
 (hu:Tryz.prog.underlying dT=some (.slice elem)) (hi:Tryz.prog.info? elem=some i0) (hn:cs.length=Nat.min sLen dLen*i0.size)
 (hsrc:∀j v,cs[j]?=some v→w.cell? (a.add j)=some v) (hc:∀j,j<cs.length→(w.cell? ⟨b,o+j,none⟩).isSome=true) (hf:∀j,j<cs.length→w.frozen? ⟨b,o+j,none⟩=false) (h1:∀v ∈ cs,v.oneCell'=true) :
 (Builtin.copy_ #[dT,sT] ty #[.slice (some ⟨b,o,none⟩) dLen dCap,.slice (some a) sLen sCap]).run Tryz.prog w=.ok (goInt (Nat.min sLen dLen)) (w.setCells b o cs):=by
 have hl:=run_loadCells_list (P:=Tryz.prog) w a cs hsrc;have hst:=run_storeCells_cells (P:=Tryz.prog) b o cs 0 w (by simpa using hc) (by simpa using hf) h1;simp[Builtin.copy_,run_underlying hu,Builtin.lenOf,Builtin.firstCells,sizeOf,typeInfo,hi,←hn,hl,hst]
theorem XY (w:World) (t e ty:TypeId) (i0:TypeInfo) (z:Value) (ht:Tryz.prog.underlying t=some (.slice e)) (hi:Tryz.prog.info? e=some i0) (hz:i0.zero=some z) (b o n c:Nat) (hn:0<n) (h1:∀v ∈ (Builtin.zeroCells z.cells n).toList,v.oneCell'=true)
 (hc:∀j,j<(Builtin.zeroCells z.cells n).size→(w.cell? ⟨b,o+j,none⟩).isSome=true) (hf:∀j,j<(Builtin.zeroCells z.cells n).size→w.frozen? ⟨b,o+j,none⟩=false) :
 (Builtin.clear_ #[t] ty #[.slice (some ⟨b,o,none⟩) n c]).run Tryz.prog w=.ok (.tuple #[]) (w.setCells b o (Builtin.zeroCells z.cells n).toList):=by
 have hst:=run_storeCells_cells (P:=Tryz.prog) b o (Builtin.zeroCells z.cells n).toList 0 w (by simpa using hc) (by simpa using hf) h1;simp only[Nat.add_zero] at hst;obtain⟨m,rfl⟩:∃m,n=m+1:=⟨n-1,by omega⟩
 simp[Builtin.clear_,run_underlying ht,zeroValue,typeInfo,hi,hz,hst]
end Go.Proofs.YtibepooajeakfaaGreat
