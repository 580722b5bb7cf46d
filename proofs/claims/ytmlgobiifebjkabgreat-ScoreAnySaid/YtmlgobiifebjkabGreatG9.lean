/- C. -/
import Derived.Test.YtmlgobiifebjkabGreatG0
import Derived.Test.YtmlgobiifebjkabGreatG1
import Derived.Test.YtmlgobiifebjkabGreatG2
import Derived.Test.YtmlgobiifebjkabGreatG3
import Derived.Test.YtmlgobiifebjkabGreatG4
import Derived.Test.YtmlgobiifebjkabGreatG6
import Derived.Test.YtmlgobiifebjkabGreatG8
set_option linter.unusedVariables false
set_option maxRecDepth 100000
set_option maxHeartbeats 25600000
namespace Go.Proofs.YtmlgobiifebjkabGreat
open Ieee
abbrev BIN:Nat:=4503599627370496
abbrev INF:Nat:=9218868437227405312
abbrev SGN:Nat:=9223372036854775808
def rung (x:Nat):Nat:=x % SGN
def sgn (x:Nat):Bool:=x / SGN % 2==1
def isNaN (x:Nat):Bool:=decide (INF<rung x)
def fmg (r:Nat):Nat:=if r<BIN then r else BIN+r % BIN
def ex (r:Nat):Nat:=if r<BIN then 0 else r / BIN-1
def val (r:Nat):Nat:=fmg r*2 ^ ex r
def jl (x:Nat):Int:=if sgn x then -(rung x:Int) else rung x
def qD (x:Nat):Int:=if sgn x then -(val (rung x):Int) else val (rung x)
def Zw (a b:Int):Ordering:=if a<b then .lt else if a=b then .eq else .gt
theorem jbY {r s:Nat} (h:r<s):val r<val s:=by
 have hB:(0:Nat)<BIN:=by decide
 by_cases h1:s<BIN
 · have h2:r<BIN:=Nat.lt_trans h h1;simp only[val,fmg,ex,h1,h2,if_true];simpa using h
 · have pos:∀k:Nat,0<2 ^ k:=fun k=>Nat.two_pow_pos k;have hs:BIN≤s:=Nat.not_lt.1 h1;by_cases h2:r<BIN
   · simp only[val,fmg,ex,h1,h2,if_true,if_false];have:=Nat.mul_le_mul_left (BIN+s % BIN) (pos (s / BIN-1));simp only[Nat.pow_zero,Nat.mul_one];omega
   · have hr:BIN≤r:=Nat.not_lt.1 h2;simp only[val,fmg,ex,h1,h2,if_false];have e1:r / BIN≤s / BIN:=Nat.div_le_div_right (Nat.le_of_lt h);have r1:1≤r / BIN:=(Nat.one_le_div_iff hB).2 hr;rcases Nat.lt_or_eq_of_le e1 with e2 | e2
     · obtain⟨k,hk⟩:∃k,s / BIN-1=(r / BIN-1)+1+k:=⟨s / BIN-r / BIN-1,by omega⟩
       rw[hk,Nat.pow_add,Nat.pow_succ];have m1:r % BIN<BIN:=Nat.mod_lt _ hB;have p1:=pos (r / BIN-1);have p2:=pos k
       calc (BIN+r % BIN)*2 ^ (r / BIN-1)<(2*BIN)*2 ^ (r / BIN-1):=Nat.mul_lt_mul_of_pos_right (by omega) p1
        _=BIN*(2 ^ (r / BIN-1)*2):=by rw[Nat.mul_comm 2 BIN,Nat.mul_assoc,Nat.mul_comm 2]
        _≤(BIN+s % BIN)*(2 ^ (r / BIN-1)*2):=Nat.mul_le_mul_right _ (by omega)
        _≤(BIN+s % BIN)*(2 ^ (r / BIN-1)*2*2 ^ k):=Nat.mul_le_mul_left _ (Nat.le_mul_of_pos_right _ p2)
     · rw[e2];refine Nat.mul_lt_mul_of_pos_right ?_ (pos _);have d1:=Nat.div_add_mod r BIN;have d2:=Nat.div_add_mod s BIN;rw[e2] at d1;omega
theorem Xg {r s:Nat}:val r<val s↔r<s:=by
 refine⟨fun h=>?_,jbY⟩;rcases Nat.lt_trichotomy r s with g | g | g
 · exact g
 · subst g;exact absurd h (Nat.lt_irrefl _)
 · exact absurd (jbY g) (Nat.lt_asymm h)
theorem qP {r s:Nat}:val r=val s↔r=s:=by
 refine⟨fun h=>?_,fun h=>by rw[h]⟩;rcases Nat.lt_trichotomy r s with g | g | g
 · have:=jbY g;omega
 · exact g
 · have:=jbY g;omega
theorem val_zero:val 0=0:=by simp[val,fmg,ex]
theorem jkf (x y:Nat):Zw (qD x) (qD y)=Zw (jl x) (jl y):=by
 have key:(qD x<qD y↔jl x<jl y)∧(qD x=qD y↔jl x=jl y):=by
  unfold qD jl;have a:=@Xg (rung x) (rung y);have b:=@Xg (rung y) (rung x);have c:=@qP (rung x) (rung y);have d:=@Xg 0 (rung x);have e:=@Xg 0 (rung y);have f:=@qP 0 (rung x);have g:=@qP 0 (rung y);rw[val_zero] at d e f g
  cases sgn x<;>cases sgn y<;>simp<;>omega
 unfold Zw;simp only[key.1,key.2]
theorem jhy:double.binade=BIN:=by decide +kernel
theorem jaW:double.infRung=INF:=by decide +kernel
theorem jaP:double.signWeight=SGN:=by decide +kernel
theorem jcT:double.leastPlace=-1074:=by decide +kernel
theorem YV {x:Nat} (h:rung x<INF):double.read x=.number (sgn x) (fmg (rung x)) (-1074+(ex (rung x):Int)):=by
 unfold Format.read;simp only[jhy,jaW,jaP,jcT];have e:x % SGN=rung x:=rfl;by_cases h1:rung x<BIN
 · simp[e,h1,fmg,ex,sgn]
 · simp[e,h1,h,fmg,ex,sgn]
theorem Xy {x:Nat} (h:rung x=INF):double.read x=.infinity (sgn x):=by
 unfold Format.read;simp only[jhy,jaW,jaP,jcT];have e:x % SGN=rung x:=rfl;rw[e,h];rw[if_neg (by decide),if_neg (by decide),if_pos rfl];rfl
theorem jaa {x:Nat} (h:INF<rung x):double.read x=.nan (sgn x) (rung x-INF):=by
 unfold Format.read;simp only[jhy,jaW,jaP,jcT];have e:x % SGN=rung x:=rfl
 have h1:¬rung x<BIN:=by have:BIN<INF:=by decide
                         omega
 have h2:¬rung x<INF:=by omega
 have h3:¬rung x=INF:=by omega
 simp[e,h1,h2,h3,sgn]
theorem jdx (s:Bool) (m u:Nat):signed s m u=if s then -((m*2 ^ u:Nat):Int) else ((m*2 ^ u:Nat):Int):=by
 unfold signed;simp only[Nat.shiftLeft_eq]
theorem jkO (a b:Int) (k:Int) (hk:0<k):Zw (a*k) (b*k)=Zw a b:=by
 have h1:a*k<b*k↔a<b:=Int.mul_lt_mul_right hk;have h2:a*k=b*k↔a=b:=by
  refine⟨fun h=>Int.eq_of_mul_eq_mul_right (by omega) h,fun h=>by rw[h]⟩
 unfold Zw;simp only[h1,h2]
theorem jft (a b:Int):compare a b=Zw a b:=rfl
theorem jjx {x y:Nat} (hx:rung x<INF) (hy:rung y<INF):double.order x y=some (Zw (jl x) (jl y)):=by
 unfold Format.order;rw[YV hx,YV hy];simp only[Datum.order,Option.some.injEq];rw[jft,←jkf];have e1:(-1074+(ex (rung x):Int)-min (-1074+(ex (rung x):Int)) (-1074+(ex (rung y):Int))).toNat=ex (rung x)-min (ex (rung x)) (ex (rung y)):=by omega
 have e2:(-1074+(ex (rung y):Int)-min (-1074+(ex (rung x):Int)) (-1074+(ex (rung y):Int))).toNat=ex (rung y)-min (ex (rung x)) (ex (rung y)):=by omega
 rw[e1,e2,←jkO _ _ ((2 ^ min (ex (rung x)) (ex (rung y)):Nat):Int) (by have:=Nat.two_pow_pos (min (ex (rung x)) (ex (rung y)));omega)];have f:∀z:Nat,min (ex (rung x)) (ex (rung y))≤ex (rung z)→signed (sgn z) (fmg (rung z)) (ex (rung z)-min (ex (rung x)) (ex (rung y)))*((2 ^ min (ex (rung x)) (ex (rung y)):Nat):Int)=qD z:=by
  intro z hz;rw[jdx];have:fmg (rung z)*2 ^ (ex (rung z)-min (ex (rung x)) (ex (rung y)))*2 ^ min (ex (rung x)) (ex (rung y))=val (rung z):=by
   rw[Nat.mul_assoc,←Nat.pow_add,Nat.sub_add_cancel hz];rfl
  unfold qD
  cases sgn z
  · simp only[Bool.false_eq_true,if_false];rw[←Int.natCast_mul,this]
  · simp only[if_true];rw[Int.neg_mul,←Int.natCast_mul,this]
 rw[f x (Nat.min_le_left _ _),f y (Nat.min_le_right _ _)]
theorem jgS {a b:Int} (h:a<b):Zw a b=.lt:=by unfold Zw;rw[if_pos h]
theorem jgN {a b:Int} (h:b<a):Zw a b=.gt:=by unfold Zw;rw[if_neg (by omega),if_neg (by omega)]
theorem jfq {x:Nat} (h:rung x<INF):jl x<(INF:Int)∧-(INF:Int)<jl x:=by
 unfold jl;split<;>omega
theorem jk0 (x y:Nat):double.order x y=if isNaN x||isNaN y then none else some (Zw (jl x) (jl y)):=by
 unfold isNaN;rcases Nat.lt_trichotomy (rung x) INF with hx | hx | hx
 · rcases Nat.lt_trichotomy (rung y) INF with hy | hy | hy
   · rw[jjx hx hy,if_neg];simp only[Bool.or_eq_true,decide_eq_true_eq];omega
   · have hs:=jfq hx;unfold Format.order;rw[YV hx,Xy hy,if_neg (by simp only[Bool.or_eq_true,decide_eq_true_eq];omega)];simp only[Datum.order,Option.some.injEq];have:jl y=if sgn y then -(INF:Int) else INF:=by unfold jl;rw[hy]
     rw[this];clear this
     cases sgn y
     · simp only[Bool.false_eq_true,if_false];rw[jgS (by omega)]
     · simp only[if_true];rw[jgN (by omega)]
   · unfold Format.order;rw[jaa hy,if_pos (by simp only[Bool.or_eq_true,decide_eq_true_eq];omega)]
     cases double.read x<;>rfl
 · rcases Nat.lt_trichotomy (rung y) INF with hy | hy | hy
   · have hs:=jfq hy;unfold Format.order;rw[YV hy,Xy hx,if_neg (by simp only[Bool.or_eq_true,decide_eq_true_eq];omega)];simp only[Datum.order,Option.some.injEq];have:jl x=if sgn x then -(INF:Int) else INF:=by unfold jl;rw[hx]
     rw[this];clear this
     cases sgn x
     · simp only[Bool.false_eq_true,if_false];rw[jgN (by omega)]
     · simp only[if_true];rw[jgS (by omega)]
   · unfold Format.order;rw[Xy hx,Xy hy,if_neg (by simp only[Bool.or_eq_true,decide_eq_true_eq];omega)];simp only[Datum.order,Option.some.injEq];have e1:jl x=if sgn x then -(INF:Int) else INF:=by unfold jl;rw[hx]
     have e2:jl y=if sgn y then -(INF:Int) else INF:=by unfold jl;rw[hy]
     rw[e1,e2]
     cases sgn x<;>cases sgn y<;>decide +kernel
   · unfold Format.order;rw[jaa hy,if_pos (by simp only[Bool.or_eq_true,decide_eq_true_eq];omega)]
     cases double.read x<;>rfl
 · unfold Format.order;rw[jaa hx,if_pos (by simp only[Bool.or_eq_true,decide_eq_true_eq];omega)];rfl
def cls (x:Nat):Int:=if isNaN x then 6 else if jl x=-INF then 0 else if jl x=INF then 5 else if jl x<0 then 1 else if 0<jl x then 4 else if sgn x then 2 else 3
def key (x:Nat):Int:=if isNaN x then SGN else if sgn x then -(rung x:Int)-1 else rung x
def cp (x y:Nat):Int:=if key x<key y then -1 else if key x=key y then 0 else 1
theorem jeu (x:Nat):rung (x ^^^ 2 ^ 63)=rung x:=by
 have h:=Nat.xor_mod_two_pow (a:=x) (b:=2 ^ 63) (n:=63);rw[Nat.mod_self,Nat.xor_zero] at h;exact h
theorem jlV (x:Nat):sgn (x ^^^ 2 ^ 63)=!sgn x:=by
 have h:=Nat.xor_div_two_pow (a:=x) (b:=2 ^ 63) (n:=63);unfold sgn;rw[show SGN=2 ^ 63 from rfl,h,Nat.div_self (Nat.two_pow_pos 63)];have h2:=Nat.xor_mod_two_pow (a:=x / 2 ^ 63) (b:=1) (n:=1);rw[Nat.pow_one] at h2;rw[h2];rcases Nat.mod_two_eq_zero_or_one (x / 2 ^ 63) with g | g
 · rw[g];rfl
 · rw[g];rfl
theorem jiS (x:Nat):isNaN (x ^^^ 2 ^ 63)=isNaN x:=by unfold isNaN;rw[jeu]
theorem jiH (x:Nat):jl (x ^^^ 2 ^ 63)=-jl x:=by
 unfold jl;rw[jeu,jlV];cases sgn x<;>simp
theorem jmo:((SGN:Nat):Int)=9223372036854775808:=rfl
theorem jbF:((INF:Nat):Int)=9218868437227405312:=rfl
theorem jgO (x:Nat):isNaN x=true↔INF<rung x:=by unfold isNaN;simp
theorem Yl (x:Nat):isNaN x=false↔rung x≤INF:=by unfold isNaN;simp
theorem Zb (x:Nat):(sgn x=true∧jl x=-(rung x:Int))∨(sgn x=false∧jl x=rung x):=by
 unfold jl;cases sgn x<;>simp
theorem ja1 (x:Nat):rung x<SGN:=Nat.mod_lt _ (by decide)
theorem jhE {x y:Nat} (h:cls x<cls y):cp x y=-1:=by
 have hx:=Zb x;have hy:=Zb y;have nx:=Yl x;have ny:=Yl y;have lx:=ja1 x;have ly:=ja1 y;have eS:=jmo;have eI:=jbF;unfold cp;rw[if_pos];unfold cls at h;unfold key
 cases hn:isNaN x<;>cases hm:isNaN y<;>simp only[hn,hm,Bool.false_eq_true,if_false,if_true,true_iff,false_iff,reduceCtorEq] at*<;>rcases hx with ⟨hx1,hx2⟩ | ⟨hx1,hx2⟩<;>rcases hy with ⟨hy1,hy2⟩ | ⟨hy1,hy2⟩<;>simp only[hx1,hy1,Bool.false_eq_true,if_false,if_true] at*<;>omega
theorem jgX (x y:Nat):cp y x=-cp x y:=by
 unfold cp;omega
theorem jk7 {x y:Nat} (h:cls y<cls x):cp x y=1:=by
 have:=jhE h;rw[jgX] at this;omega
theorem jht {x y:Nat} (h:cls x=cls y) (hn:isNaN x=false):isNaN y=false∧cp x y=if jl x<jl y then -1 else if jl x=jl y then 0 else 1:=by
 have hx:=Zb x;have hy:=Zb y;have nx:=Yl x;have ny:=Yl y;have lx:=ja1 x;have ly:=ja1 y;have eS:=jmo;have eI:=jbF;unfold cp;unfold cls at h;unfold key
 cases hm:isNaN y<;>simp only[hn,hm,Bool.false_eq_true,if_false,if_true,true_iff,false_iff,reduceCtorEq] at*<;>rcases hx with ⟨hx1,hx2⟩ | ⟨hx1,hx2⟩<;>rcases hy with ⟨hy1,hy2⟩ | ⟨hy1,hy2⟩<;>simp only[hx1,hy1,Bool.false_eq_true,if_false,if_true] at*<;>first | omega | (refine⟨trivial,?_⟩;omega)
theorem jjy {x y:Nat} (h:cls x=cls y) (hn:isNaN x=true):isNaN y=true∧cp x y=0:=by
 have hy:isNaN y=true:=by
  unfold cls at h
  cases hm:isNaN y
  · simp only[hn,hm,Bool.false_eq_true,if_false,if_true] at h;omega
  · rfl
 refine⟨hy,?_⟩;unfold cp key;simp[hn,hy]
theorem jk8 (x:Nat):cp x x=0:=by unfold cp;simp
theorem jlJ {x y:Nat}:cp x y=0↔key x=key y:=by unfold cp;omega
open Go.RowKit
theorem Kept.oneB (w:World) (c:Array Value) (t:TypeId):Kept w (w.alloc (.cells c t)):=(Below.refl _ _).alloc (Nat.le_refl _) _
theorem X4 (x y:Nat):FloatKind.f64.format.order x y=if isNaN x||isNaN y then none else some (Zw (jl x) (jl y)):=jk0 x y
theorem jbx (x:Nat):(FloatKind.f64.format.order x x != some .eq)=isNaN x:=by
 rw[X4];cases isNaN x<;>simp[Zw]
theorem qt (x y:Nat):(FloatKind.f64.format.order x y==some .lt)=(!isNaN x&&!isNaN y&&decide (jl x<jl y)):=by
 rw[X4];unfold Zw;cases isNaN x<;>cases isNaN y<;>simp<;>split<;>simp_all<;>first | omega | (split<;>simp_all<;>omega)
theorem qq (x y:Nat):(FloatKind.f64.format.order x y==some .gt)=(!isNaN x&&!isNaN y&&decide (jl y<jl x)):=by
 rw[X4];unfold Zw;cases isNaN x<;>cases isNaN y<;>simp<;>split<;>simp_all<;>first | omega | (split<;>simp_all<;>omega)
theorem jeN (x y:Nat):(FloatKind.f64.format.order x y==some .eq)=(!isNaN x&&!isNaN y&&decide (jl x=jl y)):=by
 rw[X4];unfold Zw;cases isNaN x<;>cases isNaN y<;>simp<;>split<;>simp_all<;>first | omega | (split<;>simp_all)
theorem Jr:jl 0=0∧isNaN 0=false∧sgn 0=false∧rung 0=0:=by decide +kernel
theorem X8:jl 9218868437227405311=9218868437227405311∧isNaN 9218868437227405311=false:=by decide +kernel
theorem jkb {P:Program} (k:FloatKind) (b:Nat) (w:World):(Op.unary .neg (.float k b)).run P w=.ok (.float k (Op.negFloat k b)) w:=rfl
theorem jm7 (x:Nat):Op.negFloat .f64 x=x ^^^ 2 ^ 63:=rfl
theorem ZL (x:Nat) (w:World):Calls Tryz.prog 70 #[.float .f64 x] w fun e w'=>e=.returned (.bool (isNaN x))∧w=w':=by
 have h:=jbx x;go_enter Tryz.func70,Tryz.ntmps70;go_wp2;go_ret;exact⟨rfl,rfl⟩
theorem Yj (x:Nat) (w:World) (hx:isNaN x=false):Calls Tryz.prog 71 #[.float .f64 x,.int .i64 (-1)] w fun e w'=>e=.returned (.bool (decide (jl x=-9218868437227405312)))∧w=w':=by
 have h:(FloatKind.f64.format.order (Op.negFloat .f64 x) 9218868437227405311==some .gt)=decide (jl x=-9218868437227405312):=by
  rw[qq,jm7,jiS,hx,X8.2,X8.1,jiH];have h1:=Zb x;have h2:=(Yl x).1 hx;have eI:=jbF;simp only[Bool.not_false,Bool.true_and,decide_eq_decide];omega
 have r:=@jkb Tryz.prog .f64 x;generalize Op.negFloat .f64 x=y at h r
 go_enter Tryz.func71,Tryz.ntmps71;go_wp2;go_ret;exact⟨rfl,rfl⟩
theorem YB (x:Nat) (w:World) (hx:isNaN x=false):Calls Tryz.prog 71 #[.float .f64 x,.int .i64 1] w fun e w'=>e=.returned (.bool (decide (jl x=9218868437227405312)))∧w=w':=by
 have h:(FloatKind.f64.format.order x 9218868437227405311==some .gt)=decide (jl x=9218868437227405312):=by
  rw[qq,hx,X8.2,X8.1];have h1:=Zb x;have h2:=(Yl x).1 hx;have eI:=jbF;simp only[Bool.not_false,Bool.true_and,decide_eq_decide];omega
 go_enter Tryz.func71,Tryz.ntmps71;go_wp2;go_ret;exact⟨rfl,rfl⟩
theorem jkm (x:Nat) (w:World):(callFunc 109 #[.float .f64 x]).run Tryz.prog w=.ok (.value (.int .u64 x)) w:=by
 rw[run_callFunc_extern Tryz.func109 (by kernel_rfl) (by kernel_rfl) (by kernel_rfl) (e:=Extern.MathFloatBits.float64bits) (by kernel_rfl)];rfl
theorem jbf (x:Nat) (w:World):Calls Tryz.prog 72 #[.float .f64 x] w fun e w'=>e=.returned (.bool (sgn x))∧w=w':=by
 have hb:=jkm x;have hs:decide (wrap64 (x:Int)<0)=sgn x:=by
  unfold wrap64 sgn;rw[show SGN=9223372036854775808 from rfl];rcases Nat.mod_two_eq_zero_or_one (x / 9223372036854775808) with h | h
  · rw[h];simp;omega
  · rw[h];simp;omega
 go_enter Tryz.func72,Tryz.ntmps72;go_wp2;go_ret;exact⟨rfl,rfl⟩
theorem XQ (x:Nat) (w:World):Calls Tryz.prog 25 #[.float .f64 x] w fun e w'=>e=.returned (.int .i64 (cls x))∧w=w':=by
 have eI:=jbF
 cases hx:isNaN x with
 | true =>
  have hc:cls x=6:=by unfold cls;rw[hx];rfl
  rw[hc];go_enter Tryz.func25,Tryz.ntmps25;go_wp2_with fail
  refine(ZL _ _).mono ?_;rintro e w' ⟨rfl,rfl⟩;go_wp2_with fail
  go_ret;exact⟨rfl,rfl⟩
 | false =>
  have h1:(FloatKind.f64.format.order x 0==some .lt)=decide (jl x<0):=by rw[qt,hx,Jr.2.1,Jr.1];simp
  have h2:(FloatKind.f64.format.order x 0==some .gt)=decide (0<jl x):=by rw[qq,hx,Jr.2.1,Jr.1];simp
  have hc:cls x=if jl x=-9218868437227405312 then 0 else if jl x=9218868437227405312 then 5 else if jl x<0 then 1 else if 0<jl x then 4 else if sgn x then 2 else 3:=by unfold cls;rw[hx];rfl
  rw[hc];clear hc eI;by_cases a0:jl x=-9218868437227405312
  · rw[if_pos a0];go_enter Tryz.func25,Tryz.ntmps25;go_wp2_with fail
    refine(ZL _ _).mono ?_;rintro e w' ⟨rfl,rfl⟩;go_wp2_with fail
    refine(Yj _ _ hx).mono ?_;rintro e w' ⟨rfl,rfl⟩;go_wp2_with fail
    go_ret;exact⟨rfl,rfl⟩
  · rw[if_neg a0];by_cases a1:jl x=9218868437227405312
    · rw[if_pos a1];go_enter Tryz.func25,Tryz.ntmps25;go_wp2_with fail
      refine(ZL _ _).mono ?_;rintro e w' ⟨rfl,rfl⟩;go_wp2_with fail
      refine(Yj _ _ hx).mono ?_;rintro e w' ⟨rfl,rfl⟩;go_wp2_with fail
      refine(YB _ _ hx).mono ?_;rintro e w' ⟨rfl,rfl⟩;go_wp2_with fail
      go_ret;exact⟨rfl,rfl⟩
    · rw[if_neg a1];by_cases a2:jl x<0
      · rw[if_pos a2];go_enter Tryz.func25,Tryz.ntmps25;go_wp2_with fail
        refine(ZL _ _).mono ?_;rintro e w' ⟨rfl,rfl⟩;go_wp2_with fail
        refine(Yj _ _ hx).mono ?_;rintro e w' ⟨rfl,rfl⟩;go_wp2_with fail
        refine(YB _ _ hx).mono ?_;rintro e w' ⟨rfl,rfl⟩;go_wp2_with fail
        go_ret;exact⟨rfl,rfl⟩
      · rw[if_neg a2];by_cases a3:0<jl x
        · rw[if_pos a3];go_enter Tryz.func25,Tryz.ntmps25;go_wp2_with fail
          refine(ZL _ _).mono ?_;rintro e w' ⟨rfl,rfl⟩;go_wp2_with fail
          refine(Yj _ _ hx).mono ?_;rintro e w' ⟨rfl,rfl⟩;go_wp2_with fail
          refine(YB _ _ hx).mono ?_;rintro e w' ⟨rfl,rfl⟩;go_wp2_with fail
          go_ret;exact⟨rfl,rfl⟩
        · rw[if_neg a3]
          cases hs:sgn x with
          | true =>
           go_enter Tryz.func25,Tryz.ntmps25;go_wp2_with fail
           refine(ZL _ _).mono ?_;rintro e w' ⟨rfl,rfl⟩;go_wp2_with fail
           refine(Yj _ _ hx).mono ?_;rintro e w' ⟨rfl,rfl⟩;go_wp2_with fail
           refine(YB _ _ hx).mono ?_;rintro e w' ⟨rfl,rfl⟩;go_wp2_with fail
           refine(jbf _ _).mono ?_;rintro e w' ⟨rfl,rfl⟩;go_wp2_with fail
           go_ret;exact⟨rfl,rfl⟩
          | false =>
           go_enter Tryz.func25,Tryz.ntmps25;go_wp2_with fail
           refine(ZL _ _).mono ?_;rintro e w' ⟨rfl,rfl⟩;go_wp2_with fail
           refine(Yj _ _ hx).mono ?_;rintro e w' ⟨rfl,rfl⟩;go_wp2_with fail
           refine(YB _ _ hx).mono ?_;rintro e w' ⟨rfl,rfl⟩;go_wp2_with fail
           refine(jbf _ _).mono ?_;rintro e w' ⟨rfl,rfl⟩;go_wp2_with fail
           go_ret;exact⟨rfl,rfl⟩
theorem jao (x:Int) (w:World):Calls Tryz.prog 106 #[.int .i64 x] w fun e w'=>e=.returned (.bool false)∧w=w':=by
 go_enter Tryz.func106,Tryz.ntmps106;go_wp2;go_ret;exact⟨rfl,rfl⟩
theorem Jp (x:Nat) (w:World):Calls Tryz.prog 107 #[.float .f64 x] w fun e w'=>e=.returned (.bool (isNaN x))∧w=w':=by
 have h:=jbx x;go_enter Tryz.func107,Tryz.ntmps107;go_wp2;go_ret;exact⟨rfl,rfl⟩
theorem jlP (x y:Int) (w:World):Calls Tryz.prog 68 #[.int .i64 x,.int .i64 y] w fun e w'=>e=.returned (.int .i64 (if x<y then -1 else if x=y then 0 else 1))∧w=w':=by
 by_cases h1:x<y
 · rw[if_pos h1];go_enter Tryz.func68,Tryz.ntmps68;go_wp2_with (go_at_call 106;refine(jao _ _).mono ?_;rintro e w' ⟨rfl,rfl⟩)
   go_ret;exact⟨rfl,rfl⟩
 · rw[if_neg h1];by_cases h2:x=y
   · rw[if_pos h2];have h3:¬y<x:=by omega
     go_enter Tryz.func68,Tryz.ntmps68;go_wp2_with (go_at_call 106;refine(jao _ _).mono ?_;rintro e w' ⟨rfl,rfl⟩)
     go_ret;exact⟨rfl,rfl⟩
   · rw[if_neg h2];have h3:y<x:=by omega
     go_enter Tryz.func68,Tryz.ntmps68;go_wp2_with (go_at_call 106;refine(jao _ _).mono ?_;rintro e w' ⟨rfl,rfl⟩)
     go_ret;exact⟨rfl,rfl⟩
theorem jdg (x y:Nat) (w:World) (h:cls x=cls y):Calls Tryz.prog 69 #[.float .f64 x,.float .f64 y] w fun e w'=>e=.returned (.int .i64 (cp x y))∧w=w':=by
 cases hx:isNaN x with
 | true =>
  obtain⟨hy,hc⟩:=jjy h hx;rw[hc];clear hc h;go_enter Tryz.func69,Tryz.ntmps69;go_wp2_with (go_at_call 107;refine(Jp _ _).mono ?_;rintro e w' ⟨rfl,rfl⟩)
  go_ret;exact⟨rfl,rfl⟩
 | false =>
  obtain⟨hy,hc⟩:=jht h hx;rw[hc];clear hc h;have o1:(FloatKind.f64.format.order x y==some .lt)=decide (jl x<jl y):=by rw[qt,hx,hy];simp
  have o2:(FloatKind.f64.format.order x y==some .gt)=decide (jl y<jl x):=by rw[qq,hx,hy];simp
  by_cases h1:jl x<jl y
  · rw[if_pos h1];go_enter Tryz.func69,Tryz.ntmps69;go_wp2_with (go_at_call 107;refine(Jp _ _).mono ?_;rintro e w' ⟨rfl,rfl⟩)
    go_ret;exact⟨rfl,rfl⟩
  · rw[if_neg h1];by_cases h2:jl x=jl y
    · rw[if_pos h2];have h3:¬jl y<jl x:=by omega
      go_enter Tryz.func69,Tryz.ntmps69;go_wp2_with (go_at_call 107;refine(Jp _ _).mono ?_;rintro e w' ⟨rfl,rfl⟩)
      go_ret;exact⟨rfl,rfl⟩
    · rw[if_neg h2];have h3:jl y<jl x:=by omega
      go_enter Tryz.func69,Tryz.ntmps69;go_wp2_with (go_at_call 107;refine(Jp _ _).mono ?_;rintro e w' ⟨rfl,rfl⟩)
      go_ret;exact⟨rfl,rfl⟩
open Go.RowKit Ieee
theorem jgp (x y t:Nat):isNaN ((Question.nanBits .f64 x y).cut t)=true∧(Question.nanBits .f64 x y).cut t<18446744073709551616:=by
 have e:(Question.nanBits .f64 x y).cut t=(t % 2)*9223372036854775808+9218868437227405312+1+(t / 2) % 4503599627370495:=rfl;rw[e,jgO];unfold rung;rw[show SGN=9223372036854775808 from rfl,show INF=9218868437227405312 from rfl];have ha:t % 2<2:=Nat.mod_lt _ (by decide);have hb:(t / 2) % 4503599627370495<4503599627370495:=Nat.mod_lt _ (by decide);generalize t % 2=a at ha ⊢
 generalize (t / 2) % 4503599627370495=b at hb ⊢
 omega
theorem YO (n:Bool) {r:Nat} (h:r≤INF):isNaN (double.word n r)=false∧double.word n r<18446744073709551616∧rung (double.word n r)=r∧sgn (double.word n r)=n:=by
 have eS:SGN=9223372036854775808:=rfl;have eI:INF=9218868437227405312:=rfl;have hr:rung (double.word n r)=r:=by
  unfold rung Format.word;rw[jaP,eS];split<;>omega
 have hs:sgn (double.word n r)=n:=by
  unfold sgn Format.word;rw[jaP,eS]
  cases n
  · rw[if_neg (by simp),show r / 9223372036854775808=0 from by omega];rfl
  · rw[if_pos rfl,show (9223372036854775808+r) / 9223372036854775808=1 from by omega];rfl
 refine⟨by rw[Yl,hr];exact h,?_,hr,hs⟩;unfold Format.word;rw[jaP];split<;>omega
def jh0 (mag:Nat) (place:Int):Nat:=rung (double.nearest false mag place)
theorem XI (n:Bool) (m:Nat) (p:Int):double.nearest n m p=double.word n (jh0 m p)∧jh0 m p≤INF:=by
 have h:∃r,r≤INF∧∀n',double.nearest n' m p=double.word n' r:=by
  by_cases hm:m=0
  · exact⟨0,by decide,fun n'=>by unfold Format.nearest;rw[if_pos hm]⟩
  · unfold Format.nearest;simp only[hm,if_false,jaW];exact⟨min ((max (p+(m.log2:Int)-double.fractionBits) double.leastPlace-double.leastPlace).toNat*double.binade+Toward.even.cut false (m <<< (p-max (p+(m.log2:Int)-double.fractionBits) double.leastPlace).toNat) (max (p+(m.log2:Int)-double.fractionBits) double.leastPlace-p).toNat) INF,Nat.min_le_right _ _,fun n'=>rfl⟩
 obtain⟨r,hr,he⟩:=h;have:jh0 m p=r:=by unfold jh0;rw[he false];exact(YO false hr).2.2.1
 rw[this];exact⟨he n,hr⟩
theorem jbr {d:Datum} (h:d.isNaN=false):isNaN (double.write d)=false∧double.write d<18446744073709551616:=by
 cases d with
 | number s m p =>
  unfold Format.write;dsimp only;rw[(XI s m p).1];exact⟨(YO s (XI s m p).2).1,(YO s (XI s m p).2).2.1⟩
 | infinity s =>
  unfold Format.write;dsimp only;rw[jaW];exact⟨(YO s (Nat.le_refl _)).1,(YO s (Nat.le_refl _)).2.1⟩
 | nan s t=>cases h
theorem jer {a b d:Datum} (h:a.sum b=some d):d.isNaN=false:=by
 cases a<;>cases b<;>simp only[Datum.sum] at h<;>first | (cases h;done) | (split at h<;>cases h<;>rfl) | (cases h;rfl)
theorem jdX {k:Nat} {a b d:Datum} (h:a.quotient k b=some d):d.isNaN=false:=by
 cases a<;>cases b<;>simp only[Datum.quotient] at h<;>first | (cases h;done) | (cases h;rfl) | (split at h<;>first | (split at h<;>cases h<;>rfl) | (cases h;rfl))
theorem jeh {x y r:Nat} (h:double.add x y=some r):isNaN r=false∧r<18446744073709551616:=by
 unfold Format.add at h
 cases hs:(double.read x).sum (double.read y) with
 | none=>rw[hs] at h;cases h
 | some d=>rw[hs] at h;cases h;exact jbr (jer hs)
theorem jfr {x y r:Nat} (h:double.sub x y=some r):isNaN r=false∧r<18446744073709551616:=by
 unfold Format.sub at h
 cases hs:(double.read x).sum (double.read y).opposite with
 | none=>rw[hs] at h;cases h
 | some d=>rw[hs] at h;cases h;exact jbr (jer hs)
theorem jeg {x y r:Nat} (h:double.div x y=some r):isNaN r=false∧r<18446744073709551616:=by
 unfold Format.div at h
 cases hs:(double.read x).quotient (double.fractionBits+2) (double.read y) with
 | none=>rw[hs] at h;cases h
 | some d=>rw[hs] at h;cases h;exact jbr (jdX hs)
def nrm (x:Nat):Option Nat:=if isNaN x then none else some x
theorem JM {x r:Nat}:nrm x=some r↔isNaN x=false∧x=r:=by unfold nrm;cases isNaN x<;>simp
theorem Jo {x:Nat}:nrm x=none↔isNaN x=true:=by unfold nrm;cases isNaN x<;>simp
theorem jap {P:Program} (op:BinOp) (f:Nat→Nat→Option Nat) (hop:(op=.add∧f=double.add)∨(op=.sub∧f=double.sub)∨(op=.quo∧f=double.div)) (x y:Nat) (w:World) :
 ∃r n,(∀t,(binOp op t (.float .f64 x) (.float .f64 y)).run P w=.ok (.float .f64 r) (w.drewN n))∧nrm r=f x y∧r<18446744073709551616:=by
 cases h:f x y with
 | some r =>
  refine⟨r,0,fun t=>?_,?_⟩
  · rw[World.drewN_zero];refine run_float_arith w op t .f64 x y r ?_;rcases hop with ⟨rfl,rfl⟩ | ⟨rfl,rfl⟩ | ⟨rfl,rfl⟩<;>exact h
  · rw[JM];rcases hop with ⟨rfl,rfl⟩ | ⟨rfl,rfl⟩ | ⟨rfl,rfl⟩
    · exact⟨⟨(jeh h).1,rfl⟩,(jeh h).2⟩
    · exact⟨⟨(jfr h).1,rfl⟩,(jfr h).2⟩
    · exact⟨⟨(jeg h).1,rfl⟩,(jeg h).2⟩
 | none =>
  refine⟨(Question.nanBits .f64 x y).cut (w.tape w.drawn (.nanBits .f64 x y)),1,fun t=>?_,Jo.2 (jgp _ _ _).1,(jgp _ _ _).2⟩;have hd:w.drew=w.drewN 1:=rfl;rw[←hd];rcases hop with ⟨rfl,rfl⟩ | ⟨rfl,rfl⟩ | ⟨rfl,rfl⟩
  · have h':FloatKind.f64.format.add x y=none:=h;simp[binOp,Op.floatArith,h',Question.forced]
  · have h':FloatKind.f64.format.sub x y=none:=h;simp[binOp,Op.floatArith,h',Question.forced]
  · have h':FloatKind.f64.format.div x y=none:=h;simp[binOp,Op.floatArith,h',Question.forced]
theorem jgJ {P:Program} (x y:Nat) (w:World):∃r n,(∀t,(binOp .add t (.float .f64 x) (.float .f64 y)).run P w=.ok (.float .f64 r) (w.drewN n))∧nrm r=double.add x y∧r<18446744073709551616:=jap .add _ (.inl ⟨rfl,rfl⟩) x y w
theorem jgo {P:Program} (x y:Nat) (w:World):∃r n,(∀t,(binOp .sub t (.float .f64 x) (.float .f64 y)).run P w=.ok (.float .f64 r) (w.drewN n))∧nrm r=double.sub x y∧r<18446744073709551616:=jap .sub _ (.inr (.inl ⟨rfl,rfl⟩)) x y w
theorem qu {P:Program} (x y:Nat) (w:World):∃r n,(∀t,(binOp .quo t (.float .f64 x) (.float .f64 y)).run P w=.ok (.float .f64 r) (w.drewN n))∧nrm r=double.div x y∧r<18446744073709551616:=jap .quo _ (.inr (.inr ⟨rfl,rfl⟩)) x y w
theorem jgg {x:Nat} (h:rung x=0):double.div 4607182418800017408 x=some (double.word (sgn x) INF):=by
 unfold Format.div;rw[YV (x:=x) (by rw[h];decide),h];have e:double.read 4607182418800017408=.number false 4503599627370496 (-52):=by decide +kernel
 rw[e,show fmg 0=0 from rfl];simp[Datum.quotient,Format.write,jaW]
theorem jeH {x:Nat} (h:rung x<INF):double.sub x x=some 0:=by
 unfold Format.sub;rw[YV h];simp only[Datum.opposite,Datum.sum,Int.min_self,Int.sub_self,jdx,Option.map_some,Option.some.injEq];have:∀a:Int,((if sgn x=true then -a else a)+if (!sgn x)=true then -a else a)=0:=by
  intro a;cases sgn x<;>simp<;>omega
 rw[this];unfold Format.write Format.nearest
 cases sgn x<;>rfl
theorem jfp {x:Nat} (h:rung x=INF):double.sub x x=none:=by
 unfold Format.sub;rw[Xy h]
 cases sgn x<;>rfl
theorem jkF (s:Bool):isNaN (Ieee.double.word s INF)=false∧jl (Ieee.double.word s INF)=if s then -9218868437227405312 else 9218868437227405312:=by
 obtain⟨h1,_,h3,h4⟩:=YO s (Nat.le_refl INF);refine⟨h1,?_⟩;unfold jl;rw[h3,h4]
 cases s<;>rfl
def RC (x:Nat) (w:World) (e:Ending) (w':World):Prop:=e=.returned (.int .i64 (cls x))∧∃n,w'=w.drewN n
theorem jb7 (x:Nat) (w:World):Calls Tryz.prog 81 #[.float .f64 x] w (RC x w):=by
 have o0:=jbx x;have hs:=Zb x;have eI:=jbF
 cases hx:isNaN x with
 | true =>
  have hc:cls x=6:=by unfold cls;rw[hx];rfl
  unfold RC;rw[hc];clear hs eI hc;rw[hx] at o0;go_enter Tryz.func81,Tryz.ntmps81;go_wp2;go_ret;exact⟨rfl,0,rfl⟩
 | false =>
  rw[hx] at o0;have h1:(FloatKind.f64.format.order x 0==some .lt)=decide (jl x<0):=by rw[qt,hx,Jr.2.1,Jr.1];simp
  have h2:(FloatKind.f64.format.order x 0==some .eq)=decide (jl x=0):=by rw[jeN,hx,Jr.2.1,Jr.1];simp
  have h3:=(Yl x).1 hx;by_cases hz:jl x=0
  · have hr:rung x=0:=by omega
    obtain⟨r,n,hq,hn,_⟩:=qu (P:=Tryz.prog) 4607182418800017408 x w;rw[jgg hr] at hn;obtain⟨hn1,rfl⟩:=JM.1 hn;have h4:(FloatKind.f64.format.order (Ieee.double.word (sgn x) INF) 0==some .lt)=sgn x:=by
     rw[qt,hn1,Jr.2.1,Jr.1,(jkF _).2]
     cases sgn x<;>rfl
    have hc:cls x=if sgn x then 2 else 3:=by unfold cls;rw[hx,hz];simp
    unfold RC;rw[hc];clear hs eI hc hn hn1 hr
    cases hsx:sgn x with
    | true =>
     rw[hsx] at h4 hq;generalize Ieee.double.word true INF=y at h4 hq
     go_enter Tryz.func81,Tryz.ntmps81;go_wp2;go_ret;exact⟨rfl,_,rfl⟩
    | false =>
     rw[hsx] at h4 hq;generalize Ieee.double.word false INF=y at h4 hq
     go_enter Tryz.func81,Tryz.ntmps81;go_wp2;go_ret;exact⟨rfl,_,rfl⟩
  · obtain⟨r1,n1,hq1,hn1,_⟩:=jgo (P:=Tryz.prog) x x w;obtain⟨r2,n2,hq2,hn2,_⟩:=jgo (P:=Tryz.prog) x x (w.drewN n1);by_cases hi:rung x=INF
    · rw[jfp hi] at hn1 hn2;have k1:(FloatKind.f64.format.order r1 0 != some .eq)=true:=by rw[bne,jeN,Jo.1 hn1];rfl
      have k2:(FloatKind.f64.format.order r2 0 != some .eq)=true:=by rw[bne,jeN,Jo.1 hn2];rfl
      have hc:cls x=if jl x<0 then 0 else 5:=by unfold cls;rw[hx];simp only[Bool.false_eq_true,if_false];split<;>split<;>first | rfl | omega
      unfold RC;rw[hc];clear hs eI hc hn1 hn2 h3;by_cases hsx:jl x<0
      · rw[if_pos hsx];go_enter Tryz.func81,Tryz.ntmps81;go_wp2;go_ret;exact⟨rfl,_,rfl⟩
      · rw[if_neg hsx];go_enter Tryz.func81,Tryz.ntmps81;go_wp2;go_ret;exact⟨rfl,n1+n2,rfl⟩
    · rw[jeH (by omega)] at hn1 hn2;obtain⟨_,rfl⟩:=JM.1 hn1;obtain⟨_,rfl⟩:=JM.1 hn2;have k1:(FloatKind.f64.format.order 0 0 != some .eq)=false:=by decide +kernel
      have hc:cls x=if jl x<0 then 1 else 4:=by unfold cls;rw[hx];simp only[Bool.false_eq_true,if_false];split<;>split<;>first | rfl | omega
      unfold RC;rw[hc];clear hs eI hc hn1 hn2 h3;by_cases hsx:jl x<0
      · rw[if_pos hsx];go_enter Tryz.func81,Tryz.ntmps81;go_wp2;go_ret;exact⟨rfl,n1+n2,rfl⟩
      · rw[if_neg hsx];go_enter Tryz.func81,Tryz.ntmps81;go_wp2;go_ret;exact⟨rfl,n1+n2,rfl⟩
theorem jl5 (x y:Int) (w:World) (t:TypeId):Calls Tryz.prog 67 #[.slice (some ⟨w.heap.size,0,none⟩) 2 2] (w.alloc (.cells #[.int .i64 x,.int .i64 y] t))
 fun e w'=>e=.returned (.int .i64 (if x=0 then y else x))∧w.alloc (.cells #[.int .i64 x,.int .i64 y] t)=w':=by
 have c0:(w.alloc (.cells #[.int .i64 x,.int .i64 y] t)).cell? ⟨w.heap.size,0,none⟩=some (.int .i64 x):=by simp
 have c1:(w.alloc (.cells #[.int .i64 x,.int .i64 y] t)).cell? ⟨w.heap.size,1,none⟩=some (.int .i64 y):=by simp
 generalize w.alloc (.cells #[.int .i64 x,.int .i64 y] t)=w1 at c0 c1 ⊢
 generalize w.heap.size=b at c0 c1 ⊢
 by_cases hx:x=0
 · subst hx;rw[if_pos rfl];by_cases hy:y=0
   · subst hy;go_enter Tryz.func67,Tryz.ntmps67;go_wp2;refine wp_loop_rounds 3 ?_;rw[rounds_succ];go_wp2;rw[rounds_succ];go_wp2;rw[rounds_succ];go_wp2;go_ret;exact⟨rfl,rfl⟩
   · go_enter Tryz.func67,Tryz.ntmps67;go_wp2;refine wp_loop_rounds 3 ?_;rw[rounds_succ];go_wp2;rw[rounds_succ];go_wp2;go_ret;exact⟨rfl,rfl⟩
 · rw[if_neg hx];go_enter Tryz.func67,Tryz.ntmps67;go_wp2;refine wp_loop_rounds 3 ?_;rw[rounds_succ];go_wp2;go_ret;exact⟨rfl,rfl⟩
def CP (x y:Nat) (w:World) (e:Ending) (w':World):Prop:=e=.returned (.int .i64 (cp x y))∧∃c t,w'=w.alloc (.cells c t)
theorem CP.kept {x y:Nat} {w:World} {e:Ending} {w':World} (h:CP x y w e w'):e=.returned (.int .i64 (cp x y))∧Kept w w':=by
 obtain⟨rfl,c,t,rfl⟩:=h;exact⟨rfl,Kept.oneB _ _ _⟩
theorem jdY (x y:Nat) (w:World):∃c:Int,Calls Tryz.prog 69 #[.float .f64 x,.float .f64 y] w fun e w'=>e=.returned (.int .i64 c)∧w=w':=by
 cases hx:isNaN x with
 | true =>
  cases hy:isNaN y with
  | true=>exact⟨_,jdg x y w (by unfold cls;rw[hx,hy];rfl)⟩
  | false =>
   refine⟨-1,?_⟩;go_enter Tryz.func69,Tryz.ntmps69;go_wp2_with (go_at_call 107;refine(Jp _ _).mono ?_;rintro e w' ⟨rfl,rfl⟩)
   go_ret;exact⟨rfl,rfl⟩
 | false =>
  cases hy:isNaN y with
  | true =>
   refine⟨1,?_⟩;go_enter Tryz.func69,Tryz.ntmps69;go_wp2_with (go_at_call 107;refine(Jp _ _).mono ?_;rintro e w' ⟨rfl,rfl⟩)
   go_ret;exact⟨rfl,rfl⟩
  | false =>
   have o1:(FloatKind.f64.format.order x y==some .lt)=decide (jl x<jl y):=by rw[qt,hx,hy];simp
   have o2:(FloatKind.f64.format.order x y==some .gt)=decide (jl y<jl x):=by rw[qq,hx,hy];simp
   by_cases h1:jl x<jl y
   · refine⟨-1,?_⟩;go_enter Tryz.func69,Tryz.ntmps69;go_wp2_with (go_at_call 107;refine(Jp _ _).mono ?_;rintro e w' ⟨rfl,rfl⟩)
     go_ret;exact⟨rfl,rfl⟩
   · by_cases h2:jl y<jl x
     · refine⟨1,?_⟩;go_enter Tryz.func69,Tryz.ntmps69;go_wp2_with (go_at_call 107;refine(Jp _ _).mono ?_;rintro e w' ⟨rfl,rfl⟩)
       go_ret;exact⟨rfl,rfl⟩
     · refine⟨0,?_⟩;go_enter Tryz.func69,Tryz.ntmps69;go_wp2_with (go_at_call 107;refine(Jp _ _).mono ?_;rintro e w' ⟨rfl,rfl⟩)
       go_ret;exact⟨rfl,rfl⟩
theorem ja7 (x y:Nat) (w:World):Calls Tryz.prog 24 #[.float .f64 x,.float .f64 y] w (CP x y w):=by
 obtain⟨c2,hc2,he⟩:∃c2:Int,(Calls Tryz.prog 69 #[.float .f64 x,.float .f64 y] w fun e w'=>e=.returned (.int .i64 c2)∧w=w') ∧
  cp x y=if (if cls x<cls y then -1 else if cls x=cls y then 0 else 1:Int)=0 then c2 else (if cls x<cls y then -1 else if cls x=cls y then 0 else 1):=by
  by_cases h2:cls x=cls y
  · refine⟨cp x y,jdg x y w h2,?_⟩;simp only[h2,Int.lt_irrefl,if_false,if_true]
  · obtain⟨c,hc⟩:=jdY x y w;refine⟨c,hc,?_⟩;by_cases h1:cls x<cls y
    · rw[if_pos h1,jhE h1];rfl
    · rw[if_neg h1,if_neg h2,jk7 (by omega)];rfl
 unfold CP;rw[he];clear he;have hcx:=XQ x w;have hcy:=XQ y w;have hci:=jlP (cls x) (cls y) w;generalize (if cls x<cls y then -1 else if cls x=cls y then 0 else 1:Int)=c1 at hci ⊢
 generalize cls x=kx at hcx hci
 generalize cls y=ky at hcy hci
 have ho:=jl5 c1 c2;generalize (if c1=0 then c2 else c1)=r at ho ⊢
 have HO:=lH ho;clear ho;go_enter Tryz.func24,Tryz.ntmps24;go_wp2_with fail
 refine hcx.mono ?_;rintro e1 w1 ⟨rfl,rfl⟩;go_wp2_with fail
 refine hcy.mono ?_;rintro e1 w1 ⟨rfl,rfl⟩;go_wp2_with fail
 refine hci.mono ?_;rintro e1 w1 ⟨rfl,rfl⟩;go_wp2_with fail
 refine hc2.mono ?_;rintro e1 w1 ⟨rfl,rfl⟩;go_wp2_with fail
 refine(HO.out _ _).mono ?_;rintro e1 w1 ⟨rfl,rfl⟩;go_wp2_with fail
 go_ret;exact⟨rfl,_,_,rfl⟩
def RCP (x y:Nat) (w:World) (e:Ending) (w':World):Prop:=e=.returned (.int .i64 (cp x y))∧∃n,w'=w.drewN n
theorem RCP.kept {x y:Nat} {w:World} {e:Ending} {w':World} (h:RCP x y w e w'):e=.returned (.int .i64 (cp x y))∧Kept w w':=by
 obtain⟨rfl,n,rfl⟩:=h;exact⟨rfl,Kept.drewN _ _⟩
theorem jlf {x:Nat} (hx:cls x=1∨cls x=4):isNaN x=false:=by
 unfold cls at hx
 cases h:isNaN x
 · rfl
 · rw[h] at hx;simp at hx
theorem jlh {x y:Nat} (h:cls x=cls y) (h1:cls x≠1) (h4:cls x≠4):cp x y=0:=by
 cases hx:isNaN x with
 | true=>exact(jjy h hx).2
 | false =>
  obtain⟨hy,hc⟩:=jht h hx;rw[hc];have eI:=jbF;have:jl x=jl y:=by
   unfold cls at h h1 h4;simp only[hx,hy,Bool.false_eq_true,if_false] at h h1 h4;omega
  rw[if_neg (by omega),if_pos this]
theorem jaq (x y:Nat) (w:World):Calls Tryz.prog 44 #[.float .f64 x,.float .f64 y] w (RCP x y w):=by
 have hrx:=lH (jb7 x);have hry:=lH (jb7 y);by_cases h1:cls x<cls y
 · unfold RCP;rw[jhE h1];generalize hkx:cls x=kx at h1
   generalize hky:cls y=ky at h1
   have Hx:=lH hkx;have Hy:=lH hky;clear hkx hky;go_enter Tryz.func44,Tryz.ntmps44;go_wp2_with fail
   refine(hrx.out _).mono ?_;rintro e1 w1 ⟨rfl,n,rfl⟩;rw[Hx.out];go_wp2_with fail
   refine(hry.out _).mono ?_;rintro e1 w1 ⟨rfl,m,rfl⟩;rw[Hy.out];go_wp2_with fail
   go_ret;exact⟨rfl,n+m,rfl⟩
 · by_cases h2:cls y<cls x
   · unfold RCP;rw[jk7 h2];generalize hkx:cls x=kx at h1 h2
     generalize hky:cls y=ky at h1 h2
     have Hx:=lH hkx;have Hy:=lH hky;clear hkx hky;go_enter Tryz.func44,Tryz.ntmps44;go_wp2_with fail
     refine(hrx.out _).mono ?_;rintro e1 w1 ⟨rfl,n,rfl⟩;rw[Hx.out];go_wp2_with fail
     refine(hry.out _).mono ?_;rintro e1 w1 ⟨rfl,m,rfl⟩;rw[Hy.out];go_wp2_with fail
     go_ret;exact⟨rfl,n+m,rfl⟩
   · have h3:cls x=cls y:=by omega
     by_cases h4:cls x≠1∧cls x≠4
     · unfold RCP;rw[jlh h3 h4.1 h4.2];have g1:(cls x != 1)=true:=by simp;exact h4.1
       have g4:(cls x != 4)=true:=by simp;exact h4.2
       clear h4;generalize hkx:cls x=kx at h1 h2 h3 g1 g4
       have Hx:=lH hkx;have Hy:=lH h3.symm;clear hkx h1 h2 h3;go_enter Tryz.func44,Tryz.ntmps44;go_wp2_with fail
       refine(hrx.out _).mono ?_;rintro e1 w1 ⟨rfl,n,rfl⟩;rw[Hx.out];go_wp2_with fail
       refine(hry.out _).mono ?_;rintro e1 w1 ⟨rfl,m,rfl⟩;rw[Hy.out];go_wp2_with fail
       go_ret;exact⟨rfl,n+m,rfl⟩
     · have hx:isNaN x=false:=jlf (by omega);obtain⟨hy,hc⟩:=jht h3 hx;have o1:(FloatKind.f64.format.order x y==some .lt)=decide (jl x<jl y):=by rw[qt,hx,hy];simp
       have o2:(FloatKind.f64.format.order x y==some .gt)=decide (jl y<jl x):=by rw[qq,hx,hy];simp
       unfold RCP;rw[hc];have g:(cls x != 1)=false∨((cls x != 1)=true∧(cls x != 4)=false):=by simp;omega
       clear hc hx hy h4;generalize hkx:cls x=kx at h1 h2 h3 g
       have Hx:=lH hkx;have Hy:=lH h3.symm;clear hkx h1 h2 h3;by_cases s1:jl x<jl y
       · rw[if_pos s1];rcases g with g | ⟨g',g⟩ <;>
         (go_enter Tryz.func44,Tryz.ntmps44
          go_wp2_with fail
          refine(hrx.out _).mono ?_;rintro e1 w1 ⟨rfl,n,rfl⟩;rw[Hx.out];go_wp2_with fail
          refine(hry.out _).mono ?_;rintro e1 w1 ⟨rfl,m,rfl⟩;rw[Hy.out];go_wp2_with fail
          go_ret;exact⟨rfl,n+m,rfl⟩)
       · rw[if_neg s1];by_cases s2:jl x=jl y
         · rw[if_pos s2];have s3:¬jl y<jl x:=by omega
           rcases g with g | ⟨g',g⟩ <;>
           (go_enter Tryz.func44,Tryz.ntmps44
            go_wp2_with fail
            refine(hrx.out _).mono ?_;rintro e1 w1 ⟨rfl,n,rfl⟩;rw[Hx.out];go_wp2_with fail
            refine(hry.out _).mono ?_;rintro e1 w1 ⟨rfl,m,rfl⟩;rw[Hy.out];go_wp2_with fail
            go_ret;exact⟨rfl,n+m,rfl⟩)
         · rw[if_neg s2];have s3:jl y<jl x:=by omega
           rcases g with g | ⟨g',g⟩ <;>
           (go_enter Tryz.func44,Tryz.ntmps44
            go_wp2_with fail
            refine(hrx.out _).mono ?_;rintro e1 w1 ⟨rfl,n,rfl⟩;rw[Hx.out];go_wp2_with fail
            refine(hry.out _).mono ?_;rintro e1 w1 ⟨rfl,m,rfl⟩;rw[Hy.out];go_wp2_with fail
            go_ret;exact⟨rfl,n+m,rfl⟩)
def AL (x y:Nat) (w:World) (e:Ending) (w':World):Prop:=e=.returned (.bool (decide (cp x y=0)))∧∃n,w'=w.drewN n
theorem AL.kept {x y:Nat} {w:World} {e:Ending} {w':World} (h:AL x y w e w'):e=.returned (.bool (decide (cp x y=0)))∧Kept w w':=by
 obtain⟨rfl,n,rfl⟩:=h;exact⟨rfl,Kept.drewN _ _⟩
theorem jja (x y:Nat) (w:World):Calls Tryz.prog 11 #[.float .f64 x,.float .f64 y] w (AL x y w):=by
 have h:=lH (jaq x y);unfold AL;generalize hc:cp x y=c
 have HC:=lH hc;clear hc;go_enter Tryz.func11,Tryz.ntmps11;go_wp2_with fail
 refine(h.out _).mono ?_;rintro e1 w1 ⟨rfl,n,rfl⟩;rw[HC.out];go_wp2_with fail
 go_ret;exact⟨rfl,n,rfl⟩
abbrev TOP:Nat:=18446744073709551616
def jbm (w:World) (a:Option Addr) (len:Nat) (l:List Nat):Prop :=
 l.length=len∧len≤maxLen∧(∀x ∈ l,x<TOP) ∧
  (len=0∨∃b off,a=some ⟨b,off,none⟩∧b<w.heap.size∧∀i,i<len→w.cell? ⟨b,off+i,none⟩=some (.float .f64 (l.getD i 0)))
theorem jbm.kept {w w':World} {a:Option Addr} {len:Nat} {l:List Nat} (h:jbm w a len l) (k:Kept w w'):jbm w' a len l:=by
 obtain⟨h0,h1,h2,h3⟩:=h;refine⟨h0,h1,h2,h3.imp id ?_⟩;rintro ⟨b,off,ha,hb,hc⟩;exact⟨b,off,ha,Nat.lt_of_lt_of_le hb k.size,fun i hi=>(Below.cell k (p:=⟨b,off+i,none⟩) hb).trans (hc i hi)⟩
theorem Kept.alloc {a b:World} (h:Kept a b) (o:Obj):Kept a (b.alloc o):=h.trans ((Below.refl _ _).alloc (Nat.le_refl _) _)
def OF (a b:Int) (w:World) (e:Ending) (w':World):Prop:=∃r n,e=.returned (.float .f64 r)∧w'=w.drewN n∧nrm r=Ieee.double.div (floatOfInt .f64 a) (floatOfInt .f64 b)∧r<TOP
theorem jkU (a b:Int) (w:World):Calls Tryz.prog 82 #[.int .i64 a,.int .i64 b] w (OF a b w):=by
 unfold OF;obtain⟨r,n,hq,hn,hr⟩:=qu (P:=Tryz.prog) (floatOfInt .f64 a) (floatOfInt .f64 b) w;have HN:=lH hn;clear hn;go_enter Tryz.func82,Tryz.ntmps82;go_wp2;go_ret;exact⟨r,n,rfl,rfl,HN.out,hr⟩
theorem jc3 (a b:Int) (w:World):Calls Tryz.prog 51 #[.int .i64 a,.int .i64 b] w (OF a b w):=by
 unfold OF;obtain⟨r,n,hq,hn,hr⟩:=qu (P:=Tryz.prog) (floatOfInt .f64 a) (floatOfInt .f64 b) w;have HN:=lH hn;clear hn;go_enter Tryz.func51,Tryz.ntmps51;go_wp2;go_ret;exact⟨r,n,rfl,rfl,HN.out,hr⟩
def NN (w:World) (e:Ending) (w':World):Prop:=∃r n,e=.returned (.float .f64 r)∧w'=w.drewN n∧isNaN r=true∧r<TOP
theorem jfn (n:Int) (w:World):(callFunc 142 #[.int .u64 n]).run Tryz.prog w=.ok (.value (.float .f64 n.toNat)) w:=by
 rw[run_callFunc_extern Tryz.func142 (by kernel_rfl) (by kernel_rfl) (by kernel_rfl) (e:=Extern.MathFloatBits.float64frombits) (by kernel_rfl)];rfl
theorem jlE (w:World):Calls Tryz.prog 130 #[] w (NN w):=by
 unfold NN;have h:=jfn 9221120237041090561;go_enter Tryz.func130,Tryz.ntmps130;go_wp2;go_ret;exact⟨_,0,rfl,rfl,by decide +kernel,by decide +kernel⟩
theorem je0:Ieee.double.div (floatOfInt .f64 0) (floatOfInt .f64 0)=none:=by decide +kernel
theorem jkv (w:World):Calls Tryz.prog 85 #[] w (NN w):=by
 unfold NN;go_enter Tryz.func85,Tryz.ntmps85;go_wp2_with fail
 refine(jc3 0 0 _).mono ?_;rintro e w' ⟨r,n,rfl,rfl,hn,hr⟩;rw[je0,Jo] at hn;have HN:=lH hn;clear hn;go_wp2_with fail
 go_ret;exact⟨r,n,rfl,rfl,HN.out,hr⟩
def jmh (x lo hi:Nat):Nat:=if 0<cp lo hi∨isNaN x=true∨cp x lo<0 then lo else if 0<cp x hi then hi else x
def CL (x lo hi:Nat) (w:World) (e:Ending) (w':World):Prop:=e=.returned (.float .f64 (jmh x lo hi))∧Kept w w'
def jex (s:Option Nat) (x:Nat):Option Nat:=s.bind fun s=>Ieee.double.add s x
def Y3 (l:List Nat):Nat→Option Nat
 | 0=>some 0
 | k+1=>jex (Y3 l k) (l.getD k 0)
def Yw (l:List Nat):Option Nat:=if l.length=0 then none else (Y3 l l.length).bind fun s=>Ieee.double.div s (floatOfInt .f64 l.length)
theorem qU {x:Nat} (h:isNaN x=true):∃s t,Ieee.double.read x=.nan s t:=⟨_,_,jaa ((jgO x).1 h)⟩
theorem jln {s:Nat} (x:Nat) (h:isNaN s=true):Ieee.double.add s x=none:=by
 obtain⟨a,b,e⟩:=qU h;unfold Ieee.Format.add;rw[e]
 cases Ieee.double.read x<;>rfl
theorem jlC {s:Nat} (x:Nat) (h:isNaN s=true):Ieee.double.div s x=none:=by
 obtain⟨a,b,e⟩:=qU h;unfold Ieee.Format.div;rw[e]
 cases Ieee.double.read x<;>rfl
theorem jio {s x r:Nat} {acc:Option Nat} (hs:nrm s=acc) (hr:nrm r=Ieee.double.add s x):nrm r=jex acc x:=by
 subst hs;unfold jex
 cases hn:nrm s with
 | none=>rw[hr,jln x (Jo.1 hn)];rfl
 | some s'=>obtain⟨_,rfl⟩:=JM.1 hn;exact hr
theorem jij {s x r:Nat} {acc:Option Nat} (hs:nrm s=acc) (hr:nrm r=Ieee.double.div s x):nrm r=acc.bind fun s=>Ieee.double.div s x:=by
 subst hs
 cases hn:nrm s with
 | none=>rw[hr,jlC x (Jo.1 hn)];rfl
 | some s'=>obtain⟨_,rfl⟩:=JM.1 hn;exact hr
theorem jiJ {r s:Nat} (h:nrm r=nrm s):cp r s=0:=by
 cases hr:nrm r with
 | none=>rw[hr] at h;rw[jlJ];simp[key,Jo.1 hr,Jo.1 h.symm]
 | some a =>
  rw[hr] at h;obtain⟨_,rfl⟩:=JM.1 hr;obtain⟨_,rfl⟩:=JM.1 h.symm;exact jk8 _
def MEA (l:List Nat) (w:World) (e:Ending) (w':World):Prop:=∃r,e=.returned (.float .f64 r)∧nrm r=Yw l∧r<TOP∧Kept w w'
theorem jjS (a:Option Addr) (len cap:Nat) (l:List Nat) (w:World) (hr:jbm w a len l) :
 Calls Tryz.prog 100 #[.slice a len cap] w (MEA l w):=by
 unfold MEA;obtain⟨hl,hm,hx,hc⟩:=hr;unfold maxLen at hm;by_cases h0:len=0
 · subst h0;have hd:Yw l=none:=by unfold Yw;rw[if_pos hl]
   have HD:=lH hd;have HN:=lH (jlE);clear hd hl hc hx;go_enter Tryz.func100,Tryz.ntmps100;go_wp2_with fail
   refine(HN.out _).mono ?_;rintro e w1 ⟨r,n,rfl,rfl,hn,ht⟩;have H2:=lH hn;clear hn;go_wp2_with fail
   go_ret;exact⟨r,rfl,by rw[HD.out];exact Jo.2 H2.out,ht,Kept.drewN _ _⟩
 rcases hc with rfl | ⟨b,off,rfl,hb,hc⟩
 · omega
 · have hd:Yw l=(Y3 l len).bind fun s=>Ieee.double.div s (floatOfInt .f64 len):=by unfold Yw;rw[if_neg (by omega),hl]
   have HE:=lH hd;have HC:=lH hc;have HB:=lH hb;have hb0:((len:Int)==0)=false:=by simp;omega
   clear hc hb hx hl hd;go_enter Tryz.func100,Tryz.ntmps100;go_wp2;go_loopw [3,12] (fun m i wr=>∃k s:Nat,k≤len∧i=.int .i64 k∧m=.float .f64 s∧nrm s=Y3 l k∧Kept w wr) (fun _ i _=>len-(intOf i).toNat)
   case atStart=>exact⟨0,0,by omega,rfl,rfl,(show nrm 0=some 0 from by decide +kernel),Kept.refl _⟩
   case round =>
    obtain⟨k,s,hk,rfl,rfl,hd,hkw⟩:=hrel;have HD:=lH hd;have HK:=lH hkw;clear hd hkw;by_cases hlt:k<len
    · have c:=(Below.cell HK.out (p:=⟨b,off+k,none⟩) HB.out).trans (HC.out k hlt);obtain⟨x,ex⟩:∃x,l.getD k 0=x:=⟨_,rfl⟩
      rw[ex] at c;have EX:=lH ex;clear ex;obtain⟨r,n,hq,hn,_⟩:=jgJ (P:=Tryz.prog) s x wr;have HN:=lH hn;clear hn;go_wp2;go_roundw
      case rel=>exact⟨k+1,r,by omega,by go_num,rfl,by rw[Y3,EX.out];exact jio HD.out HN.out,HK.out.trans (Kept.drewN _ _)⟩
      case measure=>simp[intOf];omega
    · have ek:k=len:=by omega
      subst ek;obtain⟨r,n,hq,hn,ht⟩:=qu (P:=Tryz.prog) s (floatOfInt .f64 k) wr;have HN:=lH hn;clear hn;go_wp2;go_ret;exact⟨r,rfl,by rw[HE.out];exact jij HD.out HN.out,ht,HK.out.trans (Kept.drewN _ _)⟩
theorem jaw (a:Option Addr) (len cap:Nat) (l:List Nat) (w:World) (hr:jbm w a len l) :
 Calls Tryz.prog 49 #[.slice a len cap] w (MEA l w):=by
 unfold MEA;obtain⟨hl,hm,hx,hc⟩:=hr;unfold maxLen at hm;by_cases h0:len=0
 · subst h0;have hd:Yw l=none:=by unfold Yw;rw[if_pos hl]
   have HD:=lH hd;have HN:=lH (jkv);clear hd hl hc hx;go_enter Tryz.func49,Tryz.ntmps49;go_wp2_with fail
   refine(HN.out _).mono ?_;rintro e w1 ⟨r,n,rfl,rfl,hn,ht⟩;have H2:=lH hn;clear hn;go_wp2_with fail
   go_ret;exact⟨r,rfl,by rw[HD.out];exact Jo.2 H2.out,ht,Kept.drewN _ _⟩
 rcases hc with rfl | ⟨b,off,rfl,hb,hc⟩
 · omega
 · have hd:Yw l=(Y3 l len).bind fun s=>Ieee.double.div s (floatOfInt .f64 len):=by unfold Yw;rw[if_neg (by omega),hl]
   have HE:=lH hd;have HC:=lH hc;have HB:=lH hb;have hb0:((len:Int)==0)=false:=by simp;omega
   clear hc hb hx hl hd;go_enter Tryz.func49,Tryz.ntmps49;go_wp2;go_loopw [3,4] (fun m i wr=>∃k s:Nat,k≤len∧i=.int .i64 k∧m=.float .f64 s∧nrm s=Y3 l k∧Kept w wr) (fun _ i _=>len-(intOf i).toNat)
   case atStart=>exact⟨0,0,by omega,rfl,rfl,(show nrm 0=some 0 from by decide +kernel),Kept.refl _⟩
   case round =>
    obtain⟨k,s,hk,rfl,rfl,hd,hkw⟩:=hrel;have HD:=lH hd;have HK:=lH hkw;clear hd hkw;by_cases hlt:k<len
    · have c:=(Below.cell HK.out (p:=⟨b,off+k,none⟩) HB.out).trans (HC.out k hlt);obtain⟨x,ex⟩:∃x,l.getD k 0=x:=⟨_,rfl⟩
      rw[ex] at c;have EX:=lH ex;clear ex;obtain⟨r,n,hq,hn,_⟩:=jgJ (P:=Tryz.prog) s x wr;have HN:=lH hn;clear hn;go_wp2;go_roundw
      case rel=>exact⟨k+1,r,by omega,by go_num,rfl,by rw[Y3,EX.out];exact jio HD.out HN.out,HK.out.trans (Kept.drewN _ _)⟩
      case measure=>simp[intOf];omega
    · have ek:k=len:=by omega
      subst ek;obtain⟨r,n,hq,hn,ht⟩:=qu (P:=Tryz.prog) s (floatOfInt .f64 k) wr;have HN:=lH hn;clear hn;go_wp2;go_ret;exact⟨r,rfl,by rw[HE.out];exact jij HD.out HN.out,ht,HK.out.trans (Kept.drewN _ _)⟩
def ZZ (a b:Int):Int:=if a<b then -1 else if b<a then 1 else 0
def Xe (a b:ByteArray):Int:=if ltS a b=true then -1 else if eqS a b=true then 0 else 1
theorem jez (x:Int) (w:World):Calls Tryz.prog 106 #[.int .i64 x] w fun e w'=>e=.returned (.bool false)∧w=w':=by
 have h:(x != x)=false:=by simp
 go_enter Tryz.func106,Tryz.ntmps106;go_wp2;go_ret;exact⟨rfl,rfl⟩
theorem jfd (x:ByteArray) (w:World):Calls Tryz.prog 151 #[.string x] w fun e w'=>e=.returned (.bool false)∧w=w':=by
 have h:(x.toList==x.toList)=true:=by simp
 go_enter Tryz.func151,Tryz.ntmps151;go_wp2;go_ret;exact⟨rfl,rfl⟩
theorem jkp (a b:Int) (w:World):Calls Tryz.prog 68 #[.int .i64 a,.int .i64 b] w fun e w'=>e=.returned (.int .i64 (ZZ a b))∧w=w':=by
 have HA:=lH (jez a w);have HB:=lH (jez b w);by_cases h:a<b
 · have HV:=lH (show ZZ a b=-1 by unfold ZZ;rw[if_pos h]);go_enter Tryz.func68,Tryz.ntmps68;go_wp2_with fail
   refine HA.out.mono ?_;rintro e w1 ⟨rfl,rfl⟩;go_wp2_with fail
   refine HB.out.mono ?_;rintro e w2 ⟨rfl,rfl⟩;go_wp2;go_ret;exact⟨jc HV.out.symm,rfl⟩
 · have h':b≤a:=by omega
   by_cases g:b<a
   · have HV:=lH (show ZZ a b=1 by unfold ZZ;rw[if_neg h,if_pos g]);clear h;go_enter Tryz.func68,Tryz.ntmps68;go_wp2_with fail
     refine HA.out.mono ?_;rintro e w1 ⟨rfl,rfl⟩;go_wp2_with fail
     refine HB.out.mono ?_;rintro e w2 ⟨rfl,rfl⟩;go_wp2;go_ret;exact⟨jc HV.out.symm,rfl⟩
   · have g':a≤b:=by omega
     have HV:=lH (show ZZ a b=0 by unfold ZZ;rw[if_neg h,if_neg g]);clear h g;go_enter Tryz.func68,Tryz.ntmps68;go_wp2_with fail
     refine HA.out.mono ?_;rintro e w1 ⟨rfl,rfl⟩;go_wp2_with fail
     refine HB.out.mono ?_;rintro e w2 ⟨rfl,rfl⟩;go_wp2;go_ret;exact⟨jc HV.out.symm,rfl⟩
theorem jjY (a b:ByteArray) (w:World):Calls Tryz.prog 126 #[.string a,.string b] w fun e w'=>e=.returned (.int .i64 (Xe a b))∧w=w':=by
 have HA:=lH (jfd a w);have HB:=lH (jfd b w)
 cases h:ltS a b with
 | true =>
  have h':Op.bytesLess a.toList b.toList=true:=h;have HV:=lH (show Xe a b=-1 by unfold Xe;rw[if_pos h]);clear h;go_enter Tryz.func126,Tryz.ntmps126;go_wp2_with fail
  refine HA.out.mono ?_;rintro e w1 ⟨rfl,rfl⟩;go_wp2_with fail
  refine HB.out.mono ?_;rintro e w2 ⟨rfl,rfl⟩;go_wp2;go_ret;exact⟨jc HV.out.symm,rfl⟩
 | false =>
  have h':Op.bytesLess a.toList b.toList=false:=h
  cases g:eqS a b with
  | true =>
   have g':(a.toList==b.toList)=true:=g;have HV:=lH (show Xe a b=0 by unfold Xe;rw[if_neg (by rw[h];decide),if_pos g]);clear h g;go_enter Tryz.func126,Tryz.ntmps126;go_wp2_with fail
   refine HA.out.mono ?_;rintro e w1 ⟨rfl,rfl⟩;go_wp2_with fail
   refine HB.out.mono ?_;rintro e w2 ⟨rfl,rfl⟩;go_wp2;go_ret;exact⟨jc HV.out.symm,rfl⟩
  | false =>
   have g':(a.toList==b.toList)=false:=g;have HV:=lH (show Xe a b=1 by unfold Xe;rw[if_neg (by rw[h];decide),if_neg (by rw[g];decide)]);clear h g;go_enter Tryz.func126,Tryz.ntmps126;go_wp2_with fail
   refine HA.out.mono ?_;rintro e w1 ⟨rfl,rfl⟩;go_wp2_with fail
   refine HB.out.mono ?_;rintro e w2 ⟨rfl,rfl⟩;go_wp2;go_ret;exact⟨jc HV.out.symm,rfl⟩
def jcP (a b:Int):Option Nat:=Ieee.double.div (floatOfInt .f64 a) (floatOfInt .f64 b)
def jkD (s x:Option Nat):Option Nat:=s.bind fun s=>x.bind fun x=>Ieee.double.add s x
def jhv (l:List (Option Nat)):Nat→Option Nat
 | 0=>some 0
 | k+1=>jkD (jhv l k) (l.getD k none)
def jaZ (l:List (Option Nat)):Option Nat:=if l.length=0 then none else (jhv l l.length).bind fun s=>Ieee.double.div s (floatOfInt .f64 l.length)
theorem jjW {x:Nat} (s:Nat) (h:isNaN x=true):Ieee.double.add s x=none:=by
 obtain⟨a,b,e⟩:=qU h;unfold Ieee.Format.add;rw[e]
 cases Ieee.double.read s<;>rfl
theorem jkP (s:Option Nat) (x:Nat):jex s x=jkD s (nrm x):=by
 unfold jex jkD
 cases s with
 | none=>rfl
 | some s =>
  cases hn:nrm x with
  | none=>exact jjW s (Jo.1 hn)
  | some y=>obtain⟨-,rfl⟩:=JM.1 hn;rfl
theorem jdq (l:List Nat):∀k,k≤l.length→Y3 l k=jhv (l.map nrm) k
 | 0,_=>rfl
 | k+1,h=>by
  have hk:k<l.length:=h;rw[Y3,jhv,jdq l k (by omega),jkP];congr 1
  simp[List.getD,hk]
theorem jc1 (l:List Nat):Yw l=jaZ (l.map nrm):=by
 unfold Yw jaZ;rw[List.length_map];split
 · rfl
 · rw[jdq l _ (Nat.le_refl _)]
def jd3 (o:Option Nat):Int:=match o with | none=>(SGN:Int) | some x=>key x
theorem jgK (x:Nat):key x=jd3 (nrm x):=by
 cases hn:nrm x with
 | none=>have:=Jo.1 hn;simp[jd3,key,this]
 | some y=>obtain⟨-,rfl⟩:=JM.1 hn;rfl
def kO (pack:Bool) (o:Option Nat):Int:=if pack=true then -jd3 o else jd3 o
def zb (s:Clu) (x:ByteArray):Nod:=(jj s.nodes x).getD Nod.zero
def zu (s:Clu) (x what:ByteArray):Option Nat:=jcP (Vec.jy (zy s x).2 what) (Vec.jy (zb s x).cap what)
def Y2 (s:Clu) (x:ByteArray):Option Nat:=jaZ ((zb s x).cap.map fun a=>zu s x a.1)
def J5 (s:Clu) (x:ByteArray):Clu:=⟨[zb s x],onP x s.pods,[]⟩
def JL (s:Clu) (p:Pd) (x:ByteArray):Option Nat:=Y2 (JT (J5 s x) { p with node:=x }) x
def Zo (s:Clu) (p:Pd) (x:ByteArray):Int:=softN p.tols (zb s x).taints
def zP (pack:Bool) (m n:Int) (x y:Option Nat) (a b:ByteArray):Bool :=
 decide (m<n)||(decide (m=n)&&(decide (kO pack x<kO pack y)||(decide (kO pack x=kO pack y)&&ltS a b)))
def jT (s:Clu) (p:Pd) (pack:Bool) (a b:ByteArray):Bool:=zP pack (Zo s p a) (Zo s p b) (JL s p a) (JL s p b) a b
abbrev Mk:=ByteArray×Int×Nat
def YQ (pack:Bool) (a b:Mk):Bool:=zP pack a.2.1 b.2.1 (nrm a.2.2) (nrm b.2.2) a.1 b.1
def cpM (pack:Bool) (x y:Nat):Int:=if pack=true then cp y x else cp x y
def cfM (pack:Bool) (a b:Mk):Int:=if ZZ a.2.1 b.2.1≠0 then ZZ a.2.1 b.2.1 else if cpM pack a.2.2 b.2.2≠0 then cpM pack a.2.2 b.2.2 else Xe a.1 b.1
theorem Yq {pack:Bool} {m n:Int} {x y:Option Nat} {a b:ByteArray}:zP pack m n x y a b=true↔m<n∨(m=n∧(kO pack x<kO pack y∨(kO pack x=kO pack y∧ltS a b=true))):=by
 unfold zP;simp only[Bool.or_eq_true,Bool.and_eq_true,decide_eq_true_eq]
theorem Xn {pack:Bool} {m n:Int} {x y:Option Nat} {a b:ByteArray}:zP pack m n x y a b=false↔¬(m<n∨(m=n∧(kO pack x<kO pack y∨(kO pack x=kO pack y∧ltS a b=true)))):=by
 rw[←Bool.not_eq_true,Yq]
theorem jae (pack:Bool) (m:Int) (x:Option Nat) (a:ByteArray):zP pack m m x x a a=false:=by
 rw[Xn,Vec.YG];simp
theorem Xv {pack:Bool} {m n k:Int} {x y z:Option Nat} {a b c:ByteArray} (h:zP pack m n x y a b=true) (g:zP pack n k y z b c=true):zP pack m k x z a c=true:=by
 rw[Yq] at *;rcases h with h | ⟨rfl,h⟩
 · rcases g with g | ⟨rfl,g⟩
   · exact .inl (by omega)
   · exact .inl h
 · rcases g with g | ⟨rfl,g⟩
   · exact .inl g
   · refine .inr ⟨rfl,?_⟩;rcases h with h | ⟨h,h2⟩
     · rcases g with g | ⟨g,g2⟩<;>exact .inl (by omega)
     · rcases g with g | ⟨g,g2⟩
       · exact .inl (by omega)
       · exact .inr ⟨by omega,Vec.zX h2 g2⟩
theorem jaB {pack:Bool} {m n:Int} {x y:Option Nat} {a b:ByteArray} (h:zP pack m n x y a b=false) (g:zP pack n m y x b a=false):a=b∧m=n∧kO pack x=kO pack y:=by
 rw[Xn] at *;have h1:m=n:=by
  by_cases e:m=n
  · exact e
  · exact absurd (show m<n∨n<m by omega) (fun q=>by rcases q with q | q;exact h (.inl q);exact g (.inl q))
 have h2:kO pack x=kO pack y:=by
  by_cases e:kO pack x=kO pack y
  · exact e
  · exact absurd (show kO pack x<kO pack y∨kO pack y<kO pack x by omega) (fun q=>by
     rcases q with q | q
     · exact h (.inr ⟨h1,.inl q⟩)
     · exact g (.inr ⟨h1.symm,.inl q⟩))
 refine⟨Vec.Xo (by
  cases e:ltS a b with
  | false=>rfl
  | true=>exact absurd (.inr ⟨h1,.inr ⟨h2,e⟩⟩) h) (by
  cases e:ltS b a with
  | false=>rfl
  | true=>exact absurd (.inr ⟨h1.symm,.inr ⟨h2.symm,e⟩⟩) g),h1,h2⟩
theorem jaf {pack:Bool} {m n k:Int} {x y z:Option Nat} {a b c:ByteArray} (h:zP pack m n x y a b=false) (g:zP pack n k y z b c=false):zP pack m k x z a c=false:=by
 cases e:zP pack m k x z a c with
 | false=>rfl
 | true =>
  cases q:zP pack n m y x b a with
  | true=>rw[Xv q e] at g;cases g
  | false =>
   obtain⟨rfl,rfl,hk⟩:=jaB h q;rw[Xn] at g;rw[Yq,hk] at e;exact absurd e g
theorem jh5 (a b:Int):(ZZ a b<0↔a<b)∧(ZZ a b=0↔a=b):=by
 unfold ZZ;omega
theorem jdE (pack:Bool) (x y:Nat):(cpM pack x y<0↔kO pack (nrm x)<kO pack (nrm y))∧(cpM pack x y=0↔kO pack (nrm x)=kO pack (nrm y)):=by
 unfold cpM kO cp;rw[jgK x,jgK y]
 cases pack<;>simp<;>omega
theorem jkL (a b:ByteArray):Xe a b<0↔ltS a b=true:=by
 unfold Xe
 cases ltS a b<;>cases eqS a b<;>simp
theorem jgr (pack:Bool) (a b:Mk):cfM pack a b<0↔YQ pack a b=true:=by
 obtain⟨h1,h2⟩:=jh5 a.2.1 b.2.1;obtain⟨h3,h4⟩:=jdE pack a.2.2 b.2.2;have h5:=jkL a.1 b.1;unfold YQ;rw[Yq];unfold cfM;by_cases e:ZZ a.2.1 b.2.1=0
 · rw[if_neg (by simpa using e)];have e':=h2.1 e;by_cases f:cpM pack a.2.2 b.2.2=0
   · rw[if_neg (by simpa using f),h5];have f':=h4.1 f;constructor
     · exact fun h=>.inr ⟨e',.inr ⟨f',h⟩⟩
     · rintro (h | ⟨-,h | ⟨-,h⟩⟩)
       · omega
       · omega
       · exact h
   · rw[if_pos f,h3];constructor
     · exact fun h=>.inr ⟨e',.inl h⟩
     · rintro (h | ⟨-,h | ⟨h,-⟩⟩)
       · omega
       · exact h
       · exact absurd (h4.2 h) f
 · rw[if_pos e,h1];constructor
   · exact fun h=>.inl h
   · rintro (h | ⟨h,-⟩)
     · exact h
     · exact absurd (h2.2 h) e
def Zh (s:Clu) (p:Pd) (pack:Bool) (l:List ByteArray):Prop:=l.Perm (Jd s p s.nodes)∧l.Pairwise fun a b=>jT s p pack b a=false
theorem jei {s:Clu} {p:Pd} {pack:Bool} {a b:ByteArray} (h:jT s p pack a b=false) (g:jT s p pack b a=false):a=b:=(jaB h g).1
theorem Zh.unique {s:Clu} {p:Pd} {pack:Bool} {l m:List ByteArray} (h:Zh s p pack l) (g:Zh s p pack m):l=m :=
 List.Perm.eq_of_pairwise (fun a b _ _ h g=>jei g h) h.2 g.2 (h.1.trans g.1.symm)
def XD (c:Int) (w:World) (e:Ending) (w':World):Prop:=(c=0→∃x i1 j1 l1 i2 j2 l2 i3 j3 l3 b,e=.returned (.agg #[.string x,.slice i1 j1 l1,.slice i2 j2 l2,.slice i3 j3 l3,.bool b]))∧(c≠0→e=.panicked [zL c])∧Kept w w'
theorem XD.bad {c d:Int} {w w':World} (h:d=c) (hc:c≠0) (k:Kept w w'):XD d w (.panicked [zL c]) w':=⟨fun g=>absurd (h.symm.trans g) hc,fun _=>by rw[h],k⟩
theorem jfT (s1 s2 s3:Option Addr) (n1 e1 n2 e2 n3 e3:Nat) (a1 a2 a3 a4:Option Addr) (m1 c1 m2 c2 m3 c3 m4 c4:Nat) (p:Pd) (s:Clu) (name:ByteArray) (w:World) (hs:jA w (zv (.slice s1 n1 e1) (.slice s2 n2 e2) (.slice s3 n3 e3)) s) (hl:jH s) (hp:js w (.slice a1 m1 c1) (.slice a2 m2 c2) (.slice a3 m3 c3) (.slice a4 m4 c4) p):Calls Tryz.prog 181 #[.agg #[.slice s1 n1 e1,.slice s2 n2 e2,.slice s3 n3 e3],jr p (.slice a1 m1 c1) (.slice a2 m2 c2) (.slice a3 m3 c3) (.slice a4 m4 c4),.string name] w (XD (zW s p name) w):=by
 obtain⟨Y,hY⟩:∃Y,(w.alloc (.cells #[.slice s1 n1 e1,.slice s2 n2 e2,.slice s3 n3 e3] 26)).alloc (.cells #[.string p.name,.string p.owner,.int .i64 p.prio,.slice a1 m1 c1,.slice a2 m2 c2,.slice a3 m3 c3,.slice a4 m4 c4,.string p.key,.int .i64 p.most,.string p.node,.bool p.hold] 35)=Y:=⟨_,rfl⟩
 have hky:Kept w Y:=by rw[←hY];exact jm _ _ _
 have hys:Y.heap.size=w.heap.size+2:=by rw[←hY];simp
 have hsb:=jd w (.slice s1 n1 e1) [.slice s2 n2 e2,.slice s3 n3 e3] 26 Y (by rw[←hY];exact ja _ _);have hpb:jf (w.heap.size+1) [.string p.name,.string p.owner,.int .i64 p.prio,.slice a1 m1 c1,.slice a2 m2 c2,.slice a3 m3 c3,.slice a4 m4 c4,.string p.key,.int .i64 p.most,.string p.node,.bool p.hold] Y:=by
  have dd:=jd (w.alloc (.cells #[.slice s1 n1 e1,.slice s2 n2 e2,.slice s3 n3 e3] 26)) (.string p.name) [.string p.owner,.int .i64 p.prio,.slice a1 m1 c1,.slice a2 m2 c2,.slice a3 m3 c3,.slice a4 m4 c4,.string p.key,.int .i64 p.most,.string p.node,.bool p.hold] 35 Y (by rw[hY];exact Kept.refl _);rw[World.size_alloc] at dd;exact dd
 obtain⟨Z,hZ⟩:∃Z,Y.alloc (.cells #[.string ⟨#[]⟩,.slice none 0 0,.slice none 0 0,.slice none 0 0,.bool false] 71)=Z:=⟨_,rfl⟩
 have hkz:Kept Y Z:=by rw[←hZ];exact ja _ _
 have hnb:jf (w.heap.size+2) [.string ⟨#[]⟩,.slice none 0 0,.slice none 0 0,.slice none 0 0,.bool false] Z:=by
  have dd:=jd Y (.string ⟨#[]⟩) [.slice none 0 0,.slice none 0 0,.slice none 0 0,.bool false] 71 Z (by rw[hZ];exact Kept.refl _);rw[hys] at dd;exact dd
 have hYZ:((w.alloc (.cells #[.slice s1 n1 e1,.slice s2 n2 e2,.slice s3 n3 e3] 26)).alloc (.cells #[.string p.name,.string p.owner,.int .i64 p.prio,.slice a1 m1 c1,.slice a2 m2 c2,.slice a3 m3 c3,.slice a4 m4 c4,.string p.key,.int .i64 p.most,.string p.node,.bool p.hold] 35)).alloc (.cells #[.string ⟨#[]⟩,.slice none 0 0,.slice none 0 0,.slice none 0 0,.bool false] 71)=Z:=by rw[hY];exact hZ
 have Vw:=lH (hsb.kept hkz);have Vj:=lH (hpb.kept hkz);have Vg:=lH hnb;have K:=lH (hky.trans hkz);have Uw:=lH (hs.kept (hky.trans hkz));have Vz:=lH (hp.kept (hky.trans hkz));have HL:=lH hl;have UQ:=lH (jf0 s1 s2 s3 n1 e1 n2 e2 n3 e3 s.nodes name Z ((hs.kept (hky.trans hkz)).nAt.1) (by have:=hl.nodesN;have:=hs.nAt.2;omega));clear hs hp hl hky hkz hys hsb hpb hnb hY hZ;unfold jr;have y0:=Vw.out.at_ 0 _ rfl;have y1:=Vw.out.at_ 1 _ rfl;have y2:=Vw.out.at_ 2 _ rfl;go_enter Tryz.func181,Tryz.ntmps181;go_wp2_with fail
 try rw[hYZ]
 clear hYZ;refine UQ.out.mono ?_;rintro e w1 ⟨h1,h2,kk⟩;have K:=lH (K.out.trans kk);have Vw:=lH (Vw.out.kept kk);have Vj:=lH (Vj.out.kept kk);have Vg:=lH (Vg.out.kept kk);have Uw:=lH (Uw.out.kept kk);have Vz:=lH (Vz.out.kept kk);clear UQ y0 y1 y2
 cases ho:jj s.nodes name with
 | none =>
  obtain rfl:=h2 ho;have HE:=lH (show zW s p name=3 from ja8 ho);clear h1 h2 ho kk;go_wp2;exact⟨rfl,XD.bad HE.out (by decide) K.out⟩
 | some n =>
  obtain⟨b1,k1,d1,b2,k2,d2,b3,k3,d3,rfl,hn⟩:=h1 n ho;have HE:=lH (show zW s p name=zT s p n name from jbg ho);clear h1 h2 ho;obtain⟨w2,hw2⟩:∃W,w1.alloc (.cells #[.string n.name,.slice b1 k1 d1,.slice b2 k2 d2,.slice b3 k3 d3,.bool n.cordon] 71)=W:=⟨_,rfl⟩
  have kx:Kept w1 w2:=by rw[←hw2];exact ja _ _
  have VW:=lH (jd w1 (.string n.name) [.slice b1 k1 d1,.slice b2 k2 d2,.slice b3 k3 d3,.bool n.cordon] 71 w2 (by rw[hw2];exact Kept.refl _));have Uv:=lH (hn.kept kx);have K:=lH (K.out.trans kx);have Vw:=lH (Vw.out.kept kx);have Vj:=lH (Vj.out.kept kx);have Vg:=lH (Vg.out.kept kx);have Uw:=lH (Uw.out.kept kx);have Vz:=lH (Vz.out.kept kx);obtain⟨gn,hgn⟩:∃g,w1.heap.size=g:=⟨_,rfl⟩
  rw[hgn] at VW;clear hn kk kx;unfold zw;go_upto_region 2 with fail
  try rw[hw2]
  try rw[hgn]
  clear hw2 hgn;have r0:=Vj.out.at_ 0 _ rfl;have r1:=Vj.out.at_ 1 _ rfl;have r2:=Vj.out.at_ 2 _ rfl;have r3:=Vj.out.at_ 3 _ rfl;have r4:=Vj.out.at_ 4 _ rfl;have r5:=Vj.out.at_ 5 _ rfl;have r6:=Vj.out.at_ 6 _ rfl;have r7:=Vj.out.at_ 7 _ rfl;have r8:=Vj.out.at_ 8 _ rfl;have r9:=Vj.out.at_ 9 _ rfl;have r10:=Vj.out.at_ 10 _ rfl;have t0:=VW.out.at_ 0 _ rfl;have t1:=VW.out.at_ 1 _ rfl;have t2:=VW.out.at_ 2 _ rfl;have t3:=VW.out.at_ 3 _ rfl;have t4:=VW.out.at_ 4 _ rfl;obtain⟨bb,hbb⟩:∃b,JW p n=b:=⟨_,rfl⟩
  have HC:=lH (jfx p n a1 a2 a3 a4 m1 c1 m2 c2 m3 c3 m4 c4 b1 b2 b3 k1 d1 k2 d2 k3 d3 _ Vz.out Uv.out);unfold jr at HC;unfold zw at HC;rw[hbb] at HC;go_wp2_with fail
  refine HC.out.mono ?_;rintro e w3 ⟨rfl,kk⟩;have VR:=lH hbb;have Vw:=lH (Vw.out.kept kk);have Vj:=lH (Vj.out.kept kk);have Vg:=lH (Vg.out.kept kk);have Uw:=lH (Uw.out.kept kk);have Vz:=lH (Vz.out.kept kk);have VW:=lH (VW.out.kept kk);have Uv:=lH (Uv.out.kept kk);have K:=lH (K.out.trans kk);clear kk;clear hbb HC r0 r1 r2 r3 r4 r5 r6 r7 r8 r9 r10 t0 t1 t2 t3 t4
  cases bb with
  | false =>
   go_wp2_with fail
   refine(Xm 8 _).mono ?_;rintro e w4 ⟨rfl,rfl⟩;go_wp2;exact⟨rfl,XD.bad (HE.out.trans (ql VR.out)) (by decide) K.out⟩
  | true =>
   have Vd:=VR;clear VR;go_wp2_with fail
   refine(X2 8 _).mono ?_;rintro e w4 ⟨rfl,rfl⟩;have r0:=Vj.out.at_ 0 _ rfl;have r1:=Vj.out.at_ 1 _ rfl;have r2:=Vj.out.at_ 2 _ rfl;have r3:=Vj.out.at_ 3 _ rfl;have r4:=Vj.out.at_ 4 _ rfl;have r5:=Vj.out.at_ 5 _ rfl;have r6:=Vj.out.at_ 6 _ rfl;have r7:=Vj.out.at_ 7 _ rfl;have r8:=Vj.out.at_ 8 _ rfl;have r9:=Vj.out.at_ 9 _ rfl;have r10:=Vj.out.at_ 10 _ rfl;have t0:=VW.out.at_ 0 _ rfl;have t1:=VW.out.at_ 1 _ rfl;have t2:=VW.out.at_ 2 _ rfl;have t3:=VW.out.at_ 3 _ rfl;have t4:=VW.out.at_ 4 _ rfl;obtain⟨bb,hbb⟩:∃b,ZH p n=b:=⟨_,rfl⟩
   have HC:=lH (jfV p n a1 a2 a3 a4 m1 c1 m2 c2 m3 c3 m4 c4 b1 b2 b3 k1 d1 k2 d2 k3 d3 _ Vz.out Uv.out);unfold jr at HC;unfold zw at HC;rw[hbb] at HC;go_wp2_with fail
   refine HC.out.mono ?_;rintro e w3 ⟨rfl,kk⟩;have VR:=lH hbb;have Vw:=lH (Vw.out.kept kk);have Vj:=lH (Vj.out.kept kk);have Vg:=lH (Vg.out.kept kk);have Uw:=lH (Uw.out.kept kk);have Vz:=lH (Vz.out.kept kk);have VW:=lH (VW.out.kept kk);have Uv:=lH (Uv.out.kept kk);have K:=lH (K.out.trans kk);clear kk;clear hbb HC r0 r1 r2 r3 r4 r5 r6 r7 r8 r9 r10 t0 t1 t2 t3 t4
   cases bb with
   | false =>
    go_wp2_with fail
    refine(Xm 9 _).mono ?_;rintro e w4 ⟨rfl,rfl⟩;go_wp2;exact⟨rfl,XD.bad (HE.out.trans (jaj Vd.out VR.out)) (by decide) K.out⟩
   | true =>
    have Vb:=VR;clear VR;go_wp2_with fail
    refine(X2 9 _).mono ?_;rintro e w4 ⟨rfl,rfl⟩;have y0:=Vw.out.at_ 0 _ rfl;have y1:=Vw.out.at_ 1 _ rfl;have y2:=Vw.out.at_ 2 _ rfl;have r0:=Vj.out.at_ 0 _ rfl;have r1:=Vj.out.at_ 1 _ rfl;have r2:=Vj.out.at_ 2 _ rfl;have r3:=Vj.out.at_ 3 _ rfl;have r4:=Vj.out.at_ 4 _ rfl;have r5:=Vj.out.at_ 5 _ rfl;have r6:=Vj.out.at_ 6 _ rfl;have r7:=Vj.out.at_ 7 _ rfl;have r8:=Vj.out.at_ 8 _ rfl;have r9:=Vj.out.at_ 9 _ rfl;have r10:=Vj.out.at_ 10 _ rfl;obtain⟨bb,hbb⟩:∃b,JP s p name=b:=⟨_,rfl⟩
    have HC:=lH (jdL s1 s2 s3 n1 e1 n2 e2 n3 e3 a1 a2 a3 a4 m1 c1 m2 c2 m3 c3 m4 c4 p s name _ Uw.out HL.out);unfold jr at HC;rw[hbb] at HC;go_wp2_with fail
    refine HC.out.mono ?_;rintro e w3 ⟨rfl,kk⟩;have VR:=lH hbb;have Vw:=lH (Vw.out.kept kk);have Vj:=lH (Vj.out.kept kk);have Vg:=lH (Vg.out.kept kk);have Uw:=lH (Uw.out.kept kk);have Vz:=lH (Vz.out.kept kk);have VW:=lH (VW.out.kept kk);have Uv:=lH (Uv.out.kept kk);have K:=lH (K.out.trans kk);clear kk;clear hbb HC y0 y1 y2 r0 r1 r2 r3 r4 r5 r6 r7 r8 r9 r10
    cases bb with
    | true =>
     go_wp2_with fail
     refine(Xm 10 _).mono ?_;rintro e w4 ⟨rfl,rfl⟩;go_wp2;exact⟨rfl,XD.bad (HE.out.trans (XL Vd.out Vb.out VR.out)) (by decide) K.out⟩
    | false =>
     have Mm:=VR;clear VR;go_wp2_with fail
     refine(X2 10 _).mono ?_;rintro e w4 ⟨rfl,rfl⟩;have y0:=Vw.out.at_ 0 _ rfl;have y1:=Vw.out.at_ 1 _ rfl;have y2:=Vw.out.at_ 2 _ rfl;have r0:=Vj.out.at_ 0 _ rfl;have r1:=Vj.out.at_ 1 _ rfl;have r2:=Vj.out.at_ 2 _ rfl;have r3:=Vj.out.at_ 3 _ rfl;have r4:=Vj.out.at_ 4 _ rfl;have r5:=Vj.out.at_ 5 _ rfl;have r6:=Vj.out.at_ 6 _ rfl;have r7:=Vj.out.at_ 7 _ rfl;have r8:=Vj.out.at_ 8 _ rfl;have r9:=Vj.out.at_ 9 _ rfl;have r10:=Vj.out.at_ 10 _ rfl;obtain⟨bb,hbb⟩:∃b,ZR s p name=b:=⟨_,rfl⟩
     have HC:=lH (jfH s1 s2 s3 n1 e1 n2 e2 n3 e3 a1 a2 a3 a4 m1 c1 m2 c2 m3 c3 m4 c4 p s name _ Uw.out HL.out Vz.out);unfold jr at HC;rw[hbb] at HC;go_wp2_with fail
     refine HC.out.mono ?_;rintro e w3 ⟨rfl,kk⟩;have VR:=lH hbb;have Vw:=lH (Vw.out.kept kk);have Vj:=lH (Vj.out.kept kk);have Vg:=lH (Vg.out.kept kk);have Uw:=lH (Uw.out.kept kk);have Vz:=lH (Vz.out.kept kk);have VW:=lH (VW.out.kept kk);have Uv:=lH (Uv.out.kept kk);have K:=lH (K.out.trans kk);clear kk;clear hbb HC y0 y1 y2 r0 r1 r2 r3 r4 r5 r6 r7 r8 r9 r10
     cases bb with
     | false =>
      go_wp2_with fail
      refine(Xm 7 _).mono ?_;rintro e w4 ⟨rfl,rfl⟩;go_wp2;exact⟨rfl,XD.bad (HE.out.trans (ZN Vd.out Vb.out Mm.out VR.out)) (by decide) K.out⟩
     | true =>
      go_wp2_with fail
      refine(X2 7 _).mono ?_;rintro e w4 ⟨rfl,rfl⟩;have t0:=VW.out.at_ 0 _ rfl;have t1:=VW.out.at_ 1 _ rfl;have t2:=VW.out.at_ 2 _ rfl;have t3:=VW.out.at_ 3 _ rfl;have t4:=VW.out.at_ 4 _ rfl;have z0:=Vg.out.at_ 0 _ rfl;have z1:=Vg.out.at_ 1 _ rfl;have z2:=Vg.out.at_ 2 _ rfl;have z3:=Vg.out.at_ 3 _ rfl;have z4:=Vg.out.at_ 4 _ rfl;have f0:=Vg.out.free 0;have f1:=Vg.out.free 1;have f2:=Vg.out.free 2;have f3:=Vg.out.free 3;have f4:=Vg.out.free 4;have P:=lH (Zi ⟨z0,z1,z2,z3,z4⟩ n.name b1 b2 b3 k1 d1 k2 d2 k3 d3 n.cordon);obtain⟨x9,hx9⟩:∃x,n.name=x:=⟨_,rfl⟩
      obtain⟨c9,hc9⟩:∃x,n.cordon=x:=⟨_,rfl⟩
      rw[hx9] at t0;rw[hc9] at t4;rw[hx9,hc9] at P;have MR:=lH (HE.out.trans (qF Vd.out Vb.out Mm.out VR.out));clear hx9 hc9 HE VW Uv Uw Vz;go_wp2;obtain⟨WE,hWE⟩:∃W,(((((w3.setCell ⟨w.heap.size+2,0,none⟩ (.string x9)).setCell ⟨w.heap.size+2,1,none⟩ (.slice b1 k1 d1)).setCell ⟨w.heap.size+2,2,none⟩ (.slice b2 k2 d2)).setCell ⟨w.heap.size+2,3,none⟩ (.slice b3 k3 d3)).setCell ⟨w.heap.size+2,4,none⟩ (.bool c9))=W:=⟨_,rfl⟩
      rw[hWE] at P ⊢;clear hWE z0 z1 z2 z3 z4 t0 t1 t2 t3 t4 f0 f1 f2 f3 f4;obtain⟨⟨q0,q1,q2,q3,q4⟩,hsz,hbl,hkp⟩:=P.out;refine bodyPost_ret (by simp[results,Tryz.results181,go_sem,q0,q1,q2,q3,q4];try rfl) rfl ?_;have KE:=hkp _ _ (by omega) K.out;exact⟨fun _=>⟨_,_,_,_,_,_,_,_,_,_,_,rfl⟩,fun g=>absurd MR.out g,KE⟩
theorem jV {x:Int} {t:List Int} (h:x=0):orL (x::t)=orL t:=by subst h;rfl
theorem jJ {x v:Int} {t:List Int} (h:x=v) (hv:v≠0):orL (x::t)=v:=by
 subst h;show (if x≠0 then x else orL t)=x;rw[if_pos hv]
theorem Yk {x:Int}:orL [x]=x:=by
 show (if x≠0 then x else 0)=x;by_cases h:x=0
 · rw[if_neg (fun g=>g h),h]
 · rw[if_pos h]
theorem eor {x:ByteArray} {q r:Bool} (h:(x.toList==([]:List UInt8))=q) (g:isName x=r):jax x=(q||r):=by unfold jax;rw[JA,h,g]
theorem jbe (n:Pd) (v1 v2 v3 v4:Value) (w:World) (h:js w v1 v2 v3 v4 n) :
 Calls Tryz.prog 8 #[jr n v1 v2 v3 v4] w (Say (.int .i64 (JB n)) w):=by
 obtain⟨x0,x1,x2,l1,l2,l3,l4,x3,x4,x5,x6⟩:=n;have s0:x0.size≤maxLen:=h.name;have s1:x1.size≤maxLen:=h.owner;have s3:x3.size≤maxLen:=h.key;have s5:x5.size≤maxLen:=h.node;obtain⟨W0,hW0⟩:∃Z,w.alloc (.cells #[.string x0,.string x1,.int .i64 x2,v1,v2,v3,v4,.string x3,.int .i64 x4,.string x5,.bool x6] 45)=Z:=⟨_,rfl⟩
 have hk0:Kept w W0:=by rw[←hW0];exact ja _ _
 have HC:=lH (show ∀W,Kept W0 W→W.cell? ⟨w.heap.size,0,none⟩=some (.string x0)∧W.cell? ⟨w.heap.size,1,none⟩=some (.string x1)∧W.cell? ⟨w.heap.size,2,none⟩=some (.int .i64 x2)∧W.cell? ⟨w.heap.size,3,none⟩=some (v1)∧W.cell? ⟨w.heap.size,4,none⟩=some (v2)∧W.cell? ⟨w.heap.size,5,none⟩=some (v3)∧W.cell? ⟨w.heap.size,6,none⟩=some (v4)∧W.cell? ⟨w.heap.size,7,none⟩=some (.string x3)∧W.cell? ⟨w.heap.size,8,none⟩=some (.int .i64 x4)∧W.cell? ⟨w.heap.size,9,none⟩=some (.string x5)∧W.cell? ⟨w.heap.size,10,none⟩=some (.bool x6) from fun W k=>by
  have:=jd w (.string x0) [.string x1,.int .i64 x2,v1,v2,v3,v4,.string x3,.int .i64 x4,.string x5,.bool x6] 45 W (by rw[hW0];exact k);exact⟨this.at_ 0 _ rfl,this.at_ 1 _ rfl,this.at_ 2 _ rfl,this.at_ 3 _ rfl,this.at_ 4 _ rfl,this.at_ 5 _ rfl,this.at_ 6 _ rfl,this.at_ 7 _ rfl,this.at_ 8 _ rfl,this.at_ 9 _ rfl,this.at_ 10 _ rfl⟩)
 obtain⟨y1,hy1⟩:∃y,Vec.jD l1=y:=⟨_,rfl⟩
 obtain⟨y2,hy2⟩:∃y,Yr l2=y:=⟨_,rfl⟩
 obtain⟨y3,hy3⟩:∃y,XB l3=y:=⟨_,rfl⟩
 obtain⟨y4,hy4⟩:∃y,Yg l4=y:=⟨_,rfl⟩
 have E1:=lH (fun W (k:Kept W0 W)=>Vec.Zl (h.need.kept (hk0.trans k)) hy1);have E2:=lH (fun W (k:Kept W0 W)=>Zl (h.labels.kept (hk0.trans k)) hy2);have E3:=lH (fun W (k:Kept W0 W)=>jaE (h.sel.kept (hk0.trans k)) hy3);have E4:=lH (fun W (k:Kept W0 W)=>jhA (h.tols.kept (hk0.trans k)) hy4);have HV:=lH (show JB ⟨x0,x1,x2,l1,l2,l3,l4,x3,x4,x5,x6⟩=orL [XJ x0 x1,jaS x2 x6,y1,y2,y3,y4,XY x3 x4,jaU x5] by rw[←hy1,←hy2,←hy3,←hy4];rfl);obtain⟨r0,hr0⟩:∃r,isName x0=r:=⟨_,rfl⟩
 obtain⟨r1,hr1⟩:∃r,isName x1=r:=⟨_,rfl⟩
 obtain⟨r3,hr3⟩:∃r,isName x3=r:=⟨_,rfl⟩
 obtain⟨r5,hr5⟩:∃r,isName x5=r:=⟨_,rfl⟩
 obtain⟨q1,hq1⟩:∃q,(x1.toList==([]:List UInt8))=q:=⟨_,rfl⟩
 obtain⟨q3,hq3⟩:∃q,(x3.toList==([]:List UInt8))=q:=⟨_,rfl⟩
 obtain⟨q5,hq5⟩:∃q,(x5.toList==([]:List UInt8))=q:=⟨_,rfl⟩
 have N0:=lH (fun W=>Vec.YL (w:=W) s0 hr0);have N1:=lH (fun W=>Vec.YL (w:=W) s1 hr1);have N3:=lH (fun W=>Vec.YL (w:=W) s3 hr3);have N5:=lH (fun W=>Vec.YL (w:=W) s5 hr5);have HN:=lH (show XJ x0 x1=if r0=true∧(q1||r1)=true then 0 else 3 by unfold XJ;rw[eor hq1 hr1,hr0]);have HS:=lH (show XY x3 x4=if (q3||r3)=false then 3 else if (if q3=true then decide (x4≠0) else decide (x4<1)||decide (128<x4))=true then 1 else 0 by unfold XY jdy;rw[eor hq3 hr3,JA,hq3]);have HD:=lH (show jaU x5=if (q5||r5)=true then 0 else 3 by unfold jaU;rw[eor hq5 hr5]);obtain⟨zz,hzz⟩:∃z,(x2==-1)=z:=⟨_,rfl⟩
 have HP:=lH (show jaS x2 x6=if (decide (x2 < -1)||(decide (1000000<x2)||(zz != x6)))=true then 1 else 0 by unfold jaS jgT;rw[show decide (x2=-1)=zz from hzz]);have Vh:=lH hk0;obtain⟨c0,c1,c2,c3,c4,c5,c6,c7,c8,c9,c10⟩:=HC.out _ (Kept.refl _);clear h hk0 hy1 hy2 hy3 hy4 hr0 hr1 hr3 hr5 s0 s1 s3 s5;unfold jr;dsimp only;go_enter Tryz.func8,Tryz.ntmps8;go_wp2_with fail
 try rw[hW0]
 clear hW0;refine(N0.out _).mono ?_;rintro e w9 ⟨rfl,rfl⟩
 cases r0 with
 | false =>
  have HV:=lH (HV.out.trans (jJ (v:=3) (HN.out.trans (by simp)) (by decide)));go_wp2;go_ret;exact⟨jc HV.out.symm,Vh.out.trans (Kept.refl _)⟩
 | true =>
  cases q1 with
  | true =>
   have HV:=lH (HV.out.trans (jV (HN.out.trans (by simp))));by_cases p1:x2 < -1
   · have HV:=lH (HV.out.trans (jJ (v:=1) (HP.out.trans (by simp[p1])) (by decide)));clear hzz;go_wp2;go_ret;exact⟨jc HV.out.symm,Vh.out.trans (Kept.refl _)⟩
   · have p1:-1≤x2:=by omega
     by_cases p2:1000000<x2
     · have HV:=lH (HV.out.trans (jJ (v:=1) (HP.out.trans (by simp[p2])) (by decide)));clear hzz;go_wp2;go_ret;exact⟨jc HV.out.symm,Vh.out.trans (Kept.refl _)⟩
     · have p2:x2≤1000000:=by omega
       have HP:=lH (HP.out.trans (show (if (decide (x2 < -1)||(decide (1000000<x2)||(zz != x6)))=true then 1 else 0)=(if (zz != x6)=true then 1 else 0) by rw[show decide (x2 < -1)=false by simp;omega,show decide (1000000<x2)=false by simp;omega];rfl))
       cases zz<;>cases x6
       ·
        have HV:=lH (HV.out.trans (jV HP.out));go_wp2_with fail
        refine(E1.out _ (Kept.refl _)).mono ?_;rintro e w1 ⟨rfl,k⟩;have K1:=lH (Kept.trans (Kept.refl _) k);clear k c0 c1 c2 c3 c4 c5 c6 c7 c8 c9 c10;obtain⟨c0,c1,c2,c3,c4,c5,c6,c7,c8,c9,c10⟩:=HC.out _ K1.out;by_cases z1:y1=0;rotate_left
        · have z9:(y1 != 0)=true:=by simpa using z1
          have HV:=lH (HV.out.trans (jJ rfl z1));clear z1;go_wp2;go_ret;exact⟨jc HV.out.symm,Vh.out.trans K1.out⟩
        subst z1;have HV:=lH (HV.out.trans (jV rfl));go_wp2_with fail
        refine(E2.out _ K1.out).mono ?_;rintro e w2 ⟨rfl,k⟩;have K2:=lH (Kept.trans K1.out k);clear k c0 c1 c2 c3 c4 c5 c6 c7 c8 c9 c10;obtain⟨c0,c1,c2,c3,c4,c5,c6,c7,c8,c9,c10⟩:=HC.out _ K2.out;by_cases z2:y2=0;rotate_left
        · have z9:(y2 != 0)=true:=by simpa using z2
          have HV:=lH (HV.out.trans (jJ rfl z2));clear z2;go_wp2;go_ret;exact⟨jc HV.out.symm,Vh.out.trans K2.out⟩
        subst z2;have HV:=lH (HV.out.trans (jV rfl));go_wp2_with fail
        refine(E3.out _ K2.out).mono ?_;rintro e w3 ⟨rfl,k⟩;have K3:=lH (Kept.trans K2.out k);clear k c0 c1 c2 c3 c4 c5 c6 c7 c8 c9 c10;obtain⟨c0,c1,c2,c3,c4,c5,c6,c7,c8,c9,c10⟩:=HC.out _ K3.out;by_cases z3:y3=0;rotate_left
        · have z9:(y3 != 0)=true:=by simpa using z3
          have HV:=lH (HV.out.trans (jJ rfl z3));clear z3;go_wp2;go_ret;exact⟨jc HV.out.symm,Vh.out.trans K3.out⟩
        subst z3;have HV:=lH (HV.out.trans (jV rfl));go_wp2_with fail
        refine(E4.out _ K3.out).mono ?_;rintro e w4 ⟨rfl,k⟩;have K4:=lH (Kept.trans K3.out k);clear k c0 c1 c2 c3 c4 c5 c6 c7 c8 c9 c10;obtain⟨c0,c1,c2,c3,c4,c5,c6,c7,c8,c9,c10⟩:=HC.out _ K4.out;by_cases z4:y4=0;rotate_left
        · have z9:(y4 != 0)=true:=by simpa using z4
          have HV:=lH (HV.out.trans (jJ rfl z4));clear z4;go_wp2;go_ret;exact⟨jc HV.out.symm,Vh.out.trans K4.out⟩
        subst z4;have HV:=lH (HV.out.trans (jV rfl))
        cases q3 with
        | true =>
         by_cases m1:x4=0
         · subst m1;have HV:=lH (HV.out.trans (jV HS.out));have HV:=lH (HV.out.trans (Yk.trans HD.out))
           cases q5 with
           | true =>
            go_wp2;go_ret;exact⟨jc HV.out.symm,Vh.out.trans K4.out⟩
           | false =>
            go_wp2_with fail
            refine(N5.out _).mono ?_;rintro e w9 ⟨rfl,rfl⟩
            cases r5 with
            | false =>
             go_wp2;go_ret;exact⟨jc HV.out.symm,Vh.out.trans K4.out⟩
            | true =>
             go_wp2;go_ret;exact⟨jc HV.out.symm,Vh.out.trans K4.out⟩
         · have HV:=lH (HV.out.trans (jJ (v:=1) (HS.out.trans (by simp[m1])) (by decide)));have m1:(x4 != 0)=true:=by simpa using m1
           go_wp2;go_ret;exact⟨jc HV.out.symm,Vh.out.trans K4.out⟩
        | false =>
         go_wp2_with fail
         refine(N3.out _).mono ?_;rintro e w9 ⟨rfl,rfl⟩
         cases r3 with
         | false =>
          have HV:=lH (HV.out.trans (jJ (v:=3) HS.out (by decide)));go_wp2;go_ret;exact⟨jc HV.out.symm,Vh.out.trans K4.out⟩
         | true =>
          by_cases m1:x4<1
          · have HV:=lH (HV.out.trans (jJ (v:=1) (HS.out.trans (by simp[m1])) (by decide)));go_wp2;go_ret;exact⟨jc HV.out.symm,Vh.out.trans K4.out⟩
          · have m1:1≤x4:=by omega
            by_cases m2:128<x4
            · have HV:=lH (HV.out.trans (jJ (v:=1) (HS.out.trans (by simp[m2])) (by decide)));go_wp2;go_ret;exact⟨jc HV.out.symm,Vh.out.trans K4.out⟩
            · have m2:x4≤128:=by omega
              have HV:=lH (HV.out.trans (jV (HS.out.trans (by rw[show decide (x4<1)=false by simp;omega,show decide (128<x4)=false by simp;omega];rfl))));have HV:=lH (HV.out.trans (Yk.trans HD.out))
              cases q5 with
              | true =>
               go_wp2;go_ret;exact⟨jc HV.out.symm,Vh.out.trans K4.out⟩
              | false =>
               go_wp2_with fail
               refine(N5.out _).mono ?_;rintro e w9 ⟨rfl,rfl⟩
               cases r5 with
               | false =>
                go_wp2;go_ret;exact⟨jc HV.out.symm,Vh.out.trans K4.out⟩
               | true =>
                go_wp2;go_ret;exact⟨jc HV.out.symm,Vh.out.trans K4.out⟩
       ·
        have HV:=lH (HV.out.trans (jJ (v:=1) HP.out (by decide)));go_wp2;go_ret;exact⟨jc HV.out.symm,Vh.out.trans (Kept.refl _)⟩
       ·
        have HV:=lH (HV.out.trans (jJ (v:=1) HP.out (by decide)));go_wp2;go_ret;exact⟨jc HV.out.symm,Vh.out.trans (Kept.refl _)⟩
       ·
        have HV:=lH (HV.out.trans (jV HP.out));go_wp2_with fail
        refine(E1.out _ (Kept.refl _)).mono ?_;rintro e w1 ⟨rfl,k⟩;have K1:=lH (Kept.trans (Kept.refl _) k);clear k c0 c1 c2 c3 c4 c5 c6 c7 c8 c9 c10;obtain⟨c0,c1,c2,c3,c4,c5,c6,c7,c8,c9,c10⟩:=HC.out _ K1.out;by_cases z1:y1=0;rotate_left
        · have z9:(y1 != 0)=true:=by simpa using z1
          have HV:=lH (HV.out.trans (jJ rfl z1));clear z1;go_wp2;go_ret;exact⟨jc HV.out.symm,Vh.out.trans K1.out⟩
        subst z1;have HV:=lH (HV.out.trans (jV rfl));go_wp2_with fail
        refine(E2.out _ K1.out).mono ?_;rintro e w2 ⟨rfl,k⟩;have K2:=lH (Kept.trans K1.out k);clear k c0 c1 c2 c3 c4 c5 c6 c7 c8 c9 c10;obtain⟨c0,c1,c2,c3,c4,c5,c6,c7,c8,c9,c10⟩:=HC.out _ K2.out;by_cases z2:y2=0;rotate_left
        · have z9:(y2 != 0)=true:=by simpa using z2
          have HV:=lH (HV.out.trans (jJ rfl z2));clear z2;go_wp2;go_ret;exact⟨jc HV.out.symm,Vh.out.trans K2.out⟩
        subst z2;have HV:=lH (HV.out.trans (jV rfl));go_wp2_with fail
        refine(E3.out _ K2.out).mono ?_;rintro e w3 ⟨rfl,k⟩;have K3:=lH (Kept.trans K2.out k);clear k c0 c1 c2 c3 c4 c5 c6 c7 c8 c9 c10;obtain⟨c0,c1,c2,c3,c4,c5,c6,c7,c8,c9,c10⟩:=HC.out _ K3.out;by_cases z3:y3=0;rotate_left
        · have z9:(y3 != 0)=true:=by simpa using z3
          have HV:=lH (HV.out.trans (jJ rfl z3));clear z3;go_wp2;go_ret;exact⟨jc HV.out.symm,Vh.out.trans K3.out⟩
        subst z3;have HV:=lH (HV.out.trans (jV rfl));go_wp2_with fail
        refine(E4.out _ K3.out).mono ?_;rintro e w4 ⟨rfl,k⟩;have K4:=lH (Kept.trans K3.out k);clear k c0 c1 c2 c3 c4 c5 c6 c7 c8 c9 c10;obtain⟨c0,c1,c2,c3,c4,c5,c6,c7,c8,c9,c10⟩:=HC.out _ K4.out;by_cases z4:y4=0;rotate_left
        · have z9:(y4 != 0)=true:=by simpa using z4
          have HV:=lH (HV.out.trans (jJ rfl z4));clear z4;go_wp2;go_ret;exact⟨jc HV.out.symm,Vh.out.trans K4.out⟩
        subst z4;have HV:=lH (HV.out.trans (jV rfl))
        cases q3 with
        | true =>
         by_cases m1:x4=0
         · subst m1;have HV:=lH (HV.out.trans (jV HS.out));have HV:=lH (HV.out.trans (Yk.trans HD.out))
           cases q5 with
           | true =>
            go_wp2;go_ret;exact⟨jc HV.out.symm,Vh.out.trans K4.out⟩
           | false =>
            go_wp2_with fail
            refine(N5.out _).mono ?_;rintro e w9 ⟨rfl,rfl⟩
            cases r5 with
            | false =>
             go_wp2;go_ret;exact⟨jc HV.out.symm,Vh.out.trans K4.out⟩
            | true =>
             go_wp2;go_ret;exact⟨jc HV.out.symm,Vh.out.trans K4.out⟩
         · have HV:=lH (HV.out.trans (jJ (v:=1) (HS.out.trans (by simp[m1])) (by decide)));have m1:(x4 != 0)=true:=by simpa using m1
           go_wp2;go_ret;exact⟨jc HV.out.symm,Vh.out.trans K4.out⟩
        | false =>
         go_wp2_with fail
         refine(N3.out _).mono ?_;rintro e w9 ⟨rfl,rfl⟩
         cases r3 with
         | false =>
          have HV:=lH (HV.out.trans (jJ (v:=3) HS.out (by decide)));go_wp2;go_ret;exact⟨jc HV.out.symm,Vh.out.trans K4.out⟩
         | true =>
          by_cases m1:x4<1
          · have HV:=lH (HV.out.trans (jJ (v:=1) (HS.out.trans (by simp[m1])) (by decide)));go_wp2;go_ret;exact⟨jc HV.out.symm,Vh.out.trans K4.out⟩
          · have m1:1≤x4:=by omega
            by_cases m2:128<x4
            · have HV:=lH (HV.out.trans (jJ (v:=1) (HS.out.trans (by simp[m2])) (by decide)));go_wp2;go_ret;exact⟨jc HV.out.symm,Vh.out.trans K4.out⟩
            · have m2:x4≤128:=by omega
              have HV:=lH (HV.out.trans (jV (HS.out.trans (by rw[show decide (x4<1)=false by simp;omega,show decide (128<x4)=false by simp;omega];rfl))));have HV:=lH (HV.out.trans (Yk.trans HD.out))
              cases q5 with
              | true =>
               go_wp2;go_ret;exact⟨jc HV.out.symm,Vh.out.trans K4.out⟩
              | false =>
               go_wp2_with fail
               refine(N5.out _).mono ?_;rintro e w9 ⟨rfl,rfl⟩
               cases r5 with
               | false =>
                go_wp2;go_ret;exact⟨jc HV.out.symm,Vh.out.trans K4.out⟩
               | true =>
                go_wp2;go_ret;exact⟨jc HV.out.symm,Vh.out.trans K4.out⟩
  | false =>
   go_wp2_with fail
   refine(N1.out _).mono ?_;rintro e w9 ⟨rfl,rfl⟩
   cases r1 with
   | false =>
    have HV:=lH (HV.out.trans (jJ (v:=3) (HN.out.trans (by simp)) (by decide)));go_wp2;go_ret;exact⟨jc HV.out.symm,Vh.out.trans (Kept.refl _)⟩
   | true =>
    have HV:=lH (HV.out.trans (jV (HN.out.trans (by simp))));by_cases p1:x2 < -1
    · have HV:=lH (HV.out.trans (jJ (v:=1) (HP.out.trans (by simp[p1])) (by decide)));clear hzz;go_wp2;go_ret;exact⟨jc HV.out.symm,Vh.out.trans (Kept.refl _)⟩
    · have p1:-1≤x2:=by omega
      by_cases p2:1000000<x2
      · have HV:=lH (HV.out.trans (jJ (v:=1) (HP.out.trans (by simp[p2])) (by decide)));clear hzz;go_wp2;go_ret;exact⟨jc HV.out.symm,Vh.out.trans (Kept.refl _)⟩
      · have p2:x2≤1000000:=by omega
        have HP:=lH (HP.out.trans (show (if (decide (x2 < -1)||(decide (1000000<x2)||(zz != x6)))=true then 1 else 0)=(if (zz != x6)=true then 1 else 0) by rw[show decide (x2 < -1)=false by simp;omega,show decide (1000000<x2)=false by simp;omega];rfl))
        cases zz<;>cases x6
        ·
         have HV:=lH (HV.out.trans (jV HP.out));go_wp2_with fail
         refine(E1.out _ (Kept.refl _)).mono ?_;rintro e w1 ⟨rfl,k⟩;have K1:=lH (Kept.trans (Kept.refl _) k);clear k c0 c1 c2 c3 c4 c5 c6 c7 c8 c9 c10;obtain⟨c0,c1,c2,c3,c4,c5,c6,c7,c8,c9,c10⟩:=HC.out _ K1.out;by_cases z1:y1=0;rotate_left
         · have z9:(y1 != 0)=true:=by simpa using z1
           have HV:=lH (HV.out.trans (jJ rfl z1));clear z1;go_wp2;go_ret;exact⟨jc HV.out.symm,Vh.out.trans K1.out⟩
         subst z1;have HV:=lH (HV.out.trans (jV rfl));go_wp2_with fail
         refine(E2.out _ K1.out).mono ?_;rintro e w2 ⟨rfl,k⟩;have K2:=lH (Kept.trans K1.out k);clear k c0 c1 c2 c3 c4 c5 c6 c7 c8 c9 c10;obtain⟨c0,c1,c2,c3,c4,c5,c6,c7,c8,c9,c10⟩:=HC.out _ K2.out;by_cases z2:y2=0;rotate_left
         · have z9:(y2 != 0)=true:=by simpa using z2
           have HV:=lH (HV.out.trans (jJ rfl z2));clear z2;go_wp2;go_ret;exact⟨jc HV.out.symm,Vh.out.trans K2.out⟩
         subst z2;have HV:=lH (HV.out.trans (jV rfl));go_wp2_with fail
         refine(E3.out _ K2.out).mono ?_;rintro e w3 ⟨rfl,k⟩;have K3:=lH (Kept.trans K2.out k);clear k c0 c1 c2 c3 c4 c5 c6 c7 c8 c9 c10;obtain⟨c0,c1,c2,c3,c4,c5,c6,c7,c8,c9,c10⟩:=HC.out _ K3.out;by_cases z3:y3=0;rotate_left
         · have z9:(y3 != 0)=true:=by simpa using z3
           have HV:=lH (HV.out.trans (jJ rfl z3));clear z3;go_wp2;go_ret;exact⟨jc HV.out.symm,Vh.out.trans K3.out⟩
         subst z3;have HV:=lH (HV.out.trans (jV rfl));go_wp2_with fail
         refine(E4.out _ K3.out).mono ?_;rintro e w4 ⟨rfl,k⟩;have K4:=lH (Kept.trans K3.out k);clear k c0 c1 c2 c3 c4 c5 c6 c7 c8 c9 c10;obtain⟨c0,c1,c2,c3,c4,c5,c6,c7,c8,c9,c10⟩:=HC.out _ K4.out;by_cases z4:y4=0;rotate_left
         · have z9:(y4 != 0)=true:=by simpa using z4
           have HV:=lH (HV.out.trans (jJ rfl z4));clear z4;go_wp2;go_ret;exact⟨jc HV.out.symm,Vh.out.trans K4.out⟩
         subst z4;have HV:=lH (HV.out.trans (jV rfl))
         cases q3 with
         | true =>
          by_cases m1:x4=0
          · subst m1;have HV:=lH (HV.out.trans (jV HS.out));have HV:=lH (HV.out.trans (Yk.trans HD.out))
            cases q5 with
            | true =>
             go_wp2;go_ret;exact⟨jc HV.out.symm,Vh.out.trans K4.out⟩
            | false =>
             go_wp2_with fail
             refine(N5.out _).mono ?_;rintro e w9 ⟨rfl,rfl⟩
             cases r5 with
             | false =>
              go_wp2;go_ret;exact⟨jc HV.out.symm,Vh.out.trans K4.out⟩
             | true =>
              go_wp2;go_ret;exact⟨jc HV.out.symm,Vh.out.trans K4.out⟩
          · have HV:=lH (HV.out.trans (jJ (v:=1) (HS.out.trans (by simp[m1])) (by decide)));have m1:(x4 != 0)=true:=by simpa using m1
            go_wp2;go_ret;exact⟨jc HV.out.symm,Vh.out.trans K4.out⟩
         | false =>
          go_wp2_with fail
          refine(N3.out _).mono ?_;rintro e w9 ⟨rfl,rfl⟩
          cases r3 with
          | false =>
           have HV:=lH (HV.out.trans (jJ (v:=3) HS.out (by decide)));go_wp2;go_ret;exact⟨jc HV.out.symm,Vh.out.trans K4.out⟩
          | true =>
           by_cases m1:x4<1
           · have HV:=lH (HV.out.trans (jJ (v:=1) (HS.out.trans (by simp[m1])) (by decide)));go_wp2;go_ret;exact⟨jc HV.out.symm,Vh.out.trans K4.out⟩
           · have m1:1≤x4:=by omega
             by_cases m2:128<x4
             · have HV:=lH (HV.out.trans (jJ (v:=1) (HS.out.trans (by simp[m2])) (by decide)));go_wp2;go_ret;exact⟨jc HV.out.symm,Vh.out.trans K4.out⟩
             · have m2:x4≤128:=by omega
               have HV:=lH (HV.out.trans (jV (HS.out.trans (by rw[show decide (x4<1)=false by simp;omega,show decide (128<x4)=false by simp;omega];rfl))));have HV:=lH (HV.out.trans (Yk.trans HD.out))
               cases q5 with
               | true =>
                go_wp2;go_ret;exact⟨jc HV.out.symm,Vh.out.trans K4.out⟩
               | false =>
                go_wp2_with fail
                refine(N5.out _).mono ?_;rintro e w9 ⟨rfl,rfl⟩
                cases r5 with
                | false =>
                 go_wp2;go_ret;exact⟨jc HV.out.symm,Vh.out.trans K4.out⟩
                | true =>
                 go_wp2;go_ret;exact⟨jc HV.out.symm,Vh.out.trans K4.out⟩
        ·
         have HV:=lH (HV.out.trans (jJ (v:=1) HP.out (by decide)));go_wp2;go_ret;exact⟨jc HV.out.symm,Vh.out.trans (Kept.refl _)⟩
        ·
         have HV:=lH (HV.out.trans (jJ (v:=1) HP.out (by decide)));go_wp2;go_ret;exact⟨jc HV.out.symm,Vh.out.trans (Kept.refl _)⟩
        ·
         have HV:=lH (HV.out.trans (jV HP.out));go_wp2_with fail
         refine(E1.out _ (Kept.refl _)).mono ?_;rintro e w1 ⟨rfl,k⟩;have K1:=lH (Kept.trans (Kept.refl _) k);clear k c0 c1 c2 c3 c4 c5 c6 c7 c8 c9 c10;obtain⟨c0,c1,c2,c3,c4,c5,c6,c7,c8,c9,c10⟩:=HC.out _ K1.out;by_cases z1:y1=0;rotate_left
         · have z9:(y1 != 0)=true:=by simpa using z1
           have HV:=lH (HV.out.trans (jJ rfl z1));clear z1;go_wp2;go_ret;exact⟨jc HV.out.symm,Vh.out.trans K1.out⟩
         subst z1;have HV:=lH (HV.out.trans (jV rfl));go_wp2_with fail
         refine(E2.out _ K1.out).mono ?_;rintro e w2 ⟨rfl,k⟩;have K2:=lH (Kept.trans K1.out k);clear k c0 c1 c2 c3 c4 c5 c6 c7 c8 c9 c10;obtain⟨c0,c1,c2,c3,c4,c5,c6,c7,c8,c9,c10⟩:=HC.out _ K2.out;by_cases z2:y2=0;rotate_left
         · have z9:(y2 != 0)=true:=by simpa using z2
           have HV:=lH (HV.out.trans (jJ rfl z2));clear z2;go_wp2;go_ret;exact⟨jc HV.out.symm,Vh.out.trans K2.out⟩
         subst z2;have HV:=lH (HV.out.trans (jV rfl));go_wp2_with fail
         refine(E3.out _ K2.out).mono ?_;rintro e w3 ⟨rfl,k⟩;have K3:=lH (Kept.trans K2.out k);clear k c0 c1 c2 c3 c4 c5 c6 c7 c8 c9 c10;obtain⟨c0,c1,c2,c3,c4,c5,c6,c7,c8,c9,c10⟩:=HC.out _ K3.out;by_cases z3:y3=0;rotate_left
         · have z9:(y3 != 0)=true:=by simpa using z3
           have HV:=lH (HV.out.trans (jJ rfl z3));clear z3;go_wp2;go_ret;exact⟨jc HV.out.symm,Vh.out.trans K3.out⟩
         subst z3;have HV:=lH (HV.out.trans (jV rfl));go_wp2_with fail
         refine(E4.out _ K3.out).mono ?_;rintro e w4 ⟨rfl,k⟩;have K4:=lH (Kept.trans K3.out k);clear k c0 c1 c2 c3 c4 c5 c6 c7 c8 c9 c10;obtain⟨c0,c1,c2,c3,c4,c5,c6,c7,c8,c9,c10⟩:=HC.out _ K4.out;by_cases z4:y4=0;rotate_left
         · have z9:(y4 != 0)=true:=by simpa using z4
           have HV:=lH (HV.out.trans (jJ rfl z4));clear z4;go_wp2;go_ret;exact⟨jc HV.out.symm,Vh.out.trans K4.out⟩
         subst z4;have HV:=lH (HV.out.trans (jV rfl))
         cases q3 with
         | true =>
          by_cases m1:x4=0
          · subst m1;have HV:=lH (HV.out.trans (jV HS.out));have HV:=lH (HV.out.trans (Yk.trans HD.out))
            cases q5 with
            | true =>
             go_wp2;go_ret;exact⟨jc HV.out.symm,Vh.out.trans K4.out⟩
            | false =>
             go_wp2_with fail
             refine(N5.out _).mono ?_;rintro e w9 ⟨rfl,rfl⟩
             cases r5 with
             | false =>
              go_wp2;go_ret;exact⟨jc HV.out.symm,Vh.out.trans K4.out⟩
             | true =>
              go_wp2;go_ret;exact⟨jc HV.out.symm,Vh.out.trans K4.out⟩
          · have HV:=lH (HV.out.trans (jJ (v:=1) (HS.out.trans (by simp[m1])) (by decide)));have m1:(x4 != 0)=true:=by simpa using m1
            go_wp2;go_ret;exact⟨jc HV.out.symm,Vh.out.trans K4.out⟩
         | false =>
          go_wp2_with fail
          refine(N3.out _).mono ?_;rintro e w9 ⟨rfl,rfl⟩
          cases r3 with
          | false =>
           have HV:=lH (HV.out.trans (jJ (v:=3) HS.out (by decide)));go_wp2;go_ret;exact⟨jc HV.out.symm,Vh.out.trans K4.out⟩
          | true =>
           by_cases m1:x4<1
           · have HV:=lH (HV.out.trans (jJ (v:=1) (HS.out.trans (by simp[m1])) (by decide)));go_wp2;go_ret;exact⟨jc HV.out.symm,Vh.out.trans K4.out⟩
           · have m1:1≤x4:=by omega
             by_cases m2:128<x4
             · have HV:=lH (HV.out.trans (jJ (v:=1) (HS.out.trans (by simp[m2])) (by decide)));go_wp2;go_ret;exact⟨jc HV.out.symm,Vh.out.trans K4.out⟩
             · have m2:x4≤128:=by omega
               have HV:=lH (HV.out.trans (jV (HS.out.trans (by rw[show decide (x4<1)=false by simp;omega,show decide (128<x4)=false by simp;omega];rfl))));have HV:=lH (HV.out.trans (Yk.trans HD.out))
               cases q5 with
               | true =>
                go_wp2;go_ret;exact⟨jc HV.out.symm,Vh.out.trans K4.out⟩
               | false =>
                go_wp2_with fail
                refine(N5.out _).mono ?_;rintro e w9 ⟨rfl,rfl⟩
                cases r5 with
                | false =>
                 go_wp2;go_ret;exact⟨jc HV.out.symm,Vh.out.trans K4.out⟩
                | true =>
                 go_wp2;go_ret;exact⟨jc HV.out.symm,Vh.out.trans K4.out⟩
theorem jiE {v:Value} {n:Pd} {c:Int} {w:World} (h:YN w v n) (hc:JB n=c):Calls Tryz.prog 8 #[v] w (Say (.int .i64 c) w):=by
 subst hc;obtain⟨v1,v2,v3,v4,rfl,h⟩:=h;exact jbe n v1 v2 v3 v4 w h
end Go.Proofs.YtmlgobiifebjkabGreat
