/- C. -/
import Derived.Test.YtibepooajeakfaaGreatG0
import Derived.Test.YtibepooajeakfaaGreatG1
import Derived.Test.YtibepooajeakfaaGreatG2
import Derived.Test.YtibepooajeakfaaGreatG3
import Derived.Test.YtibepooajeakfaaGreatG4
import Derived.Test.YtibepooajeakfaaGreatG6
import Derived.Test.YtibepooajeakfaaGreatG7
import Derived.Lib.AppendZerosOnto
import Derived.Lib.Overlaps
set_option linter.unusedVariables false
set_option maxRecDepth 100000
set_option maxHeartbeats 25600000
namespace Go.Proofs.YtibepooajeakfaaGreat
open Go.RowKit
def Xd (p q:Pd):Bool:=!zo p.owner&&(eqS q.owner p.owner&&(!q.hold&&!eqS q.name p.name))
def onN (p:Pd) (x:ByteArray):List Pd→Nat
 | []=>0
 | q::t=>(if Xd p q=true∧q.node=x then 1 else 0)+onN p x t
theorem jcX (p:Pd) (x:ByteArray):∀l:List Pd,onN p x l≤l.length
 | []=>Nat.zero_le _
 | q::t=>by
  have:=jcX p x t;unfold onN;simp only[List.length_cons];split<;>omega
def inD (p:Pd) (pods:List Pd) (d:ByteArray):List Nod→Nat
 | []=>0
 | n::t=>(if Jf n.labels p.key=some d then onN p n.name pods else 0)+inD p pods d t
theorem jgu (p:Pd) (pods:List Pd) (d:ByteArray):∀l:List Nod,inD p pods d l≤l.length*pods.length
 | []=>Nat.zero_le _
 | n::t=>by
  have h1:=jgu p pods d t;have h2:=jcX p n.name pods;unfold inD;simp only[List.length_cons,Nat.add_mul];split<;>omega
def Z0 (k d:ByteArray) (l:List Nod):Bool:=l.any fun n=>decide (Jf n.labels k=some d)
theorem jdp (p:Pd) (x:ByteArray):∀(a b:List Pd),onN p x (a++b)=onN p x a+onN p x b
 | [],b=>by simp[onN]
 | q::t,b=>by
  have:=jdp p x t b;simp only[List.cons_append,onN,this];omega
theorem jdw (p:Pd) (pods:List Pd) (d:ByteArray):∀(a b:List Nod),inD p pods d (a++b)=inD p pods d a+inD p pods d b
 | [],b=>by simp[inD]
 | q::t,b=>by
  have:=jdw p pods d t b;simp only[List.cons_append,inD,this];omega
def domV (key name:ByteArray):List Nod→Option ByteArray
 | []=>none
 | n::t=>if eqS n.name name=true then Jf n.labels key else domV key name t
def Xl (p:Pd) (pods:List Pd) (nodes:List Nod) (d:ByteArray):List Nod→Nat→Nat
 | [],m=>m
 | n::t,m=>Xl p pods nodes d t (match Jf n.labels p.key with
  | none=>m
  | some e=>min m (inD p pods e nodes+(if e=d then 1 else 0)))
def Xf (p:Pd) (s:Clu) (d:ByteArray):Int:=((inD p s.pods d s.nodes+1:Nat):Int)-(Xl p s.pods s.nodes d s.nodes (inD p s.pods d s.nodes+1):Int)
def ZP (p:Pd) (s:Clu) (name:ByteArray):Int×Bool :=
 if zo p.key=true then (0,true) else match domV p.key name s.nodes with
  | none=>(0,false)
  | some d=>(Xf p s d,true)
theorem ql (p:Pd) (pods:List Pd) (nodes:List Nod) (d:ByteArray):∀(l:List Nod) (m:Nat),
 Xl p pods nodes d l m≤m∧(∀n ∈ l,∀e,Jf n.labels p.key=some e→Xl p pods nodes d l m≤inD p pods e nodes+(if e=d then 1 else 0)) ∧
 (Xl p pods nodes d l m=m∨∃n ∈ l,∃e,Jf n.labels p.key=some e∧Xl p pods nodes d l m=inD p pods e nodes+(if e=d then 1 else 0))
 | [],m=>⟨Nat.le_refl _,fun n h=>absurd h (by simp),.inl rfl⟩
 | n::t,m=>by
  rw[Xl]
  cases h:Jf n.labels p.key with
  | none =>
   dsimp only;obtain⟨h1,h2,h3⟩:=ql p pods nodes d t m;refine⟨h1,fun x hx e he=>?_,h3.imp id fun ⟨x,hx,e,he⟩=>⟨x,by simp[hx],e,he⟩⟩;rcases List.mem_cons.1 hx with rfl | hx
   · rw[h] at he;cases he
   · exact h2 x hx e he
  | some c =>
   dsimp only;obtain⟨h1,h2,h3⟩:=ql p pods nodes d t (min m (inD p pods c nodes+(if c=d then 1 else 0)));refine⟨Nat.le_trans h1 (Nat.min_le_left _ _),fun x hx e he=>?_,?_⟩
   · rcases List.mem_cons.1 hx with rfl | hx
     · rw[h] at he;cases he;exact Nat.le_trans h1 (Nat.min_le_right _ _)
     · exact h2 x hx e he
   · rcases h3 with h3 | ⟨x,hx,e,he,h3⟩
     · by_cases g:m≤inD p pods c nodes+(if c=d then 1 else 0)
       · exact .inl (by rw[h3,Nat.min_eq_left g])
       · exact .inr ⟨n,by simp,c,h,by rw[h3,Nat.min_eq_right (by omega)]⟩
     · exact .inr ⟨x,by simp[hx],e,he,h3⟩
theorem jjj {p:Pd} {pods:List Pd} {nodes:List Nod} {d:ByteArray} {m z:Nat} (hd:Z0 p.key d nodes=true) (hm:m=inD p pods d nodes+1)
 (h1:∀e,Z0 p.key e nodes=true→z≤inD p pods e nodes+(if e=d then 1 else 0)) (h2:∃e,Z0 p.key e nodes=true∧z=inD p pods e nodes+(if e=d then 1 else 0)):Xl p pods nodes d nodes m=z:=by
 have has:∀{n:Nod} {e:ByteArray},n ∈ nodes→Jf n.labels p.key=some e→Z0 p.key e nodes=true:=fun {n e} hn he=>by
  unfold Z0;rw[List.any_eq_true];exact⟨n,hn,by simpa using he⟩
 have un:∀{e:ByteArray},Z0 p.key e nodes=true→∃n ∈ nodes,Jf n.labels p.key=some e:=fun {e} h=>by
  unfold Z0 at h;rw[List.any_eq_true] at h;obtain⟨n,hn,he⟩:=h;exact⟨n,hn,by simpa using he⟩
 obtain⟨g1,g2,g3⟩:=ql p pods nodes d nodes m;obtain⟨e,he,hz⟩:=h2;obtain⟨n,hn,hne⟩:=un he;have a:=g2 n hn e hne;rcases g3 with g3 | ⟨x,hx,c,hc,g3⟩
 · have b:=h1 d hd;rw[if_pos rfl] at b;omega
 · have b:=h1 c (has hx hc);omega
theorem jcj {key name d:ByteArray}:∀{l:List Nod},domV key name l=some d→Z0 key d l=true
 | n::t,h=>by
  rw[domV] at h;unfold Z0;rw[List.any_cons];split at h
  · rw[h];simp
  · have:=jcj h;unfold Z0 at this;rw[this,Bool.or_true]
def ZD (s:Clu) (p:Pd) (x:ByteArray):Bool:=if zo p.key=true then false else (!(ZP p s x).2||decide (p.most<(ZP p s x).1))
def Zd (p:Pd) (n:Nod):Bool:=!n.cordon&&ZR p.sel n.labels
def Z7 (p:Pd) (n:Nod):Bool:=!(Jk p.tols n.taints).isSome
def YS (s:Clu) (p:Pd) (x:ByteArray):Bool:=decide ((Z3 s x).1=0)&&Vec.jB (Z3 s x).2 p.need
def zW (s:Clu) (p:Pd) (n:Nod) (x:ByteArray):Int:=if Zd p n=false then 8 else if Z7 p n=false then 9 else if ZD s p x=true then 10 else if YS s p x=false then 7 else 0
def zX (s:Clu) (p:Pd) (x:ByteArray):Int:=match jl s.nodes x with
 | none=>3
 | some n=>zW s p n x
def qk (s:Clu) (p:Pd) (x:ByteArray):Int:=zX (zG s p.name) p x
def XW (s:Clu) (p:Pd) (l:List Nod):List Int:=l.map fun n=>qk s p n.name
def zN (s:Clu) (p:Pd) (l:List Nod):List ByteArray:=(l.filter fun n=>decide (qk s p n.name=0)).map fun n=>n.name
theorem jbO {s:Clu} {p:Pd} {x:ByteArray} (h:jl s.nodes x=none):zX s p x=3:=by unfold zX;rw[h]
theorem jb0 {s:Clu} {p:Pd} {x:ByteArray} {n:Nod} (h:jl s.nodes x=some n):zX s p x=zW s p n x:=by unfold zX;rw[h]
theorem jbS {s:Clu} {p:Pd} {n:Nod} {x:ByteArray} (h:Zd p n=false):zW s p n x=8:=by unfold zW;rw[if_pos h]
theorem jaC {s:Clu} {p:Pd} {n:Nod} {x:ByteArray} (h:Zd p n=true) (h2:Z7 p n=false):zW s p n x=9:=by unfold zW;rw[if_neg (by rw[h];decide),if_pos h2]
theorem jaN {s:Clu} {p:Pd} {n:Nod} {x:ByteArray} (h:Zd p n=true) (h2:Z7 p n=true) (h3:ZD s p x=true):zW s p n x=10:=by unfold zW;rw[if_neg (by rw[h];decide),if_neg (by rw[h2];decide),if_pos h3]
theorem jaM {s:Clu} {p:Pd} {n:Nod} {x:ByteArray} (h:Zd p n=true) (h2:Z7 p n=true) (h3:ZD s p x=false) (h4:YS s p x=false):zW s p n x=7:=by unfold zW;rw[if_neg (by rw[h];decide),if_neg (by rw[h2];decide),if_neg (by rw[h3];decide),if_pos h4]
theorem jij {s:Clu} {p:Pd} {n:Nod} {x:ByteArray} (h:Zd p n=true) (h2:Z7 p n=true) (h3:ZD s p x=false) (h4:YS s p x=true):zW s p n x=0:=by unfold zW;rw[if_neg (by rw[h];decide),if_neg (by rw[h2];decide),if_neg (by rw[h3];decide),if_neg (by rw[h4];decide)]
theorem jgi {s:Clu} {p:Pd} {n:Nod} {x:ByteArray} (h:zW s p n x=0):Zd p n=true∧Z7 p n=true∧ZD s p x=false∧YS s p x=true:=by
 cases h1:Zd p n with
 | false=>rw[jbS h1] at h;cases h
 | true =>
  cases h2:Z7 p n with
  | false=>rw[jaC h1 h2] at h;cases h
  | true =>
   cases h3:ZD s p x with
   | true=>rw[jaN h1 h2 h3] at h;cases h
   | false =>
    cases h4:YS s p x with
    | false=>rw[jaM h1 h2 h3 h4] at h;cases h
    | true=>exact⟨rfl,rfl,rfl,rfl⟩
theorem jhc {s:Clu} {p:Pd} {x:ByteArray} (h:zX s p x=0):∃n,jl s.nodes x=some n∧zW s p n x=0:=by
 cases hf:jl s.nodes x with
 | none=>rw[jbO hf] at h;cases h
 | some n=>rw[jb0 hf] at h;exact⟨n,rfl,h⟩
theorem jiI (s:Clu) (p:Pd) (n:Nod) (x:ByteArray):0≤zW s p n x∧zW s p n x≤10:=by
 unfold zW;split
 · decide
 · split
   · decide
   · split
     · decide
     · split<;>decide
theorem jkP (s:Clu) (p:Pd) (x:ByteArray):0≤zX s p x∧zX s p x≤10:=by
 unfold zX;split
 · decide
 · exact jiI _ _ _ _
theorem jen {l:List Nod} {x:ByteArray} {n:Nod} (h:jl l x=some n):n ∈ l∧n.name=x:=by
 unfold jl at h;have h2:eqS n.name x=true:=List.find?_some (p:=fun n:Nod=>eqS n.name x) h;exact⟨List.mem_of_find?_eq_some h,jR.1 h2⟩
theorem jkT {s:Clu} {p:Pd} {l:List Nod} {k:Nat} {n:Nod} (h:l[k]?=some n):XW s p (l.take (k+1))=XW s p (l.take k)++[qk s p n.name]:=by
 unfold XW;rw[List.take_add_one,h,List.map_append];rfl
theorem jci (s:Clu) (p:Pd) (l:List Nod):(XW s p l).length=l.length:=by unfold XW;rw[List.length_map]
theorem jm6 {s:Clu} {p:Pd} {l:List Nod} {k:Nat} {n:Nod} (h:l[k]?=some n):(XW s p l)[k]?=some (qk s p n.name):=by unfold XW;rw[List.getElem?_map,h];rfl
theorem jiE {s:Clu} {p:Pd} {l:List Nod} {k:Nat} {n:Nod} (h:l[k]?=some n):zN s p (l.take (k+1))=zN s p (l.take k)++(if qk s p n.name=0 then [n.name] else []):=by
 unfold zN;rw[List.take_add_one,h,List.filter_append,List.map_append];by_cases hb:qk s p n.name=0
 · rw[if_pos hb];simp[hb]
 · rw[if_neg hb];simp[hb]
theorem jbe (s:Clu) (p:Pd) (l:List Nod):(zN s p l).length≤l.length:=by
 unfold zN;rw[List.length_map];exact List.length_filter_le _ _
theorem ja2 {s:Clu} {p:Pd} {l:List Nod} {x:ByteArray} (h:x ∈ zN s p l):qk s p x=0∧∃n ∈ l,n.name=x:=by
 unfold zN at h;obtain⟨n,hn,rfl⟩:=List.mem_map.1 h;obtain⟨h1,h2⟩:=List.mem_filter.1 hn;exact⟨of_decide_eq_true h2,n,h1,rfl⟩
open Ieee
abbrev BIN:Nat:=4503599627370496
abbrev INF:Nat:=9218868437227405312
abbrev SGN:Nat:=9223372036854775808
def rung (x:Nat):Nat:=x % SGN
def sgn (x:Nat):Bool:=x / SGN % 2==1
def isNaN (x:Nat):Bool:=decide (INF<rung x)
def fmg (r:Nat):Nat:=if r<BIN then r else BIN+r % BIN
def ex (r:Nat):Nat:=if r<BIN then 0 else r / BIN-1
def val (r:Nat):Nat:=fmg r*2 ^ ex r
def js (x:Nat):Int:=if sgn x then -(rung x:Int) else rung x
def jak (x:Nat):Int:=if sgn x then -(val (rung x):Int) else val (rung x)
def Z5 (a b:Int):Ordering:=if a<b then .lt else if a=b then .eq else .gt
theorem jc7 {r s:Nat} (h:r<s):val r<val s:=by
 have hB:(0:Nat)<BIN:=by decide
 by_cases h1:s<BIN
 · have h2:r<BIN:=Nat.lt_trans h h1;simp only[val,fmg,ex,h1,h2,if_true];simpa using h
 · have pos:∀k:Nat,0<2 ^ k:=fun k=>Nat.two_pow_pos k;have hs:BIN≤s:=Nat.not_lt.1 h1;by_cases h2:r<BIN
   · simp only[val,fmg,ex,h1,h2,if_true,if_false];have:=Nat.mul_le_mul_left (BIN+s % BIN) (pos (s / BIN-1));simp only[Nat.pow_zero,Nat.mul_one];omega
   · have hr:BIN≤r:=Nat.not_lt.1 h2;simp only[val,fmg,ex,h1,h2,if_false];have e1:r / BIN≤s / BIN:=Nat.div_le_div_right (Nat.le_of_lt h);have r1:1≤r / BIN:=(Nat.one_le_div_iff hB).2 hr;rcases Nat.lt_or_eq_of_le e1 with e2 | e2
     · obtain⟨k,hk⟩:∃k,s / BIN-1=(r / BIN-1)+1+k:=⟨s / BIN-r / BIN-1,by omega⟩
       rw[hk,Nat.pow_add,Nat.pow_succ];have m1:r % BIN<BIN:=Nat.mod_lt _ hB;have p1:=pos (r / BIN-1);have p2:=pos k
       calc (BIN+r % BIN)*2 ^ (r / BIN-1)<(2*BIN)*2 ^ (r / BIN-1):=Nat.mul_lt_mul_of_pos_right (by omega) p1
        _=BIN*(2 ^ (r / BIN-1)*2):=by rw[Nat.mul_comm 2 BIN,Nat.mul_assoc,Nat.mul_comm 2]
        _≤(BIN+s % BIN)*(2 ^ (r / BIN-1)*2):=Nat.mul_le_mul_right _ (by omega)
        _≤(BIN+s % BIN)*(2 ^ (r / BIN-1)*2*2 ^ k):=Nat.mul_le_mul_left _ (Nat.le_mul_of_pos_right _ p2)
     · rw[e2];refine Nat.mul_lt_mul_of_pos_right ?_ (pos _);have d1:=Nat.div_add_mod r BIN;have d2:=Nat.div_add_mod s BIN;rw[e2] at d1;omega
theorem XB {r s:Nat}:val r<val s↔r<s:=by
 refine⟨fun h=>?_,jc7⟩;rcases Nat.lt_trichotomy r s with g | g | g
 · exact g
 · subst g;exact absurd h (Nat.lt_irrefl _)
 · exact absurd (jc7 g) (Nat.lt_asymm h)
theorem qI {r s:Nat}:val r=val s↔r=s:=by
 refine⟨fun h=>?_,fun h=>by rw[h]⟩;rcases Nat.lt_trichotomy r s with g | g | g
 · have:=jc7 g;omega
 · exact g
 · have:=jc7 g;omega
theorem val_zero:val 0=0:=by simp[val,fmg,ex]
theorem jmt (x y:Nat):Z5 (jak x) (jak y)=Z5 (js x) (js y):=by
 have key:(jak x<jak y↔js x<js y)∧(jak x=jak y↔js x=js y):=by
  unfold jak js;have a:=@XB (rung x) (rung y);have b:=@XB (rung y) (rung x);have c:=@qI (rung x) (rung y);have d:=@XB 0 (rung x);have e:=@XB 0 (rung y);have f:=@qI 0 (rung x);have g:=@qI 0 (rung y);rw[val_zero] at d e f g
  cases sgn x<;>cases sgn y<;>simp<;>omega
 unfold Z5;simp only[key.1,key.2]
theorem jiW:double.binade=BIN:=by decide +kernel
theorem jc6:double.infRung=INF:=by decide +kernel
theorem jbz:double.signWeight=SGN:=by decide +kernel
theorem jdO:double.leastPlace=-1074:=by decide +kernel
theorem jay {x:Nat} (h:rung x<INF):double.read x=.number (sgn x) (fmg (rung x)) (-1074+(ex (rung x):Int)):=by
 unfold Format.read;simp only[jiW,jc6,jbz,jdO];have e:x % SGN=rung x:=rfl;by_cases h1:rung x<BIN
 · simp[e,h1,fmg,ex,sgn]
 · simp[e,h1,h,fmg,ex,sgn]
theorem qX {x:Nat} (h:rung x=INF):double.read x=.infinity (sgn x):=by
 unfold Format.read;simp only[jiW,jc6,jbz,jdO];have e:x % SGN=rung x:=rfl;rw[e,h];rw[if_neg (by decide),if_neg (by decide),if_pos rfl];rfl
theorem jab {x:Nat} (h:INF<rung x):double.read x=.nan (sgn x) (rung x-INF):=by
 unfold Format.read;simp only[jiW,jc6,jbz,jdO];have e:x % SGN=rung x:=rfl
 have h1:¬rung x<BIN:=by have:BIN<INF:=by decide
                         omega
 have h2:¬rung x<INF:=by omega
 have h3:¬rung x=INF:=by omega
 simp[e,h1,h2,h3,sgn]
theorem jkl (s:Bool) (m u:Nat):signed s m u=if s then -((m*2 ^ u:Nat):Int) else ((m*2 ^ u:Nat):Int):=by
 unfold signed;simp only[Nat.shiftLeft_eq]
theorem jlV (a b:Int) (k:Int) (hk:0<k):Z5 (a*k) (b*k)=Z5 a b:=by
 have h1:a*k<b*k↔a<b:=Int.mul_lt_mul_right hk;have h2:a*k=b*k↔a=b:=by
  refine⟨fun h=>Int.eq_of_mul_eq_mul_right (by omega) h,fun h=>by rw[h]⟩
 unfold Z5;simp only[h1,h2]
theorem jfo (a b:Int):compare a b=Z5 a b:=rfl
theorem jkC {x y:Nat} (hx:rung x<INF) (hy:rung y<INF):double.order x y=some (Z5 (js x) (js y)):=by
 unfold Format.order;rw[jay hx,jay hy];simp only[Datum.order,Option.some.injEq];rw[jfo,←jmt];have e1:(-1074+(ex (rung x):Int)-min (-1074+(ex (rung x):Int)) (-1074+(ex (rung y):Int))).toNat=ex (rung x)-min (ex (rung x)) (ex (rung y)):=by omega
 have e2:(-1074+(ex (rung y):Int)-min (-1074+(ex (rung x):Int)) (-1074+(ex (rung y):Int))).toNat=ex (rung y)-min (ex (rung x)) (ex (rung y)):=by omega
 rw[e1,e2,←jlV _ _ ((2 ^ min (ex (rung x)) (ex (rung y)):Nat):Int) (by have:=Nat.two_pow_pos (min (ex (rung x)) (ex (rung y)));omega)];have f:∀z:Nat,min (ex (rung x)) (ex (rung y))≤ex (rung z)→signed (sgn z) (fmg (rung z)) (ex (rung z)-min (ex (rung x)) (ex (rung y)))*((2 ^ min (ex (rung x)) (ex (rung y)):Nat):Int)=jak z:=by
  intro z hz;rw[jkl];have:fmg (rung z)*2 ^ (ex (rung z)-min (ex (rung x)) (ex (rung y)))*2 ^ min (ex (rung x)) (ex (rung y))=val (rung z):=by
   rw[Nat.mul_assoc,←Nat.pow_add,Nat.sub_add_cancel hz];rfl
  unfold jak
  cases sgn z
  · simp only[Bool.false_eq_true,if_false];rw[←Int.natCast_mul,this]
  · simp only[if_true];rw[Int.neg_mul,←Int.natCast_mul,this]
 rw[f x (Nat.min_le_left _ _),f y (Nat.min_le_right _ _)]
theorem jhP {a b:Int} (h:a<b):Z5 a b=.lt:=by unfold Z5;rw[if_pos h]
theorem jhC {a b:Int} (h:b<a):Z5 a b=.gt:=by unfold Z5;rw[if_neg (by omega),if_neg (by omega)]
theorem jfv {x:Nat} (h:rung x<INF):js x<(INF:Int)∧-(INF:Int)<js x:=by
 unfold js;split<;>omega
theorem jly (x y:Nat):double.order x y=if isNaN x||isNaN y then none else some (Z5 (js x) (js y)):=by
 unfold isNaN;rcases Nat.lt_trichotomy (rung x) INF with hx | hx | hx
 · rcases Nat.lt_trichotomy (rung y) INF with hy | hy | hy
   · rw[jkC hx hy,if_neg];simp only[Bool.or_eq_true,decide_eq_true_eq];omega
   · have hs:=jfv hx;unfold Format.order;rw[jay hx,qX hy,if_neg (by simp only[Bool.or_eq_true,decide_eq_true_eq];omega)];simp only[Datum.order,Option.some.injEq];have:js y=if sgn y then -(INF:Int) else INF:=by unfold js;rw[hy]
     rw[this];clear this
     cases sgn y
     · simp only[Bool.false_eq_true,if_false];rw[jhP (by omega)]
     · simp only[if_true];rw[jhC (by omega)]
   · unfold Format.order;rw[jab hy,if_pos (by simp only[Bool.or_eq_true,decide_eq_true_eq];omega)]
     cases double.read x<;>rfl
 · rcases Nat.lt_trichotomy (rung y) INF with hy | hy | hy
   · have hs:=jfv hy;unfold Format.order;rw[jay hy,qX hx,if_neg (by simp only[Bool.or_eq_true,decide_eq_true_eq];omega)];simp only[Datum.order,Option.some.injEq];have:js x=if sgn x then -(INF:Int) else INF:=by unfold js;rw[hx]
     rw[this];clear this
     cases sgn x
     · simp only[Bool.false_eq_true,if_false];rw[jhC (by omega)]
     · simp only[if_true];rw[jhP (by omega)]
   · unfold Format.order;rw[qX hx,qX hy,if_neg (by simp only[Bool.or_eq_true,decide_eq_true_eq];omega)];simp only[Datum.order,Option.some.injEq];have e1:js x=if sgn x then -(INF:Int) else INF:=by unfold js;rw[hx]
     have e2:js y=if sgn y then -(INF:Int) else INF:=by unfold js;rw[hy]
     rw[e1,e2]
     cases sgn x<;>cases sgn y<;>decide +kernel
   · unfold Format.order;rw[jab hy,if_pos (by simp only[Bool.or_eq_true,decide_eq_true_eq];omega)]
     cases double.read x<;>rfl
 · unfold Format.order;rw[jab hx,if_pos (by simp only[Bool.or_eq_true,decide_eq_true_eq];omega)];rfl
def cls (x:Nat):Int:=if isNaN x then 6 else if js x=-INF then 0 else if js x=INF then 5 else if js x<0 then 1 else if 0<js x then 4 else if sgn x then 2 else 3
def key (x:Nat):Int:=if isNaN x then SGN else if sgn x then -(rung x:Int)-1 else rung x
def cp (x y:Nat):Int:=if key x<key y then -1 else if key x=key y then 0 else 1
theorem jfM (x:Nat):rung (x ^^^ 2 ^ 63)=rung x:=by
 have h:=Nat.xor_mod_two_pow (a:=x) (b:=2 ^ 63) (n:=63);rw[Nat.mod_self,Nat.xor_zero] at h;exact h
theorem jnr (x:Nat):sgn (x ^^^ 2 ^ 63)=!sgn x:=by
 have h:=Nat.xor_div_two_pow (a:=x) (b:=2 ^ 63) (n:=63);unfold sgn;rw[show SGN=2 ^ 63 from rfl,h,Nat.div_self (Nat.two_pow_pos 63)];have h2:=Nat.xor_mod_two_pow (a:=x / 2 ^ 63) (b:=1) (n:=1);rw[Nat.pow_one] at h2;rw[h2];rcases Nat.mod_two_eq_zero_or_one (x / 2 ^ 63) with g | g
 · rw[g];rfl
 · rw[g];rfl
theorem jkB (x:Nat):isNaN (x ^^^ 2 ^ 63)=isNaN x:=by unfold isNaN;rw[jfM]
theorem jjN (x:Nat):js (x ^^^ 2 ^ 63)=-js x:=by
 unfold js;rw[jfM,jnr];cases sgn x<;>simp
theorem jnY:((SGN:Nat):Int)=9223372036854775808:=rfl
theorem jfq:((INF:Nat):Int)=9218868437227405312:=rfl
theorem jhi (x:Nat):isNaN x=true↔INF<rung x:=by unfold isNaN;simp
theorem Xa (x:Nat):isNaN x=false↔rung x≤INF:=by unfold isNaN;simp
theorem ZI (x:Nat):(sgn x=true∧js x=-(rung x:Int))∨(sgn x=false∧js x=rung x):=by
 unfold js;cases sgn x<;>simp
theorem jbt (x:Nat):rung x<SGN:=Nat.mod_lt _ (by decide)
theorem jmw {x y:Nat} (h:cls x<cls y):cp x y=-1:=by
 have hx:=ZI x;have hy:=ZI y;have nx:=Xa x;have ny:=Xa y;have lx:=jbt x;have ly:=jbt y;have eS:=jnY;have eI:=jfq;unfold cp;rw[if_pos];unfold cls at h;unfold key
 cases hn:isNaN x<;>cases hm:isNaN y<;>simp only[hn,hm,Bool.false_eq_true,if_false,if_true,true_iff,false_iff,reduceCtorEq] at*<;>rcases hx with ⟨hx1,hx2⟩ | ⟨hx1,hx2⟩<;>rcases hy with ⟨hy1,hy2⟩ | ⟨hy1,hy2⟩<;>simp only[hx1,hy1,Bool.false_eq_true,if_false,if_true] at*<;>omega
theorem jnf (x y:Nat):cp y x=-cp x y:=by
 unfold cp;omega
theorem jom {x y:Nat} (h:cls y<cls x):cp x y=1:=by
 have:=jmw h;rw[jnf] at this;omega
theorem jod {x y:Nat} (h:cls x=cls y) (hn:isNaN x=false):isNaN y=false∧cp x y=if js x<js y then -1 else if js x=js y then 0 else 1:=by
 have hx:=ZI x;have hy:=ZI y;have nx:=Xa x;have ny:=Xa y;have lx:=jbt x;have ly:=jbt y;have eS:=jnY;have eI:=jfq;unfold cp;unfold cls at h;unfold key
 cases hm:isNaN y<;>simp only[hn,hm,Bool.false_eq_true,if_false,if_true,true_iff,false_iff,reduceCtorEq] at*<;>rcases hx with ⟨hx1,hx2⟩ | ⟨hx1,hx2⟩<;>rcases hy with ⟨hy1,hy2⟩ | ⟨hy1,hy2⟩<;>simp only[hx1,hy1,Bool.false_eq_true,if_false,if_true] at*<;>first | omega | (refine⟨trivial,?_⟩;omega)
theorem jnw {x y:Nat} (h:cls x=cls y) (hn:isNaN x=true):isNaN y=true∧cp x y=0:=by
 have hy:isNaN y=true:=by
  unfold cls at h
  cases hm:isNaN y
  · simp only[hn,hm,Bool.false_eq_true,if_false,if_true] at h;omega
  · rfl
 refine⟨hy,?_⟩;unfold cp key;simp[hn,hy]
theorem Kept.oneB (w:World) (c:Array Value) (t:TypeId):Kept w (w.alloc (.cells c t)):=(Below.refl _ _).alloc (Nat.le_refl _) _
theorem jaP (x y:Nat):FloatKind.f64.format.order x y=if isNaN x||isNaN y then none else some (Z5 (js x) (js y)):=jly x y
theorem jfp (x:Nat):(FloatKind.f64.format.order x x != some .eq)=isNaN x:=by
 rw[jaP];cases isNaN x<;>simp[Z5]
theorem jfh (x y:Nat):(FloatKind.f64.format.order x y==some .lt)=(!isNaN x&&!isNaN y&&decide (js x<js y)):=by
 rw[jaP];unfold Z5;cases isNaN x<;>cases isNaN y<;>simp<;>split<;>simp_all<;>first | omega | (split<;>simp_all<;>omega)
theorem jaR (x y:Nat):(FloatKind.f64.format.order x y==some .gt)=(!isNaN x&&!isNaN y&&decide (js y<js x)):=by
 rw[jaP];unfold Z5;cases isNaN x<;>cases isNaN y<;>simp<;>split<;>simp_all<;>first | omega | (split<;>simp_all<;>omega)
theorem Xy:js 0=0∧isNaN 0=false∧sgn 0=false∧rung 0=0:=by decide +kernel
theorem XZ:js 9218868437227405311=9218868437227405311∧isNaN 9218868437227405311=false:=by decide +kernel
theorem jl7 {P:Program} (k:FloatKind) (b:Nat) (w:World):(Op.unary .neg (.float k b)).run P w=.ok (.float k (Op.negFloat k b)) w:=rfl
theorem jov (x:Nat):Op.negFloat .f64 x=x ^^^ 2 ^ 63:=rfl
theorem ZW (x:Nat) (w:World):Calls Tryz.prog 306 #[.float .f64 x] w fun e w'=>e=.returned (.bool (isNaN x))∧w=w':=by
 have h:=jfp x;go_enter Tryz.func306,Tryz.ntmps306;go_wp2;go_ret;exact⟨rfl,rfl⟩
theorem YI (x:Nat) (w:World) (hx:isNaN x=false):Calls Tryz.prog 307 #[.float .f64 x,.int .i64 (-1)] w fun e w'=>e=.returned (.bool (decide (js x=-9218868437227405312)))∧w=w':=by
 have h:(FloatKind.f64.format.order (Op.negFloat .f64 x) 9218868437227405311==some .gt)=decide (js x=-9218868437227405312):=by
  rw[jaR,jov,jkB,hx,XZ.2,XZ.1,jjN];have h1:=ZI x;have h2:=(Xa x).1 hx;have eI:=jfq;simp only[Bool.not_false,Bool.true_and,decide_eq_decide];omega
 have r:=@jl7 Tryz.prog .f64 x;generalize Op.negFloat .f64 x=y at h r
 go_enter Tryz.func307,Tryz.ntmps307;go_wp2;go_ret;exact⟨rfl,rfl⟩
theorem YU (x:Nat) (w:World) (hx:isNaN x=false):Calls Tryz.prog 307 #[.float .f64 x,.int .i64 1] w fun e w'=>e=.returned (.bool (decide (js x=9218868437227405312)))∧w=w':=by
 have h:(FloatKind.f64.format.order x 9218868437227405311==some .gt)=decide (js x=9218868437227405312):=by
  rw[jaR,hx,XZ.2,XZ.1];have h1:=ZI x;have h2:=(Xa x).1 hx;have eI:=jfq;simp only[Bool.not_false,Bool.true_and,decide_eq_decide];omega
 go_enter Tryz.func307,Tryz.ntmps307;go_wp2;go_ret;exact⟨rfl,rfl⟩
theorem jlQ (x:Nat) (w:World):(callFunc 315 #[.float .f64 x]).run Tryz.prog w=.ok (.value (.int .u64 x)) w:=by
 rw[run_callFunc_extern Tryz.func315 (by kernel_rfl) (by kernel_rfl) (by kernel_rfl) (e:=Extern.MathFloatBits.float64bits) (by kernel_rfl)];rfl
theorem jbI (x:Nat) (w:World):Calls Tryz.prog 308 #[.float .f64 x] w fun e w'=>e=.returned (.bool (sgn x))∧w=w':=by
 have hb:=jlQ x;have hs:decide (wrap64 (x:Int)<0)=sgn x:=by
  unfold wrap64 sgn;rw[show SGN=9223372036854775808 from rfl];rcases Nat.mod_two_eq_zero_or_one (x / 9223372036854775808) with h | h
  · rw[h];simp;omega
  · rw[h];simp;omega
 go_enter Tryz.func308,Tryz.ntmps308;go_wp2;go_ret;exact⟨rfl,rfl⟩
theorem jdV (x:Nat) (w:World):Calls Tryz.prog 293 #[.float .f64 x] w fun e w'=>e=.returned (.int .i64 (cls x))∧w=w':=by
 have eI:=jfq
 cases hx:isNaN x with
 | true =>
  have hc:cls x=6:=by unfold cls;rw[hx];rfl
  rw[hc];go_enter Tryz.func293,Tryz.ntmps293;go_wp2_with fail
  refine(ZW _ _).mono ?_;rintro e w' ⟨rfl,rfl⟩;go_wp2_with fail
  go_ret;exact⟨rfl,rfl⟩
 | false =>
  have h1:(FloatKind.f64.format.order x 0==some .lt)=decide (js x<0):=by rw[jfh,hx,Xy.2.1,Xy.1];simp
  have h2:(FloatKind.f64.format.order x 0==some .gt)=decide (0<js x):=by rw[jaR,hx,Xy.2.1,Xy.1];simp
  have hc:cls x=if js x=-9218868437227405312 then 0 else if js x=9218868437227405312 then 5 else if js x<0 then 1 else if 0<js x then 4 else if sgn x then 2 else 3:=by unfold cls;rw[hx];rfl
  rw[hc];clear hc eI;by_cases a0:js x=-9218868437227405312
  · rw[if_pos a0];go_enter Tryz.func293,Tryz.ntmps293;go_wp2_with fail
    refine(ZW _ _).mono ?_;rintro e w' ⟨rfl,rfl⟩;go_wp2_with fail
    refine(YI _ _ hx).mono ?_;rintro e w' ⟨rfl,rfl⟩;go_wp2_with fail
    go_ret;exact⟨rfl,rfl⟩
  · rw[if_neg a0];by_cases a1:js x=9218868437227405312
    · rw[if_pos a1];go_enter Tryz.func293,Tryz.ntmps293;go_wp2_with fail
      refine(ZW _ _).mono ?_;rintro e w' ⟨rfl,rfl⟩;go_wp2_with fail
      refine(YI _ _ hx).mono ?_;rintro e w' ⟨rfl,rfl⟩;go_wp2_with fail
      refine(YU _ _ hx).mono ?_;rintro e w' ⟨rfl,rfl⟩;go_wp2_with fail
      go_ret;exact⟨rfl,rfl⟩
    · rw[if_neg a1];by_cases a2:js x<0
      · rw[if_pos a2];go_enter Tryz.func293,Tryz.ntmps293;go_wp2_with fail
        refine(ZW _ _).mono ?_;rintro e w' ⟨rfl,rfl⟩;go_wp2_with fail
        refine(YI _ _ hx).mono ?_;rintro e w' ⟨rfl,rfl⟩;go_wp2_with fail
        refine(YU _ _ hx).mono ?_;rintro e w' ⟨rfl,rfl⟩;go_wp2_with fail
        go_ret;exact⟨rfl,rfl⟩
      · rw[if_neg a2];by_cases a3:0<js x
        · rw[if_pos a3];go_enter Tryz.func293,Tryz.ntmps293;go_wp2_with fail
          refine(ZW _ _).mono ?_;rintro e w' ⟨rfl,rfl⟩;go_wp2_with fail
          refine(YI _ _ hx).mono ?_;rintro e w' ⟨rfl,rfl⟩;go_wp2_with fail
          refine(YU _ _ hx).mono ?_;rintro e w' ⟨rfl,rfl⟩;go_wp2_with fail
          go_ret;exact⟨rfl,rfl⟩
        · rw[if_neg a3]
          cases hs:sgn x with
          | true =>
           go_enter Tryz.func293,Tryz.ntmps293;go_wp2_with fail
           refine(ZW _ _).mono ?_;rintro e w' ⟨rfl,rfl⟩;go_wp2_with fail
           refine(YI _ _ hx).mono ?_;rintro e w' ⟨rfl,rfl⟩;go_wp2_with fail
           refine(YU _ _ hx).mono ?_;rintro e w' ⟨rfl,rfl⟩;go_wp2_with fail
           refine(jbI _ _).mono ?_;rintro e w' ⟨rfl,rfl⟩;go_wp2_with fail
           go_ret;exact⟨rfl,rfl⟩
          | false =>
           go_enter Tryz.func293,Tryz.ntmps293;go_wp2_with fail
           refine(ZW _ _).mono ?_;rintro e w' ⟨rfl,rfl⟩;go_wp2_with fail
           refine(YI _ _ hx).mono ?_;rintro e w' ⟨rfl,rfl⟩;go_wp2_with fail
           refine(YU _ _ hx).mono ?_;rintro e w' ⟨rfl,rfl⟩;go_wp2_with fail
           refine(jbI _ _).mono ?_;rintro e w' ⟨rfl,rfl⟩;go_wp2_with fail
           go_ret;exact⟨rfl,rfl⟩
theorem jbi (x:Int) (w:World):Calls Tryz.prog 120 #[.int .i64 x] w fun e w'=>e=.returned (.bool false)∧w=w':=by
 go_enter Tryz.func120,Tryz.ntmps120;go_wp2;go_ret;exact⟨rfl,rfl⟩
theorem Jw (x:Nat) (w:World):Calls Tryz.prog 309 #[.float .f64 x] w fun e w'=>e=.returned (.bool (isNaN x))∧w=w':=by
 have h:=jfp x;go_enter Tryz.func309,Tryz.ntmps309;go_wp2;go_ret;exact⟨rfl,rfl⟩
theorem jnq (x y:Int) (w:World):Calls Tryz.prog 72 #[.int .i64 x,.int .i64 y] w fun e w'=>e=.returned (.int .i64 (if x<y then -1 else if x=y then 0 else 1))∧w=w':=by
 by_cases h1:x<y
 · rw[if_pos h1];go_enter Tryz.func72,Tryz.ntmps72;go_wp2_with (go_at_call 120;refine(jbi _ _).mono ?_;rintro e w' ⟨rfl,rfl⟩)
   go_ret;exact⟨rfl,rfl⟩
 · rw[if_neg h1];by_cases h2:x=y
   · rw[if_pos h2];have h3:¬y<x:=by omega
     go_enter Tryz.func72,Tryz.ntmps72;go_wp2_with (go_at_call 120;refine(jbi _ _).mono ?_;rintro e w' ⟨rfl,rfl⟩)
     go_ret;exact⟨rfl,rfl⟩
   · rw[if_neg h2];have h3:y<x:=by omega
     go_enter Tryz.func72,Tryz.ntmps72;go_wp2_with (go_at_call 120;refine(jbi _ _).mono ?_;rintro e w' ⟨rfl,rfl⟩)
     go_ret;exact⟨rfl,rfl⟩
theorem jd3 (x y:Nat) (w:World) (h:cls x=cls y):Calls Tryz.prog 294 #[.float .f64 x,.float .f64 y] w fun e w'=>e=.returned (.int .i64 (cp x y))∧w=w':=by
 cases hx:isNaN x with
 | true =>
  obtain⟨hy,hc⟩:=jnw h hx;rw[hc];clear hc h;go_enter Tryz.func294,Tryz.ntmps294;go_wp2_with (go_at_call 309;refine(Jw _ _).mono ?_;rintro e w' ⟨rfl,rfl⟩)
  go_ret;exact⟨rfl,rfl⟩
 | false =>
  obtain⟨hy,hc⟩:=jod h hx;rw[hc];clear hc h;have o1:(FloatKind.f64.format.order x y==some .lt)=decide (js x<js y):=by rw[jfh,hx,hy];simp
  have o2:(FloatKind.f64.format.order x y==some .gt)=decide (js y<js x):=by rw[jaR,hx,hy];simp
  by_cases h1:js x<js y
  · rw[if_pos h1];go_enter Tryz.func294,Tryz.ntmps294;go_wp2_with (go_at_call 309;refine(Jw _ _).mono ?_;rintro e w' ⟨rfl,rfl⟩)
    go_ret;exact⟨rfl,rfl⟩
  · rw[if_neg h1];by_cases h2:js x=js y
    · rw[if_pos h2];have h3:¬js y<js x:=by omega
      go_enter Tryz.func294,Tryz.ntmps294;go_wp2_with (go_at_call 309;refine(Jw _ _).mono ?_;rintro e w' ⟨rfl,rfl⟩)
      go_ret;exact⟨rfl,rfl⟩
    · rw[if_neg h2];have h3:js y<js x:=by omega
      go_enter Tryz.func294,Tryz.ntmps294;go_wp2_with (go_at_call 309;refine(Jw _ _).mono ?_;rintro e w' ⟨rfl,rfl⟩)
      go_ret;exact⟨rfl,rfl⟩
open Go.RowKit Ieee
theorem jhy (x y t:Nat):isNaN ((Question.nanBits .f64 x y).cut t)=true∧(Question.nanBits .f64 x y).cut t<18446744073709551616:=by
 have e:(Question.nanBits .f64 x y).cut t=(t % 2)*9223372036854775808+9218868437227405312+1+(t / 2) % 4503599627370495:=rfl;rw[e,jhi];unfold rung;rw[show SGN=9223372036854775808 from rfl,show INF=9218868437227405312 from rfl];have ha:t % 2<2:=Nat.mod_lt _ (by decide);have hb:(t / 2) % 4503599627370495<4503599627370495:=Nat.mod_lt _ (by decide);generalize t % 2=a at ha ⊢
 generalize (t / 2) % 4503599627370495=b at hb ⊢
 omega
theorem XX (n:Bool) {r:Nat} (h:r≤INF):isNaN (double.word n r)=false∧double.word n r<18446744073709551616∧rung (double.word n r)=r∧sgn (double.word n r)=n:=by
 have eS:SGN=9223372036854775808:=rfl;have eI:INF=9218868437227405312:=rfl;have hr:rung (double.word n r)=r:=by
  unfold rung Format.word;rw[jbz,eS];split<;>omega
 have hs:sgn (double.word n r)=n:=by
  unfold sgn Format.word;rw[jbz,eS]
  cases n
  · rw[if_neg (by simp),show r / 9223372036854775808=0 from by omega];rfl
  · rw[if_pos rfl,show (9223372036854775808+r) / 9223372036854775808=1 from by omega];rfl
 refine⟨by rw[Xa,hr];exact h,?_,hr,hs⟩;unfold Format.word;rw[jbz];split<;>omega
def jh2 (mag:Nat) (place:Int):Nat:=rung (double.nearest false mag place)
theorem XF (n:Bool) (m:Nat) (p:Int):double.nearest n m p=double.word n (jh2 m p)∧jh2 m p≤INF:=by
 have h:∃r,r≤INF∧∀n',double.nearest n' m p=double.word n' r:=by
  by_cases hm:m=0
  · exact⟨0,by decide,fun n'=>by unfold Format.nearest;rw[if_pos hm]⟩
  · unfold Format.nearest;simp only[hm,if_false,jc6];exact⟨min ((max (p+(m.log2:Int)-double.fractionBits) double.leastPlace-double.leastPlace).toNat*double.binade+Toward.even.cut false (m <<< (p-max (p+(m.log2:Int)-double.fractionBits) double.leastPlace).toNat) (max (p+(m.log2:Int)-double.fractionBits) double.leastPlace-p).toNat) INF,Nat.min_le_right _ _,fun n'=>rfl⟩
 obtain⟨r,hr,he⟩:=h;have:jh2 m p=r:=by unfold jh2;rw[he false];exact(XX false hr).2.2.1
 rw[this];exact⟨he n,hr⟩
theorem jb9 {d:Datum} (h:d.isNaN=false):isNaN (double.write d)=false∧double.write d<18446744073709551616:=by
 cases d with
 | number s m p =>
  unfold Format.write;dsimp only;rw[(XF s m p).1];exact⟨(XX s (XF s m p).2).1,(XX s (XF s m p).2).2.1⟩
 | infinity s =>
  unfold Format.write;dsimp only;rw[jc6];exact⟨(XX s (Nat.le_refl _)).1,(XX s (Nat.le_refl _)).2.1⟩
 | nan s t=>cases h
theorem jfs {a b d:Datum} (h:a.sum b=some d):d.isNaN=false:=by
 cases a<;>cases b<;>simp only[Datum.sum] at h<;>first | (cases h;done) | (split at h<;>cases h<;>rfl) | (cases h;rfl)
theorem jeL {k:Nat} {a b d:Datum} (h:a.quotient k b=some d):d.isNaN=false:=by
 cases a<;>cases b<;>simp only[Datum.quotient] at h<;>first | (cases h;done) | (cases h;rfl) | (split at h<;>first | (split at h<;>cases h<;>rfl) | (cases h;rfl))
theorem jfg {x y r:Nat} (h:double.add x y=some r):isNaN r=false∧r<18446744073709551616:=by
 unfold Format.add at h
 cases hs:(double.read x).sum (double.read y) with
 | none=>rw[hs] at h;cases h
 | some d=>rw[hs] at h;cases h;exact jb9 (jfs hs)
theorem jgr {x y r:Nat} (h:double.sub x y=some r):isNaN r=false∧r<18446744073709551616:=by
 unfold Format.sub at h
 cases hs:(double.read x).sum (double.read y).opposite with
 | none=>rw[hs] at h;cases h
 | some d=>rw[hs] at h;cases h;exact jb9 (jfs hs)
theorem jgo {x y r:Nat} (h:double.div x y=some r):isNaN r=false∧r<18446744073709551616:=by
 unfold Format.div at h
 cases hs:(double.read x).quotient (double.fractionBits+2) (double.read y) with
 | none=>rw[hs] at h;cases h
 | some d=>rw[hs] at h;cases h;exact jb9 (jeL hs)
def nrm (x:Nat):Option Nat:=if isNaN x then none else some x
theorem Y0 {x r:Nat}:nrm x=some r↔isNaN x=false∧x=r:=by unfold nrm;cases isNaN x<;>simp
theorem Y9 {x:Nat}:nrm x=none↔isNaN x=true:=by unfold nrm;cases isNaN x<;>simp
theorem jeb {P:Program} (op:BinOp) (f:Nat→Nat→Option Nat) (hop:(op=.add∧f=double.add)∨(op=.sub∧f=double.sub)∨(op=.quo∧f=double.div)) (x y:Nat) (w:World) :
 ∃r n,(∀t,(binOp op t (.float .f64 x) (.float .f64 y)).run P w=.ok (.float .f64 r) (w.drewN n))∧nrm r=f x y∧r<18446744073709551616:=by
 cases h:f x y with
 | some r =>
  refine⟨r,0,fun t=>?_,?_⟩
  · rw[World.drewN_zero];refine run_float_arith w op t .f64 x y r ?_;rcases hop with ⟨rfl,rfl⟩ | ⟨rfl,rfl⟩ | ⟨rfl,rfl⟩<;>exact h
  · rw[Y0];rcases hop with ⟨rfl,rfl⟩ | ⟨rfl,rfl⟩ | ⟨rfl,rfl⟩
    · exact⟨⟨(jfg h).1,rfl⟩,(jfg h).2⟩
    · exact⟨⟨(jgr h).1,rfl⟩,(jgr h).2⟩
    · exact⟨⟨(jgo h).1,rfl⟩,(jgo h).2⟩
 | none =>
  refine⟨(Question.nanBits .f64 x y).cut (w.tape w.drawn (.nanBits .f64 x y)),1,fun t=>?_,Y9.2 (jhy _ _ _).1,(jhy _ _ _).2⟩;have hd:w.drew=w.drewN 1:=rfl;rw[←hd];rcases hop with ⟨rfl,rfl⟩ | ⟨rfl,rfl⟩ | ⟨rfl,rfl⟩
  · have h':FloatKind.f64.format.add x y=none:=h;simp[binOp,Op.floatArith,h',Question.forced]
  · have h':FloatKind.f64.format.sub x y=none:=h;simp[binOp,Op.floatArith,h',Question.forced]
  · have h':FloatKind.f64.format.div x y=none:=h;simp[binOp,Op.floatArith,h',Question.forced]
theorem jm2 {P:Program} (x y:Nat) (w:World):∃r n,(∀t,(binOp .add t (.float .f64 x) (.float .f64 y)).run P w=.ok (.float .f64 r) (w.drewN n))∧nrm r=double.add x y∧r<18446744073709551616:=jeb .add _ (.inl ⟨rfl,rfl⟩) x y w
theorem jhS {P:Program} (x y:Nat) (w:World):∃r n,(∀t,(binOp .quo t (.float .f64 x) (.float .f64 y)).run P w=.ok (.float .f64 r) (w.drewN n))∧nrm r=double.div x y∧r<18446744073709551616:=jeb .quo _ (.inr (.inr ⟨rfl,rfl⟩)) x y w
def RC (x:Nat) (w:World) (e:Ending) (w':World):Prop:=e=.returned (.int .i64 (cls x))∧∃n,w'=w.drewN n
theorem jnF (x y:Int) (w:World) (t:TypeId):Calls Tryz.prog 71 #[.slice (some ⟨w.heap.size,0,none⟩) 2 2] (w.alloc (.cells #[.int .i64 x,.int .i64 y] t))
 fun e w'=>e=.returned (.int .i64 (if x=0 then y else x))∧w.alloc (.cells #[.int .i64 x,.int .i64 y] t)=w':=by
 have c0:(w.alloc (.cells #[.int .i64 x,.int .i64 y] t)).cell? ⟨w.heap.size,0,none⟩=some (.int .i64 x):=by simp
 have c1:(w.alloc (.cells #[.int .i64 x,.int .i64 y] t)).cell? ⟨w.heap.size,1,none⟩=some (.int .i64 y):=by simp
 generalize w.alloc (.cells #[.int .i64 x,.int .i64 y] t)=w1 at c0 c1 ⊢
 generalize w.heap.size=b at c0 c1 ⊢
 by_cases hx:x=0
 · subst hx;rw[if_pos rfl];by_cases hy:y=0
   · subst hy;go_enter Tryz.func71,Tryz.ntmps71;go_wp2;refine wp_loop_rounds 3 ?_;rw[rounds_succ];go_wp2;rw[rounds_succ];go_wp2;rw[rounds_succ];go_wp2;go_ret;exact⟨rfl,rfl⟩
   · go_enter Tryz.func71,Tryz.ntmps71;go_wp2;refine wp_loop_rounds 3 ?_;rw[rounds_succ];go_wp2;rw[rounds_succ];go_wp2;go_ret;exact⟨rfl,rfl⟩
 · rw[if_neg hx];go_enter Tryz.func71,Tryz.ntmps71;go_wp2;refine wp_loop_rounds 3 ?_;rw[rounds_succ];go_wp2;go_ret;exact⟨rfl,rfl⟩
def CP (x y:Nat) (w:World) (e:Ending) (w':World):Prop:=e=.returned (.int .i64 (cp x y))∧∃c t,w'=w.alloc (.cells c t)
theorem CP.kept {x y:Nat} {w:World} {e:Ending} {w':World} (h:CP x y w e w'):e=.returned (.int .i64 (cp x y))∧Kept w w':=by
 obtain⟨rfl,c,t,rfl⟩:=h;exact⟨rfl,Kept.oneB _ _ _⟩
theorem jex (x y:Nat) (w:World):∃c:Int,Calls Tryz.prog 294 #[.float .f64 x,.float .f64 y] w fun e w'=>e=.returned (.int .i64 c)∧w=w':=by
 cases hx:isNaN x with
 | true =>
  cases hy:isNaN y with
  | true=>exact⟨_,jd3 x y w (by unfold cls;rw[hx,hy];rfl)⟩
  | false =>
   refine⟨-1,?_⟩;go_enter Tryz.func294,Tryz.ntmps294;go_wp2_with (go_at_call 309;refine(Jw _ _).mono ?_;rintro e w' ⟨rfl,rfl⟩)
   go_ret;exact⟨rfl,rfl⟩
 | false =>
  cases hy:isNaN y with
  | true =>
   refine⟨1,?_⟩;go_enter Tryz.func294,Tryz.ntmps294;go_wp2_with (go_at_call 309;refine(Jw _ _).mono ?_;rintro e w' ⟨rfl,rfl⟩)
   go_ret;exact⟨rfl,rfl⟩
  | false =>
   have o1:(FloatKind.f64.format.order x y==some .lt)=decide (js x<js y):=by rw[jfh,hx,hy];simp
   have o2:(FloatKind.f64.format.order x y==some .gt)=decide (js y<js x):=by rw[jaR,hx,hy];simp
   by_cases h1:js x<js y
   · refine⟨-1,?_⟩;go_enter Tryz.func294,Tryz.ntmps294;go_wp2_with (go_at_call 309;refine(Jw _ _).mono ?_;rintro e w' ⟨rfl,rfl⟩)
     go_ret;exact⟨rfl,rfl⟩
   · by_cases h2:js y<js x
     · refine⟨1,?_⟩;go_enter Tryz.func294,Tryz.ntmps294;go_wp2_with (go_at_call 309;refine(Jw _ _).mono ?_;rintro e w' ⟨rfl,rfl⟩)
       go_ret;exact⟨rfl,rfl⟩
     · refine⟨0,?_⟩;go_enter Tryz.func294,Tryz.ntmps294;go_wp2_with (go_at_call 309;refine(Jw _ _).mono ?_;rintro e w' ⟨rfl,rfl⟩)
       go_ret;exact⟨rfl,rfl⟩
theorem jbJ (x y:Nat) (w:World):Calls Tryz.prog 276 #[.float .f64 x,.float .f64 y] w (CP x y w):=by
 obtain⟨c2,hc2,he⟩:∃c2:Int,(Calls Tryz.prog 294 #[.float .f64 x,.float .f64 y] w fun e w'=>e=.returned (.int .i64 c2)∧w=w') ∧
  cp x y=if (if cls x<cls y then -1 else if cls x=cls y then 0 else 1:Int)=0 then c2 else (if cls x<cls y then -1 else if cls x=cls y then 0 else 1):=by
  by_cases h2:cls x=cls y
  · refine⟨cp x y,jd3 x y w h2,?_⟩;simp only[h2,Int.lt_irrefl,if_false,if_true]
  · obtain⟨c,hc⟩:=jex x y w;refine⟨c,hc,?_⟩;by_cases h1:cls x<cls y
    · rw[if_pos h1,jmw h1];rfl
    · rw[if_neg h1,if_neg h2,jom (by omega)];rfl
 unfold CP;rw[he];clear he;have hcx:=jdV x w;have hcy:=jdV y w;have hci:=jnq (cls x) (cls y) w;generalize (if cls x<cls y then -1 else if cls x=cls y then 0 else 1:Int)=c1 at hci ⊢
 generalize cls x=kx at hcx hci
 generalize cls y=ky at hcy hci
 have ho:=jnF c1 c2;generalize (if c1=0 then c2 else c1)=r at ho ⊢
 have HO:=lH ho;clear ho;go_enter Tryz.func276,Tryz.ntmps276;go_wp2_with fail
 refine hcx.mono ?_;rintro e1 w1 ⟨rfl,rfl⟩;go_wp2_with fail
 refine hcy.mono ?_;rintro e1 w1 ⟨rfl,rfl⟩;go_wp2_with fail
 refine hci.mono ?_;rintro e1 w1 ⟨rfl,rfl⟩;go_wp2_with fail
 refine hc2.mono ?_;rintro e1 w1 ⟨rfl,rfl⟩;go_wp2_with fail
 refine(HO.out _ _).mono ?_;rintro e1 w1 ⟨rfl,rfl⟩;go_wp2_with fail
 go_ret;exact⟨rfl,_,_,rfl⟩
def RCP (x y:Nat) (w:World) (e:Ending) (w':World):Prop:=e=.returned (.int .i64 (cp x y))∧∃n,w'=w.drewN n
theorem RCP.kept {x y:Nat} {w:World} {e:Ending} {w':World} (h:RCP x y w e w'):e=.returned (.int .i64 (cp x y))∧Kept w w':=by
 obtain⟨rfl,n,rfl⟩:=h;exact⟨rfl,Kept.drewN _ _⟩
def AL (x y:Nat) (w:World) (e:Ending) (w':World):Prop:=e=.returned (.bool (decide (cp x y=0)))∧∃n,w'=w.drewN n
theorem AL.kept {x y:Nat} {w:World} {e:Ending} {w':World} (h:AL x y w e w'):e=.returned (.bool (decide (cp x y=0)))∧Kept w w':=by
 obtain⟨rfl,n,rfl⟩:=h;exact⟨rfl,Kept.drewN _ _⟩
abbrev TOP:Nat:=18446744073709551616
def jfS (w:World) (a:Option Addr) (len:Nat) (l:List Nat):Prop :=
 l.length=len∧len≤maxLen∧(∀x ∈ l,x<TOP) ∧
  (len=0∨∃b off,a=some ⟨b,off,none⟩∧b<w.heap.size∧∀i,i<len→w.cell? ⟨b,off+i,none⟩=some (.float .f64 (l.getD i 0)))
theorem jfS.kept {w w':World} {a:Option Addr} {len:Nat} {l:List Nat} (h:jfS w a len l) (k:Kept w w'):jfS w' a len l:=by
 obtain⟨h0,h1,h2,h3⟩:=h;refine⟨h0,h1,h2,h3.imp id ?_⟩;rintro ⟨b,off,ha,hb,hc⟩;exact⟨b,off,ha,Nat.lt_of_lt_of_le hb k.size,fun i hi=>(Below.cell k (p:=⟨b,off+i,none⟩) hb).trans (hc i hi)⟩
theorem Kept.alloc {a b:World} (h:Kept a b) (o:Obj):Kept a (b.alloc o):=h.trans ((Below.refl _ _).alloc (Nat.le_refl _) _)
def OF (a b:Int) (w:World) (e:Ending) (w':World):Prop:=∃r n,e=.returned (.float .f64 r)∧w'=w.drewN n∧nrm r=Ieee.double.div (floatOfInt .f64 a) (floatOfInt .f64 b)∧r<TOP
theorem jmr (a b:Int) (w:World):Calls Tryz.prog 296 #[.int .i64 a,.int .i64 b] w (OF a b w):=by
 unfold OF;obtain⟨r,n,hq,hn,hr⟩:=jhS (P:=Tryz.prog) (floatOfInt .f64 a) (floatOfInt .f64 b) w;have HN:=lH hn;clear hn;go_enter Tryz.func296,Tryz.ntmps296;go_wp2;go_ret;exact⟨r,n,rfl,rfl,HN.out,hr⟩
def NN (w:World) (e:Ending) (w':World):Prop:=∃r n,e=.returned (.float .f64 r)∧w'=w.drewN n∧isNaN r=true∧r<TOP
theorem jgk (n:Int) (w:World):(callFunc 311 #[.int .u64 n]).run Tryz.prog w=.ok (.value (.float .f64 n.toNat)) w:=by
 rw[run_callFunc_extern Tryz.func311 (by kernel_rfl) (by kernel_rfl) (by kernel_rfl) (e:=Extern.MathFloatBits.float64frombits) (by kernel_rfl)];rfl
theorem jmP (w:World):Calls Tryz.prog 297 #[] w (NN w):=by
 unfold NN;have h:=jgk 9221120237041090561;go_enter Tryz.func297,Tryz.ntmps297;go_wp2;go_ret;exact⟨_,0,rfl,rfl,by decide +kernel,by decide +kernel⟩
def jfa (s:Option Nat) (x:Nat):Option Nat:=s.bind fun s=>Ieee.double.add s x
def qK (l:List Nat):Nat→Option Nat
 | 0=>some 0
 | k+1=>jfa (qK l k) (l.getD k 0)
def jah (l:List Nat):Option Nat:=if l.length=0 then none else (qK l l.length).bind fun s=>Ieee.double.div s (floatOfInt .f64 l.length)
theorem jaq {x:Nat} (h:isNaN x=true):∃s t,Ieee.double.read x=.nan s t:=⟨_,_,jab ((jhi x).1 h)⟩
theorem jmS {s:Nat} (x:Nat) (h:isNaN s=true):Ieee.double.add s x=none:=by
 obtain⟨a,b,e⟩:=jaq h;unfold Ieee.Format.add;rw[e]
 cases Ieee.double.read x<;>rfl
theorem jmM {s:Nat} (x:Nat) (h:isNaN s=true):Ieee.double.div s x=none:=by
 obtain⟨a,b,e⟩:=jaq h;unfold Ieee.Format.div;rw[e]
 cases Ieee.double.read x<;>rfl
theorem jnW {s x r:Nat} {acc:Option Nat} (hs:nrm s=acc) (hr:nrm r=Ieee.double.add s x):nrm r=jfa acc x:=by
 subst hs;unfold jfa
 cases hn:nrm s with
 | none=>rw[hr,jmS x (Y9.1 hn)];rfl
 | some s'=>obtain⟨_,rfl⟩:=Y0.1 hn;exact hr
theorem jn6 {s x r:Nat} {acc:Option Nat} (hs:nrm s=acc) (hr:nrm r=Ieee.double.div s x):nrm r=acc.bind fun s=>Ieee.double.div s x:=by
 subst hs
 cases hn:nrm s with
 | none=>rw[hr,jmM x (Y9.1 hn)];rfl
 | some s'=>obtain⟨_,rfl⟩:=Y0.1 hn;exact hr
def MEA (l:List Nat) (w:World) (e:Ending) (w':World):Prop:=∃r,e=.returned (.float .f64 r)∧nrm r=jah l∧r<TOP∧Kept w w'
theorem jlL (a:Option Addr) (len cap:Nat) (l:List Nat) (w:World) (hr:jfS w a len l) :
 Calls Tryz.prog 279 #[.slice a len cap] w (MEA l w):=by
 unfold MEA;obtain⟨hl,hm,hx,hc⟩:=hr;unfold maxLen at hm;by_cases h0:len=0
 · subst h0;have hd:jah l=none:=by unfold jah;rw[if_pos hl]
   have HD:=lH hd;have HN:=lH (jmP);clear hd hl hc hx;go_enter Tryz.func279,Tryz.ntmps279;go_wp2_with fail
   refine(HN.out _).mono ?_;rintro e w1 ⟨r,n,rfl,rfl,hn,ht⟩;have H2:=lH hn;clear hn;go_wp2_with fail
   go_ret;exact⟨r,rfl,by rw[HD.out];exact Y9.2 H2.out,ht,Kept.drewN _ _⟩
 rcases hc with rfl | ⟨b,off,rfl,hb,hc⟩
 · omega
 · have hd:jah l=(qK l len).bind fun s=>Ieee.double.div s (floatOfInt .f64 len):=by unfold jah;rw[if_neg (by omega),hl]
   obtain⟨HE,HC,HB⟩:=lH3 hd hc hb;have hb0:((len:Int)==0)=false:=by simp;omega
   clear hc hb hx hl hd;go_enter Tryz.func279,Tryz.ntmps279;go_wp2;go_loopw [3,12] (fun m i wr=>∃k s:Nat,k≤len∧i=.int .i64 k∧m=.float .f64 s∧nrm s=qK l k∧Kept w wr) (fun _ i _=>len-(intOf i).toNat)
   case atStart=>exact⟨0,0,by omega,rfl,rfl,(show nrm 0=some 0 from by decide +kernel),Kept.refl _⟩
   case round =>
    obtain⟨k,s,hk,rfl,rfl,hd,hkw⟩:=hrel;have HD:=lH hd;have HK:=lH hkw;clear hd hkw;by_cases hlt:k<len
    · have c:=(Below.cell HK.out (p:=⟨b,off+k,none⟩) HB.out).trans (HC.out k hlt);obtain⟨x,ex⟩:=eX (l.getD k 0)
      rw[ex] at c;have EX:=lH ex;clear ex;obtain⟨r,n,hq,hn,_⟩:=jm2 (P:=Tryz.prog) s x wr;have HN:=lH hn;clear hn;go_wp2;go_roundw
      case rel=>exact⟨k+1,r,by omega,by go_num,rfl,by rw[qK,EX.out];exact jnW HD.out HN.out,HK.out.trans (Kept.drewN _ _)⟩
      case measure=>simp[intOf];omega
    · have ek:k=len:=by omega
      subst ek;obtain⟨r,n,hq,hn,ht⟩:=jhS (P:=Tryz.prog) s (floatOfInt .f64 k) wr;have HN:=lH hn;clear hn;go_wp2;go_ret;exact⟨r,rfl,by rw[HE.out];exact jn6 HD.out HN.out,ht,HK.out.trans (Kept.drewN _ _)⟩
def Zs (a b:Int):Int:=if a<b then -1 else if b<a then 1 else 0
def Yz (a b:ByteArray):Int:=if ltS a b=true then -1 else if eqS a b=true then 0 else 1
def Xi (n m:Pd):Int:=if Zs m.prio n.prio≠0 then Zs m.prio n.prio else Yz n.name m.name
theorem jf9 (x:Int) (w:World):Calls Tryz.prog 120 #[.int .i64 x] w fun e w'=>e=.returned (.bool false)∧w=w':=by
 have h:(x != x)=false:=by simp
 go_enter Tryz.func120,Tryz.ntmps120;go_wp2;go_ret;exact⟨rfl,rfl⟩
theorem jgj (x:ByteArray) (w:World):Calls Tryz.prog 121 #[.string x] w fun e w'=>e=.returned (.bool false)∧w=w':=by
 have h:(x.toList==x.toList)=true:=by simp
 go_enter Tryz.func121,Tryz.ntmps121;go_wp2;go_ret;exact⟨rfl,rfl⟩
theorem jfl (a b:Int) (w:World):Calls Tryz.prog 72 #[.int .i64 a,.int .i64 b] w fun e w'=>e=.returned (.int .i64 (Zs a b))∧w=w':=by
 have HA:=lH (jf9 a w);have HB:=lH (jf9 b w);by_cases h:a<b
 · have HV:=lH (show Zs a b=-1 by unfold Zs;rw[if_pos h]);go_enter Tryz.func72,Tryz.ntmps72;go_wp2_with fail
   refine HA.out.mono ?_;rintro e w1 ⟨rfl,rfl⟩;go_wp2_with fail
   refine HB.out.mono ?_;rintro e w2 ⟨rfl,rfl⟩;go_wp2;go_ret;exact⟨jb HV.out.symm,rfl⟩
 · have h':b≤a:=by omega
   by_cases g:b<a
   · have HV:=lH (show Zs a b=1 by unfold Zs;rw[if_neg h,if_pos g]);clear h;go_enter Tryz.func72,Tryz.ntmps72;go_wp2_with fail
     refine HA.out.mono ?_;rintro e w1 ⟨rfl,rfl⟩;go_wp2_with fail
     refine HB.out.mono ?_;rintro e w2 ⟨rfl,rfl⟩;go_wp2;go_ret;exact⟨jb HV.out.symm,rfl⟩
   · have g':a≤b:=by omega
     have HV:=lH (show Zs a b=0 by unfold Zs;rw[if_neg h,if_neg g]);clear h g;go_enter Tryz.func72,Tryz.ntmps72;go_wp2_with fail
     refine HA.out.mono ?_;rintro e w1 ⟨rfl,rfl⟩;go_wp2_with fail
     refine HB.out.mono ?_;rintro e w2 ⟨rfl,rfl⟩;go_wp2;go_ret;exact⟨jb HV.out.symm,rfl⟩
theorem jfi (a b:ByteArray) (w:World):Calls Tryz.prog 73 #[.string a,.string b] w fun e w'=>e=.returned (.int .i64 (Yz a b))∧w=w':=by
 have HA:=lH (jgj a w);have HB:=lH (jgj b w)
 cases h:ltS a b with
 | true =>
  have h':Op.bytesLess a.toList b.toList=true:=h;have HV:=lH (show Yz a b=-1 by unfold Yz;rw[if_pos h]);clear h;go_enter Tryz.func73,Tryz.ntmps73;go_wp2_with fail
  refine HA.out.mono ?_;rintro e w1 ⟨rfl,rfl⟩;go_wp2_with fail
  refine HB.out.mono ?_;rintro e w2 ⟨rfl,rfl⟩;go_wp2;go_ret;exact⟨jb HV.out.symm,rfl⟩
 | false =>
  have h':Op.bytesLess a.toList b.toList=false:=h
  cases g:eqS a b with
  | true =>
   have g':(a.toList==b.toList)=true:=g;have HV:=lH (show Yz a b=0 by unfold Yz;rw[if_neg (by rw[h];decide),if_pos g]);clear h g;go_enter Tryz.func73,Tryz.ntmps73;go_wp2_with fail
   refine HA.out.mono ?_;rintro e w1 ⟨rfl,rfl⟩;go_wp2_with fail
   refine HB.out.mono ?_;rintro e w2 ⟨rfl,rfl⟩;go_wp2;go_ret;exact⟨jb HV.out.symm,rfl⟩
  | false =>
   have g':(a.toList==b.toList)=false:=g;have HV:=lH (show Yz a b=1 by unfold Yz;rw[if_neg (by rw[h];decide),if_neg (by rw[g];decide)]);clear h g;go_enter Tryz.func73,Tryz.ntmps73;go_wp2_with fail
   refine HA.out.mono ?_;rintro e w1 ⟨rfl,rfl⟩;go_wp2_with fail
   refine HB.out.mono ?_;rintro e w2 ⟨rfl,rfl⟩;go_wp2;go_ret;exact⟨jb HV.out.symm,rfl⟩
theorem jl5 (W:World) (x y:Int) (T:TypeId) (i:Nat) (z:Int) (hi:([x,y]:List Int)[i]?=some z):(W.alloc (.cells #[.int .i64 x,.int .i64 y] T)).cell? ⟨W.heap.size,i,none⟩=some (.int .i64 z):=by
 refine(jc W (.int .i64 x) [.int .i64 y] T _ (Kept.refl _)).at_ i _ ?_
 match i,hi with
 | 0,h=>simpa using h
 | 1,h=>simpa using h
 | j+2,h=>simp at h
theorem ZO {P:Program} {a:Addr} {m:Mode} {w:World} (k:FloatKind) (n:Nat):(store a (.float k n) m).run P w=stored P w a (.float k n) m:=run_store P w a _ m rfl
def jk9 (a b:Int):Option Nat:=Ieee.double.div (floatOfInt .f64 a) (floatOfInt .f64 b)
def jmk (s x:Option Nat):Option Nat:=s.bind fun s=>x.bind fun x=>Ieee.double.add s x
def jii (l:List (Option Nat)):Nat→Option Nat
 | 0=>some 0
 | k+1=>jmk (jii l k) (l.getD k none)
def jeW (l:List (Option Nat)):Option Nat:=if l.length=0 then none else (jii l l.length).bind fun s=>Ieee.double.div s (floatOfInt .f64 l.length)
theorem jld {x:Nat} (s:Nat) (h:isNaN x=true):Ieee.double.add s x=none:=by
 obtain⟨a,b,e⟩:=jaq h;unfold Ieee.Format.add;rw[e]
 cases Ieee.double.read s<;>rfl
theorem jmi (s:Option Nat) (x:Nat):jfa s x=jmk s (nrm x):=by
 unfold jfa jmk
 cases s with
 | none=>rfl
 | some s =>
  cases hn:nrm x with
  | none=>exact jld s (Y9.1 hn)
  | some y=>obtain⟨-,rfl⟩:=Y0.1 hn;rfl
theorem jeq (l:List Nat):∀k,k≤l.length→qK l k=jii (l.map nrm) k
 | 0,_=>rfl
 | k+1,h=>by
  have hk:k<l.length:=h;rw[qK,jii,jeq l k (by omega),jmi];congr 1
  simp[List.getD,hk]
theorem jk5 (l:List Nat):jah l=jeW (l.map nrm):=by
 unfold jah jeW;rw[List.length_map];split
 · rfl
 · rw[jeq l _ (Nat.le_refl _)]
def jeX (o:Option Nat):Int:=match o with | none=>(SGN:Int) | some x=>key x
theorem jhn (x:Nat):key x=jeX (nrm x):=by
 cases hn:nrm x with
 | none=>have:=Y9.1 hn;simp[jeX,key,this]
 | some y=>obtain⟨-,rfl⟩:=Y0.1 hn;rfl
def kO (pack:Bool) (o:Option Nat):Int:=if pack=true then -jeX o else jeX o
def J8 (s:Clu) (x:ByteArray):Nod:=(jl s.nodes x).getD Nod.zero
def Yl (s:Clu) (x what:ByteArray):Option Nat:=jk9 (Vec.jh (J7 s x).2 what) (Vec.jh (J8 s x).cap what)
def jc1 (s:Clu) (x:ByteArray):Option Nat:=jeW ((J8 s x).cap.map fun a=>Yl s x a.1)
def ZS (s:Clu) (x:ByteArray):Clu:=⟨[J8 s x],onP x s.pods,[]⟩
def qv (s:Clu) (p:Pd) (x:ByteArray):Option Nat:=jc1 (Jv (ZS s x) { p with node:=x }) x
def jby (s:Clu) (p:Pd) (x:ByteArray):Int:=softN p.tols (J8 s x).taints
def JK (pack:Bool) (m n:Int) (x y:Option Nat) (a b:ByteArray):Bool :=
 decide (m<n)||(decide (m=n)&&(decide (kO pack x<kO pack y)||(decide (kO pack x=kO pack y)&&ltS a b)))
def YN (s:Clu) (p:Pd) (pack:Bool) (a b:ByteArray):Bool:=JK pack (jby s p a) (jby s p b) (qv s p a) (qv s p b) a b
abbrev Mk:=ByteArray×Int×Nat
def Y1 (pack:Bool) (a b:Mk):Bool:=JK pack a.2.1 b.2.1 (nrm a.2.2) (nrm b.2.2) a.1 b.1
def cpM (pack:Bool) (x y:Nat):Int:=if pack=true then cp y x else cp x y
def cfM (pack:Bool) (a b:Mk):Int:=if Zs a.2.1 b.2.1≠0 then Zs a.2.1 b.2.1 else if cpM pack a.2.2 b.2.2≠0 then cpM pack a.2.2 b.2.2 else Yz a.1 b.1
theorem Xv {pack:Bool} {m n:Int} {x y:Option Nat} {a b:ByteArray}:JK pack m n x y a b=true↔m<n∨(m=n∧(kO pack x<kO pack y∨(kO pack x=kO pack y∧ltS a b=true))):=by
 unfold JK;simp only[Bool.or_eq_true,Bool.and_eq_true,decide_eq_true_eq]
theorem qV {pack:Bool} {m n:Int} {x y:Option Nat} {a b:ByteArray}:JK pack m n x y a b=false↔¬(m<n∨(m=n∧(kO pack x<kO pack y∨(kO pack x=kO pack y∧ltS a b=true)))):=by
 rw[←Bool.not_eq_true,Xv]
theorem jaF (pack:Bool) (m:Int) (x:Option Nat) (a:ByteArray):JK pack m m x x a a=false:=by
 rw[qV,Vec.YP];simp
theorem XG {pack:Bool} {m n k:Int} {x y z:Option Nat} {a b c:ByteArray} (h:JK pack m n x y a b=true) (g:JK pack n k y z b c=true):JK pack m k x z a c=true:=by
 rw[Xv] at *;rcases h with h | ⟨rfl,h⟩
 · rcases g with g | ⟨rfl,g⟩
   · exact .inl (by omega)
   · exact .inl h
 · rcases g with g | ⟨rfl,g⟩
   · exact .inl g
   · refine .inr ⟨rfl,?_⟩;rcases h with h | ⟨h,h2⟩
     · rcases g with g | ⟨g,g2⟩<;>exact .inl (by omega)
     · rcases g with g | ⟨g,g2⟩
       · exact .inl (by omega)
       · exact .inr ⟨by omega,Vec.Ja h2 g2⟩
theorem jaQ {pack:Bool} {m n:Int} {x y:Option Nat} {a b:ByteArray} (h:JK pack m n x y a b=false) (g:JK pack n m y x b a=false):a=b∧m=n∧kO pack x=kO pack y:=by
 rw[qV] at *;have h1:m=n:=by
  by_cases e:m=n
  · exact e
  · exact absurd (show m<n∨n<m by omega) (fun q=>by rcases q with q | q;exact h (.inl q);exact g (.inl q))
 have h2:kO pack x=kO pack y:=by
  by_cases e:kO pack x=kO pack y
  · exact e
  · exact absurd (show kO pack x<kO pack y∨kO pack y<kO pack x by omega) (fun q=>by
     rcases q with q | q
     · exact h (.inr ⟨h1,.inl q⟩)
     · exact g (.inr ⟨h1.symm,.inl q⟩))
 refine⟨Vec.Y5 (by
  cases e:ltS a b with
  | false=>rfl
  | true=>exact absurd (.inr ⟨h1,.inr ⟨h2,e⟩⟩) h) (by
  cases e:ltS b a with
  | false=>rfl
  | true=>exact absurd (.inr ⟨h1.symm,.inr ⟨h2.symm,e⟩⟩) g),h1,h2⟩
theorem jaE {pack:Bool} {m n k:Int} {x y z:Option Nat} {a b c:ByteArray} (h:JK pack m n x y a b=false) (g:JK pack n k y z b c=false):JK pack m k x z a c=false:=by
 cases e:JK pack m k x z a c with
 | false=>rfl
 | true =>
  cases q:JK pack n m y x b a with
  | true=>rw[XG q e] at g;cases g
  | false =>
   obtain⟨rfl,rfl,hk⟩:=jaQ h q;rw[qV] at g;rw[Xv,hk] at e;exact absurd e g
theorem jiA (a b:Int):(Zs a b<0↔a<b)∧(Zs a b=0↔a=b):=by
 unfold Zs;omega
theorem jjA (pack:Bool) (x y:Nat):(cpM pack x y<0↔kO pack (nrm x)<kO pack (nrm y))∧(cpM pack x y=0↔kO pack (nrm x)=kO pack (nrm y)):=by
 unfold cpM kO cp;rw[jhn x,jhn y]
 cases pack<;>simp<;>omega
theorem jln (a b:ByteArray):Yz a b<0↔ltS a b=true:=by
 unfold Yz
 cases ltS a b<;>cases eqS a b<;>simp
theorem jhM (pack:Bool) (a b:Mk):cfM pack a b<0↔Y1 pack a b=true:=by
 obtain⟨h1,h2⟩:=jiA a.2.1 b.2.1;obtain⟨h3,h4⟩:=jjA pack a.2.2 b.2.2;have h5:=jln a.1 b.1;unfold Y1;rw[Xv];unfold cfM;by_cases e:Zs a.2.1 b.2.1=0
 · rw[if_neg (by simpa using e)];have e':=h2.1 e;by_cases f:cpM pack a.2.2 b.2.2=0
   · rw[if_neg (by simpa using f),h5];have f':=h4.1 f;constructor
     · exact fun h=>.inr ⟨e',.inr ⟨f',h⟩⟩
     · rintro (h | ⟨-,h | ⟨-,h⟩⟩)
       · omega
       · omega
       · exact h
   · rw[if_pos f,h3];constructor
     · exact fun h=>.inr ⟨e',.inl h⟩
     · rintro (h | ⟨-,h | ⟨h,-⟩⟩)
       · omega
       · exact h
       · exact absurd (h4.2 h) f
 · rw[if_pos e,h1];constructor
   · exact fun h=>.inl h
   · rintro (h | ⟨h,-⟩)
     · exact h
     · exact absurd (h2.2 h) e
def qo (s:Clu) (p:Pd) (pack:Bool) (l:List ByteArray):Prop:=l.Perm (zN s p s.nodes)∧l.Pairwise fun a b=>YN s p pack b a=false
theorem jfZ {s:Clu} {p:Pd} {pack:Bool} {a b:ByteArray} (h:YN s p pack a b=false) (g:YN s p pack b a=false):a=b:=(jaQ h g).1
theorem qo.unique {s:Clu} {p:Pd} {pack:Bool} {l m:List ByteArray} (h:qo s p pack l) (g:qo s p pack m):l=m :=
 List.Perm.eq_of_pairwise (fun a b _ _ h g=>jfZ g h) h.2 g.2 (h.1.trans g.1.symm)
theorem jdd (n m:Pd):Xi n m<0↔(m.prio<n.prio∨(m.prio=n.prio∧ltS n.name m.name=true)):=by
 unfold Xi Zs Yz;by_cases h:m.prio<n.prio
 · rw[if_pos h,if_pos (by decide)];exact⟨fun _=>.inl h,fun _=>by decide⟩
 · by_cases g:n.prio<m.prio
   · rw[if_neg h,if_pos g,if_pos (by decide)];exact⟨fun q=>absurd q (by decide),fun q=>by omega⟩
   · rw[if_neg h,if_neg g,if_neg (by decide)];have e:m.prio=n.prio:=by omega
     cases q:ltS n.name m.name with
     | true=>rw[if_pos rfl];exact⟨fun _=>.inr ⟨e,rfl⟩,fun _=>by decide⟩
     | false =>
      rw[if_neg (by decide)];refine⟨fun q2=>?_,fun q2=>?_⟩
      · split at q2<;>exact absurd q2 (by decide)
      · rcases q2 with q2 | ⟨_,q2⟩
        · omega
        · cases q2
theorem je3 {a b c:Pd} (h:Xi a b<0) (g:Xi b c<0):Xi a c<0:=by
 rw[jdd] at h g ⊢;rcases h with h | ⟨h1,h2⟩
 · rcases g with g | ⟨g1,g2⟩
   · exact .inl (by omega)
   · exact .inl (by omega)
 · rcases g with g | ⟨g1,g2⟩
   · exact .inl (by omega)
   · exact .inr ⟨by omega,Vec.Ja h2 g2⟩
def jaX (d:Array Value):Nat→List Value→Array Value
 | _,[]=>d
 | k,x::r=>jaX (d.setIfInBounds k x) (k+1) r
theorem JA:∀(xs:List Value) (d:Array Value) (k:Nat),(jaX d k xs).size=d.size
 | [],_,_=>rfl
 | x::r,d,k=>by rw[jaX,JA r];simp
theorem Zj:∀(xs:List Value) (d:Array Value) (k j:Nat),k+xs.length≤d.size→(jaX d k xs)[j]?=if k≤j∧j<k+xs.length then xs[j-k]? else d[j]?
 | [],d,k,j,_=>by rw[jaX,if_neg (by simp only[List.length_nil];omega)]
 | x::r,d,k,j,h=>by
  have hl:k+(r.length+1)≤d.size:=by simpa using h
  rw[jaX,Zj r _ _ _ (by simp;omega)];simp only[List.length_cons];by_cases c1:k+1≤j∧j<k+1+r.length
  · rw[if_pos c1,if_pos (by omega),show j-k=(j-(k+1))+1 by omega,List.getElem?_cons_succ]
  · rw[if_neg c1];by_cases c2:j=k
    · subst c2;rw[if_pos (by omega),Nat.sub_self,List.getElem?_cons_zero,Array.getElem?_setIfInBounds_self_of_lt (by omega)]
    · rw[if_neg (by omega),Array.getElem?_setIfInBounds_ne (by omega)]
theorem Ze:∀(vs:List Value) (g o:Nat) (w:World) (cur:Array Value) (e:TypeId),w.heap[g]?=some (.cells cur e (0,0))→(w.setCells g o vs).heap[g]?=some (.cells (jaX cur o vs) e (0,0))
 | [],_,_,_,_,_,h=>h
 | v::r,g,o,w,cur,e,h=>by
  rw[World.setCells,jaX];exact Ze r g (o+1) _ _ e (heap_setCell_same w g o cur e v h)
theorem Ju {w:World} {B:Nat} {e:TypeId} {s g n cap:Nat} {xs:List Value} (h:w.ownsRow B e s (.slice (some ⟨g,0,none⟩) n cap) n xs) :
 ∃cur,B≤g∧w.heap[g]?=some (.cells cur e (0,0))∧n≤cap∧cap≤maxLen∧cur.size=cap*s∧cur.toList.take (n*s)=xs∧xs.length=n*s:=by
 obtain⟨hl,h⟩:=h;rcases h with ⟨h0,_⟩ | ⟨g2,cap2,cur,h0,hb,hg,hn,hm,hs,ht⟩
 · cases h0
 · cases h0
   exact⟨cur,hb,hg,hn,hm,hs,ht,hl⟩
theorem jgW {cur:Array Value} {m:Nat} {xs:List Value} (hl:xs.length=m) (hm:m≤cur.size) (h:∀j,j<m→cur[j]?=xs[j]?):cur.toList.take m=xs:=by
 apply List.ext_getElem?;intro j;rw[List.getElem?_take];by_cases hj:j<m
 · rw[if_pos hj,Array.getElem?_toList];exact h j hj
 · rw[if_neg hj,List.getElem?_eq_none (by omega)]
theorem qm {cur:Array Value} {m j:Nat} {xs:List Value} (ht:cur.toList.take m=xs) (hj:j<m):cur[j]?=xs[j]?:=by
 rw[←ht,List.getElem?_take,if_pos hj,Array.getElem?_toList]
theorem qx {w:World} {B:Nat} {e:TypeId} {s g n cap:Nat} {xs:List Value} {cur:Array Value} (hB:B≤g) (hg:w.heap[g]?=some (.cells cur e (0,0))) (hn:n≤cap) (hm:cap≤maxLen) (hs:cur.size=cap*s) (hl:xs.length=n*s) (h:∀j,j<n*s→cur[j]?=xs[j]?) :
 w.ownsRow B e s (.slice (some ⟨g,0,none⟩) n cap) n xs :=
 ⟨hl,.inr ⟨g,cap,cur,rfl,hB,hg,hn,hm,hs,jgW hl (by rw[hs];exact Nat.mul_le_mul_right s hn) h⟩⟩
theorem jlr {w:World} {B:Nat} {e:TypeId} {s g n cap o:Nat} {xs vs:List Value} (h:w.ownsRow B e s (.slice (some ⟨g,0,none⟩) n cap) n xs) (ho:o+vs.length≤n*s) :
 (w.setCells g o vs).ownsRow B e s (.slice (some ⟨g,0,none⟩) n cap) n (xs.take o++vs++xs.drop (o+vs.length)):=by
 obtain⟨cur,hB,hg,hn,hm,hs,ht,hl⟩:=Ju h;have hns:n*s≤cap*s:=Nat.mul_le_mul_right s hn;refine qx hB (Ze vs g o w cur e hg) hn hm (by rw[JA];exact hs) (by simp;omega) (fun j hj=>?_);rw[Zj _ _ _ _ (by omega)];by_cases c1:o≤j∧j<o+vs.length
 · rw[if_pos c1,List.append_assoc,List.getElem?_append_right (by simp;omega),List.getElem?_append_left (by simp;omega)];congr 1
   simp;omega
 · rw[if_neg c1,qm ht hj];by_cases c2:j<o
   · rw[List.append_assoc,List.getElem?_append_left (by simp;omega),List.getElem?_take,if_pos c2]
   · rw[List.getElem?_append_right (by simp;omega),List.getElem?_drop];congr 1
     simp;omega
theorem je6 {w:World} {B:Nat} {e:TypeId} {s g n cap i j:Nat} {xs zs:List Value} (h:w.ownsRow B e s (.slice (some ⟨g,0,none⟩) n cap) n xs) (hij:i≤j) (hj:j≤n) (hz:zs.length=(j-i)*s) :
 ((w.setCells g (i*s) (xs.drop (j*s))).setCells g ((i+(n-j))*s) zs).ownsRow B e s (.slice (some ⟨g,0,none⟩) (i+(n-j)) cap) (i+(n-j)) (xs.take (i*s)++xs.drop (j*s)):=by
 obtain⟨cur,hB,hg,hn,hm,hs,ht,hl⟩:=Ju h;have hns:n*s≤cap*s:=Nat.mul_le_mul_right s hn;have his:i*s≤j*s:=Nat.mul_le_mul_right s hij;have hjs:j*s≤n*s:=Nat.mul_le_mul_right s hj;have e1:(i+(n-j))*s=i*s+(n*s-j*s):=by rw[Nat.add_mul,Nat.sub_mul]
 have e2:(j-i)*s=j*s-i*s:=Nat.sub_mul j i s;have hld:(xs.drop (j*s)).length=n*s-j*s:=by rw[List.length_drop,hl]
 refine qx hB (Ze zs g _ _ _ e (Ze _ g (i*s) w cur e hg)) (by omega) hm (by rw[JA,JA];exact hs) (by rw[List.length_append,List.length_take,hld,hl,e1];omega) (fun t htl=>?_);rw[e1] at htl ⊢;rw[Zj _ _ _ _ (by rw[JA,hz,e2];omega),if_neg (by omega),Zj _ _ _ _ (by rw[hld];omega),hld];by_cases c1:t<i*s
 · rw[if_neg (by omega),qm ht (by omega),List.getElem?_append_left (by rw[List.length_take,hl];omega),List.getElem?_take,if_pos c1]
 · rw[if_pos (by omega),List.getElem?_append_right (by rw[List.length_take,hl];omega),List.length_take,hl];congr 1
   omega
theorem jja {w:World} {B:Nat} {e:TypeId} {s g n cap i:Nat} {xs vs:List Value} (h:w.ownsRow B e s (.slice (some ⟨g,0,none⟩) n cap) n xs) (hi:i≤n) (hv:vs.length=s) (hr:n+1≤cap) :
 ((w.setCells g ((i+1)*s) (xs.drop (i*s))).setCells g (i*s) vs).ownsRow B e s (.slice (some ⟨g,0,none⟩) (n+1) cap) (n+1) (xs.take (i*s)++vs++xs.drop (i*s)):=by
 obtain⟨cur,hB,hg,hn,hm,hs,ht,hl⟩:=Ju h;have hns:(n+1)*s≤cap*s:=Nat.mul_le_mul_right s hr;have his:i*s≤n*s:=Nat.mul_le_mul_right s hi;have e0:(n+1)*s=n*s+s:=by rw[Nat.add_mul,Nat.one_mul]
 have e1:(i+1)*s=i*s+s:=by rw[Nat.add_mul,Nat.one_mul]
 have hld:(xs.drop (i*s)).length=n*s-i*s:=by rw[List.length_drop,hl]
 refine qx hB (Ze vs g _ _ _ e (Ze _ g ((i+1)*s) w cur e hg)) hr hm (by rw[JA,JA];exact hs) (by rw[List.length_append,List.length_append,List.length_take,hld,hl,e0];omega) (fun t htl=>?_);rw[e0] at htl;rw[Zj _ _ _ _ (by rw[JA,hv];omega),hv];by_cases c1:t<i*s
 · rw[if_neg (by omega),Zj _ _ _ _ (by rw[hld,e1];omega),if_neg (by omega),qm ht (by omega),List.append_assoc,List.getElem?_append_left (by rw[List.length_take,hl];omega),List.getElem?_take,if_pos c1]
 · by_cases c2:t<i*s+s
   · rw[if_pos (by omega),List.append_assoc,List.getElem?_append_right (by rw[List.length_take,hl];omega),List.getElem?_append_left (by rw[List.length_take,hl,hv];omega),List.length_take,hl];congr 1
     omega
   · rw[if_neg (by omega),Zj _ _ _ _ (by rw[hld,e1];omega),hld,e1,if_pos (by omega),List.getElem?_append_right (by rw[List.length_append,List.length_take,hl,hv];omega),List.length_append,List.length_take,hl,hv];congr 1
     omega
theorem Yy (w:World) (dT sT ty elem:TypeId) (i0:TypeInfo) (b o dLen dCap:Nat) (a:Addr) (sLen sCap:Nat) (cs:List Value)
 (hu:Tryz.prog.underlying dT=some (.slice elem)) (hi:Tryz.prog.info? elem=some i0) (hn:cs.length=Nat.min sLen dLen*i0.size)
 (hsrc:∀j v,cs[j]?=some v→w.cell? (a.add j)=some v) (hc:∀j,j<cs.length→(w.cell? ⟨b,o+j,none⟩).isSome=true) (hf:∀j,j<cs.length→w.frozen? ⟨b,o+j,none⟩=false) (h1:∀v ∈ cs,v.oneCell'=true) :
 (Builtin.copy_ #[dT,sT] ty #[.slice (some ⟨b,o,none⟩) dLen dCap,.slice (some a) sLen sCap]).run Tryz.prog w=.ok (goInt (Nat.min sLen dLen)) (w.setCells b o cs):=by
 have hl:=run_loadCells_list (P:=Tryz.prog) w a cs hsrc;have hst:=run_storeCells_cells (P:=Tryz.prog) b o cs 0 w (by simpa using hc) (by simpa using hf) h1;simp[Builtin.copy_,run_underlying hu,Builtin.lenOf,Builtin.firstCells,sizeOf,typeInfo,hi,←hn,hl,hst]
theorem qC (w:World) (t e ty:TypeId) (i0:TypeInfo) (z:Value) (ht:Tryz.prog.underlying t=some (.slice e)) (hi:Tryz.prog.info? e=some i0) (hz:i0.zero=some z) (b o n c:Nat) (hn:0<n) (h1:∀v ∈ (Builtin.zeroCells z.cells n).toList,v.oneCell'=true)
 (hc:∀j,j<(Builtin.zeroCells z.cells n).size→(w.cell? ⟨b,o+j,none⟩).isSome=true) (hf:∀j,j<(Builtin.zeroCells z.cells n).size→w.frozen? ⟨b,o+j,none⟩=false) :
 (Builtin.clear_ #[t] ty #[.slice (some ⟨b,o,none⟩) n c]).run Tryz.prog w=.ok (.tuple #[]) (w.setCells b o (Builtin.zeroCells z.cells n).toList):=by
 have hst:=run_storeCells_cells (P:=Tryz.prog) b o (Builtin.zeroCells z.cells n).toList 0 w (by simpa using hc) (by simpa using hf) h1;simp only[Nat.add_zero] at hst;obtain⟨m,rfl⟩:∃m,n=m+1:=⟨n-1,by omega⟩
 simp[Builtin.clear_,run_underlying ht,zeroValue,typeInfo,hi,hz,hst]
end Go.Proofs.YtibepooajeakfaaGreat
