/- C. -/
import Derived.Test.YtmlgobiifebjkabGreatG0
import Derived.Test.YtmlgobiifebjkabGreatG1
import Derived.Test.YtmlgobiifebjkabGreatG2
import Derived.Test.YtmlgobiifebjkabGreatG3
import Derived.Lib.AppendZerosOnto
import Derived.Lib.Overlaps
import Derived.Sort.KeysCollected
import Derived.Sort.MapsRangeIn
set_option linter.unusedVariables false
set_option maxRecDepth 100000
set_option maxHeartbeats 25600000
namespace Go.Proofs.YtmlgobiifebjkabGreat
open Go.RowKit
def qH (l:List Pd) (x:ByteArray):Option Pd:=l.find? fun n=>eqS n.name x
def zI:Option ByteArray→List Pd→Int
 | _,[]=>0
 | prev,n::t=>if JB n≠0 then JB n else if Vec.jM prev n.name=true then 13 else zI (some n.name) t
def zi (l:List Pd):Int:=if 128<l.length then 4 else zI none l
def Yz (l:List Pd) (k:Nat):Option ByteArray:=if k=0 then none else (l[k-1]?).map Pd.name
theorem jga {l:List Pd} {k:Nat} (h:k=0) (s:ByteArray):Vec.jM (Yz l k) s=false:=by unfold Yz;rw[if_pos h];rfl
theorem jge {l:List Pd} {k:Nat} {n:Pd} (h:¬k=0) (hn:l[k-1]?=some n) (s:ByteArray):Vec.jM (Yz l k) s=leS s n.name:=by unfold Yz;rw[if_neg h,hn];rfl
theorem jf9 {l:List Pd} {k:Nat} {n:Pd} (hn:l[k]?=some n):Yz l (k+1)=some n.name:=by unfold Yz;rw[if_neg (by omega),Nat.add_sub_cancel,hn];rfl
theorem jbk {p:Option ByteArray} {n:Pd} {t:List Pd} (h:JB n≠0):zI p (n::t)=JB n:=by rw[zI,if_pos h]
theorem jad {p:Option ByteArray} {n:Pd} {t:List Pd} (h:JB n=0) (b:Vec.jM p n.name=true):zI p (n::t)=13:=by rw[zI,if_neg (by rw[h];decide),if_pos b]
theorem qe {p:Option ByteArray} {n:Pd} {t:List Pd} (h:JB n=0) (b:Vec.jM p n.name=false):zI p (n::t)=zI (some n.name) t:=by rw[zI,if_neg (by rw[h];decide),if_neg (by rw[b];decide)]
def zF:Option ByteArray→List Bd→Int
 | _,[]=>0
 | prev,n::t=>if J8 n≠0 then J8 n else if Vec.jM prev n.name=true then 13 else zF (some n.name) t
def zn (l:List Bd):Int:=if 8<l.length then 4 else zF none l
def Yt (l:List Bd) (k:Nat):Option ByteArray:=if k=0 then none else (l[k-1]?).map Bd.name
theorem jgd {l:List Bd} {k:Nat} (h:k=0) (s:ByteArray):Vec.jM (Yt l k) s=false:=by unfold Yt;rw[if_pos h];rfl
theorem jfE {l:List Bd} {k:Nat} {n:Bd} (h:¬k=0) (hn:l[k-1]?=some n) (s:ByteArray):Vec.jM (Yt l k) s=leS s n.name:=by unfold Yt;rw[if_neg h,hn];rfl
theorem jfP {l:List Bd} {k:Nat} {n:Bd} (hn:l[k]?=some n):Yt l (k+1)=some n.name:=by unfold Yt;rw[if_neg (by omega),Nat.add_sub_cancel,hn];rfl
theorem jjJ {p:Option ByteArray} {n:Bd} {t:List Bd} (h:J8 n≠0):zF p (n::t)=J8 n:=by rw[zF,if_pos h]
theorem jfM {p:Option ByteArray} {n:Bd} {t:List Bd} (h:J8 n=0) (b:Vec.jM p n.name=true):zF p (n::t)=13:=by rw[zF,if_neg (by rw[h];decide),if_pos b]
theorem jb0 {p:Option ByteArray} {n:Bd} {t:List Bd} (h:J8 n=0) (b:Vec.jM p n.name=false):zF p (n::t)=zF (some n.name) t:=by rw[zF,if_neg (by rw[h];decide),if_neg (by rw[b];decide)]
structure Clu where
 nodes:List Nod
 pods:List Pd
 buds:List Bd
abbrev zv (v1 v2 v3:Value):Value:=.agg #[v1,v2,v3]
structure jck (w:World) (v1 v2 v3:Value) (s:Clu):Prop where
 nodes:zV w v1 s.nodes
 pods:zr w v2 s.pods
 buds:JG w v3 s.buds
theorem jck.kept {w w':World} {v1 v2 v3:Value} {s:Clu} (h:jck w v1 v2 v3 s) (k:Kept w w'):jck w' v1 v2 v3 s:=⟨h.nodes.kept k,h.pods.kept k,h.buds.kept k⟩
def jA (w:World) (v:Value) (s:Clu):Prop:=∃v1 v2 v3,v=zv v1 v2 v3∧jck w v1 v2 v3 s
theorem jA.kept {w w':World} {v:Value} {s:Clu} (h:jA w v s) (k:Kept w w'):jA w' v s:=by
 obtain⟨v1,v2,v3,e,h⟩:=h;exact⟨v1,v2,v3,e,h.kept k⟩
structure jH (s:Clu):Prop where
 nodes:∀n ∈ s.nodes,Jk n
 pods:∀n ∈ s.pods,Ju n
 buds:∀n ∈ s.buds,n.sel.length≤1000000
 nodesN:s.nodes.length≤100000
 podsN:s.pods.length≤100000
 budsN:s.buds.length≤100000
def jI (x:ByteArray):List Pd→Vec.V→Int×Vec.V
 | [],v=>(0,v)
 | p::t,v=>if eqS p.node x=true then (if (Vec.jk Vec.jK v p.need).1=0 then jI x t (Vec.jk Vec.jK v p.need).2 else ((Vec.jk Vec.jK v p.need).1,[])) else jI x t v
theorem jaN {x:ByteArray} {p:Pd} {t:List Pd} {v:Vec.V} (h:eqS p.node x=false):jI x (p::t) v=jI x t v:=by
 rw[jI,if_neg (by rw[h];decide)]
theorem jfi {x:ByteArray} {p:Pd} {t:List Pd} {v m:Vec.V} (h:eqS p.node x=true) (g:Vec.jk Vec.jK v p.need=(0,m)):jI x (p::t) v=jI x t m:=by
 rw[jI,if_pos h,g,if_pos rfl]
theorem jfc {x:ByteArray} {p:Pd} {t:List Pd} {v m:Vec.V} {c:Int} (h:eqS p.node x=true) (g:Vec.jk Vec.jK v p.need=(c,m)) (hc:c≠0):jI x (p::t) v=(c,[]):=by
 rw[jI,if_pos h,g,if_neg hc]
theorem jal {x:ByteArray}:∀{l:List Pd} {v:Vec.V},(jI x l v).1≠0→(jI x l v).2=[]
 | [],v,h=>absurd rfl h
 | p::t,v,h=>by
  rw[jI] at h ⊢;split at h
  · rename_i h1;rw[if_pos h1];split at h
    · rename_i h2;rw[if_pos h2];exact jal h
    · rename_i h2;rw[if_neg h2]
  · rename_i h1;rw[if_neg h1];exact jal h
def Zx:List Nod→Vec.V→Int×Vec.V
 | [],v=>(0,v)
 | n::t,v=>if (Vec.jk Vec.jK v n.cap).1=0 then Zx t (Vec.jk Vec.jK v n.cap).2 else ((Vec.jk Vec.jK v n.cap).1,[])
theorem jkV {n:Nod} {t:List Nod} {v m:Vec.V} (g:Vec.jk Vec.jK v n.cap=(0,m)):Zx (n::t) v=Zx t m:=by
 rw[Zx,g,if_pos rfl]
theorem jka {n:Nod} {t:List Nod} {v m:Vec.V} {c:Int} (g:Vec.jk Vec.jK v n.cap=(c,m)) (hc:c≠0):Zx (n::t) v=(c,[]):=by
 rw[Zx,g,if_neg hc]
def zy (s:Clu) (x:ByteArray):Int×Vec.V:=match jj s.nodes x with | none=>(3,[]) | some n=>jI n.name s.pods []
def J4 (s:Clu) (x:ByteArray):Int×Vec.V:=match jj s.nodes x with | none=>(3,[]) | some n=>if (jI n.name s.pods []).1=0 then Vec.jk Vec.jX n.cap (jI n.name s.pods []).2 else ((jI n.name s.pods []).1,[])
def jlY (s:Clu):Int×Vec.V:=Zx s.nodes []
def jQ (nodes:List Nod):List Pd→Int
 | []=>0
 | p::t=>if zZ p.node=false∧(jj nodes p.node).isSome=false then 3 else jQ nodes t
theorem jg1 {nodes:List Nod} {p:Pd} {t:List Pd} (h:zZ p.node=false) (g:(jj nodes p.node).isSome=false):jQ nodes (p::t)=3:=by
 rw[jQ,if_pos ⟨h,g⟩]
theorem jgi {nodes:List Nod} {p:Pd} {t:List Pd} (h:zZ p.node=true):jQ nodes (p::t)=jQ nodes t:=by
 rw[jQ,if_neg (by rw[h];simp)]
theorem jgl {nodes:List Nod} {p:Pd} {t:List Pd} (g:(jj nodes p.node).isSome=true):jQ nodes (p::t)=jQ nodes t:=by
 rw[jQ,if_neg (by rw[g];simp)]
def zo (pods:List Pd):List Nod→Int
 | []=>0
 | n::t=>if (jI n.name pods []).1=0 then (if Vec.jG n.cap (jI n.name pods []).2=true then zo pods t else 7) else (jI n.name pods []).1
theorem jjM {pods:List Pd} {n:Nod} {t:List Nod} {c:Int} {u:Vec.V} (h:jI n.name pods []=(c,u)) (hc:c≠0):zo pods (n::t)=c:=by
 rw[zo,h,if_neg hc]
theorem jg5 {pods:List Pd} {n:Nod} {t:List Nod} {u:Vec.V} (h:jI n.name pods []=(0,u)) (hf:Vec.jG n.cap u=false):zo pods (n::t)=7:=by
 rw[zo,h,if_pos rfl,if_neg (by rw[hf];decide)]
theorem jhZ {pods:List Pd} {n:Nod} {t:List Nod} {u:Vec.V} (h:jI n.name pods []=(0,u)) (hf:Vec.jG n.cap u=true):zo pods (n::t)=zo pods t:=by
 rw[zo,h,if_pos rfl,if_pos hf]
def ZC (s:Clu):Int :=
 if or3 (jS s.nodes) (zi s.pods) (zn s.buds)≠0 then or3 (jS s.nodes) (zi s.pods) (zn s.buds)
 else if jQ s.nodes s.pods≠0 then jQ s.nodes s.pods
 else if zo s.pods s.nodes≠0 then zo s.pods s.nodes
 else (Zx s.nodes []).1
def onP (x:ByteArray) (l:List Pd):List Pd:=if zZ x=true then [] else l.filter fun p=>eqS p.node x
def jY (x:ByteArray):List Pd→List Pd
 | []=>[]
 | p::t=>if eqS p.name x=true then t else p::jY x t
def zY (p:Pd):List Pd→List Pd
 | []=>[p]
 | q::t=>if ltS p.name q.name=true then p::q::t else q::zY p t
def zU (s:Clu) (x:ByteArray):Clu:={ s with pods:=jY x s.pods }
def JT (s:Clu) (p:Pd):Clu:={ s with pods:=zY p (jY p.name s.pods) }
open Go.ChangeShapes Go.WideShapes Go.ChangeAt Go.RowKit Go.Deep
theorem jlK:Tryz.prog.cellsOf 26=3:=by kernel_rfl
theorem jjU:Tryz.prog.cellsOf 22=1:=by kernel_rfl
theorem jjV:Tryz.prog.cellsOf 23=1:=by kernel_rfl
theorem jkX:Tryz.prog.cellsOf 24=1:=by kernel_rfl
theorem jf2 {H:Type} {enc:TypeId×Value→H} {w:World} {base fuel:Nat} {sp:Nat→Bool} {held:Bool} {cs:List Value} {x:DataW H×List MemPlace} (h:DataW.trod enc Tryz.prog w base sp held fuel 26 cs=some x) :
 ∃v1 v2 v3 s,cs=[v1,v2,v3]∧jck w v1 v2 v3 s:=by
 obtain⟨ys,m,-,-,hlen,hyl,hf⟩:=DataW.trod_struct Tryz.underlying26 h;rw[jlK] at hlen
 match cs,hlen with
 | [c0,c1,c2],_ =>
  have h0:DataW.trod enc Tryz.prog w base sp held m 22 (([c0,c1,c2].drop 0).take (Tryz.prog.cellsOf 22))=ys[0]?:=hf 0 _ rfl;rw[jjU] at h0;obtain⟨y0,e0⟩:∃y,ys[0]?=some y:=⟨_,List.getElem?_eq_getElem (by rw[hyl];decide)⟩
  rw[e0] at h0;have h1:DataW.trod enc Tryz.prog w base sp held m 23 (([c0,c1,c2].drop 1).take (Tryz.prog.cellsOf 23))=ys[1]?:=hf 1 _ rfl;rw[jjV] at h1;obtain⟨y1,e1⟩:∃y,ys[1]?=some y:=⟨_,List.getElem?_eq_getElem (by rw[hyl];decide)⟩
  rw[e1] at h1;have h2:DataW.trod enc Tryz.prog w base sp held m 24 (([c0,c1,c2].drop 2).take (Tryz.prog.cellsOf 24))=ys[2]?:=hf 2 _ rfl;rw[jkX] at h2;obtain⟨y2,e2⟩:∃y,ys[2]?=some y:=⟨_,List.getElem?_eq_getElem (by rw[hyl];decide)⟩
  rw[e2] at h2;simp only[List.drop_zero,List.take_succ_cons,List.take_zero,List.drop_succ_cons] at h0 h1 h2;obtain⟨l0,r0⟩:=jdO h0;obtain⟨l1,r1⟩:=jeZ h1;obtain⟨l2,r2⟩:=jeW h2;exact⟨c0,c1,c2,⟨l0,l1,l2⟩,rfl,⟨r0,r1,r2⟩⟩
theorem jl2 {H:Type} {enc:TypeId×Value→H} {W:World} {r:Reach} {b0 base:Nat} {sp:Nat→Bool} {held:Bool} {v:Value} {d:DataW H} {ps:List MemPlace} (hval:Value.okWide Tryz.prog W r b0 26 v) (h:DataW.Trod enc Tryz.prog W base sp held 26 v d ps):∃s,jA W v s:=by
 obtain⟨cs,rfl,hsz⟩:=okWide_struct Tryz.underlying26 hval;obtain⟨fuel,hf⟩:=h;obtain⟨v1,v2,v3,s,ha,hat⟩:=jf2 hf;have e:cs.toList=[v1,v2,v3]:=by
  have:(Value.agg cs).cells.toList=[v1,v2,v3]:=ha;simpa [Value.cells] using this
 have:cs=#[v1,v2,v3]:=Array.ext' e;rw[this];exact⟨s,v1,v2,v3,rfl,hat⟩
def zQ (p q:Pd):Bool:=!zZ p.owner&&(eqS q.owner p.owner&&(!q.hold&&!eqS q.name p.name))
def onN (p:Pd) (x:ByteArray):List Pd→Nat
 | []=>0
 | q::t=>(if zQ p q=true∧q.node=x then 1 else 0)+onN p x t
theorem jb6 (p:Pd) (x:ByteArray):∀l:List Pd,onN p x l≤l.length
 | []=>Nat.zero_le _
 | q::t=>by
  have:=jb6 p x t;unfold onN;simp only[List.length_cons];split<;>omega
def inD (p:Pd) (pods:List Pd) (d:ByteArray):List Nod→Nat
 | []=>0
 | n::t=>(if jU n.labels p.key=some d then onN p n.name pods else 0)+inD p pods d t
theorem jd6 (p:Pd) (pods:List Pd) (d:ByteArray):∀l:List Nod,inD p pods d l≤l.length*pods.length
 | []=>Nat.zero_le _
 | n::t=>by
  have h1:=jd6 p pods d t;have h2:=jb6 p n.name pods;unfold inD;simp only[List.length_cons,Nat.add_mul];split<;>omega
def Zn (k d:ByteArray) (l:List Nod):Bool:=l.any fun n=>decide (jU n.labels k=some d)
theorem ja0 (p:Pd) (x:ByteArray):∀(a b:List Pd),onN p x (a++b)=onN p x a+onN p x b
 | [],b=>by simp[onN]
 | q::t,b=>by
  have:=ja0 p x t b;simp only[List.cons_append,onN,this];omega
theorem jcM (p:Pd) (pods:List Pd) (d:ByteArray):∀(a b:List Nod),inD p pods d (a++b)=inD p pods d a+inD p pods d b
 | [],b=>by simp[inD]
 | q::t,b=>by
  have:=jcM p pods d t b;simp only[List.cons_append,inD,this];omega
def domV (key name:ByteArray):List Nod→Option ByteArray
 | []=>none
 | n::t=>if eqS n.name name=true then jU n.labels key else domV key name t
def Ys (p:Pd) (pods:List Pd) (nodes:List Nod) (d:ByteArray):List Nod→Nat→Nat
 | [],m=>m
 | n::t,m=>Ys p pods nodes d t (match jU n.labels p.key with
  | none=>m
  | some e=>min m (inD p pods e nodes+(if e=d then 1 else 0)))
def YJ (p:Pd) (s:Clu) (d:ByteArray):Int:=((inD p s.pods d s.nodes+1:Nat):Int)-(Ys p s.pods s.nodes d s.nodes (inD p s.pods d s.nodes+1):Int)
def zN (p:Pd) (s:Clu) (name:ByteArray):Int×Bool :=
 if zZ p.key=true then (0,true) else match domV p.key name s.nodes with
  | none=>(0,false)
  | some d=>(YJ p s d,true)
theorem qh (p:Pd) (pods:List Pd) (nodes:List Nod) (d:ByteArray):∀(l:List Nod) (m:Nat),
 Ys p pods nodes d l m≤m∧(∀n ∈ l,∀e,jU n.labels p.key=some e→Ys p pods nodes d l m≤inD p pods e nodes+(if e=d then 1 else 0)) ∧
 (Ys p pods nodes d l m=m∨∃n ∈ l,∃e,jU n.labels p.key=some e∧Ys p pods nodes d l m=inD p pods e nodes+(if e=d then 1 else 0))
 | [],m=>⟨Nat.le_refl _,fun n h=>absurd h (by simp),.inl rfl⟩
 | n::t,m=>by
  rw[Ys]
  cases h:jU n.labels p.key with
  | none =>
   dsimp only;obtain⟨h1,h2,h3⟩:=qh p pods nodes d t m;refine⟨h1,fun x hx e he=>?_,h3.imp id fun ⟨x,hx,e,he⟩=>⟨x,by simp[hx],e,he⟩⟩;rcases List.mem_cons.1 hx with rfl | hx
   · rw[h] at he;cases he
   · exact h2 x hx e he
  | some c =>
   dsimp only;obtain⟨h1,h2,h3⟩:=qh p pods nodes d t (min m (inD p pods c nodes+(if c=d then 1 else 0)));refine⟨Nat.le_trans h1 (Nat.min_le_left _ _),fun x hx e he=>?_,?_⟩
   · rcases List.mem_cons.1 hx with rfl | hx
     · rw[h] at he;cases he;exact Nat.le_trans h1 (Nat.min_le_right _ _)
     · exact h2 x hx e he
   · rcases h3 with h3 | ⟨x,hx,e,he,h3⟩
     · by_cases g:m≤inD p pods c nodes+(if c=d then 1 else 0)
       · exact .inl (by rw[h3,Nat.min_eq_left g])
       · exact .inr ⟨n,by simp,c,h,by rw[h3,Nat.min_eq_right (by omega)]⟩
     · exact .inr ⟨x,by simp[hx],e,he,h3⟩
theorem jdj {p:Pd} {pods:List Pd} {nodes:List Nod} {d:ByteArray} {m z:Nat} (hd:Zn p.key d nodes=true) (hm:m=inD p pods d nodes+1)
 (h1:∀e,Zn p.key e nodes=true→z≤inD p pods e nodes+(if e=d then 1 else 0)) (h2:∃e,Zn p.key e nodes=true∧z=inD p pods e nodes+(if e=d then 1 else 0)):Ys p pods nodes d nodes m=z:=by
 have has:∀{n:Nod} {e:ByteArray},n ∈ nodes→jU n.labels p.key=some e→Zn p.key e nodes=true:=fun {n e} hn he=>by
  unfold Zn;rw[List.any_eq_true];exact⟨n,hn,by simpa using he⟩
 have un:∀{e:ByteArray},Zn p.key e nodes=true→∃n ∈ nodes,jU n.labels p.key=some e:=fun {e} h=>by
  unfold Zn at h;rw[List.any_eq_true] at h;obtain⟨n,hn,he⟩:=h;exact⟨n,hn,by simpa using he⟩
 obtain⟨g1,g2,g3⟩:=qh p pods nodes d nodes m;obtain⟨e,he,hz⟩:=h2;obtain⟨n,hn,hne⟩:=un he;have a:=g2 n hn e hne;rcases g3 with g3 | ⟨x,hx,c,hc,g3⟩
 · have b:=h1 d hd;rw[if_pos rfl] at b;omega
 · have b:=h1 c (has hx hc);omega
theorem Xt {key name d:ByteArray}:∀{l:List Nod},domV key name l=some d→Zn key d l=true
 | n::t,h=>by
  rw[domV] at h;unfold Zn;rw[List.any_cons];split at h
  · rw[h];simp
  · have:=Xt h;unfold Zn at this;rw[this,Bool.or_true]
def JP (s:Clu) (p:Pd) (x:ByteArray):Bool:=if zZ p.key=true then false else (!(zN p s x).2||decide (p.most<(zN p s x).1))
def JW (p:Pd) (n:Nod):Bool:=!n.cordon&&Jb p.sel n.labels
def ZH (p:Pd) (n:Nod):Bool:=!(za p.tols n.taints).isSome
def ZR (s:Clu) (p:Pd) (x:ByteArray):Bool:=decide ((J4 s x).1=0)&&Vec.jG (J4 s x).2 p.need
def zT (s:Clu) (p:Pd) (n:Nod) (x:ByteArray):Int:=if JW p n=false then 8 else if ZH p n=false then 9 else if JP s p x=true then 10 else if ZR s p x=false then 7 else 0
def zW (s:Clu) (p:Pd) (x:ByteArray):Int:=match jj s.nodes x with
 | none=>3
 | some n=>zT s p n x
def Yc (s:Clu) (p:Pd) (x:ByteArray):Int:=zW (zU s p.name) p x
def Xw (s:Clu) (p:Pd) (l:List Nod):List Int:=l.map fun n=>Yc s p n.name
def Jd (s:Clu) (p:Pd) (l:List Nod):List ByteArray:=(l.filter fun n=>decide (Yc s p n.name=0)).map fun n=>n.name
theorem ja8 {s:Clu} {p:Pd} {x:ByteArray} (h:jj s.nodes x=none):zW s p x=3:=by unfold zW;rw[h]
theorem jbg {s:Clu} {p:Pd} {x:ByteArray} {n:Nod} (h:jj s.nodes x=some n):zW s p x=zT s p n x:=by unfold zW;rw[h]
theorem ql {s:Clu} {p:Pd} {n:Nod} {x:ByteArray} (h:JW p n=false):zT s p n x=8:=by unfold zT;rw[if_pos h]
theorem jaj {s:Clu} {p:Pd} {n:Nod} {x:ByteArray} (h:JW p n=true) (h2:ZH p n=false):zT s p n x=9:=by unfold zT;rw[if_neg (by rw[h];decide),if_pos h2]
theorem XL {s:Clu} {p:Pd} {n:Nod} {x:ByteArray} (h:JW p n=true) (h2:ZH p n=true) (h3:JP s p x=true):zT s p n x=10:=by unfold zT;rw[if_neg (by rw[h];decide),if_neg (by rw[h2];decide),if_pos h3]
theorem ZN {s:Clu} {p:Pd} {n:Nod} {x:ByteArray} (h:JW p n=true) (h2:ZH p n=true) (h3:JP s p x=false) (h4:ZR s p x=false):zT s p n x=7:=by unfold zT;rw[if_neg (by rw[h];decide),if_neg (by rw[h2];decide),if_neg (by rw[h3];decide),if_pos h4]
theorem qF {s:Clu} {p:Pd} {n:Nod} {x:ByteArray} (h:JW p n=true) (h2:ZH p n=true) (h3:JP s p x=false) (h4:ZR s p x=true):zT s p n x=0:=by unfold zT;rw[if_neg (by rw[h];decide),if_neg (by rw[h2];decide),if_neg (by rw[h3];decide),if_neg (by rw[h4];decide)]
theorem jhh (s:Clu) (p:Pd) (n:Nod) (x:ByteArray):0≤zT s p n x∧zT s p n x≤10:=by
 unfold zT;split
 · decide
 · split
   · decide
   · split
     · decide
     · split<;>decide
theorem jjp (s:Clu) (p:Pd) (x:ByteArray):0≤zW s p x∧zW s p x≤10:=by
 unfold zW;split
 · decide
 · exact jhh _ _ _ _
theorem jc5 {l:List Nod} {x:ByteArray} {n:Nod} (h:jj l x=some n):n ∈ l∧n.name=x:=by
 unfold jj at h;have h2:eqS n.name x=true:=List.find?_some (p:=fun n:Nod=>eqS n.name x) h;exact⟨List.mem_of_find?_eq_some h,jL.1 h2⟩
theorem jjo {s:Clu} {p:Pd} {l:List Nod} {k:Nat} {n:Nod} (h:l[k]?=some n):Xw s p (l.take (k+1))=Xw s p (l.take k)++[Yc s p n.name]:=by
 unfold Xw;rw[List.take_add_one,h,List.map_append];rfl
theorem jbG (s:Clu) (p:Pd) (l:List Nod):(Xw s p l).length=l.length:=by unfold Xw;rw[List.length_map]
theorem jlz {s:Clu} {p:Pd} {l:List Nod} {k:Nat} {n:Nod} (h:l[k]?=some n):(Xw s p l)[k]?=some (Yc s p n.name):=by unfold Xw;rw[List.getElem?_map,h];rfl
theorem jbZ {s:Clu} {p:Pd} {l:List Nod} {k:Nat} {n:Nod} (h:l[k]?=some n):Jd s p (l.take (k+1))=Jd s p (l.take k)++(if Yc s p n.name=0 then [n.name] else []):=by
 unfold Jd;rw[List.take_add_one,h,List.filter_append,List.map_append];by_cases hb:Yc s p n.name=0
 · rw[if_pos hb];simp[hb]
 · rw[if_neg hb];simp[hb]
theorem Y8 (s:Clu) (p:Pd) (l:List Nod):(Jd s p l).length≤l.length:=by
 unfold Jd;rw[List.length_map];exact List.length_filter_le _ _
def jam (d:Array Value):Nat→List Value→Array Value
 | _,[]=>d
 | k,x::r=>jam (d.setIfInBounds k x) (k+1) r
theorem Js:∀(xs:List Value) (d:Array Value) (k:Nat),(jam d k xs).size=d.size
 | [],_,_=>rfl
 | x::r,d,k=>by rw[jam,Js r];simp
theorem Ze:∀(xs:List Value) (d:Array Value) (k j:Nat),k+xs.length≤d.size→(jam d k xs)[j]?=if k≤j∧j<k+xs.length then xs[j-k]? else d[j]?
 | [],d,k,j,_=>by rw[jam,if_neg (by simp only[List.length_nil];omega)]
 | x::r,d,k,j,h=>by
  have hl:k+(r.length+1)≤d.size:=by simpa using h
  rw[jam,Ze r _ _ _ (by simp;omega)];simp only[List.length_cons];by_cases c1:k+1≤j∧j<k+1+r.length
  · rw[if_pos c1,if_pos (by omega),show j-k=(j-(k+1))+1 by omega,List.getElem?_cons_succ]
  · rw[if_neg c1];by_cases c2:j=k
    · subst c2;rw[if_pos (by omega),Nat.sub_self,List.getElem?_cons_zero,Array.getElem?_setIfInBounds_self_of_lt (by omega)]
    · rw[if_neg (by omega),Array.getElem?_setIfInBounds_ne (by omega)]
theorem JY:∀(vs:List Value) (g o:Nat) (w:World) (cur:Array Value) (e:TypeId),w.heap[g]?=some (.cells cur e (0,0))→(w.setCells g o vs).heap[g]?=some (.cells (jam cur o vs) e (0,0))
 | [],_,_,_,_,_,h=>h
 | v::r,g,o,w,cur,e,h=>by
  rw[World.setCells,jam];exact JY r g (o+1) _ _ e (heap_setCell_same w g o cur e v h)
theorem J9 {w:World} {B:Nat} {e:TypeId} {s g n cap:Nat} {xs:List Value} (h:w.ownsRow B e s (.slice (some ⟨g,0,none⟩) n cap) n xs) :
 ∃cur,B≤g∧w.heap[g]?=some (.cells cur e (0,0))∧n≤cap∧cap≤maxLen∧cur.size=cap*s∧cur.toList.take (n*s)=xs∧xs.length=n*s:=by
 obtain⟨hl,h⟩:=h;rcases h with ⟨h0,_⟩ | ⟨g2,cap2,cur,h0,hb,hg,hn,hm,hs,ht⟩
 · cases h0
 · cases h0
   exact⟨cur,hb,hg,hn,hm,hs,ht,hl⟩
theorem jfX {cur:Array Value} {m:Nat} {xs:List Value} (hl:xs.length=m) (hm:m≤cur.size) (h:∀j,j<m→cur[j]?=xs[j]?):cur.toList.take m=xs:=by
 apply List.ext_getElem?;intro j;rw[List.getElem?_take];by_cases hj:j<m
 · rw[if_pos hj,Array.getElem?_toList];exact h j hj
 · rw[if_neg hj,List.getElem?_eq_none (by omega)]
theorem qj {cur:Array Value} {m j:Nat} {xs:List Value} (ht:cur.toList.take m=xs) (hj:j<m):cur[j]?=xs[j]?:=by
 rw[←ht,List.getElem?_take,if_pos hj,Array.getElem?_toList]
theorem jaX {w:World} {B:Nat} {e:TypeId} {s g n cap:Nat} {xs:List Value} {cur:Array Value} (hB:B≤g) (hg:w.heap[g]?=some (.cells cur e (0,0))) (hn:n≤cap) (hm:cap≤maxLen) (hs:cur.size=cap*s) (hl:xs.length=n*s) (h:∀j,j<n*s→cur[j]?=xs[j]?) :
 w.ownsRow B e s (.slice (some ⟨g,0,none⟩) n cap) n xs :=
 ⟨hl,.inr ⟨g,cap,cur,rfl,hB,hg,hn,hm,hs,jfX hl (by rw[hs];exact Nat.mul_le_mul_right s hn) h⟩⟩
theorem jkC {w:World} {B:Nat} {e:TypeId} {s g n cap o:Nat} {xs vs:List Value} (h:w.ownsRow B e s (.slice (some ⟨g,0,none⟩) n cap) n xs) (ho:o+vs.length≤n*s) :
 (w.setCells g o vs).ownsRow B e s (.slice (some ⟨g,0,none⟩) n cap) n (xs.take o++vs++xs.drop (o+vs.length)):=by
 obtain⟨cur,hB,hg,hn,hm,hs,ht,hl⟩:=J9 h;have hns:n*s≤cap*s:=Nat.mul_le_mul_right s hn;refine jaX hB (JY vs g o w cur e hg) hn hm (by rw[Js];exact hs) (by simp;omega) (fun j hj=>?_);rw[Ze _ _ _ _ (by omega)];by_cases c1:o≤j∧j<o+vs.length
 · rw[if_pos c1,List.append_assoc,List.getElem?_append_right (by simp;omega),List.getElem?_append_left (by simp;omega)];congr 1
   simp;omega
 · rw[if_neg c1,qj ht hj];by_cases c2:j<o
   · rw[List.append_assoc,List.getElem?_append_left (by simp;omega),List.getElem?_take,if_pos c2]
   · rw[List.getElem?_append_right (by simp;omega),List.getElem?_drop];congr 1
     simp;omega
theorem jkR {w:World} {B:Nat} {e:TypeId} {s g n cap i j:Nat} {xs zs:List Value} (h:w.ownsRow B e s (.slice (some ⟨g,0,none⟩) n cap) n xs) (hij:i≤j) (hj:j≤n) (hz:zs.length=(j-i)*s) :
 ((w.setCells g (i*s) (xs.drop (j*s))).setCells g ((i+(n-j))*s) zs).ownsRow B e s (.slice (some ⟨g,0,none⟩) (i+(n-j)) cap) (i+(n-j)) (xs.take (i*s)++xs.drop (j*s)):=by
 obtain⟨cur,hB,hg,hn,hm,hs,ht,hl⟩:=J9 h;have hns:n*s≤cap*s:=Nat.mul_le_mul_right s hn;have his:i*s≤j*s:=Nat.mul_le_mul_right s hij;have hjs:j*s≤n*s:=Nat.mul_le_mul_right s hj;have e1:(i+(n-j))*s=i*s+(n*s-j*s):=by rw[Nat.add_mul,Nat.sub_mul]
 have e2:(j-i)*s=j*s-i*s:=Nat.sub_mul j i s;have hld:(xs.drop (j*s)).length=n*s-j*s:=by rw[List.length_drop,hl]
 refine jaX hB (JY zs g _ _ _ e (JY _ g (i*s) w cur e hg)) (by omega) hm (by rw[Js,Js];exact hs) (by rw[List.length_append,List.length_take,hld,hl,e1];omega) (fun t htl=>?_);rw[e1] at htl ⊢;rw[Ze _ _ _ _ (by rw[Js,hz,e2];omega),if_neg (by omega),Ze _ _ _ _ (by rw[hld];omega),hld];by_cases c1:t<i*s
 · rw[if_neg (by omega),qj ht (by omega),List.getElem?_append_left (by rw[List.length_take,hl];omega),List.getElem?_take,if_pos c1]
 · rw[if_pos (by omega),List.getElem?_append_right (by rw[List.length_take,hl];omega),List.length_take,hl];congr 1
   omega
theorem jhc {w:World} {B:Nat} {e:TypeId} {s g n cap i:Nat} {xs vs:List Value} (h:w.ownsRow B e s (.slice (some ⟨g,0,none⟩) n cap) n xs) (hi:i≤n) (hv:vs.length=s) (hr:n+1≤cap) :
 ((w.setCells g ((i+1)*s) (xs.drop (i*s))).setCells g (i*s) vs).ownsRow B e s (.slice (some ⟨g,0,none⟩) (n+1) cap) (n+1) (xs.take (i*s)++vs++xs.drop (i*s)):=by
 obtain⟨cur,hB,hg,hn,hm,hs,ht,hl⟩:=J9 h;have hns:(n+1)*s≤cap*s:=Nat.mul_le_mul_right s hr;have his:i*s≤n*s:=Nat.mul_le_mul_right s hi;have e0:(n+1)*s=n*s+s:=by rw[Nat.add_mul,Nat.one_mul]
 have e1:(i+1)*s=i*s+s:=by rw[Nat.add_mul,Nat.one_mul]
 have hld:(xs.drop (i*s)).length=n*s-i*s:=by rw[List.length_drop,hl]
 refine jaX hB (JY vs g _ _ _ e (JY _ g ((i+1)*s) w cur e hg)) hr hm (by rw[Js,Js];exact hs) (by rw[List.length_append,List.length_append,List.length_take,hld,hl,e0];omega) (fun t htl=>?_);rw[e0] at htl;rw[Ze _ _ _ _ (by rw[Js,hv];omega),hv];by_cases c1:t<i*s
 · rw[if_neg (by omega),Ze _ _ _ _ (by rw[hld,e1];omega),if_neg (by omega),qj ht (by omega),List.append_assoc,List.getElem?_append_left (by rw[List.length_take,hl];omega),List.getElem?_take,if_pos c1]
 · by_cases c2:t<i*s+s
   · rw[if_pos (by omega),List.append_assoc,List.getElem?_append_right (by rw[List.length_take,hl];omega),List.getElem?_append_left (by rw[List.length_take,hl,hv];omega),List.length_take,hl];congr 1
     omega
   · rw[if_neg (by omega),Ze _ _ _ _ (by rw[hld,e1];omega),hld,e1,if_pos (by omega),List.getElem?_append_right (by rw[List.length_append,List.length_take,hl,hv];omega),List.length_append,List.length_take,hl,hv];congr 1
     omega
theorem Z7 (w:World) (dT sT ty elem:TypeId) (i0:TypeInfo) (b o dLen dCap:Nat) (a:Addr) (sLen sCap:Nat) (cs:List Value)
 (hu:Tryz.prog.underlying dT=some (.slice elem)) (hi:Tryz.prog.info? elem=some i0) (hn:cs.length=Nat.min sLen dLen*i0.size)
 (hsrc:∀j v,cs[j]?=some v→w.cell? (a.add j)=some v) (hc:∀j,j<cs.length→(w.cell? ⟨b,o+j,none⟩).isSome=true) (hf:∀j,j<cs.length→w.frozen? ⟨b,o+j,none⟩=false) (h1:∀v ∈ cs,v.oneCell'=true) :
 (Builtin.copy_ #[dT,sT] ty #[.slice (some ⟨b,o,none⟩) dLen dCap,.slice (some a) sLen sCap]).run Tryz.prog w=.ok (goInt (Nat.min sLen dLen)) (w.setCells b o cs):=by
 have hl:=run_loadCells_list (P:=Tryz.prog) w a cs hsrc;have hst:=run_storeCells_cells (P:=Tryz.prog) b o cs 0 w (by simpa using hc) (by simpa using hf) h1;simp[Builtin.copy_,run_underlying hu,Builtin.lenOf,Builtin.firstCells,sizeOf,typeInfo,hi,←hn,hl,hst]
theorem jcy (w:World) (t e ty:TypeId) (i0:TypeInfo) (z:Value) (ht:Tryz.prog.underlying t=some (.slice e)) (hi:Tryz.prog.info? e=some i0) (hz:i0.zero=some z) (b o n c:Nat) (hn:0<n) (h1:∀v ∈ (Builtin.zeroCells z.cells n).toList,v.oneCell'=true)
 (hc:∀j,j<(Builtin.zeroCells z.cells n).size→(w.cell? ⟨b,o+j,none⟩).isSome=true) (hf:∀j,j<(Builtin.zeroCells z.cells n).size→w.frozen? ⟨b,o+j,none⟩=false) :
 (Builtin.clear_ #[t] ty #[.slice (some ⟨b,o,none⟩) n c]).run Tryz.prog w=.ok (.tuple #[]) (w.setCells b o (Builtin.zeroCells z.cells n).toList):=by
 have hst:=run_storeCells_cells (P:=Tryz.prog) b o (Builtin.zeroCells z.cells n).toList 0 w (by simpa using hc) (by simpa using hf) h1;simp only[Nat.add_zero] at hst;obtain⟨m,rfl⟩:∃m,n=m+1:=⟨n-1,by omega⟩
 simp[Builtin.clear_,run_underlying ht,zeroValue,typeInfo,hi,hz,hst]
structure jq (S:Nat→Prop) (w w':World):Prop where
 os:w'.os=w.os
 tape:w'.tape=w.tape
 output:w'.output=w.output
 size:w.heap.size≤w'.heap.size
 block:∀k,k<w.heap.size→¬S k→w'.heap[k]?=w.heap[k]?
theorem jq.trans {S:Nat→Prop} {a b c:World} (h:jq S a b) (k:jq S b c):jq S a c :=
 ⟨k.os.trans h.os,k.tape.trans h.tape,k.output.trans h.output,Nat.le_trans h.size k.size,fun i hi hs=>(k.block i (Nat.lt_of_lt_of_le hi h.size) hs).trans (h.block i hi hs)⟩
theorem jq.mono {S S':Nat→Prop} {a b:World} (h:jq S a b) (hs:∀k,S k→S' k):jq S' a b:=⟨h.os,h.tape,h.output,h.size,fun i hi hn=>h.block i hi fun e=>hn (hs i e)⟩
theorem jq.of {S:Nat→Prop} {a b:World} (k:Kept a b):jq S a b:=⟨k.os,k.tape,k.output,k.size,fun i hi _=>k.block i hi⟩
theorem jq.below {S:Nat→Prop} {a b c:World} (k:Kept a b) (h:jq S b c) (hs:∀i,S i→a.heap.size≤i):Kept a c :=
 ⟨h.os.trans k.os,h.tape.trans k.tape,h.output.trans k.output,Nat.le_trans k.size h.size,fun i hi=>(h.block i (Nat.lt_of_lt_of_le hi k.size) fun e=>by have:=hs i e;omega).trans (k.block i hi)⟩
theorem jq.cell {S:Nat→Prop} {a:World} (g i:Nat) (u:Value) (hg:S g):jq S a (a.setCell ⟨g,i,none⟩ u) :=
 ⟨rfl,rfl,rfl,by simp[World.setCell],fun k _ hn=>Below.heap_setCell a ⟨g,i,none⟩ u k (fun e=>hn (by rw[show k=g from e];exact hg))⟩
theorem jq.cells {S:Nat→Prop} (g:Nat) (hg:S g):∀(vs:List Value) (o:Nat) (a:World),jq S a (a.setCells g o vs)
 | [],_,a=>jq.of (Kept.refl a)
 | v::r,o,a=>by rw[World.setCells];exact(jq.cell g o v hg).trans (jq.cells g hg r (o+1) _)
theorem jq.grown {S:Nat→Prop} {a b:World} {o:Option Nat} (h:a.grownBy b o) (hs:∀k,o=some k→S k):jq S a b :=
 ⟨h.os,h.tape,h.output,h.size,fun i hi hn=>h.block i hi fun e=>hn (hs i e.symm)⟩
theorem jq.drew {S:Nat→Prop} (a:World):jq S a a.drew:=jq.of (Kept.drew a)
theorem jq.at_below {S:Nat→Prop} {B:Nat} {a b:World} (h:jq S a b) (hb:∀i,S i→B≤i) (hB:B≤a.heap.size):Below B a b:=⟨h.os,h.tape,h.output,h.size,fun i hi=>h.block i (by omega) fun e=>by have:=hb i e;omega⟩
def Off (S:Nat→Prop) (w:World) (Φ:World→Prop):Prop:=∀w',jq S w w'→Φ w'
theorem Off.here {S:Nat→Prop} {w:World} {Φ:World→Prop} (h:Off S w Φ):Φ w:=h w (jq.of (Kept.refl w))
theorem Off.step {S:Nat→Prop} {w w':World} {Φ:World→Prop} (h:Off S w Φ) (g:jq S w w'):Off S w' Φ:=fun u k=>h u (g.trans k)
theorem Off.less {S S':Nat→Prop} {w:World} {Φ:World→Prop} (h:Off S w Φ) (hs:∀k,S' k→S k):Off S' w Φ:=fun u k=>h u (k.mono hs)
theorem Off.imp {S:Nat→Prop} {w:World} {Φ Ψ:World→Prop} (h:Off S w Φ) (f:∀u,Φ u→Ψ u):Off S w Ψ:=fun u k=>f u (h u k)
theorem Off.of {S:Nat→Prop} {a w:World} {Φ:World→Prop} (h:∀u,Kept a u→Φ u) (k:Kept a w) (hs:∀i,S i→a.heap.size≤i):Off S w Φ:=fun u g=>h u (g.below k hs)
theorem Off.new {S S':Nat→Prop} {w w':World} {Φ:World→Prop} (h:Off S w Φ) (g:jq S w w') (hs:∀k,S' k→S k∨w.heap.size≤k):Off S' w' Φ:=fun u k =>
 h u ⟨k.os.trans g.os,k.tape.trans g.tape,k.output.trans g.output,Nat.le_trans g.size k.size,fun i hi hn=>(k.block i (Nat.lt_of_lt_of_le hi g.size) fun e=>by rcases hs i e with e | e;exact hn e;omega).trans (g.block i hi hn)⟩
theorem jaA {S:Nat→Prop} {o:Option Addr} {B:Nat} (hb:zh B o) (hs:∀k,B≤k→¬S k):∀b off sp,o=some ⟨b,off,sp⟩→¬S b:=fun b off sp e=>hs b (hb b off sp e)
theorem jh.goff {α:Type} {L:Lay α} {S:Nat→Prop} {w w':World} {a:Option Addr} {len:Nat} {l:List α} (h:jh L w a len l) (g:jq S w w') (hn:∀b off sp,a=some ⟨b,off,sp⟩→¬S b):jh L w' a len l:=by
 obtain⟨h0,h1,h2,h3⟩:=h;refine⟨h0,h1,h2,h3.imp id ?_⟩;rintro ⟨b,off,ha,hb,hc⟩;exact⟨b,off,ha,Nat.lt_of_lt_of_le hb g.size,fun i x j u hi hj=>(World.cell?_of_block (w:=w) (g.block b hb (hn b off none ha))).trans (hc i x j u hi hj)⟩
theorem Reads.goff {α:Type} {L:Lay α} {S:Nat→Prop} {w w':World} {a:Option Addr} {m c:Nat} {l:List α} (h:Reads L w (.slice a m c) l) (g:jq S w w') (hn:∀b off sp,a=some ⟨b,off,sp⟩→¬S b):Reads L w' (.slice a m c) l:=by
 obtain⟨a',c',e,h1,h2,h3⟩:=h
 cases e
 exact⟨a,c,rfl,h1,h2,h3.goff g hn⟩
theorem Vec.jw.goff {S:Nat→Prop} {w w':World} {a:Option Addr} {len:Nat} {l:Vec.V} (h:Vec.jw w a len l) (g:jq S w w') (hn:∀b off sp,a=some ⟨b,off,sp⟩→¬S b):Vec.jw w' a len l:=by
 obtain⟨h0,h1,h2,h3⟩:=h;refine⟨h0,h1,h2,h3.imp id ?_⟩;rintro ⟨b,off,ha,hb,hc⟩;refine⟨b,off,ha,Nat.lt_of_lt_of_le hb g.size,fun i hi=>?_⟩;have e:∀j,w'.cell? ⟨b,j,none⟩=w.cell? ⟨b,j,none⟩:=fun j=>World.cell?_of_block (a:=⟨b,j,none⟩) (g.block b hb (hn b off none ha));rw[e,e];exact hc i hi
theorem Vec.Reads.goff {S:Nat→Prop} {w w':World} {a:Option Addr} {m c:Nat} {l:Vec.V} (h:Vec.Reads w (.slice a m c) l) (g:jq S w w') (hn:∀b off sp,a=some ⟨b,off,sp⟩→¬S b):Vec.Reads w' (.slice a m c) l:=by
 obtain⟨a',c',e,h1,h2,h3⟩:=h
 cases e
 exact⟨a,c,rfl,h1,h2,Vec.jw.goff h3 g hn⟩
theorem js.off {S:Nat→Prop} {B:Nat} {w:World} {n:Pd} {b1 b2 b3 b4:Option Addr} {n1 d1 n2 d2 n3 d3 n4 d4:Nat} (h:js w (.slice b1 n1 d1) (.slice b2 n2 d2) (.slice b3 n3 d3) (.slice b4 n4 d4) n) (g1:zh B b1) (g2:zh B b2) (g3:zh B b3) (g4:zh B b4) (hs:∀k,B≤k→¬S k) :
 Off S w fun u=>js u (.slice b1 n1 d1) (.slice b2 n2 d2) (.slice b3 n3 d3) (.slice b4 n4 d4) n:=fun u g =>
 ⟨h.name,h.owner,h.key,h.node,h.prio,h.most,h.need.goff g (jaA g1 hs),h.labels.goff g (jaA g2 hs),h.sel.goff g (jaA g3 hs),h.tols.goff g (jaA g4 hs)⟩
theorem zp.off {S:Nat→Prop} {B:Nat} {w:World} {n:Nod} {b1 b2 b3:Option Addr} {n1 d1 n2 d2 n3 d3:Nat} (h:zp w (.slice b1 n1 d1) (.slice b2 n2 d2) (.slice b3 n3 d3) n) (g1:zh B b1) (g2:zh B b2) (g3:zh B b3) (hs:∀k,B≤k→¬S k) :
 Off S w fun u=>zp u (.slice b1 n1 d1) (.slice b2 n2 d2) (.slice b3 n3 d3) n:=fun u g =>
 ⟨h.size,h.cap.goff g (jaA g1 hs),h.labels.goff g (jaA g2 hs),h.taints.goff g (jaA g3 hs)⟩
theorem zK.off {S:Nat→Prop} {B:Nat} {w:World} {n:Bd} {b1:Option Addr} {n1 d1:Nat} (h:zK w (.slice b1 n1 d1) n) (g1:zh B b1) (hs:∀k,B≤k→¬S k) :
 Off S w fun u=>zK u (.slice b1 n1 d1) n:=fun u g=>⟨h.name,h.floor,h.sel.goff g (jaA g1 hs)⟩
theorem Own.goff {α:Type} {L:Lay α} {e:TypeId} {S:Nat→Prop} {w w':World} {B:Nat} {v:Value} {l:List α} (h:Own L e w B v l) (g:jq S w w') (hn:∀k,v.ownBlock=some k→¬S k):Own L e w' B v l:=by
 obtain⟨⟨h0,h1⟩,hf⟩:=h;refine⟨⟨h0,h1.imp id ?_⟩,hf⟩;rintro ⟨q,cap,cur,rfl,hbg,hg,hr⟩;have hlt:q<w.heap.size:=by
  rcases Nat.lt_or_ge q w.heap.size with hlt | hge
  · exact hlt
  · rw[Array.getElem?_eq_none hge] at hg;cases hg
 exact⟨q,cap,cur,rfl,hbg,(g.block q hlt (hn q rfl)).trans hg,hr⟩
structure Deep {X:Type} (L:Lay X) (T:TypeId) (At:World→X→Prop) (w:World) (B:Nat) (v:Value) (lx:List X):Prop where
 own:Own L T w B v lx
 off:∀z ∈ lx,Off (fun b=>v.ownBlock=some b) w fun u=>At u z
theorem Deep.ats {X:Type} {L:Lay X} {T:TypeId} {At:World→X→Prop} {w:World} {B:Nat} {v:Value} {lx:List X} (h:Deep L T At w B v lx):∀z ∈ lx,At w z:=fun z hz=>(h.off z hz).here
theorem Deep.kept {X:Type} {L:Lay X} {T:TypeId} {At:World→X→Prop} {w w':World} {B:Nat} {v:Value} {lx:List X} (h:Deep L T At w B v lx) (k:Kept w w'):Deep L T At w' B v lx:=⟨h.own.kept k,fun z hz=>(h.off z hz).step (jq.of k)⟩
theorem Deep.less {X:Type} {L:Lay X} {T:TypeId} {At:World→X→Prop} {w:World} {B B':Nat} {v:Value} {lx:List X} (h:Deep L T At w B v lx) (hb:B'≤B):Deep L T At w B' v lx:=⟨h.own.base_le hb,h.off⟩
theorem Deep.goff {X:Type} {L:Lay X} {T:TypeId} {At:World→X→Prop} {w w':World} {B q:Nat} {v:Value} {lx:List X} (h:Deep L T At w B v lx) (g:jq (fun b=>b=q) w w') (hq:q<B) (ha:∀z ∈ lx,Off (fun b=>v.ownBlock=some b∨b=q) w fun u=>At u z):Deep L T At w' B v lx :=
 ⟨h.own.goff g (fun k hk e=>by
  have hl:B≤k:=by
   rcases h.own.1.2 with ⟨rfl,_⟩ | ⟨q2,cap,cur,rfl,hb,_⟩
   · cases hk
   · cases hk;exact hb
  omega),fun z hz=>((ha z hz).step (g.mono fun k e=>.inr e)).less fun k e=>.inl e⟩
theorem Z6 {X:Type} {L:Lay X} {T:TypeId} {w:World} {B:Nat} {v:Value} {lx:List X} (h:Own L T w B v lx):∀g,v.ownBlock=some g→B≤g∧g<w.heap.size:=h.1.lt
theorem Own.cell_at {X:Type} {L:Lay X} {T:TypeId} {w:World} {B g n cap:Nat} {lx:List X} (h:Own L T w B (.slice (some ⟨g,0,none⟩) n cap) lx) {k:Nat} {z:X} (hz:lx[k]?=some z) {j:Nat} {u:Value} (hu:(L.cs z)[j]?=some u):w.cell? ⟨g,k*L.m+j,none⟩=some u:=by
 obtain⟨a,c,e,_,_,h3⟩:=h.at_
 cases e
 have hk:k<lx.length:=(List.getElem?_eq_some_iff.1 hz).1;obtain⟨x,hx,_,_,_,hc⟩:=h3.cells hk;obtain rfl:x=z:=by rw[hz] at hx;exact(Option.some.inj hx).symm
 have:=hc j u hu;rwa [Nat.zero_add] at this
theorem Own.frozen_at {X:Type} {L:Lay X} {T:TypeId} {w:World} {B g n cap:Nat} {lx:List X} (h:Own L T w B (.slice (some ⟨g,0,none⟩) n cap) lx) (j:Nat):w.frozen? ⟨g,j,none⟩=false:=by
 obtain⟨a,c,e,_⟩:=h.at_
 cases e
 exact h.1.frozenAt j
theorem jaF {X:Type} (L:Lay X):∀(lx:List X) (k:Nat) (z:X),k<lx.length→(jb L lx).take (k*L.m)++L.cs z++(jb L lx).drop (k*L.m+L.m)=jb L (lx.set k z)
 | [],_,_,h=>by simp at h
 | x::t,0,z,_=>by
  rw[Nat.zero_mul,List.take_zero,List.nil_append,Nat.zero_add,List.set_cons_zero];unfold jb;rw[List.flatMap_cons,List.flatMap_cons,List.drop_append_of_le_length (by rw[L.len];exact Nat.le_refl _),List.drop_of_length_le (by rw[L.len];exact Nat.le_refl _),List.nil_append]
 | x::t,k+1,z,h=>by
  have ih:=jaF L t k z (by simpa using h);rw[List.set_cons_succ];unfold jb at ih ⊢;rw[List.flatMap_cons,List.flatMap_cons,←ih,Nat.add_mul,Nat.one_mul];have hx:(L.cs x).length=L.m:=L.len x;rw[show k*L.m+L.m=(L.cs x).length+k*L.m by rw[hx,Nat.add_comm],List.take_length_add_append,show (L.cs x).length+k*L.m+L.m=(L.cs x).length+(k*L.m+L.m) by omega,List.drop_length_add_append];simp only[List.append_assoc];rw[show (L.cs x).length+k*L.m=k*L.m+L.m by rw[hx,Nat.add_comm]]
theorem Own.Zi {X:Type} {L:Lay X} {T:TypeId} {w:World} {B g n cap:Nat} {lx:List X} (h:Own L T w B (.slice (some ⟨g,0,none⟩) n cap) lx) {k:Nat} (hk:k<lx.length) (z:X) (hf:L.fine z):Own L T (w.setCells g (k*L.m) (L.cs z)) B (.slice (some ⟨g,0,none⟩) n cap) (lx.set k z):=by
 obtain⟨a,c,e,_⟩:=h.at_
 cases e
 have hm:k*L.m+L.m≤lx.length*L.m:=by rw[←Nat.succ_mul];exact Nat.mul_le_mul_right _ hk
 have:=jkC h.1 (o:=k*L.m) (vs:=L.cs z) (by rw[L.len];exact hm);rw[L.len,jaF L lx k z hk] at this;refine⟨by rw[List.length_set];exact this,fun x hx=>?_⟩;rcases List.mem_or_eq_of_mem_set hx with hx | hx
 · exact h.2 x hx
 · subst hx;exact hf
theorem jhb {w:World} {B:Nat} {v:Value} {lx:List PX} {T:TypeId} (h:Deep jg T At4 w B v lx):zr w v (lx.map fun z=>z.1):=ZO h.own h.ats
def jna (o:Option Nod) (w:World) (e:Ending) (w':World):Prop:=(∀n,o=some n→∃b1 k1 d1 b2 k2 d2 b3 k3 d3,e=.returned (zw n (.slice b1 k1 d1) (.slice b2 k2 d2) (.slice b3 k3 d3))∧zp w' (.slice b1 k1 d1) (.slice b2 k2 d2) (.slice b3 k3 d3) n)∧(o=none→e=.panicked [zL 3])∧Kept w w'
theorem X2 (c:Int) (w:World):Calls Tryz.prog 203 #[.bool false,.int .i64 c] w fun e w'=>e=.returned (.tuple #[])∧w=w':=by
 go_enter Tryz.func203,Tryz.ntmps203;go_wp2;refine⟨rfl,.tuple #[],by simp[results,Tryz.results203,go_sem],?_⟩;exact⟨rfl,rfl⟩
theorem Xm (c:Int) (w:World):Calls Tryz.prog 203 #[.bool true,.int .i64 c] w fun e w'=>e=.panicked [zL c]∧w=w':=by
 go_enter Tryz.func203,Tryz.ntmps203;go_wp2;exact⟨rfl,rfl,rfl⟩
theorem jf0 (s1 s2 s3:Option Addr) (n1 e1 n2 e2 n3 e3:Nat) (nodes:List Nod) (name:ByteArray) (w:World) (hn:jE w s1 n1 nodes) (hb1:n1≤100000) :
 Calls Tryz.prog 202 #[.agg #[.slice s1 n1 e1,.slice s2 n2 e2,.slice s3 n3 e3],.string name] w (jna (jj nodes name) w):=by
 obtain⟨Z,hZ⟩:∃Z,(w.alloc (.cells #[.slice s1 n1 e1,.slice s2 n2 e2,.slice s3 n3 e3] 26)).alloc (.cells #[.string ⟨#[]⟩,.slice none 0 0,.slice none 0 0,.slice none 0 0,.bool false] 71)=Z:=⟨_,rfl⟩
 have hkz:Kept w Z:=by rw[←hZ];exact jm _ _ _
 have Vw:=lH (jd w (.slice s1 n1 e1) [.slice s2 n2 e2,.slice s3 n3 e3] 26 Z (by rw[←hZ];exact ja _ _));have hyb:jf (w.heap.size+1) [.string ⟨#[]⟩,.slice none 0 0,.slice none 0 0,.slice none 0 0,.bool false] Z:=by
  have dd:=jd (w.alloc (.cells #[.slice s1 n1 e1,.slice s2 n2 e2,.slice s3 n3 e3] 26)) (.string ⟨#[]⟩) [.slice none 0 0,.slice none 0 0,.slice none 0 0,.bool false] 71 Z (by rw[hZ];exact Kept.refl _);rw[World.size_alloc] at dd;exact dd
 have Ni:=lH hyb;have HN:=lH hn;have VY:=lH hn.1;have Ve:=lH hkz;clear hn hkz hyb;go_enter Tryz.func202,Tryz.ntmps202;have y0:=Vw.out.at_ 0 _ rfl;go_upto_region 1 with fail
 try rw[hZ]
 clear hZ;go_wp2;clear y0;go_loopw [10] (fun i wr=>∃k:Nat,k≤n1∧i=.int .i64 k∧jj (nodes.drop k) name=jj nodes name∧Kept Z wr) (fun i _=>n1-(intOf i).toNat)
 case atStart=>exact⟨0,Nat.zero_le _,rfl,rfl,Kept.refl _⟩
 case round =>
  obtain⟨k,hk,rfl,hR,hK⟩:=hrel;have HR:=lH hR;have HK:=lH (Ve.out.trans hK);have TC:=lH hK;by_cases hlt:k<n1
  · obtain⟨g,off,rfl⟩:=HN.out.form.resolve_left (by omega);obtain⟨n,b1,k1,d1,b2,k2,d2,b3,k3,d3,hn,hd,hb,u0,u1,u2,u3,u4,hat⟩:=HN.out.at_ hlt;have Vu:=lH hat;have HD:=lH hd;have u0:=cell_later HK.out u0;have u1:=cell_later HK.out u1;have u2:=cell_later HK.out u2;have u3:=cell_later HK.out u3;have u4:=cell_later HK.out u4;have hkk:(k:Int)<(n1:Int):=by omega
    have hk0:¬(k:Int)<0:=by omega
    obtain⟨wx,hwx⟩:∃W,wr.alloc (.cells #[.string n.name,.slice b1 k1 d1,.slice b2 k2 d2,.slice b3 k3 d3,.bool n.cordon] 71)=W:=⟨_,rfl⟩
    have hkx:Kept wr wx:=by rw[←hwx];exact ja _ _
    have Va:=lH (jd wr (.string n.name) [.slice b1 k1 d1,.slice b2 k2 d2,.slice b3 k3 d3,.bool n.cordon] 71 wx (by rw[hwx];exact Kept.refl _));obtain⟨bq,hbq⟩:∃z,wr.heap.size=z:=⟨_,rfl⟩
    rw[hbq] at Va;have KX:=lH hkx;go_upto_region 4 with fail
    try rw[hwx]
    try rw[hbq]
    clear hwx hbq hd hb hn hR hK hkx hk0 hkk hat u0 u1 u2 u3 u4;have t0:=Va.out.at_ 0 _ rfl;have t1:=Va.out.at_ 1 _ rfl;have t2:=Va.out.at_ 2 _ rfl;have t3:=Va.out.at_ 3 _ rfl;have t4:=Va.out.at_ 4 _ rfl;obtain⟨t,ht⟩:∃t,(n.name.toList==name.toList)=t:=⟨_,rfl⟩
    have HT:=lH (show eqS n.name name=t from ht)
    cases t with
    | false =>
     have HX:=lH (show jj (nodes.drop (k+1)) name=jj nodes name by rw[←HR.out,HD.out];unfold jj;rw[List.find?_cons,HT.out]);go_wp2;go_roundw
     case rel=>exact⟨k+1,by omega,by go_num,HX.out,TC.out.trans KX.out⟩
     case measure=>simp[intOf];omega
    | true =>
     have HX:=lH (show jj nodes name=some n by rw[←HR.out,HD.out];unfold jj;rw[List.find?_cons,HT.out]);have VV:=lH (Ni.out.kept (TC.out.trans KX.out));have z0:=VV.out.at_ 0 _ rfl;have z1:=VV.out.at_ 1 _ rfl;have z2:=VV.out.at_ 2 _ rfl;have z3:=VV.out.at_ 3 _ rfl;have z4:=VV.out.at_ 4 _ rfl;have f0:=VV.out.free 0;have f1:=VV.out.free 1;have f2:=VV.out.free 2;have f3:=VV.out.free 3;have f4:=VV.out.free 4;have P:=lH (Zi ⟨z0,z1,z2,z3,z4⟩ n.name b1 b2 b3 k1 d1 k2 d2 k3 d3 n.cordon);go_wp2;obtain⟨WE,hWE⟩:∃W,(((((wx.setCell ⟨w.heap.size+1,0,none⟩ (.string n.name)).setCell ⟨w.heap.size+1,1,none⟩ (.slice b1 k1 d1)).setCell ⟨w.heap.size+1,2,none⟩ (.slice b2 k2 d2)).setCell ⟨w.heap.size+1,3,none⟩ (.slice b3 k3 d3)).setCell ⟨w.heap.size+1,4,none⟩ (.bool n.cordon))=W:=⟨_,rfl⟩
     rw[hWE] at P ⊢;clear hWE z0 z1 z2 z3 z4 t0 t1 t2 t3 t4 f0 f1 f2 f3 f4;obtain⟨⟨d0,d1,d2,d3,d4⟩,hsz,hbl,hkp⟩:=P.out;refine bodyPost_ret (by simp[results,Tryz.results202,go_sem,d0,d1,d2,d3,d4];try rfl) rfl ?_;have KE:=hkp _ _ (Nat.le_succ _) (HK.out.trans KX.out);refine⟨fun m e=>?_,fun e=>?_,KE⟩
     · rw[HX.out] at e;cases e;exact⟨_,_,_,_,_,_,_,_,_,rfl,Vu.out.kept KE⟩
     · rw[HX.out] at e;cases e
  · have hge:¬(k:Int)<(n1:Int):=by omega
    have HO:=lH (show jj nodes name=none by rw[←HR.out,List.drop_of_length_le (by rw[VY.out];omega)];rfl);clear hR hK;go_wp2;exact⟨rfl,(fun m e=>by rw[HO.out] at e;cases e),(fun _=>rfl),HK.out⟩
def ZQ (o:Option ByteArray) (w:World) (e:Ending) (w':World):Prop:=(∀d,o=some d→e=.returned (.string d))∧(o=none→e=.panicked [zL 3])∧Kept w w'
theorem ZQ.bad {o:Option ByteArray} {w w':World} (h:o=none) (k:Kept w w'):ZQ o w (.panicked [zL 3]) w':=⟨(fun d e=>by rw[h] at e;cases e),(fun _=>rfl),k⟩
theorem ZQ.good {o:Option ByteArray} {d:ByteArray} {w w':World} (h:o=some d) (k:Kept w w'):ZQ o w (.returned (.string d)) w':=⟨(fun c e=>by rw[h] at e;cases e;rfl),(fun e=>by rw[h] at e;cases e),k⟩
theorem jiR (a:Option Addr) (m c:Nat) (l:PL) (key:ByteArray) (w:World) (h:Reads jF w (.slice a m c) l):Calls Tryz.prog 231 #[.slice a m c,.string key] w (ZQ (jU l key) w):=by
 obtain⟨go,hgo⟩:∃z,jU l key=z:=⟨_,rfl⟩
 rw[hgo];have HG:=lH (jfe h (x:=go.getD ByteArray.empty) (b:=go.isSome) (by unfold ZP;rw[hgo]) (by unfold Za;rw[hgo]));clear h hgo;go_enter Tryz.func231,Tryz.ntmps231;go_wp2_with fail
 refine HG.out.mono ?_;rintro e w1 ⟨rfl,kk⟩;have K:=lH kk;clear kk
 cases go with
 | none =>
  go_wp2;exact⟨rfl,ZQ.bad rfl K.out⟩
 | some d =>
  go_wp2;go_ret;exact ZQ.good rfl K.out
theorem jkc {key name:ByteArray} {n:Nod} {l:List Nod} (h:eqS n.name name=true):domV key name (n::l)=jU n.labels key:=by rw[domV,if_pos h]
theorem ji1 {key name:ByteArray} {n:Nod} {l:List Nod} (h:eqS n.name name=false):domV key name (n::l)=domV key name l:=by rw[domV,if_neg (by rw[h];decide)]
theorem jeD (s1 s2 s3:Option Addr) (n1 e1 n2 e2 n3 e3:Nat) (nodes:List Nod) (key name:ByteArray) (w:World) (hn:jE w s1 n1 nodes) (hb1:n1≤100000) :
 Calls Tryz.prog 224 #[.agg #[.slice s1 n1 e1,.slice s2 n2 e2,.slice s3 n3 e3],.string key,.string name] w (ZQ (domV key name nodes) w):=by
 obtain⟨Z,hZ⟩:∃Z,w.alloc (.cells #[.slice s1 n1 e1,.slice s2 n2 e2,.slice s3 n3 e3] 26)=Z:=⟨_,rfl⟩
 have hkz:Kept w Z:=by rw[←hZ];exact ja _ _
 have Vw:=lH (jd w (.slice s1 n1 e1) [.slice s2 n2 e2,.slice s3 n3 e3] 26 Z (by rw[hZ];exact Kept.refl _));have HN:=lH hn;have VY:=lH hn.1;have Ve:=lH hkz;clear hn hkz;go_enter Tryz.func224,Tryz.ntmps224;have y0:=Vw.out.at_ 0 _ rfl;go_upto_region 1 with fail
 try rw[hZ]
 clear hZ;go_wp2;clear y0;go_loopw [12] (fun i wr=>∃k:Nat,k≤n1∧i=.int .i64 k∧domV key name (nodes.drop k)=domV key name nodes∧Kept Z wr) (fun i _=>n1-(intOf i).toNat)
 case atStart=>exact⟨0,Nat.zero_le _,rfl,rfl,Kept.refl _⟩
 case round =>
  obtain⟨k,hk,rfl,hR,hK⟩:=hrel;have HR:=lH hR;have HK:=lH (Ve.out.trans hK);have TC:=lH hK;by_cases hlt:k<n1
  · obtain⟨g,off,rfl⟩:=HN.out.form.resolve_left (by omega);obtain⟨n,b1,k1,d1,b2,k2,d2,b3,k3,d3,hn,hd,hb,u0,u1,u2,u3,u4,hat⟩:=(HN.out.kept HK.out).at_ hlt;have Vu:=lH hat;have HD:=lH hd;have hkk:(k:Int)<(n1:Int):=by omega
    have hk0:¬(k:Int)<0:=by omega
    obtain⟨wx,hwx⟩:∃W,wr.alloc (.cells #[.string n.name,.slice b1 k1 d1,.slice b2 k2 d2,.slice b3 k3 d3,.bool n.cordon] 71)=W:=⟨_,rfl⟩
    have hkx:Kept wr wx:=by rw[←hwx];exact ja _ _
    have Va:=lH (jd wr (.string n.name) [.slice b1 k1 d1,.slice b2 k2 d2,.slice b3 k3 d3,.bool n.cordon] 71 wx (by rw[hwx];exact Kept.refl _));obtain⟨bq,hbq⟩:∃z,wr.heap.size=z:=⟨_,rfl⟩
    rw[hbq] at Va;have KX:=lH hkx;go_upto_region 4 with fail
    try rw[hwx]
    try rw[hbq]
    clear hwx hbq hd hb hn hR hK hkx hk0 hkk hat u0 u1 u2 u3 u4;have t0:=Va.out.at_ 0 _ rfl;have t2:=Va.out.at_ 2 _ rfl;obtain⟨t,ht⟩:∃t,(n.name.toList==name.toList)=t:=⟨_,rfl⟩
    have HT:=lH (show eqS n.name name=t from ht)
    cases t with
    | false =>
     have HX:=lH (show domV key name (nodes.drop (k+1))=domV key name nodes by rw[←HR.out,HD.out,ji1 HT.out]);go_wp2;go_roundw
     case rel=>exact⟨k+1,by omega,by go_num,HX.out,TC.out.trans KX.out⟩
     case measure=>simp[intOf];omega
    | true =>
     have HX:=lH (show jU n.labels key=domV key name nodes by rw[←HR.out,HD.out,jkc HT.out]);go_wp2_with fail
     refine(jiR b2 k2 d2 n.labels key wx (Vu.out.labels.kept KX.out)).mono ?_;rintro e w3 ⟨h1,h2,kk⟩;have K3:=lH (HK.out.trans (KX.out.trans kk));clear kk;rw[HX.out] at h1 h2
     cases ho:domV key name nodes with
     | none =>
      obtain rfl:=h2 ho;have HO:=lH ho;clear h1 h2 ho;go_wp2;exact⟨rfl,ZQ.bad HO.out K3.out⟩
     | some d =>
      obtain rfl:=h1 d ho;have HO:=lH ho;clear h1 h2 ho;go_wp2;go_ret;exact ZQ.good HO.out K3.out
  · have hge:¬(k:Int)<(n1:Int):=by omega
    have HO:=lH (show domV key name nodes=none by rw[←HR.out,List.drop_of_length_le (by rw[VY.out];omega)];rfl);clear hR hK;go_wp2;exact⟨rfl,ZQ.bad HO.out HK.out⟩
theorem jg3 (p q:Pd) (a1 a2 a3 a4 b1 b2 b3 b4:Option Addr) (m1 c1 m2 c2 m3 c3 m4 c4 k1 d1 k2 d2 k3 d3 k4 d4:Nat) (w:World):Calls Tryz.prog 232 #[jr p (.slice a1 m1 c1) (.slice a2 m2 c2) (.slice a3 m3 c3) (.slice a4 m4 c4),jr q (.slice b1 k1 d1) (.slice b2 k2 d2) (.slice b3 k3 d3) (.slice b4 k4 d4)] w (Say (.bool (zQ p q)) w):=by
 obtain⟨Z,hZ⟩:∃Z,(w.alloc (.cells #[.string p.name,.string p.owner,.int .i64 p.prio,.slice a1 m1 c1,.slice a2 m2 c2,.slice a3 m3 c3,.slice a4 m4 c4,.string p.key,.int .i64 p.most,.string p.node,.bool p.hold] 35)).alloc (.cells #[.string q.name,.string q.owner,.int .i64 q.prio,.slice b1 k1 d1,.slice b2 k2 d2,.slice b3 k3 d3,.slice b4 k4 d4,.string q.key,.int .i64 q.most,.string q.node,.bool q.hold] 35)=Z:=⟨_,rfl⟩
 have hkz:Kept w Z:=by rw[←hZ];exact jm _ _ _
 have hp:=jd w (.string p.name) [.string p.owner,.int .i64 p.prio,.slice a1 m1 c1,.slice a2 m2 c2,.slice a3 m3 c3,.slice a4 m4 c4,.string p.key,.int .i64 p.most,.string p.node,.bool p.hold] 35 Z (by rw[←hZ];exact ja _ _);have hq:jf (w.heap.size+1) [.string q.name,.string q.owner,.int .i64 q.prio,.slice b1 k1 d1,.slice b2 k2 d2,.slice b3 k3 d3,.slice b4 k4 d4,.string q.key,.int .i64 q.most,.string q.node,.bool q.hold] Z:=by
  have dd:=jd (w.alloc (.cells #[.string p.name,.string p.owner,.int .i64 p.prio,.slice a1 m1 c1,.slice a2 m2 c2,.slice a3 m3 c3,.slice a4 m4 c4,.string p.key,.int .i64 p.most,.string p.node,.bool p.hold] 35)) (.string q.name) [.string q.owner,.int .i64 q.prio,.slice b1 k1 d1,.slice b2 k2 d2,.slice b3 k3 d3,.slice b4 k4 d4,.string q.key,.int .i64 q.most,.string q.node,.bool q.hold] 35 Z (by rw[hZ];exact Kept.refl _);rw[World.size_alloc] at dd;exact dd
 have p0:=hp.at_ 0 _ rfl;have p1:=hp.at_ 1 _ rfl;have q0:=hq.at_ 0 _ rfl;have q1:=hq.at_ 1 _ rfl;have q10:=hq.at_ 10 _ rfl;have HK:=lH hkz;obtain⟨t0,h0⟩:∃t,(p.owner.toList==([]:List UInt8))=t:=⟨_,rfl⟩
 obtain⟨t1,h1⟩:∃t,(q.owner.toList==p.owner.toList)=t:=⟨_,rfl⟩
 obtain⟨t2,h2⟩:∃t,(q.name.toList==p.name.toList)=t:=⟨_,rfl⟩
 obtain⟨t3,h3⟩:∃t,q.hold=t:=⟨_,rfl⟩
 have HV:=lH (show zQ p q=(!t0&&(t1&&(!t3&&!t2))) by unfold zQ eqS;rw[JA,h0,h1,h2,h3]);rw[h3] at q10;rw[h3] at hZ;clear hp hq hkz;unfold jr;rw[h3];clear h3;go_enter Tryz.func232,Tryz.ntmps232
 cases t0 with
 | true =>
  go_wp2;try rw[hZ]
  go_ret;exact⟨je (by rw[HV.out];rfl),by first | exact HK.out | (rw[hZ];exact HK.out)⟩
 | false =>
  cases t1 with
  | false =>
   go_wp2;try rw[hZ]
   go_ret;exact⟨je (by rw[HV.out];rfl),by first | exact HK.out | (rw[hZ];exact HK.out)⟩
  | true =>
   cases t3 with
   | true =>
    go_wp2;try rw[hZ]
    go_ret;exact⟨je (by rw[HV.out];rfl),by first | exact HK.out | (rw[hZ];exact HK.out)⟩
   | false =>
    cases t2 with
    | true =>
     go_wp2;try rw[hZ]
     go_ret;exact⟨je (by rw[HV.out];rfl),by first | exact HK.out | (rw[hZ];exact HK.out)⟩
    | false =>
     go_wp2;try rw[hZ]
     go_ret;exact⟨je (by rw[HV.out];rfl),by first | exact HK.out | (rw[hZ];exact HK.out)⟩
open Go.RowKit Go.Maps Go.WideShapes Go.WideMaps
theorem jaM:Keyed Tryz.prog 9:=string_keyed Tryz.underlying9
theorem jlO (w:World):(zeroValue 3).run Tryz.prog w=.ok (.int .i64 0) w:=by kernel_rfl
abbrev mk9 (x:ByteArray):Lit:=.string x.data.toList
theorem jgz {x y:ByteArray} (h:mk9 x=mk9 y):x=y:=by
 injection h with h
 cases x;cases y
 simp only at h;congr 1
 exact Array.toList_inj.1 h
structure jmY (w:World) (b n:Nat) (D:DataW Unit) (f:ByteArray→Int) (dom:ByteArray→Bool):Prop where
 own:w.ownsMap Tryz.prog 9 (plainElem Tryz.prog 3) b n D
 at_:∀x,D.atKey (mk9 x) (.lit (.int .i64 0))=.lit (.int .i64 (f x))
 has:∀x,Maps.has D (mk9 x)=dom x
 map:IsMap D
def zB (w:World) (b n:Nat) (f:ByteArray→Int) (dom:ByteArray→Bool):Prop:=∃D:DataW Unit,jmY w b n D f dom
theorem zB.made (w:World):zB (w.alloc (.map #[] 0)) w.heap.size 0 (fun _=>0) (fun _=>false) :=
 ⟨.map [],World.ownsMap_made w _ _ _,fun _=>rfl,fun _=>rfl,isMap_empty⟩
theorem zB.block {w w':World} {b n:Nat} {f:ByteArray→Int} {dom:ByteArray→Bool} (h:zB w b n f dom) (hb:w'.heap[b]?=w.heap[b]?):zB w' b n f dom:=by
 obtain⟨D,⟨es,clock,h1,h2⟩,h3,h4,h5⟩:=h;exact⟨D,⟨es,clock,hb.trans h1,h2⟩,h3,h4,h5⟩
theorem zB.lt {w:World} {b n:Nat} {f:ByteArray→Int} {dom:ByteArray→Bool} (h:zB w b n f dom):b<w.heap.size:=by
 obtain⟨D,h,-⟩:=h;exact h.lt
theorem zB.kept {w w':World} {b n:Nat} {f:ByteArray→Int} {dom:ByteArray→Bool} (h:zB w b n f dom) (k:Kept w w'):zB w' b n f dom:=h.block (k.block b h.lt)
theorem zB.eq {w:World} {b n:Nat} {f g:ByteArray→Int} {dom dem:ByteArray→Bool} (h:zB w b n f dom) (hf:∀x,f x=g x) (hd:∀x,dom x=dem x):zB w b n g dem:=by
 obtain⟨D,h1,h2,h3,h4⟩:=h;exact⟨D,h1,fun x=>by rw[h2,hf],fun x=>by rw[h3,hd],h4⟩
theorem zB.look {w:World} {b n:Nat} {f:ByteArray→Int} {dom:ByteArray→Bool} (h:zB w b n f dom) (x:ByteArray) (hx:x.size≤maxLen):(Instr.lookup 291 (.map (some b)) (.string x) false).run Tryz.prog w=.ok (.int .i64 (f x)) w:=by
 obtain⟨D,h1,h2,h3,h4⟩:=h;obtain⟨c,hrun,hat,-⟩:=h1.lookup_int (t:=291) jaM Tryz.underlying291 Tryz.underlying3 (jlO _) (keyOf_string_mk Tryz.underlying9 hx);rw[hrun];have:=(h2 x).symm.trans hat;injection this with this;injection this with _ this;rw[this]
theorem zB.put {w:World} {b n:Nat} {f:ByteArray→Int} {dom:ByteArray→Bool} (h:zB w b n f dom) (hn:n<maxLen) (x:ByteArray) (hx:x.size≤maxLen) (c:Int) (hc:-9223372036854775808≤c∧c≤9223372036854775807) :
 ∃w',(Instr.mapUpdate 291 (.map (some b)) (.string x) (.int .i64 c)).run Tryz.prog w=.ok () w'∧zB w' b (n+1) (fun y=>if y=x then c else f y) (fun y=>if y=x then true else dom y)∧jq (fun i=>i=b) w w':=by
 obtain⟨D,h1,h2,h3,h4⟩:=h;obtain⟨w',hrun,ho,hg⟩:=h1.update (t:=291) jaM Tryz.underlying291 hn (keyOf_string_mk Tryz.underlying9 hx) (plainElem_int (H:=Unit) Tryz.underlying3 (WalkArith.wf_i64 hc));refine⟨w',hrun,⟨_,ho,fun y=>?_,fun y=>?_,h4.put _ _⟩,jq.grown hg fun k e=>by cases e;rfl⟩
 · by_cases e:y=x
   · subst e;rw[if_pos rfl,atKey_put_same h4 (show WideAt.IsKeyLit (.string _) from trivial)]
   · rw[if_neg e,atKey_put_other (fun g=>e (jgz g)),h2]
 · by_cases e:y=x
   · subst e;rw[if_pos rfl,has_put_same h4 (show WideAt.IsKeyLit (.string _) from trivial)]
   · rw[if_neg e,has_put_other (fun g=>e (jgz g)),h3]
theorem zB.mono1 {w:World} {b n n':Nat} {f:ByteArray→Int} {dom:ByteArray→Bool} (h:zB w b n f dom) (hn:n≤n'):zB w b n' f dom:=by
 obtain⟨D,h1,h2,h3,h4⟩:=h;exact⟨D,h1.mono hn,h2,h3,h4⟩
theorem jiu (s1 s2 s3 a1 a2 a3 a4:Option Addr) (n1 e1 n2 e2 n3 e3 m1 c1 m2 c2 m3 c3 m4 c4:Nat) (p:Pd) (nodes:List Nod) (pods:List Pd) (w:World) (hn:jE w s1 n1 nodes) (hp:jN w s2 n2 pods) (hb1:n1≤100000) (hb2:n2≤100000) :
 Calls Tryz.prog 225 #[.agg #[.slice s1 n1 e1,.slice s2 n2 e2,.slice s3 n3 e3],jr p (.slice a1 m1 c1) (.slice a2 m2 c2) (.slice a3 m3 c3) (.slice a4 m4 c4)] w fun e w'=>∃b n,e=.returned (.map (some b))∧zB w' b n (fun d=>(inD p pods d nodes:Int)) (fun d=>Zn p.key d nodes)∧w.heap.size≤b∧n≤100000∧Kept w w':=by
 obtain⟨Z,hZ⟩:∃Z,(w.alloc (.cells #[.slice s1 n1 e1,.slice s2 n2 e2,.slice s3 n3 e3] 26)).alloc (.cells #[.string p.name,.string p.owner,.int .i64 p.prio,.slice a1 m1 c1,.slice a2 m2 c2,.slice a3 m3 c3,.slice a4 m4 c4,.string p.key,.int .i64 p.most,.string p.node,.bool p.hold] 35)=Z:=⟨_,rfl⟩
 have hkz:Kept w Z:=by rw[←hZ];exact jm _ _ _
 have hzs:Z.heap.size=w.heap.size+2:=by rw[←hZ];simp
 have Vw:=lH (jd w (.slice s1 n1 e1) [.slice s2 n2 e2,.slice s3 n3 e3] 26 Z (by rw[←hZ];exact ja _ _));have Vj:=lH (show jf (w.heap.size+1) [.string p.name,.string p.owner,.int .i64 p.prio,.slice a1 m1 c1,.slice a2 m2 c2,.slice a3 m3 c3,.slice a4 m4 c4,.string p.key,.int .i64 p.most,.string p.node,.bool p.hold] Z by
  have dd:=jd (w.alloc (.cells #[.slice s1 n1 e1,.slice s2 n2 e2,.slice s3 n3 e3] 26)) (.string p.name) [.string p.owner,.int .i64 p.prio,.slice a1 m1 c1,.slice a2 m2 c2,.slice a3 m3 c3,.slice a4 m4 c4,.string p.key,.int .i64 p.most,.string p.node,.bool p.hold] 35 Z (by rw[hZ];exact Kept.refl _);rw[World.size_alloc] at dd;exact dd)
 obtain⟨Y,hY⟩:∃Y,Z.alloc (.map #[] 0)=Y:=⟨_,rfl⟩
 have hky:Kept Z Y:=by rw[←hY];exact ja _ _
 have U5:=lH (show zB Y Z.heap.size 0 (fun _=>0) (fun _=>false) by rw[←hY];exact zB.made Z);have Rj:=lH (show Y.heap.size=Z.heap.size+1 by rw[←hY,World.size_alloc]);have Vw:=lH (Vw.out.kept hky);have Vj:=lH (Vj.out.kept hky);have MD:=lH (hkz.trans hky);obtain⟨mb,hmb⟩:∃q,Z.heap.size=q:=⟨_,rfl⟩
 rw[hmb] at U5 Rj;have TP:=lH (show w.heap.size+2≤mb by omega);have Vm:=lH hzs;have HN:=lH hn;have HP:=lH hp;have VY:=lH hn.1;have UF:=lH hp.1;clear hn hp hkz hky hzs;have hmm:=@run_makeMap Tryz.prog;unfold jr;go_enter Tryz.func225,Tryz.ntmps225;have y0:=Vw.out.at_ 0 _ rfl;have y1:=Vw.out.at_ 1 _ rfl;have z0:=(show jf w.heap.size _ Z from jd w (.slice s1 n1 e1) [.slice s2 n2 e2,.slice s3 n3 e3] 26 Z (by rw[←hZ];exact ja _ _)).at_ 1 _ rfl;go_upto_region 2 with fail
 try rw[hZ]
 try rw[hY]
 try rw[hmb]
 clear hZ hY hmb hmm z0;go_wp2;clear y0 y1;skip;go_loopw [17] (fun i wr=>∃k:Nat,k≤n2∧i=.int .i64 k∧(∃dom,zB wr mb k (fun x=>(onN p x (pods.take k):Int)) dom)∧jq (fun i=>i=mb) Y wr) (fun i _=>n2-(intOf i).toNat)
 case atStart=>exact⟨0,Nat.zero_le _,rfl,⟨_,U5.out.eq (fun _=>rfl) (fun _=>rfl)⟩,jq.of (Kept.refl _)⟩
 case round =>
  obtain⟨k,hk,rfl,⟨dom,hM⟩,hG⟩:=hrel;have HM:=lH hM;have HG:=lH hG;have KW:=lH (show Kept w wr from jq.below MD.out hG fun i e=>by have:=TP.out;omega);by_cases hlt:k<n2
  · obtain⟨g,off,rfl⟩:=HP.out.form.resolve_left (by omega);obtain⟨q,b1,k1,d1,b2,k2,d2,b3,k3,d3,b4,k4,d4,hn,hd,hb,u0,u1,u2,u3,u4,u5,u6,u7,u8,u9,u10,hat⟩:=(HP.out.kept KW.out).at_ hlt;have Uy:=lH (show pods.take (k+1)=pods.take k++[q] by rw[List.take_add_one,hn];rfl);have VW:=lH hat.node;have hkk:(k:Int)<(n2:Int):=by omega
    have hk0:¬(k:Int)<0:=by omega
    obtain⟨wx,hwx⟩:∃W,wr.alloc (.cells #[.string q.name,.string q.owner,.int .i64 q.prio,.slice b1 k1 d1,.slice b2 k2 d2,.slice b3 k3 d3,.slice b4 k4 d4,.string q.key,.int .i64 q.most,.string q.node,.bool q.hold] 35)=W:=⟨_,rfl⟩
    have hkx:Kept wr wx:=by rw[←hwx];exact ja _ _
    have Va:=lH (jd wr (.string q.name) [.string q.owner,.int .i64 q.prio,.slice b1 k1 d1,.slice b2 k2 d2,.slice b3 k3 d3,.slice b4 k4 d4,.string q.key,.int .i64 q.most,.string q.node,.bool q.hold] 35 wx (by rw[hwx];exact Kept.refl _));obtain⟨bq,hbq⟩:∃z,wr.heap.size=z:=⟨_,rfl⟩
    rw[hbq] at Va;have Ld:=lH (show mb<bq by rw[←hbq];have:=Rj.out;have:=hG.size;omega);have V6:=lH ((Vj.out.block (hG.block _ (by have:=Vj.out.lt;exact this) (by have:=TP.out;omega))).kept hkx);have ME:=lH (hM.kept hkx);have KX:=lH hkx;go_upto_region 5 with fail
    try rw[hwx]
    try rw[hbq]
    clear hwx hbq hd hb hat hM hG hkx hk0 hkk u0 u1 u2 u3 u4 u5 u6 u7 u8 u9 u10;have r0:=V6.out.at_ 0 _ rfl;have r1:=V6.out.at_ 1 _ rfl;have r2:=V6.out.at_ 2 _ rfl;have r3:=V6.out.at_ 3 _ rfl;have r4:=V6.out.at_ 4 _ rfl;have r5:=V6.out.at_ 5 _ rfl;have r6:=V6.out.at_ 6 _ rfl;have r7:=V6.out.at_ 7 _ rfl;have r8:=V6.out.at_ 8 _ rfl;have r9:=V6.out.at_ 9 _ rfl;have r10:=V6.out.at_ 10 _ rfl;have t0:=Va.out.at_ 0 _ rfl;have t1:=Va.out.at_ 1 _ rfl;have t2:=Va.out.at_ 2 _ rfl;have t3:=Va.out.at_ 3 _ rfl;have t4:=Va.out.at_ 4 _ rfl;have t5:=Va.out.at_ 5 _ rfl;have t6:=Va.out.at_ 6 _ rfl;have t7:=Va.out.at_ 7 _ rfl;have t8:=Va.out.at_ 8 _ rfl;have t9:=Va.out.at_ 9 _ rfl;have t10:=Va.out.at_ 10 _ rfl;go_wp2_with fail
    refine(jg3 p q a1 a2 a3 a4 b1 b2 b3 b4 m1 c1 m2 c2 m3 c3 m4 c4 k1 d1 k2 d2 k3 d3 k4 d4 wx).mono ?_;rintro e w3 ⟨rfl,kk⟩;clear r0 t0 r1 t1 r2 t2 r3 t3 r4 t4 r5 t5 r6 t6 r7 t7 r8 t8 r9 t9 r10 t10;have RH:=lH kk;have RI:=lH (ME.out.kept kk);have t9:=(Va.out.kept kk).at_ 9 _ rfl;clear kk;obtain⟨bb,hbb⟩:∃z,zQ p q=z:=⟨_,rfl⟩
    have VR:=lH hbb;rw[hbb];clear hbb
    cases bb with
    | false =>
     go_wp2;go_roundw
     case rel =>
      refine⟨k+1,by omega,by go_num,⟨dom,(RI.out.mono1 (Nat.le_succ k)).eq (fun x=>?_) (fun _=>rfl)⟩,(HG.out.trans (jq.of KX.out)).trans (jq.of RH.out)⟩;rw[Uy.out,ja0];show ((onN p x (pods.take k):Nat):Int)=((onN p x (pods.take k)+((if zQ p q=true∧q.node=x then 1 else 0)+0):Nat):Int);rw[if_neg (by rw[VR.out];simp)];rfl
     case measure=>simp[intOf];omega
    | true =>
     have hsz:onN p q.node (pods.take k)≤k:=Nat.le_trans (jb6 _ _ _) (by rw[List.length_take];omega);have hlook:=RI.out.look q.node VW.out;obtain⟨v,hv⟩:∃v,onN p q.node (pods.take k)=v:=⟨_,rfl⟩
     have HV:=lH hv;rw[hv] at hlook hsz;obtain⟨v1,hv1⟩:∃z:Nat,v+1=z:=⟨_,rfl⟩
     have hv2:(v:Int)+1=(v1:Int):=by omega
     have hv3:IntKind.i64.wrap (v1:Int)=(v1:Int):=IntWalk.i64_in _ (by omega);obtain⟨w4,hput,hM4,hG4⟩:=RI.out.put (by unfold maxLen;omega) q.node VW.out (v1:Int) (by omega);have Nx:=lH hM4;have RJ:=lH hG4;have MF:=lH hv1;clear hM4 hG4 hv hv1;go_wp2;go_roundw
     case rel =>
      refine⟨k+1,by omega,by go_num,⟨_,Nx.out.eq (fun x=>?_) (fun _=>rfl)⟩,((HG.out.trans (jq.of KX.out)).trans (jq.of RH.out)).trans RJ.out⟩;rw[Uy.out,ja0];show _=((onN p x (pods.take k)+((if zQ p q=true∧q.node=x then 1 else 0)+0):Nat):Int);by_cases hx:x=q.node
      · rw[if_pos hx,if_pos ⟨VR.out,hx.symm⟩,hx,HV.out,←MF.out]
      · rw[if_neg hx,if_neg (fun g=>hx g.2.symm)];rfl
     case measure=>simp[intOf];omega
  · have hge:¬(k:Int)<(n2:Int):=by omega
    have hM:=HM.out;rw[List.take_of_length_le (by rw[UF.out];omega)] at hM;have HM:=lH hM;have Vw:=lH (Vw.out.block (hG.block _ Vw.out.lt (by have:=TP.out;omega)));have Vj:=lH (Vj.out.block (hG.block _ Vj.out.lt (by have:=TP.out;omega)));obtain⟨X,hX⟩:∃X,wr.alloc (.map #[] 0)=X:=⟨_,rfl⟩
    have hkx:Kept wr X:=by rw[←hX];exact ja _ _
    have U5:=lH (show zB X wr.heap.size 0 (fun _=>0) (fun _=>false) by rw[←hX];exact zB.made wr);have UG:=lH (show X.heap.size=wr.heap.size+1 by rw[←hX,World.size_alloc]);obtain⟨mc,hmc⟩:∃q,wr.heap.size=q:=⟨_,rfl⟩
    rw[hmc] at U5 UG;have Rk:=lH (show mb<mc by rw[←hmc];have:=Rj.out;have:=hG.size;omega);have HM:=lH (HM.out.kept hkx);have Vw:=lH (Vw.out.kept hkx);have Vj:=lH (Vj.out.kept hkx);have KX:=lH (KW.out.trans hkx);clear hM hG hkx;have hmm:=@run_makeMap Tryz.prog;go_upto_region 9 with fail
    try rw[hX]
    try rw[hmc]
    clear hX hmc hmm;have y0:=Vw.out.at_ 0 _ rfl;go_wp2;clear y0;go_loopw [34] (fun i wr=>∃k:Nat,k≤n1∧i=.int .i64 k∧zB wr mc k (fun d=>(inD p pods d (nodes.take k):Int)) (fun d=>Zn p.key d (nodes.take k))∧jq (fun i=>i=mc) X wr) (fun i _=>n1-(intOf i).toNat)
    case atStart=>exact⟨0,Nat.zero_le _,rfl,U5.out.eq (fun _=>rfl) (fun _=>rfl),jq.of (Kept.refl _)⟩
    case round =>
     obtain⟨k,hk,rfl,hN,hG⟩:=hrel;have HC:=lH hN;have HG:=lH hG;have KW:=lH (show Kept w wr from jq.below KX.out hG fun i e=>by have:=TP.out;have:=Rk.out;omega);by_cases hlt:k<n1
     · obtain⟨g,off,rfl⟩:=HN.out.form.resolve_left (by omega);obtain⟨n,b1,k1,d1,b2,k2,d2,b3,k3,d3,hn,hd,hb,u0,u1,u2,u3,u4,hat⟩:=(HN.out.kept KW.out).at_ hlt;have Uy:=lH (show nodes.take (k+1)=nodes.take k++[n] by rw[List.take_add_one,hn];rfl);have Vu:=lH hat;have hkk:(k:Int)<(n1:Int):=by omega
       have hk0:¬(k:Int)<0:=by omega
       obtain⟨wx,hwx⟩:∃W,wr.alloc (.cells #[.string n.name,.slice b1 k1 d1,.slice b2 k2 d2,.slice b3 k3 d3,.bool n.cordon] 71)=W:=⟨_,rfl⟩
       have hkx:Kept wr wx:=by rw[←hwx];exact ja _ _
       have Va:=lH (jd wr (.string n.name) [.slice b1 k1 d1,.slice b2 k2 d2,.slice b3 k3 d3,.bool n.cordon] 71 wx (by rw[hwx];exact Kept.refl _));obtain⟨bq,hbq⟩:∃z,wr.heap.size=z:=⟨_,rfl⟩
       rw[hbq] at Va;have V6:=lH ((Vj.out.block (hG.block _ Vj.out.lt (by have:=TP.out;have:=Rk.out;omega))).kept hkx);have TQ:=lH (hN.kept hkx);have Md:=lH ((HM.out.block (hG.block _ HM.out.lt (by have:=Rk.out;omega))).kept hkx);have KX1:=lH hkx;go_upto_region 12 with fail
       try rw[hwx]
       try rw[hbq]
       clear hwx hbq hd hb hat hN hG hkx hk0 hkk u0 u1 u2 u3 u4;have r7:=V6.out.at_ 7 _ rfl;have t2:=Va.out.at_ 2 _ rfl;obtain⟨go,hgo⟩:∃z,jU n.labels p.key=z:=⟨_,rfl⟩
       have Us:=lH hgo;go_wp2_with fail
       refine(jfe (Vu.out.labels.kept KX1.out) (x:=go.getD ByteArray.empty) (b:=go.isSome) (by unfold ZP;rw[hgo]) (by unfold Za;rw[hgo])).mono ?_;rintro e w3 ⟨rfl,kk⟩;have RH:=lH kk;have RK:=lH (TQ.out.kept kk);have RI:=lH (Md.out.kept kk);have t0:=(Va.out.kept kk).at_ 0 _ rfl;clear kk hgo r7 t2
       cases go with
       | none =>
        go_wp2;go_roundw
        case rel =>
         refine⟨k+1,by omega,by go_num,(RK.out.mono1 (Nat.le_succ k)).eq (fun x=>?_) (fun x=>?_),(HG.out.trans (jq.of KX1.out)).trans (jq.of RH.out)⟩
         · rw[Uy.out,jcM];show ((inD p pods x (nodes.take k):Nat):Int)=((inD p pods x (nodes.take k)+((if jU n.labels p.key=some x then onN p n.name pods else 0)+0):Nat):Int);rw[if_neg (by rw[Us.out];simp)];rfl
         · rw[Uy.out];unfold Zn;rw[List.any_append,List.any_cons,Us.out];simp
        case measure=>simp[intOf];omega
       | some d =>
        have hds:d.size≤maxLen:=jc6 Vu.out.labels.fine Us.out;have hb1a:inD p pods d (nodes.take k)≤100000*100000:=Nat.le_trans (jd6 _ _ _ _) (Nat.mul_le_mul (by rw[List.length_take];omega) (by rw[UF.out];omega));have hb2a:onN p n.name pods≤100000:=Nat.le_trans (jb6 _ _ _) (by rw[UF.out];omega);have hl1:=RK.out.look d hds;have hl2:=RI.out.look n.name Vu.out.size;obtain⟨x1,hx1⟩:∃v,inD p pods d (nodes.take k)=v:=⟨_,rfl⟩
        obtain⟨x2,hx2⟩:∃v,onN p n.name pods=v:=⟨_,rfl⟩
        have U2:=lH hx1;have UD:=lH hx2;rw[hx1] at hl1 hb1a;rw[hx2] at hl2 hb2a;obtain⟨x3,hx3⟩:∃z:Nat,x1+x2=z:=⟨_,rfl⟩
        have hx4:(x1:Int)+(x2:Int)=(x3:Int):=by omega
        have hx5:IntKind.i64.wrap (x3:Int)=(x3:Int):=IntWalk.i64_in _ (by omega);obtain⟨w4,hput,hM4,hG4⟩:=RK.out.put (by unfold maxLen;omega) d hds (x3:Int) (by omega);have Nx:=lH hM4;have RJ:=lH hG4;have Tp:=lH hx3;clear hM4 hG4 hx1 hx2 hx3;go_wp2;go_roundw
        case rel =>
         refine⟨k+1,by omega,by go_num,Nx.out.eq (fun x=>?_) (fun x=>?_),((HG.out.trans (jq.of KX1.out)).trans (jq.of RH.out)).trans RJ.out⟩
         · rw[Uy.out,jcM];show _=((inD p pods x (nodes.take k)+((if jU n.labels p.key=some x then onN p n.name pods else 0)+0):Nat):Int);by_cases hx:x=d
           · subst hx;rw[if_pos rfl,if_pos Us.out,UD.out,U2.out,←Tp.out];rfl
           · rw[if_neg hx,if_neg (fun g=>hx (by rw[Us.out] at g;exact(Option.some.inj g).symm))];rfl
         · rw[Uy.out];unfold Zn;rw[List.any_append,List.any_cons,Us.out];by_cases hx:x=d
           · subst hx;simp
           · rw[if_neg hx];simp[show ¬d=x from fun e=>hx e.symm]
        case measure=>simp[intOf];omega
     · have hge:¬(k:Int)<(n1:Int):=by omega
       have hM:=HC.out;rw[List.take_of_length_le (by rw[VY.out];omega)] at hM;have HC:=lH hM;clear hM hN hG;go_wp2;go_ret;exact⟨mc,rfl,k,HC.out,by have:=TP.out;have:=Rk.out;omega,by omega,KW.out⟩
open Go.RowKit Go.Maps Go.Sort Go.Shelf Go.WideShapes
attribute [local go_sem] Oper.semAt_some
def VAt (D:DataW Unit) (p:List UInt8×Int):Prop:=∀zd,D.atKey (.string p.1) zd=.lit (.int .i64 p.2)
def jke (D:DataW Unit) (ps:List (List UInt8×Int)):Prop:=(ps.map (·.1)).Perm (strKeys D)∧(∀x,x ∈ ps.map (·.1)↔has D (.string x)=true)∧∀p ∈ ps,VAt D p
def jk6 (D:DataW Unit) (ps:List (List UInt8×Int)):Prop:=(ps.map (·.1)).Nodup∧(∀x ∈ ps.map (·.1),has D (.string x)=true)∧∀p ∈ ps,VAt D p
theorem jgc (F:Fence) (n:Nat) (h8:F.fn 234) (hro:F.round=none) (hn:1≤n) (l Bm b nn:Nat) (D0:DataW Unit) (J Jx:List Int→World→Prop)
 (hY:∀pre x W,J pre W→pre.length<Maps.size D0→YieldAt F (n-1) Tryz.prog l #[.int .i64 x] W fun e W' =>
   (e=.returned (.bool true)∧J (pre++[x]) W'∧KeepsWalks W W')∨(e=.returned (.bool false)∧Jx (pre++[x]) W'))
 (W:World) (hJ:AbidesFrom W.heap.size J) (hm:W.cell? ⟨Bm,0,none⟩=some (.map (some b))) (hown:W.ownsMap Tryz.prog 9 (plainElem Tryz.prog 3) b nn D0) (h0:J [] W) :
 CallsIn F n Tryz.prog 234 #[.func (.yield l) #[] #[],.pointer (some ⟨Bm,0,none⟩)] W fun e W'=>(∃v,e=.returned v) ∧
  ((∃xs,(∃ps,jke D0 ps∧xs=ps.map (·.2))∧J xs W')∨(∃pre,(∃ps,jk6 D0 ps∧pre=ps.map (·.2))∧Jx pre W')):=by
 refine callsIn_of_wp Tryz.func234 rfl h8 ?_ hro;simp only[Tryz.ntmps234,List.size_toArray,List.length_cons,List.length_nil,Nat.reduceAdd,Nat.reduceSub,Array.replicate_succ,Array.replicate_zero,List.push_toArray,List.append_toArray,List.nil_append,List.cons_append]
 gi_wp2_with (first
  | (gi_at_range;refine wpListIn_range_own _ rfl _ 291 rfl 9 3 jaM Tryz.underlying291 _ b nn _ rfl hown ?_;intro w0 hrg0 hg0 hs0)
  | gi_in)
 go_frame
 gi_loopw [4] (fun _ wr=>∃(left:Lit→Bool) (cnt:Nat) (ps:List (List UInt8×Int)),wr.ranges Tryz.prog 9 (plainElem Tryz.prog 3) b W.heap.size nn D0 left cnt∧ps.length+cnt≤Maps.size D0∧Collected D0 left (ps.map (·.1))∧(∀p ∈ ps,VAt D0 p)∧J (ps.map (·.2)) wr)
  (fun _ wr=>wr.rangeLeft b W.heap.size)
 case atStart =>
  exact⟨_,_,[],hrg0,by simp,Collected.start D0,by simp,hJ [] W w0 none h0 hg0 (fun r e=>by cases e)⟩
 case round =>
  obtain⟨left,cnt,ps,hrg,hcs,hC,hV,hJs⟩:=hrel
  gi_wp2_with (first
   | (gi_at_next;refine wpListIn_next_ranges _ rfl _ rfl 9 jaM (plainElem Tryz.prog 3) encStr (Value.int .i64) (fun key kl hk=>by obtain⟨x,hx,_⟩:=Maps.keyOf_str Tryz.underlying9 hk;exact⟨x,hx⟩) (fun v y hv=>by obtain⟨c,rfl,_⟩:=plainElem_int_inv Tryz.underlying3 hv;exact⟨c,rfl⟩) b W.heap.size nn _ _ _ rfl hrg ?_ ?_)
   | gi_in)
  · intro hc0 hl0;gi_wp2
    go_end0
    exact⟨⟨_,rfl⟩,.inl ⟨_,⟨ps,⟨hC.perm hown jaM Tryz.underlying9 hl0,fun x=>by rw[hC.2 x,hl0];simp,hV⟩,rfl⟩,hJs⟩⟩
  · intro x c kl yd yp w2 cnt2 hkey hlk hv hat hrg2 hlt hg2 hs2 hen;obtain⟨x',ex,rfl,_⟩:=Maps.keyOf_str Tryz.underlying9 hkey;obtain rfl:x=x':=encStr_inj ex;obtain⟨c',ec,ez,_⟩:=plainElem_int_inv Tryz.underlying3 hv;obtain rfl:c=c':=by simpa using ec
    obtain rfl:yd=.lit (.int .i64 c):=(Prod.mk.inj ez).1;have hJ2:J (ps.map (·.2)) w2:=hJ _ wr w2 (some W.heap.size) hJs hg2 (fun r e=>by cases e;exact⟨Nat.le_refl _,hrg.iter_walk⟩);obtain⟨fn,tmps,assign,body,hy,hR⟩:=hY (ps.map (·.2)) c w2 hJ2 (by simp;omega);clear hs2;gi_wp2
    refine hR.mono ?_;have hC2:Collected D0 (fun z=>left z&&!z.sameKey (.string x)) ((ps++[(x,c)]).map (·.1)):=by simpa using hC.step hlk hat
    have hV2:∀p ∈ ps++[(x,c)],VAt D0 p:=fun p hp=>(List.mem_append.1 hp).elim (hV p) (fun e=>by simp at e;subst e;exact hat);rintro e W3 (⟨rfl,hJ3,hk3⟩ | ⟨rfl,hJx3⟩)
    · gi_wp2
      have hrg3:=hrg2.of_walks hk3;go_roundw
      case rel=>exact⟨_,cnt2,ps++[(x,c)],hrg3,by simp;omega,hC2,hV2,by simpa using hJ3⟩
      case measure=>rw[hrg3.left_eq,hrg.left_eq];exact hlt
    · gi_wp2
      refine bodyPost_ret (results_none rfl _ _ _) rfl ?_;exact⟨⟨_,rfl⟩,.inr ⟨_,⟨ps++[(x,c)],⟨hC2.1,fun y hy=>((hC2.2 y).1 hy).1,hV2⟩,by simp⟩,hJx3⟩⟩
theorem jd1 (F:Fence) (n:Nat) (h7:F.fn 234) (hro:F.round=none) (hn:1≤n) (Bm b nn:Nat) (D0:DataW Unit) (w:World) (hBm:Bm<w.heap.size)
 (hm:w.cell? ⟨Bm,0,none⟩=some (.map (some b))) (hown:w.ownsMap Tryz.prog 9 (plainElem Tryz.prog 3) b nn D0) :
 SeqStopsK F n Tryz.prog 234 #[.pointer (some ⟨Bm,0,none⟩)] (fun c:Int=>#[Value.int .i64 c]) KeepsWalks (fun xs=>∃ps,jke D0 ps∧xs=ps.map (·.2)) (fun pre=>∃ps,jk6 D0 ps∧pre=ps.map (·.2)) (Maps.size D0) w:=fun l J Jx W hW hJ _ hY h0=>by
 have hown':W.ownsMap Tryz.prog 9 (plainElem Tryz.prog 3) b nn D0:=by
  have hbl:=hown.lt;obtain⟨es,clock,hb,Ft,hs,hD⟩:=hown;exact⟨es,clock,(hW.block b hbl).trans hb,Ft,hs,hD⟩
 exact jgc F n h7 hro hn l Bm b nn D0 J Jx hY W hJ ((hW.cell (p:=⟨Bm,0,none⟩) hBm).trans hm) hown' h0
theorem jgk (mb:Option Nat) (w:World) :
 Calls Tryz.prog 228 #[.map mb] w fun e w'=>e=.returned (.func (.func 234) #[] #[.pointer (some ⟨w.heap.size,0,none⟩)])∧w'=w.alloc (.cells #[.map mb] 291):=by
 have hmf:=hmfL (P:=Tryz.prog);go_enter Tryz.func228,Tryz.ntmps228;go_wp2;go_ret;exact⟨rfl,rfl⟩
theorem jjI:(Tryz.prog.info? 3).map (fun i=>(i.zero,i.size,i.bytes))=some (some (.int .i64 0),1,8):=by kernel_rfl
theorem jfC {W W':World} (h:KeepsOthers W W'):KeepsWalks W W':=⟨h.size,fun k o hk hw=>h.same k o hk (by cases o<;>first | rfl | cases hw)⟩
def jh4 (base:Nat) (W:World) (v:Value) (zs:List Int):Prop:=W.ownsRow base 3 1 v zs.length (zs.map (Value.int .i64))∧(v=.slice none 0 0↔zs=[])
theorem jd0 (F:Fence) (n:Nat) (h3:F.fn 233) (h5:F.fn 234) (hro:F.round=none) (hn:3≤n) (Bs b nn:Nat) (D0:DataW Unit) (hlen:Maps.size D0≤1000000) (w:World)
 (hBs:Bs<w.heap.size) (hcs:w.cell? ⟨Bs,0,none⟩=some (.map (some b))) (hown:w.ownsMap Tryz.prog 9 (plainElem Tryz.prog 3) b nn D0) :
 CallsIn F n Tryz.prog 233 #[.slice none 0 0,.func (.func 234) #[] #[.pointer (some ⟨Bs,0,none⟩)]] w fun e W'=>∃v xs,e=.returned v∧(∃ps,jke D0 ps∧xs=ps.map (·.2))∧jh4 w.heap.size W' v xs∧Below w.heap.size w W':=by
 have h1:1≤n:=by omega
 obtain⟨i0,hi,hz0,hz1,hz2⟩:=info_parts jjI;refine callsIn_of_wp_marks Tryz.func233 rfl h3 ?_ hro;simp only[Tryz.ntmps233,List.size_toArray,List.length_cons,List.length_nil,Nat.reduceAdd,Nat.reduceSub,Array.replicate_succ,Array.replicate_zero,List.push_toArray,List.append_toArray,List.nil_append,List.cons_append];gi_wp2
 have bO:=Boxed.new w 179 (.slice none 0 0);have hB0:Below w.heap.size w (w.alloc (.cells #[.slice none 0 0] 179)):=(Below.refl _ w).alloc (Nat.le_refl _) _;have hown0:(w.alloc (.cells #[.slice none 0 0] 179)).ownsMap Tryz.prog 9 (plainElem Tryz.prog 3) b nn D0:=by
  have hbl:=hown.lt;obtain⟨es,clock,hb,Ft,hs,hD⟩:=hown;exact⟨es,clock,(Below.heap_alloc _ _ b hbl).trans hb,Ft,hs,hD⟩
 refine wpIn_rangeFunc_ownG hro h1 (gf:=234) (lb:=#[.pointer (some ⟨Bs,0,none⟩)]) rfl h5 (enters_of Tryz.func234 (by kernel_rfl) rfl)
  (jd1 F (n-1) h5 hro (by omega) Bs b nn D0 _ (by simp;omega) ((hB0.cell (p:=⟨Bs,0,none⟩) hBs).trans hcs) hown0) (fun h k=>h.trans k) (fun W l o o' _ h _ hw=>KeepsWalks.putObj o' h hw) (Below.refl _ _) (fun _=>rfl)
  (fun pre W=>(∃v,Boxed W w.heap.size 179 v∧W.ownsRow w.heap.size 3 1 v pre.length (pre.map (Value.int .i64))∧(v=.slice none 0 0↔pre=[]))∧Below w.heap.size w W)
  (fun _ _ _=>False)
  (OwnFrom.and (Own.from (holdsRow_own w.heap.size w.heap.size 179 3 1 (fun pre=>pre.length) (fun pre=>pre.map (Value.int .i64)) (fun pre v=>v=.slice none 0 0↔pre=[])) _) (ownFrom_below (Nat.le_refl _) (by simp)))
  (fun _ _ _ _ _ hs _ _=>hs)
  ⟨⟨_,bO,World.ownsRow_nil _ _ _ _,by simp⟩,hB0⟩
  (fun x=>{ tmps:=#[.slice none 0 0,.func (.func 234) #[] #[.pointer (some ⟨Bs,0,none⟩)],.pointer (some ⟨w.heap.size,0,none⟩),undef,.slice none 0 0,.int .i64 x,.func (.func 234) #[] #[.pointer (some ⟨Bs,0,none⟩)],.int .i64 x,undef,undef,undef,undef,undef],defers:=[] }) ?assign ?body ?done ?stop
 case assign =>
  intro l x W K hK;gi_wp2
  exact hK
 case body =>
  rintro l pre x W ⟨⟨v,hv,hrow,hnil⟩,hB⟩ hlt;have hc:=hv.cell;gi_wp2_with (gi_at_builtin;refine wpListIn_append_own _ rfl _ _ 179 rfl w.heap.size 3 i0 (.int .i64 0) 1 8 Tryz.underlying179 hi hz0 hz1 hz2 rfl (by decide) _ _ _ rfl (hrow.alloc _) ⟨W.heap.size,0,none⟩ 1 1 [.int .i64 x] rfl rfl (cell_one_new _ _ _) (by simp[Value.oneCell']) (by unfold maxLen;omega) (by omega) (by have:=hB.size;simp;omega) ?_;intro v' w1 hown' hgrow _;obtain⟨g',cap',rfl⟩:=ownsRow_succ hown';obtain⟨hv1,hv2,hr2,hk2,hb2⟩:=hv.appended (by decide) hrow hB.size (Nat.le_refl _) hown' hgrow;have hc1:=hv1.cell;have hf1:=hv1.frozen)
  exact⟨hk2.from _,jfC hk2,⟨_,hv2,by simpa using hr2,by simp⟩,hB.trans hb2⟩
 case done =>
  rintro D ys W hD hS ⟨⟨v,hv,hrow,hnil⟩,hB⟩ hK;have hc:=hv.cell;gi_wp2
  refine⟨by simp,.inl ⟨_,_,rfl,run_takeDeferred hK,?_⟩⟩;exact⟨_,results_tmp rfl _ _ _,v,ys,rfl,hS,⟨ownsRow_putObj hrow _ hK rfl,hnil⟩,hB.trans (belowK_b (w:=w) (Nat.le_refl _) W D _ _ (by simp at hD;omega) hK rfl rfl)⟩
 case stop =>
  rintro D c pre W _ _ h _;exact h.elim
theorem jea (Bs b nn:Nat) (f:ByteArray→Int) (dom:ByteArray→Bool) (w:World) (hn:nn≤1000000) (hBs:Bs<w.heap.size) (hcs:w.cell? ⟨Bs,0,none⟩=some (.map (some b))) (h:zB w b nn f dom) :
 Calls Tryz.prog 227 #[.func (.func 234) #[] #[.pointer (some ⟨Bs,0,none⟩)]] w fun e w'=>∃v zs,e=.returned v∧jh4 w.heap.size w' v zs∧(∀x,dom x=true→f x ∈ zs)∧(∀z ∈ zs,∃x,dom x=true∧z=f x)∧zs.length≤1000000∧Kept w w':=by
 obtain⟨D,h1,h2,h3,h4⟩:=h;have hsz:Maps.size D≤1000000:=Nat.le_trans h1.size_le hn;have HA:=lH (jd0 Fence.wide 3 trivial trivial rfl (by omega) Bs b nn D hsz w hBs hcs h1);have HC:=lH (show Calls Tryz.prog 233 #[.slice none 0 0,.func (.func 234) #[] #[.pointer (some ⟨Bs,0,none⟩)]] w _ from callsIn_wide.1 HA.out);clear h1 hcs;go_enter Tryz.func227,Tryz.ntmps227;go_wp2_with fail
 refine HC.out.mono ?_;rintro e w1 ⟨v,xs,rfl,⟨ps,hps,rfl⟩,ho,hb⟩;have HO:=lH ho;have HB:=lH hb;have HP:=lH hps;clear ho hb hps;have key:∀y:List UInt8,(⟨⟨y⟩⟩:ByteArray).data.toList=y:=fun _=>rfl;have hl:(ps.map (·.2)).length≤1000000:=by
  rw[List.length_map];have h5:ps.length=(strKeys D).length:=by rw[←HP.out.1.length_eq,List.length_map]
  have h6:(strKeys D).length≤Maps.size D:=by
   cases D<;>first | exact Nat.zero_le _ | (show (List.filterMap _ _).length≤_;exact List.length_filterMap_le _ _) | simp[strKeys,Maps.size]
  omega
 go_wp2;go_ret;refine⟨v,_,rfl,HO.out,fun x hx=>?_,fun z hz=>?_,hl,HB.out⟩
 · have hm:=(HP.out.2.1 x.data.toList).2 ((h3 x).trans hx);obtain⟨p,hp,e⟩:=List.mem_map.1 hm;have hv:=HP.out.2.2 p hp (.lit (.int .i64 0));rw[e] at hv;have:=(h2 x).symm.trans hv;injection this with this;injection this with _ this;exact List.mem_map.2 ⟨p,hp,this.symm⟩
 · obtain⟨p,hp,rfl⟩:=List.mem_map.1 hz;refine⟨⟨⟨p.1⟩⟩,?_,?_⟩
   · rw[←h3];exact(HP.out.2.1 p.1).1 (List.mem_map_of_mem hp)
   · have hv:=HP.out.2.2 p hp (.lit (.int .i64 0));have:=(h2 ⟨⟨p.1⟩⟩).symm.trans hv;injection this with this;injection this with _ this;exact this.symm
end Go.Proofs.YtmlgobiifebjkabGreat
namespace Go.Proofs.YtmlgobiifebjkabGreat
open Go.RowKit
theorem jh4.cells {base:Nat} {W:World} {v:Value} {zs:List Int} (h:jh4 base W v zs) (h0:zs≠[]):∃g cap,v=.slice (some ⟨g,0,none⟩) zs.length cap∧∀j,j<zs.length→W.cell? ⟨g,0+j,none⟩=some (.int .i64 (zs.getD j 0)):=by
 obtain⟨⟨hl,h⟩,-⟩:=h;rcases h with ⟨-,hz⟩ | ⟨g,cap,cur,rfl,-,hh,-,-,-,ht⟩
 · exact absurd (List.eq_nil_of_length_eq_zero hz) h0
 · refine⟨g,cap,rfl,fun j hj=>?_⟩;rw[Nat.zero_add,Lib.cell_of_heap hh];have h1:(cur.toList.take (zs.length*1))[j]?=some (.int .i64 (zs.getD j 0)):=by
    rw[ht,List.getElem?_map,List.getElem?_eq_getElem hj];simp[List.getD,hj]
   rw[List.getElem?_take_of_lt (by omega)] at h1;simpa using h1
theorem foldl_min:∀(l:List Int) (m:Int),l.foldl min m≤m∧(∀z ∈ l,l.foldl min m≤z)∧(l.foldl min m=m∨l.foldl min m ∈ l)
 | [],m=>⟨Int.le_refl _,fun z h=>absurd h (by simp),.inl rfl⟩
 | x::t,m=>by
  obtain⟨h1,h2,h3⟩:=foldl_min t (min m x);rw[List.foldl_cons];refine⟨by omega,fun z hz=>?_,?_⟩
  · rcases List.mem_cons.1 hz with rfl | hz
    · omega
    · exact h2 z hz
  · rcases h3 with h3 | h3
    · by_cases g:m≤x
      · exact .inl (by rw[h3];omega)
      · exact .inr (by rw[h3,show min m x=x by omega];simp)
    · exact .inr (by simp[h3])
theorem jko {zs:List Int} (h:zs≠[]):(∀z ∈ zs,Lib.minOf zs≤z)∧Lib.minOf zs ∈ zs:=by
 cases zs with
 | nil=>exact absurd rfl h
 | cons x t =>
  obtain⟨h1,h2,h3⟩:=foldl_min (x::t) x;refine⟨h2,?_⟩;show (x::t).foldl min x ∈ _;rcases h3 with h3 | h3
  · rw[h3];simp
  · exact h3
theorem jju {w:World} {a:Option Addr} {m:Nat} {nodes:List Nod} (h:jE w a m nodes) {key name d:ByteArray} (hd:domV key name nodes=some d):d.size≤maxLen:=by
 have:=Xt hd;unfold Zn at this;rw[List.any_eq_true] at this;obtain⟨n,hn,he⟩:=this;have he:jU n.labels key=some d:=by simpa using he
 obtain⟨k,hk,e⟩:=List.getElem_of_mem hn;rcases h.2.2 with h0 | ⟨b,off,-,-,hc⟩
 · rw[h.1] at hk;omega
 · obtain⟨_,_,_,_,_,_,_,_,_,_,_,_,_,_,hN⟩:=hc k n (by rw[List.getElem?_eq_getElem hk,e]);exact jc6 hN.labels.fine he
theorem jhK (s1 s2 s3 a1 a2 a3 a4:Option Addr) (n1 e1 n2 e2 n3 e3 m1 c1 m2 c2 m3 c3 m4 c4:Nat) (p:Pd) (s:Clu) (name:ByteArray) (w:World) (hn:jE w s1 n1 s.nodes) (hp:jN w s2 n2 s.pods) (hb1:n1≤100000) (hb2:n2≤100000) :
 Calls Tryz.prog 219 #[.agg #[.slice s1 n1 e1,.slice s2 n2 e2,.slice s3 n3 e3],jr p (.slice a1 m1 c1) (.slice a2 m2 c2) (.slice a3 m3 c3) (.slice a4 m4 c4),.string name] w fun e w'=>(∀d,domV p.key name s.nodes=some d→e=.returned (.int .i64 (YJ p s d)))∧(domV p.key name s.nodes=none→e=.panicked [zL 3])∧Kept w w':=by
 obtain⟨Z,hZ⟩:∃Z,(w.alloc (.cells #[.slice s1 n1 e1,.slice s2 n2 e2,.slice s3 n3 e3] 26)).alloc (.cells #[.string p.name,.string p.owner,.int .i64 p.prio,.slice a1 m1 c1,.slice a2 m2 c2,.slice a3 m3 c3,.slice a4 m4 c4,.string p.key,.int .i64 p.most,.string p.node,.bool p.hold] 35)=Z:=⟨_,rfl⟩
 have hkz:Kept w Z:=by rw[←hZ];exact jm _ _ _
 have Vw:=lH (jd w (.slice s1 n1 e1) [.slice s2 n2 e2,.slice s3 n3 e3] 26 Z (by rw[←hZ];exact ja _ _));have Vj:=lH (show jf (w.heap.size+1) [.string p.name,.string p.owner,.int .i64 p.prio,.slice a1 m1 c1,.slice a2 m2 c2,.slice a3 m3 c3,.slice a4 m4 c4,.string p.key,.int .i64 p.most,.string p.node,.bool p.hold] Z by
  have dd:=jd (w.alloc (.cells #[.slice s1 n1 e1,.slice s2 n2 e2,.slice s3 n3 e3] 26)) (.string p.name) [.string p.owner,.int .i64 p.prio,.slice a1 m1 c1,.slice a2 m2 c2,.slice a3 m3 c3,.slice a4 m4 c4,.string p.key,.int .i64 p.most,.string p.node,.bool p.hold] 35 Z (by rw[hZ];exact Kept.refl _);rw[World.size_alloc] at dd;exact dd)
 have HN:=lH hn;have HP:=lH hp;have VY:=lH hn.1;have UF:=lH hp.1;have K:=lH hkz;clear hn hp hkz;unfold jr;go_enter Tryz.func219,Tryz.ntmps219;go_upto_region 1 with fail
 try rw[hZ]
 clear hZ;have y0:=Vw.out.at_ 0 _ rfl;have y1:=Vw.out.at_ 1 _ rfl;have y2:=Vw.out.at_ 2 _ rfl;have r7:=Vj.out.at_ 7 _ rfl;go_wp2_with fail
 refine(jeD s1 s2 s3 n1 e1 n2 e2 n3 e3 s.nodes p.key name Z (HN.out.kept K.out) hb1).mono ?_;rintro e w1 ⟨h1,h2,kk⟩;have Vw:=lH (Vw.out.kept kk);have Vj:=lH (Vj.out.kept kk);have K:=lH (K.out.trans kk);clear kk y0 y1 y2 r7
 cases ho:domV p.key name s.nodes with
 | none =>
  obtain rfl:=h2 ho;have HO:=lH ho;clear h1 h2 ho;go_wp2;exact⟨rfl,(fun d e=>by rw[HO.out] at e;cases e),(fun _=>rfl),K.out⟩
 | some d =>
  obtain rfl:=h1 d ho;have HO:=lH ho;have hds:=jju HN.out ho;have TD:=lH hds;have Nj:=lH (Xt ho);clear h1 h2 ho hds;have y0:=Vw.out.at_ 0 _ rfl;have y1:=Vw.out.at_ 1 _ rfl;have y2:=Vw.out.at_ 2 _ rfl;have r0:=Vj.out.at_ 0 _ rfl;have r1:=Vj.out.at_ 1 _ rfl;have r2:=Vj.out.at_ 2 _ rfl;have r3:=Vj.out.at_ 3 _ rfl;have r4:=Vj.out.at_ 4 _ rfl;have r5:=Vj.out.at_ 5 _ rfl;have r6:=Vj.out.at_ 6 _ rfl;have r7:=Vj.out.at_ 7 _ rfl;have r8:=Vj.out.at_ 8 _ rfl;have r9:=Vj.out.at_ 9 _ rfl;have r10:=Vj.out.at_ 10 _ rfl;go_wp2_with fail
  have TA:=jiu s1 s2 s3 a1 a2 a3 a4 n1 e1 n2 e2 n3 e3 m1 c1 m2 c2 m3 c3 m4 c4 p s.nodes s.pods w1 (HN.out.kept K.out) (HP.out.kept K.out) hb1 hb2;unfold jr at TA;refine TA.mono ?_;clear TA;rintro e w2 ⟨mc,nn,rfl,hM,hmc,hnn,kk⟩;have HM:=lH hM;have Tr:=lH K.out.size;have K:=lH (K.out.trans kk);have Rk:=lH hmc;have KS:=lH K.out.size;clear kk hM hmc y0 y1 y2 r0 r1 r2 r3 r4 r5 r6 r7 r8 r9 r10;have hb9:inD p s.pods d s.nodes≤100000*100000:=Nat.le_trans (jd6 _ _ _ _) (Nat.mul_le_mul (by rw[VY.out];omega) (by rw[UF.out];omega));have hl1:=HM.out.look d TD.out;obtain⟨x1,hx1⟩:∃v,inD p s.pods d s.nodes=v:=⟨_,rfl⟩
  have U2:=lH hx1;rw[hx1] at hl1 hb9;obtain⟨x3,hx3⟩:∃z:Nat,x1+1=z:=⟨_,rfl⟩
  have hx4:(x1:Int)+1=(x3:Int):=by omega
  have hx5:IntKind.i64.wrap (x3:Int)=(x3:Int):=IntWalk.i64_in _ (by omega);obtain⟨w4,hput,hM4,hG4⟩:=HM.out.put (by unfold maxLen;omega) d TD.out (x3:Int) (by omega);have Tp:=lH hx3;have RL:=lH (show zB w4 mc (nn+1) (fun e=>((inD p s.pods e s.nodes+(if e=d then 1 else 0):Nat):Int)) (fun e=>Zn p.key e s.nodes) from hM4.eq (fun e=>by
   by_cases he:e=d
   · subst he;rw[if_pos rfl,if_pos rfl,U2.out,Tp.out]
   · rw[if_neg he,if_neg he];rfl) (fun e=>by
   by_cases he:e=d
   · subst he;rw[if_pos rfl,Nj.out]
   · rw[if_neg he]))
  have RJ:=lH hG4;have hb10:x3≤100000*100000+1:=by omega
  have Ny:=lH hb10;have Ti:=lH hnn;clear hM4 hG4 hx1 hx3 hb9 hb10;go_upto_region 4 with fail
  clear hl1 hput hx4 hx5;have J:=lH (Kept.drew w4);refine wp_region_held_drew (S:=fun W=>zB W mc (nn+1) (fun e=>((inD p s.pods e s.nodes+(if e=d then 1 else 0):Nat):Int)) (fun e=>Zn p.key e s.nodes)) (by kernel_rfl) (RL.out.kept J.out) (fun hHeld=>?_);refine tkJ 0 ?_;refine tkJ 1 ?_;refine tkH 2 (v:=?_) (y:=Or.inl ⟨by rfl,(by intro W hSw;have hl:=hSw.look d TD.out;go_simp<;>with_reducible rfl)⟩) (h:=?_);try simp only[nP]
  refine tkJ 3 ?_;try simp only[nP]
  skip;refine rd1 4 fun K9 Ky=>?_;go_simp;refine(jgk (some mc) _).mono ?_;rintro e w5 ⟨rfl,rfl⟩;have kq:=ja w4.drew (.cells #[.map (some mc)] 291);obtain⟨w5,hw5⟩:∃W,w4.drew.alloc (.cells #[.map (some mc)] 291)=W:=⟨_,rfl⟩
  have hcs:jf w4.drew.heap.size [.map (some mc)] w5:=jd w4.drew (.map (some mc)) [] 291 w5 (by rw[hw5];exact Kept.refl _);rw[hw5] at kq ⊢;obtain⟨bs,hbs⟩:∃z,w4.drew.heap.size=z:=⟨_,rfl⟩
  rw[hbs] at hcs ⊢;have Me:=lH hcs;have J:=lH (J.out.trans kq);clear hcs kq hw5 hbs;refine Ky.out _ _ (RL.out.kept J.out) (fun _=>?_);clear Ky K9;try simp only[nP]
  refine rd1 5 fun K9 Ky=>?_;go_simp;refine(jea bs mc (nn+1) _ _ w5 (by have:=Ti.out;omega) Me.out.lt (Me.out.at_ 0 _ rfl) (RL.out.kept J.out)).mono ?_;rintro e w6 ⟨v,zs,rfl,ho,hz1,hz2,hzl,kk⟩;have J:=lH (J.out.trans kk);have hzd:=hz1 d Nj.out;have hz0:zs≠[]:=fun e=>by rw[e] at hzd;cases hzd
  obtain⟨g,cap,rfl,hc⟩:=ho.cells hz0;have HC:=lH hc;have Rh:=lH hz1;have MG:=lH hz2;have Mf:=lH hz0;have MH:=lH hzl;clear kk ho hc hz1 hz2 hz0 hzd hzl;refine Ky.out _ _ (RL.out.kept J.out) (fun _=>?_);clear Ky K9;try simp only[nP]
  refine rd1 6 fun K9 Ky=>?_;go_simp;refine(Tryz.slices_Min_int g 0 zs.length cap zs w6 (List.length_pos_iff.2 Mf.out) (Nat.le_refl _) (by have:=MH.out;omega) HC.out).mono ?_;rintro e w7 ⟨rfl,rfl⟩;rw[List.take_length];refine Ky.out _ _ (RL.out.kept J.out) (fun _=>?_);clear Ky K9;try simp only[nP]
  obtain⟨hm1,hm2⟩:=jko Mf.out;obtain⟨c,hcd,hce⟩:=MG.out _ hm2;obtain⟨zm,hzm⟩:∃z:Nat,inD p s.pods c s.nodes+(if c=d then 1 else 0)=z:=⟨_,rfl⟩
  rw[hzm] at hce;rw[hce] at hm1 ⊢;have HL:=lH (jdj (p:=p) (pods:=s.pods) (nodes:=s.nodes) (d:=d) (m:=inD p s.pods d s.nodes+1) (z:=zm) Nj.out rfl (fun e he=>by have:=hm1 _ (Rh.out e he);omega) ⟨c,hcd,hzm.symm⟩);have hle:zm≤x3:=by have h:=hm1 _ (Rh.out d Nj.out);rw[if_pos rfl,U2.out] at h;have:=Tp.out;omega
  have US:=lH (show YJ p s d=(x3:Int)-(zm:Int) by unfold YJ;rw[HL.out,U2.out,Tp.out]);have hx6:(inD p s.pods d s.nodes+(if d=d then 1 else 0))=x3:=by rw[if_pos rfl,U2.out,Tp.out]
  try rw[hx6]
  obtain⟨y,hy⟩:∃y:Nat,x3-zm=y:=⟨_,rfl⟩
  have hy1:(x3:Int)-(zm:Int)=(y:Int):=by omega
  have hy2:IntKind.i64.wrap (y:Int)=(y:Int):=IntWalk.i64_in _ (by have:=Ny.out;omega);clear hm1 hm2 hcd hce hzm;refine tkJ 7 ?_;refine tkJ 8 ?_;try simp only[nP]
  refine wpAnyH_done (by kernel_rfl) ?_ _;go_wp2;go_ret;refine⟨fun d9 e9=>?_,fun e9=>?_,(jq.below K.out RJ.out fun i e=>by have:=Rk.out;have:=Tr.out;omega).trans J.out⟩
  · rw[HO.out] at e9
    cases e9
    rw[US.out,hy1];have hv:IntKind.i64.wrap (((inD p s.pods d s.nodes:Nat):Int)+1-(zm:Int))=(y:Int):=by
     rw[U2.out,show (x1:Int)+1-(zm:Int)=(y:Int) by have:=Tp.out;omega];exact hy2
    exact congrArg (fun z=>Ending.returned (.int .i64 z)) hv
  · rw[HO.out] at e9
    cases e9
end Go.Proofs.YtmlgobiifebjkabGreat
