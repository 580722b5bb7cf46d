/- C. -/
import Derived.Test.YtmlgobiifebjkabGreatG1
import Derived.Test.YtmlgobiifebjkabGreatG2
import Derived.Test.YtmlgobiifebjkabGreatG3
import Derived.Test.YtmlgobiifebjkabGreatG4
import Derived.Test.YtmlgobiifebjkabGreatG5
import Derived.Test.YtmlgobiifebjkabGreatG6
import Derived.Test.YtmlgobiifebjkabGreatG8
import Derived.Test.YtmlgobiifebjkabGreatG9
import Derived.Test.YtmlgobiifebjkabGreatG10
import Derived.Lib.RowBridge
import Derived.Sort.Walk0
set_option linter.unusedVariables false
set_option maxRecDepth 100000
set_option maxHeartbeats 25600000
namespace Go.Proofs.YtmlgobiifebjkabGreat
open Go.RowKit
def JO (x:ByteArray):List Pd→Nat
 | []=>0
 | q::t=>if ltS q.name x=true then JO x t+1 else 0
def Yd (x:ByteArray) (l:List Pd) (k:Nat):Nat:=match l[k]? with | none=>0 | some q=>if eqS q.name x=true then 1 else 0
def Je (p:Pd) (l:List Pd):List Pd:=l.take (JO p.name l)++p::l.drop (JO p.name l+Yd p.name l (JO p.name l))
def Y5 (x:ByteArray) (l:List Pd):List Pd:=l.filter fun p=>!eqS p.name x
theorem jgv (x:ByteArray):∀l:List Pd,JO x l≤l.length
 | []=>Nat.le_refl _
 | q::t=>by
  have:=jgv x t;rw[JO];split
  · rw[List.length_cons];omega
  · exact Nat.zero_le _
theorem jdz {x:ByteArray}:∀{l:List Pd} {k:Nat} {q:Pd},l[k]?=some q→k≤JO x l→(ltS q.name x=true→k+1≤JO x l)∧(ltS q.name x=false→JO x l=k)
 | r::t,0,q,h,hk=>by
  obtain rfl:r=q:=by simpa using h
  rw[JO];constructor
  · intro e;rw[if_pos e];omega
  · intro e;rw[if_neg (by rw[e];decide)]
 | r::t,k+1,q,h,hk=>by
  rw[JO] at hk ⊢;split at hk
  · rename_i e;rw[if_pos e];have:=jdz (x:=x) (l:=t) (k:=k) (q:=q) (by simpa using h) (by omega);exact⟨fun e=>by have:=this.1 e;omega,fun e=>by have:=this.2 e;omega⟩
  · omega
theorem jgA {x:ByteArray} {l:List Pd} {k:Nat} {q:Pd} (h:l[k]?=some q):Yd x l k=if eqS q.name x=true then 1 else 0:=by unfold Yd;rw[h]
theorem jjR {x:ByteArray} {l:List Pd} {k:Nat} (h:l.length≤k):Yd x l k=0:=by unfold Yd;rw[List.getElem?_eq_none h]
theorem jeR {p:Pd}:∀{l:List Pd},Asc l→Je p l=zY p (jY p.name l)
 | [],_=>rfl
 | q::t,h=>by
  obtain⟨h1,h2⟩:=List.pairwise_cons.1 h;have ih:=jeR (p:=p) h2;unfold Je at ih ⊢
  cases e:ltS q.name p.name with
  | true =>
   have hk:JO p.name (q::t)=JO p.name t+1:=by rw[JO,if_pos e]
   have hh:Yd p.name (q::t) (JO p.name t+1)=Yd p.name t (JO p.name t):=by unfold Yd;rw[List.getElem?_cons_succ]
   have hn:¬eqS q.name p.name=true:=fun g=>Vec.ZX e (jL.1 g);rw[hk,hh,jY,if_neg hn,zY,if_neg (fun g=>Vec.X9 g e),←ih,List.take_succ_cons,show JO p.name t+1+Yd p.name t (JO p.name t)=(JO p.name t+Yd p.name t (JO p.name t))+1 by omega,List.drop_succ_cons];rfl
  | false =>
   have hk:JO p.name (q::t)=0:=by rw[JO,if_neg (by rw[e];decide)]
   rw[hk];by_cases g:eqS q.name p.name=true
   · have hh:Yd p.name (q::t) 0=1:=by unfold Yd;rw[List.getElem?_cons_zero];dsimp only;rw[if_pos g]
     rw[hh,jY,if_pos g]
     cases t with
     | nil=>rfl
     | cons r u =>
      have hr:=h1 r (List.mem_cons_self ..);rw[jL.1 g] at hr;rw[zY,if_pos hr];rfl
   · have hh:Yd p.name (q::t) 0=0:=by unfold Yd;rw[List.getElem?_cons_zero];dsimp only;rw[if_neg g]
     have hlt:ltS p.name q.name=true:=by
      cases c:ltS p.name q.name with
      | true=>rfl
      | false=>exact absurd (jL.2 (Vec.Xo e c)) g
     rw[hh,jbB (x:=p.name) (l:=q::t) (fun r hr=>by
      rcases List.mem_cons.1 hr with rfl | hr
      · exact fun c=>g (jL.2 c)
      · exact fun c=>Vec.ZX (Vec.zX hlt (h1 r hr)) c.symm),zY,if_pos hlt]
     rfl
theorem jc4 {x:ByteArray}:∀{l:List Pd},Asc l→Y5 x l=jY x l
 | [],_=>rfl
 | q::t,h=>by
  obtain⟨h1,h2⟩:=List.pairwise_cons.1 h;have ih:=jc4 (x:=x) h2;unfold Y5 at ih ⊢;by_cases e:eqS q.name x=true
  · rw[jY,if_pos e,List.filter_cons_of_neg (by rw[e];decide)];refine List.filter_eq_self.2 fun r hr=>?_;have hlt:=Vec.ZX (h1 r hr)
    cases g:eqS r.name x with
    | false=>rfl
    | true=>exact absurd ((jL.1 e).trans (jL.1 g).symm) hlt
  · rw[jY,if_neg e,List.filter_cons_of_pos (by simpa using e),ih]
def jfs (s:Clu) (p:Pd):Clu:={ s with pods:=Je p s.pods }
def jcD (s:Clu) (x:ByteArray):Clu:={ s with pods:=Y5 x s.pods }
theorem jhF {s:Clu} (h:Asc s.pods) (p:Pd):jfs s p=JT s p:=by unfold jfs JT;rw[jeR h]
theorem jfJ {s:Clu} (h:Asc s.pods) (x:ByteArray):jcD s x=zU s x:=by unfold jcD zU;rw[jc4 h]
def jay (l:Vec.V):Prop:=Vec.Gd l∧l.length≤8
theorem jay.nil:jay []:=⟨Vec.Gd.nil,by decide⟩
theorem jcR {l:Vec.V} (h:Vec.jD l=0) (hf:Vec.Jj l):jay l:=⟨Vec.Zq h hf,Vec.J7 h⟩
structure X3 (s:Clu):Prop where
 nodes:jS s.nodes=0
 pods:zi s.pods=0
 places:jQ s.nodes s.pods=0
 rooms:zo s.pods s.nodes=0
 tot:(Zx s.nodes []).1=0
theorem jkS {s:Clu} (h:ZC s=0):X3 s:=by
 have h0:or3 (jS s.nodes) (zi s.pods) (zn s.buds)=0:=Decidable.byContradiction fun g=>g ((qW (nl:=s.nodes) (pl:=s.pods) (bl:=s.buds) rfl g).symm.trans h);have h1:jQ s.nodes s.pods=0:=Decidable.byContradiction fun g=>g ((jdh (nl:=s.nodes) (pl:=s.pods) (bl:=s.buds) h0 rfl g).symm.trans h);have h2:zo s.pods s.nodes=0:=Decidable.byContradiction fun g=>g ((jbI (nl:=s.nodes) (pl:=s.pods) (bl:=s.buds) h0 h1 rfl g).symm.trans h);have h3:(Zx s.nodes []).1=0:=(jd7 (nl:=s.nodes) (pl:=s.pods) (bl:=s.buds) h0 h1 h2).symm.trans h;have ho:jS s.nodes=0∧zi s.pods=0:=by
  unfold or3 at h0;split at h0
  · rename_i h1;exact absurd h0 h1
  · rename_i g1;split at h0
    · rename_i g2;exact absurd h0 g2
    · rename_i g2;exact⟨Decidable.of_not_not g1,Decidable.of_not_not g2⟩
 exact⟨ho.1,ho.2,h1,h2,h3⟩
def YD (l:List Nod):Prop:=l.Pairwise fun x y=>ltS x.name y.name=true
theorem Xa:∀{prev:Option ByteArray} {l:List Nod},zG prev l=0→(∀q,prev=some q→∀x ∈ l,ltS q x.name=true)∧YD l∧∀n ∈ l,jZ n=0
 | _,[],_=>⟨fun q _ x h=>absurd h (by simp),.nil,fun n h=>absurd h (by simp)⟩
 | prev,n::t,h=>by
  by_cases z:jZ n=0
  · by_cases y:Vec.jM prev n.name=true
    · rw[qN z y] at h;cases h
    · have y:Vec.jM prev n.name=false:=by simpa using y
      rw[qd z y] at h;obtain⟨h2,h3,h4⟩:=Xa h;refine⟨fun q hq x hx=>?_,List.pairwise_cons.2 ⟨fun x hx=>h2 _ rfl x hx,h3⟩,fun m hm=>?_⟩
      · subst hq;have hlt:ltS q n.name=true:=Vec.X1 y;rcases List.mem_cons.1 hx with rfl | hx
        · exact hlt
        · exact Vec.zX hlt (h2 _ rfl x hx)
      · rcases List.mem_cons.1 hm with rfl | hm
        · exact z
        · exact h4 m hm
  · rw[jbn z] at h;exact absurd h z
theorem jdl:∀{l:List Nod} {p:Nod},YD l→p ∈ l→jj l p.name=some p
 | [],_,_,h=>by cases h
 | x::t,p,h,hp=>by
  unfold jj;rcases List.mem_cons.1 hp with hp | hp
  · subst hp;exact List.find?_cons_of_pos (p:=fun n:Nod=>eqS n.name p.name) (ZJ _)
  · have hlt:=(List.pairwise_cons.1 h).1 p hp;exact(List.find?_cons_of_neg (p:=fun n:Nod=>eqS n.name p.name) (fun e=>Vec.ZX hlt (jL.1 e))).trans (jdl (List.pairwise_cons.1 h).2 hp)
theorem X3.jj {s:Clu} (h:X3 s) {n:Nod} (hn:n ∈ s.nodes):jj s.nodes n.name=some n:=by
 have ho:=h.nodes;unfold jS at ho;split at ho
 · cases ho
 · exact jdl (Xa ho).2.1 hn
theorem X3.cap0 {s:Clu} (h:X3 s) {n:Nod} (hn:n ∈ s.nodes):Vec.jD n.cap=0:=by
 have ho:=h.nodes;unfold jS at ho;split at ho
 · cases ho
 · have hc:=(Xa ho).2.2 n hn;unfold jZ at hc;split at hc
   · cases hc
   · split at hc
     · rename_i g;exact absurd hc g
     · rename_i g;exact Decidable.of_not_not g
theorem jcJ:∀{prev:Option ByteArray} {l:List Pd},zI prev l=0→∀n ∈ l,JB n=0
 | prev,m::t,h,n,hn=>by
  by_cases z:JB m=0
  · by_cases y:Vec.jM prev m.name=true
    · rw[jad z y] at h;cases h
    · have y:Vec.jM prev m.name=false:=by simpa using y
      rw[qe z y] at h;rcases List.mem_cons.1 hn with rfl | hn
      · exact z
      · exact jcJ h n hn
  · rw[jbk z] at h;exact absurd h z
theorem qK:∀{l:List Int},orL l=0→∀c ∈ l,c=0
 | x::t,h,c,hc=>by
  unfold orL at h;split at h
  · rename_i g;exact absurd h g
  · rename_i g;rcases List.mem_cons.1 hc with rfl | hc
    · exact Decidable.of_not_not g
    · exact qK h c hc
theorem X3.need0 {s:Clu} (h:X3 s) {n:Pd} (hn:n ∈ s.pods):Vec.jD n.need=0:=by
 have ho:=h.pods;unfold zi at ho;split at ho
 · cases ho
 · exact qK (jcJ ho n hn) _ (by simp[Xp])
theorem jic {s:Clu} (h:Zt s=true):YD s.nodes:=by
 have hc:=qT h;have h0:or3 (jS s.nodes) (zi s.pods) (zn s.buds)=0:=Decidable.byContradiction fun g=>g ((qW (nl:=s.nodes) (pl:=s.pods) (bl:=s.buds) rfl g).symm.trans hc);have ho:jS s.nodes=0:=by
  unfold or3 at h0;split at h0
  · rename_i h1;exact absurd h0 h1
  · rename_i h1;exact Decidable.of_not_not h1
 unfold jS at ho;split at ho
 · cases ho
 · exact(Xa ho).2.1
theorem jdH {x y:ByteArray} (h:ltS x y=true):x≠y:=fun e=>by subst e;exact absurd (Vec.zX h h) (by rw[Vec.YG];decide)
def je9 (p:Pd):List Pd→Nat
 | []=>0
 | q::t=>(if zQ p q=true then 1 else 0)+je9 p t
theorem jgF (p:Pd):∀l:List Pd,je9 p l≤l.length
 | []=>Nat.le_refl _
 | q::t=>by have:=jgF p t;rw[je9,List.length_cons];split<;>omega
def XF (p q:Pd) (d:ByteArray):List Nod→Nat
 | []=>0
 | n::t=>(if jU n.labels p.key=some d∧q.node=n.name then 1 else 0)+XF p q d t
theorem jbH (p q:Pd) (d:ByteArray):∀{l:List Nod},(∀n ∈ l,q.node≠n.name)→XF p q d l=0
 | [],_=>rfl
 | n::t,h=>by rw[XF,if_neg fun e=>h n (by simp) e.2,jbH p q d fun x hx=>h x (by simp[hx])]
theorem jgq (p q:Pd) (d:ByteArray):∀{l:List Nod},YD l→XF p q d l≤1
 | [],_=>Nat.zero_le _
 | n::t,h=>by
  obtain⟨h1,h2⟩:=List.pairwise_cons.1 h;rw[XF];by_cases e:q.node=n.name
  · rw[jbH p q d fun x hx=>fun e2=>jdH (h1 x hx) (e.symm.trans e2)];split<;>omega
  · rw[if_neg fun g=>e g.2];have:=jgq p q d h2;omega
theorem qx (p:Pd) (d:ByteArray):∀l:List Nod,inD p [] d l=0
 | []=>rfl
 | n::t=>by rw[inD,qx p d t];simp[onN]
theorem jab (p q:Pd) (pods:List Pd) (d:ByteArray):∀l:List Nod,inD p (q::pods) d l=(if zQ p q=true then XF p q d l else 0)+inD p pods d l
 | []=>by simp[inD,XF]
 | n::t=>by
  rw[inD,inD,XF,jab p q pods d t,onN];by_cases h1:zQ p q=true<;>by_cases h2:jU n.labels p.key=some d<;>by_cases h3:q.node=n.name<;>simp[h1,h2,h3]<;>omega
theorem jgE (p:Pd) (d:ByteArray) {nodes:List Nod} (h:YD nodes):∀l:List Pd,inD p l d nodes≤je9 p l
 | []=>by rw[qx];exact Nat.zero_le _
 | q::t=>by
  have h1:=jgE p d h t;have h2:=jgq p q d h;rw[jab,je9];split<;>omega
def YK (key:ByteArray) (nodes:List Nod):List ByteArray:=nodes.filterMap fun n=>jU n.labels key
def Xd (key:ByteArray) (nodes:List Nod):List (List UInt8):=(YK key nodes).map fun x=>x.data.toList
def qQ (l:List (List UInt8)):List (List UInt8):=l.mergeSort fun x y=>decide (x≤y)
def jhu (key:ByteArray) (nodes:List Nod):List (List UInt8):=Lib.compact (qQ (Xd key nodes))
def YP (key:ByteArray) (nodes:List Nod):List ByteArray:=(jhu key nodes).map bytes
theorem qs (d:Array (List UInt8)) (hs:∀i j,i<j→j<d.size→d[i]!≤d[j]!):∀m,m≤d.size→(Lib.compactUpTo d m).Pairwise (·<·)∧(∀x,x ∈ Lib.compactUpTo d m↔∃j,j<m∧d[j]! = x)∧(0<m→∀x ∈ Lib.compactUpTo d m,x≤d[m-1]!)
 | 0,_=>⟨List.Pairwise.nil,fun x=>⟨(fun h=>by cases h),(fun ⟨j,hj,_⟩=>absurd hj (Nat.not_lt_zero _))⟩,(fun h=>absurd h (by decide))⟩
 | m+1,hm=>by
  obtain⟨h1,h2,h3⟩:=qs d hs m (by omega);rw[Lib.compactUpTo_succ];by_cases hk:Lib.keeps d m=true
  · rw[if_pos hk];have hlt:∀x ∈ Lib.compactUpTo d m,x<d[m]!:=fun x hx=>by
     obtain⟨j,hj,e⟩:=(h2 x).1 hx;have h5:=h3 (by omega) x hx;have h6:=hs (m-1) m (by omega) (by omega);unfold Lib.keeps at hk;have h7:d[m]!≠d[m-1]!:=by
      rcases of_decide_eq_true hk with h | h
      · omega
      · exact h
     rcases Decidable.em (x<d[m]!) with h | h
     · exact h
     · exact absurd (List.le_antisymm (List.le_trans (show d[m]!≤x from h) h5) h6) h7
    refine⟨List.pairwise_append.2 ⟨h1,List.pairwise_singleton ..,fun x hx y hy=>by rw[List.mem_singleton.1 hy];exact hlt x hx⟩,fun x=>?_,fun _ x hx=>?_⟩
    · rw[List.mem_append,List.mem_singleton];constructor
      · rintro (h | rfl)
        · obtain⟨j,hj,e⟩:=(h2 x).1 h;exact⟨j,by omega,e⟩
        · exact⟨m,by omega,rfl⟩
      · rintro ⟨j,hj,e⟩;by_cases hjm:j=m
        · exact .inr (by rw[←e,hjm])
        · exact .inl ((h2 x).2 ⟨j,by omega,e⟩)
    · rcases List.mem_append.1 hx with h | h
      · exact List.le_of_lt (hlt x h)
      · rw[List.mem_singleton.1 h];exact List.le_refl _
  · rw[if_neg hk,List.append_nil];have hk:Lib.keeps d m=false:=by simpa using hk
    unfold Lib.keeps at hk;have hk:=of_decide_eq_false hk;have hm0:0<m:=Nat.pos_of_ne_zero fun e=>hk (.inl e);have he:d[m]! = d[m-1]!:=Decidable.byContradiction fun g=>hk (.inr g);refine⟨h1,fun x=>⟨fun h=>?_,?_⟩,fun _ x hx=>?_⟩
    · obtain⟨j,hj,e⟩:=(h2 x).1 h;exact⟨j,by omega,e⟩
    · rintro ⟨j,hj,e⟩;by_cases hjm:j=m
      · exact(h2 x).2 ⟨m-1,by omega,by rw[←e,hjm,he]⟩
      · exact(h2 x).2 ⟨j,by omega,e⟩
    · show x≤d[m]!;rw[he];exact h3 hm0 x hx
theorem jiZ (l:List (List UInt8)):(qQ l).Pairwise (·≤·):=by
 have tr:∀a b c:List UInt8,decide (a≤b)=true→decide (b≤c)=true→decide (a≤c)=true:=fun a b c h1 h2=>by simp only[decide_eq_true_eq] at *;exact List.le_trans h1 h2
 have tot:∀a b:List UInt8,(decide (a≤b)||decide (b≤a))=true:=fun a b=>by simp only[Bool.or_eq_true,decide_eq_true_eq];exact List.le_total a b
 exact(List.pairwise_mergeSort tr tot l).imp fun h=>of_decide_eq_true h
theorem XT (key:ByteArray) (nodes:List Nod):(jhu key nodes).Pairwise (·<·)∧∀x,x ∈ jhu key nodes↔x ∈ Xd key nodes:=by
 have hp:=jiZ (Xd key nodes);obtain⟨h1,h2,-⟩:=qs (qQ (Xd key nodes)).toArray (fun i j hij hj=>by
  have hj':j<(qQ (Xd key nodes)).length:=by simpa using hj
  have:=List.pairwise_iff_getElem.1 hp i j (by omega) hj' hij;simpa [getElem!_pos,hj',show i<(qQ (Xd key nodes)).length by omega] using this) (qQ (Xd key nodes)).length (by simp)
 refine⟨h1,fun x=>(h2 x).trans ?_⟩;rw[←(List.mergeSort_perm (Xd key nodes) fun x y=>decide (x≤y)).mem_iff];show _↔x ∈ qQ (Xd key nodes);constructor
 · rintro ⟨j,hj,e⟩;rw[←e];simp[getElem!_pos,hj]
 · intro h;obtain⟨j,hj,e⟩:=List.getElem_of_mem h;exact⟨j,hj,by simpa [getElem!_pos,hj] using e⟩
theorem jdu:∀{l l':List (List UInt8)},l.Pairwise (·<·)→l'.Pairwise (·<·)→(∀x,x ∈ l↔x ∈ l')→l=l'
 | [],[],_,_,_=>rfl
 | [],y::u,_,_,h=>absurd ((h y).2 (by simp)) (by simp)
 | x::t,[],_,_,h=>absurd ((h x).1 (by simp)) (by simp)
 | x::t,y::u,h1,h2,h=>by
  obtain⟨a1,a2⟩:=List.pairwise_cons.1 h1;obtain⟨b1,b2⟩:=List.pairwise_cons.1 h2;have hxy:x=y:=by
   rcases List.mem_cons.1 ((h x).1 (by simp)) with e | e
   · exact e
   · rcases List.mem_cons.1 ((h y).2 (by simp)) with f | f
     · exact f.symm
     · exact absurd (List.lt_trans (b1 x e) (a1 y f)) (List.lt_irrefl _)
  subst hxy;rw[jdu a2 b2 fun z=>⟨fun hz=>?_,fun hz=>?_⟩]
  · rcases List.mem_cons.1 ((h z).1 (by simp[hz])) with e | e
    · subst e;exact absurd (a1 _ hz) (List.lt_irrefl _)
    · exact e
  · rcases List.mem_cons.1 ((h z).2 (by simp[hz])) with e | e
    · subst e;exact absurd (b1 _ hz) (List.lt_irrefl _)
    · exact e
theorem jdB {key:ByteArray} {l:List Nod} {k:Nat} {n:Nod} (h:l[k]?=some n):YK key (l.take (k+1))=YK key (l.take k)++(match jU n.labels key with | none=>[] | some d=>[d]):=by
 unfold YK;rw[List.take_add_one,h,List.filterMap_append]
 cases hg:jU n.labels key<;>simp[hg]
theorem jix (p q:Pd) (d:ByteArray):∀{l:List Nod},YD l→XF p q d l=if domV p.key q.node l=some d then 1 else 0
 | [],_=>by simp[XF,domV]
 | n::t,h=>by
  obtain⟨h1,h2⟩:=List.pairwise_cons.1 h;rw[XF,domV];by_cases e:q.node=n.name
  · rw[jbH p q d fun x hx=>fun e2=>jdH (h1 x hx) (e.symm.trans e2),if_pos (show eqS n.name q.node=true from jL.2 e.symm),Nat.add_zero];by_cases g:jU n.labels p.key=some d
    · rw[if_pos ⟨g,e⟩,if_pos g]
    · rw[if_neg fun x=>g x.1,if_neg g]
  · rw[if_neg fun x=>e x.2,if_neg (show ¬eqS n.name q.node=true from fun g=>e (jL.1 g).symm),jix p q d h2,Nat.zero_add]
theorem jkl {key d:ByteArray} {nodes:List Nod}:d ∈ YP key nodes↔∃n ∈ nodes,jU n.labels key=some d:=by
 unfold YP;rw[List.mem_map];constructor
 · rintro ⟨x,hx,rfl⟩;have:=((XT key nodes).2 x).1 hx;unfold Xd YK at this;obtain⟨y,hy,rfl⟩:=List.mem_map.1 this;obtain⟨n,hn,e⟩:=List.mem_filterMap.1 hy;exact⟨n,hn,by rw[qC];exact e⟩
 · rintro ⟨n,hn,e⟩;refine⟨d.data.toList,((XT key nodes).2 _).2 ?_,qC d⟩;unfold Xd YK;exact List.mem_map.2 ⟨d,List.mem_filterMap.2 ⟨n,hn,e⟩,rfl⟩
theorem jfA {k d:ByteArray}:∀{l:PL},jU l k=some d→∃x ∈ l,x.2=d
 | y::t,h=>by
  rw[jU] at h;split at h
  · exact⟨y,by simp,Option.some.inj h⟩
  · obtain⟨x,hx,e⟩:=jfA h;exact⟨x,by simp[hx],e⟩
theorem jav:∀{prev:Option ByteArray} {l:List Nod},zG prev l=0→∀n ∈ l,jZ n=0
 | _,[],_,x,hx=>by cases hx
 | prev,y::t,h,x,hx=>by
  by_cases z:jZ y=0
  · by_cases b:Vec.jM prev y.name=true
    · rw[qN z b] at h;cases h
    · rw[qd z (by simpa using b)] at h;rcases List.mem_cons.1 hx with rfl | hx
      · exact z
      · exact jav h x hx
  · rw[jbn z] at h;exact absurd h z
theorem jho {s:Clu} (h:Zt s=true):∀n ∈ s.nodes,jZ n=0:=by
 have hc:=qT h;have h0:or3 (jS s.nodes) (zi s.pods) (zn s.buds)=0:=Decidable.byContradiction fun g=>g ((qW (nl:=s.nodes) (pl:=s.pods) (bl:=s.buds) rfl g).symm.trans hc);have ho:jS s.nodes=0:=by
  unfold or3 at h0;split at h0
  · rename_i h1;exact absurd h0 h1
  · rename_i h1;exact Decidable.of_not_not h1
 unfold jS at ho;split at ho
 · cases ho
 · exact jav ho
theorem jkq {n:Nod} (h:jZ n=0):isName n.name=true:=by
 unfold jZ at h;split at h
 · cases h
 · rename_i h1;simpa using h1
theorem ja6 {key x:ByteArray} (hx:isName x=false):∀{l:List Nod},(∀n ∈ l,jZ n=0)→domV key x l=none
 | [],_=>rfl
 | n::t,h=>by
  rw[domV,if_neg fun e=>by
   have:=jkq (h n (by simp));rw[jL.1 e,hx] at this
   cases this]
  exact ja6 hx fun m hm=>h m (by simp[hm])
theorem jh.preP {α:Type} {L:Lay α} {w:World} {b off len:Nat} {l:List α} {k:Nat} (h:jh L w (some ⟨b,off,none⟩) len l) (hk:k≤l.length):jh L w (some ⟨b,off,none⟩) k (l.take k):=by
 have:=h.part 0 k (by have:=h.1;omega);simpa using this
theorem jh.postP {α:Type} {L:Lay α} {w:World} {b off len:Nat} {l:List α} {k:Nat} (h:jh L w (some ⟨b,off,none⟩) len l) (hk:k≤l.length):jh L w (some ⟨b,off+k*L.m,none⟩) (l.length-k) (l.drop k):=by
 have:=h.part k (l.length-k) (by have:=h.1;omega);rw[List.take_of_length_le (by rw[List.length_drop];omega)] at this;exact this
theorem jgL {w:World} {a:Option Addr} {len:Nat} {l:List Pd} (h:jN w a len l):∃lx:List PX,(lx.map fun z=>z.1)=l∧jh jg w a len lx∧∀z ∈ lx,At4 w z:=by
 obtain⟨h0,h1,h2⟩:=h;rcases h2 with h2 | ⟨b,off,rfl,hb,hc⟩
 · have:l=[]:=List.eq_nil_of_length_eq_zero (by omega);subst this;subst h2;exact⟨[],rfl,jh.nil w a,fun z hz=>absurd hz (by simp)⟩
 · have step:∀m,m≤l.length→∃lx:List PX,(lx.map fun z=>z.1)=l.take m∧(∀i x j u,lx[i]?=some x→(jg.cs x)[j]?=some u→w.cell? ⟨b,off+i*11+j,none⟩=some u)∧∀z ∈ lx,At4 w z:=by
    intro m
    induction m with
    | zero=>exact fun _=>⟨[],rfl,fun i x j u hi=>by simp at hi,fun z hz=>absurd hz (by simp)⟩
    | succ m ih =>
     intro hm;obtain⟨lx,e,hcell,hat⟩:=ih (by omega);obtain⟨n,hn⟩:∃n,l[m]?=some n:=⟨_,List.getElem?_eq_getElem (by omega)⟩
     obtain⟨v1,v2,v3,v4,p0,p1,p2,p3,p4,p5,p6,p7,p8,p9,p10,hp⟩:=hc m n hn;obtain⟨b1,n1,d1,b2,n2,d2,b3,n3,d3,b4,n4,d4,rfl,rfl,rfl,rfl⟩:=hp.spelt;have hlen:lx.length=m:=by
      have:=congrArg List.length e;rw[List.length_map,List.length_take] at this;omega
     refine⟨lx++[(n,(b1,n1,d1),(b2,n2,d2),(b3,n3,d3),(b4,n4,d4))],?_,?_,?_⟩
     · rw[List.map_append,e,zE hn];rfl
     · intro i x j u hi hj;by_cases him:i<m
       · rw[List.getElem?_append_left (by omega)] at hi;exact hcell i x j u hi hj
       · have hi2:=(List.getElem?_eq_some_iff.1 hi).1;rw[List.length_append,List.length_singleton] at hi2;obtain rfl:i=m:=by omega
         rw[List.getElem?_append_right (by omega),hlen,Nat.sub_self] at hi;obtain rfl:=Option.some.inj hi
         match j,hj with
         | 0,hj=>obtain rfl:=Option.some.inj hj;exact p0
         | 1,hj=>obtain rfl:=Option.some.inj hj;exact p1
         | 2,hj=>obtain rfl:=Option.some.inj hj;exact p2
         | 3,hj=>obtain rfl:=Option.some.inj hj;exact p3
         | 4,hj=>obtain rfl:=Option.some.inj hj;exact p4
         | 5,hj=>obtain rfl:=Option.some.inj hj;exact p5
         | 6,hj=>obtain rfl:=Option.some.inj hj;exact p6
         | 7,hj=>obtain rfl:=Option.some.inj hj;exact p7
         | 8,hj=>obtain rfl:=Option.some.inj hj;exact p8
         | 9,hj=>obtain rfl:=Option.some.inj hj;exact p9
         | 10,hj=>obtain rfl:=Option.some.inj hj;exact p10
         | j+11,hj=>simp[jg] at hj
     · intro z hz;rcases List.mem_append.1 hz with hz | hz
       · exact hat z hz
       · obtain rfl:z=_:=List.mem_singleton.1 hz;exact js.at4 hp
   obtain⟨lx,e,hcell,hat⟩:=step l.length (Nat.le_refl _);rw[List.take_of_length_le (Nat.le_refl _)] at e;have hl:lx.length=len:=by rw[←h0,←e,List.length_map]
   exact⟨lx,e,⟨hl,h1,fun _ _=>trivial,.inr ⟨b,off,rfl,hb,hcell⟩⟩,hat⟩
def jcV (l:List ByteArray):Prop:=l.Pairwise fun x y=>ltS x y=true
theorem jlr {key:ByteArray} {nodes:List Nod} {la:List ByteArray} (h:jcV la) (hm:∀x,x ∈ la↔x ∈ YK key nodes):la=YP key nodes:=by
 have h1:la.map (fun x=>x.data.toList)=jhu key nodes:=jdu (List.pairwise_map.2 (h.imp fun {a b} h=>by
  rw[Vec.jd2,bytesLess_eq] at h;exact of_decide_eq_true h)) (XT key nodes).1 fun x=>by
  rw[(XT key nodes).2];unfold Xd;constructor
  · intro hx;obtain⟨y,hy,rfl⟩:=List.mem_map.1 hx;exact List.mem_map.2 ⟨y,(hm y).1 hy,rfl⟩
  · intro hx;obtain⟨y,hy,rfl⟩:=List.mem_map.1 hx;exact List.mem_map.2 ⟨y,(hm y).2 hy,rfl⟩
 unfold YP;rw[←h1,List.map_map];refine(List.map_id la).symm.trans (List.map_congr_left fun x _=>?_);exact(qC x).symm
theorem jl3 {la:List ByteArray} {q:Nat} {d:ByteArray} (h:jcV la) (h1:∀x ∈ la.take q,ltS x d=true) (h2:∀x ∈ la.drop q,ltS d x=true):jcV (la.take q++d::la.drop q):=by
 refine List.pairwise_append.2 ⟨h.sublist (List.take_sublist _ _),List.pairwise_cons.2 ⟨h2,h.sublist (List.drop_sublist _ _)⟩,fun x hx y hy=>?_⟩;rcases List.mem_cons.1 hy with rfl | hy
 · exact h1 x hx
 · exact Vec.zX (h1 x hx) (h2 y hy)
theorem ins_mem' {la:List ByteArray} {q:Nat} {d x:ByteArray}:x ∈ la.take q++d::la.drop q↔x ∈ la∨x=d:=by
 rw[List.mem_append,List.mem_cons];have:x ∈ la↔x ∈ la.take q∨x ∈ la.drop q:=by
  conv=>lhs;rw[←List.take_append_drop q la]
  exact List.mem_append
 rw[this];constructor
 · rintro (h | h | h)
   · exact .inl (.inl h)
   · exact .inr h
   · exact .inl (.inr h)
 · rintro ((h | h) | h)
   · exact .inl h
   · exact .inr (.inr h)
   · exact .inr (.inl h)
theorem jj7 {la:List ByteArray} {q:Nat} {d y:ByteArray} (h:jcV la) (hy:la[q]?=some y) (h1:ltS y d=false) (h2:eqS y d=false):∀x ∈ la.drop q,ltS d x=true:=by
 have hdy:ltS d y=true:=by
  cases hc:ltS d y with
  | true=>rfl
  | false =>
   have:=Vec.Xo h1 hc;subst this;rw[ZJ] at h2;cases h2
 obtain⟨hq,rfl⟩:=List.getElem?_eq_some_iff.1 hy;intro x hx;rw[List.drop_eq_getElem_cons hq] at hx;rcases List.mem_cons.1 hx with rfl | hx
 · exact hdy
 · obtain⟨j,hj,rfl⟩:=List.mem_iff_getElem.1 hx;rw[List.getElem_drop];exact Vec.zX hdy (List.pairwise_iff_getElem.1 h q (q+1+j) hq (by rw[List.length_drop] at hj;omega) (by omega))
theorem jlc {la:List ByteArray} {q:Nat} {d y:ByteArray} (h:∀x ∈ la.take q,ltS x d=true) (hy:la[q]?=some y) (h1:ltS y d=true):∀x ∈ la.take (q+1),ltS x d=true:=by
 intro x hx;rw[List.take_add_one,hy] at hx;rcases List.mem_append.1 hx with hx | hx
 · exact h x hx
 · rcases List.mem_singleton.1 hx with rfl;exact h1
theorem jjX {key:ByteArray} {l:List Nod} {k:Nat} {n:Nod} (h:l[k]?=some n) (hg:jU n.labels key=none):YK key (l.take (k+1))=YK key (l.take k):=by rw[jdB h,hg];simp
theorem jeV {key d:ByteArray} {l:List Nod} {k:Nat} {n:Nod} (h:l[k]?=some n) (hg:jU n.labels key=some d) {x:ByteArray}:x ∈ YK key (l.take (k+1))↔x ∈ YK key (l.take k)∨x=d:=by rw[jdB h,hg];simp
theorem jj9 {w:World} {v:Value} {l:PL} {k d:ByteArray} (h:Reads jF w v l) (hd:jU l k=some d):d.size≤maxLen:=by
 obtain⟨x,hx,rfl⟩:=jfA hd;obtain⟨a,cap,-,-,-,hr⟩:=h;exact(hr.2.2.1 x hx).2
theorem kindStr:Kind 58 9 1 16:=by
 obtain⟨i,hi,hz,h1,h2⟩:=info_parts (show (Tryz.prog.info? 9).map (fun i=>(i.zero,i.size,i.bytes))=some (some (.string ByteArray.empty),1,16) by kernel_rfl);exact⟨i,_,Tryz.underlying58,hi,hz,h1,h2,rfl,by decide⟩
theorem XH (a:Option Addr) (len cap:Nat) (l:PL) (n:ByteArray) (w:World) (hr:jh jF w a len l) :
 Calls Tryz.prog 95 #[.slice a len cap,.string n] w fun e w'=>e=.returned (.tuple #[.string (ZP l n),.bool (Za l n)])∧w=w':=by
 have hl:=hr.1;have hm:=hr.2.1;unfold maxLen at hm;rcases hr.form with h0 | ⟨b,off,rfl⟩
 · subst h0;have HE:=lH (show jU l n=none by rw[List.eq_nil_of_length_eq_zero hl];rfl);clear hr hl;go_enter Tryz.func95,Tryz.ntmps95;go_wp2;refine wp_loop_rounds 1 ?_;rw[rounds_succ];go_wp2;go_ret2
   exact⟨Xq HE.out,rfl⟩
 · have HR:=lH hr;have HL:=lH hl;clear hr hl;go_enter Tryz.func95,Tryz.ntmps95;go_wp2;go_loop [6] (fun i=>∃k:Nat,k≤len∧i=.int .i64 k∧jU (l.drop k) n=jU l n) (fun i=>len-(intOf i).toNat)
   case atStart=>exact⟨0,Nat.zero_le _,rfl,rfl⟩
   case round =>
    obtain⟨k,hk,rfl,hrest⟩:=hrel;by_cases hlt:k<len
    · obtain⟨x,y,hx,hd,hb,hz,hz2,c1,c2⟩:=HR.out.pair hlt;have HT:=lH (hrest.symm.trans ((congrArg (fun z=>jU z n) hd).trans (jdF _ _ _ _)));clear hrest hx hd;by_cases e:eqS x n=true
      · have E:=lH e;have e':(x.toList==n.toList)=true:=e;clear e;go_wp2;go_ret2
        exact⟨Xq (HT.out.trans (if_pos E.out)),rfl⟩
      · have E:=lH e;have e':(x.toList==n.toList)=false:=by unfold eqS at e;simpa using e
        clear e;go_wp2;go_round
        case rel=>exact⟨k+1,by omega,by go_num,(HT.out.trans (if_neg E.out)).symm⟩
        case measure=>simp[intOf];omega
    · have HS:=lH (hrest.symm.trans (congrArg (fun z=>jU z n) (zH (by rw[HL.out];exact hlt))));clear hrest;go_wp2;go_ret2
      exact⟨Xq (HS.out.trans rfl),rfl⟩
theorem jfk (a a':Option Addr) (len cap len' cap':Nat) (l:TL) (s:PL) (w:World) (hr:jh jP w a len l) (hr':jh jF w a' len' s) :
 Calls Tryz.prog 58 #[.slice a len cap,.slice a' len' cap'] w fun e w'=>e=.returned (.bool (Jb l s))∧w=w':=by
 have hl:=hr.1;have hm:=hr.2.1;unfold maxLen at hm;rcases hr.form with h0 | ⟨b,off,rfl⟩
 · subst h0;have HE:=lH (show Jb l s=true by rw[List.eq_nil_of_length_eq_zero hl];rfl);clear hr hl hr';go_enter Tryz.func58,Tryz.ntmps58;go_wp2;refine wp_loop_rounds 1 ?_;rw[rounds_succ];go_wp2;go_ret;exact⟨je HE.out.symm,rfl⟩
 · have HR:=lH hr;have HR':=lH hr';have HL:=lH hl;clear hr hl hr';go_enter Tryz.func58,Tryz.ntmps58;go_wp2;go_loop [5] (fun i=>∃k:Nat,k≤len∧i=.int .i64 k∧Jb (l.drop k) s=Jb l s) (fun i=>len-(intOf i).toNat)
   case atStart=>exact⟨0,Nat.zero_le _,rfl,rfl⟩
   case round =>
    obtain⟨k,hk,rfl,hrest⟩:=hrel;by_cases hlt:k<len
    · obtain⟨o,x,y,hx,hd,hb,ho,hz,hz2,c1,c2,c3⟩:=HR.out.term hlt;have HT:=lH (hrest.symm.trans ((congrArg (fun z=>Jb z s) hd).trans (jbN _ _ _)));have HG:=lH (XH a' len' cap' s x w HR'.out);obtain⟨v,hv⟩:∃v,ZP s x=v:=⟨_,rfl⟩
      obtain⟨h,hh⟩:∃h,Za s x=h:=⟨_,rfl⟩
      obtain⟨q,hq⟩:∃q,eqS v y=q:=⟨_,rfl⟩
      have hq':(v.toList==y.toList)=q:=hq;rw[hv,hh] at HG;clear hrest hx hd;by_cases h1:o=1
      · subst h1;have HV:=lH (show Jz s (1,x,y)=(h&&q) by rw[JI,if_pos rfl,hv,hh,hq]);clear hv hh hq
        cases h<;>cases q
        · go_wp2_with (go_at_call 95;refine HG.out.mono ?_;rintro e w1 ⟨rfl,rfl⟩)
          go_ret;exact⟨je (HT.out.trans (by rw[HV.out];exact Bool.false_and _)).symm,rfl⟩
        · go_wp2_with (go_at_call 95;refine HG.out.mono ?_;rintro e w1 ⟨rfl,rfl⟩)
          go_ret;exact⟨je (HT.out.trans (by rw[HV.out];exact Bool.false_and _)).symm,rfl⟩
        · go_wp2_with (go_at_call 95;refine HG.out.mono ?_;rintro e w1 ⟨rfl,rfl⟩)
          go_ret;exact⟨je (HT.out.trans (by rw[HV.out];exact Bool.false_and _)).symm,rfl⟩
        · go_wp2_with (go_at_call 95;refine HG.out.mono ?_;rintro e w1 ⟨rfl,rfl⟩)
          go_round
          case rel=>exact⟨k+1,by omega,by go_num,(HT.out.trans (by rw[HV.out];exact Bool.true_and _)).symm⟩
          case measure=>simp[intOf];omega
      · by_cases h2:o=2
        · subst h2;have HV:=lH (show Jz s (2,x,y)=(!h||!q) by rw[JI,if_neg (by decide),if_pos rfl,hv,hh,hq]);clear hv hh hq h1
          cases h<;>cases q
          · go_wp2_with (go_at_call 95;refine HG.out.mono ?_;rintro e w1 ⟨rfl,rfl⟩)
            go_round
            case rel=>exact⟨k+1,by omega,by go_num,(HT.out.trans (by rw[HV.out];exact Bool.true_and _)).symm⟩
            case measure=>simp[intOf];omega
          · go_wp2_with (go_at_call 95;refine HG.out.mono ?_;rintro e w1 ⟨rfl,rfl⟩)
            go_round
            case rel=>exact⟨k+1,by omega,by go_num,(HT.out.trans (by rw[HV.out];exact Bool.true_and _)).symm⟩
            case measure=>simp[intOf];omega
          · go_wp2_with (go_at_call 95;refine HG.out.mono ?_;rintro e w1 ⟨rfl,rfl⟩)
            go_round
            case rel=>exact⟨k+1,by omega,by go_num,(HT.out.trans (by rw[HV.out];exact Bool.true_and _)).symm⟩
            case measure=>simp[intOf];omega
          · go_wp2_with (go_at_call 95;refine HG.out.mono ?_;rintro e w1 ⟨rfl,rfl⟩)
            go_ret;exact⟨je (HT.out.trans (by rw[HV.out];exact Bool.false_and _)).symm,rfl⟩
        · by_cases h3:o=3
          · subst h3;have HV:=lH (show Jz s (3,x,y)=h by rw[JI,if_neg (by decide),if_neg (by decide),if_pos rfl,hh]);clear hv hh hq h1 h2
            cases h
            · go_wp2_with (go_at_call 95;refine HG.out.mono ?_;rintro e w1 ⟨rfl,rfl⟩)
              go_ret;exact⟨je (HT.out.trans (by rw[HV.out];exact Bool.false_and _)).symm,rfl⟩
            · go_wp2_with (go_at_call 95;refine HG.out.mono ?_;rintro e w1 ⟨rfl,rfl⟩)
              go_round
              case rel=>exact⟨k+1,by omega,by go_num,(HT.out.trans (by rw[HV.out];exact Bool.true_and _)).symm⟩
              case measure=>simp[intOf];omega
          · by_cases h4:o=4
            · subst h4;have HV:=lH (show Jz s (4,x,y)=!h by rw[JI,if_neg (by decide),if_neg (by decide),if_neg (by decide),if_pos rfl,hh]);clear hv hh hq h1 h2 h3
              cases h
              · go_wp2_with (go_at_call 95;refine HG.out.mono ?_;rintro e w1 ⟨rfl,rfl⟩)
                go_round
                case rel=>exact⟨k+1,by omega,by go_num,(HT.out.trans (by rw[HV.out];exact Bool.true_and _)).symm⟩
                case measure=>simp[intOf];omega
              · go_wp2_with (go_at_call 95;refine HG.out.mono ?_;rintro e w1 ⟨rfl,rfl⟩)
                go_ret;exact⟨je (HT.out.trans (by rw[HV.out];exact Bool.false_and _)).symm,rfl⟩
            · have HV:=lH (show Jz s (o,x,y)=false by rw[JI,if_neg h1,if_neg h2,if_neg h3,if_neg h4]);have e1:(o==1)=false:=by simpa using h1
              have e2:(o==2)=false:=by simpa using h2
              have e3:(o==3)=false:=by simpa using h3
              have e4:(o==4)=false:=by simpa using h4
              clear hv hh hq h1 h2 h3 h4
              · go_wp2_with (go_at_call 95;refine HG.out.mono ?_;rintro e w1 ⟨rfl,rfl⟩)
                go_ret;exact⟨je (HT.out.trans (by rw[HV.out];exact Bool.false_and _)).symm,rfl⟩
    · have HS:=lH (hrest.symm.trans (congrArg (fun z=>Jb z s) (zH (by rw[HL.out];exact hlt))));clear hrest;go_wp2;go_ret;exact⟨je (HS.out.trans rfl).symm,rfl⟩
theorem ji8 {v v':Value} {l:TL} {s:PL} {b:Bool} {w:World} (h:Reads jP w v l) (h':Reads jF w v' s) (hb:Jb l s=b) :
 Calls Tryz.prog 58 #[v,v'] w (Say (.bool b) w):=by
 obtain⟨a,cap,rfl,_,_,hr⟩:=h;obtain⟨a',cap',rfl,_,_,hr'⟩:=h';exact(jfk a a' _ cap _ cap' l s w hr hr').mono fun e w' ⟨he,k⟩=>⟨by rw[he,hb],k▸Kept.refl _⟩
theorem jgB (p:Pd) (d:ByteArray) (a b:List Pd):∀l:List Nod,inD p (a++b) d l=inD p a d l+inD p b d l
 | []=>rfl
 | n::t=>by
  rw[inD,inD,inD,jgB p d a b t,ja0];split<;>omega
def JU (p q:Pd) (d:ByteArray) (nodes:List Nod):Bool:=zQ p q&&decide (domV p.key q.node nodes=some d)
theorem jj6 {p q:Pd} {pods:List Pd} {d:ByteArray} {nodes:List Nod} {k:Nat} (h:YD nodes) (hq:pods[k]?=some q):inD p (pods.take (k+1)) d nodes=inD p (pods.take k) d nodes+(if JU p q d nodes=true then 1 else 0):=by
 rw[List.take_add_one,hq,show (some q).toList=[q] from rfl,jgB,jab,qx,jix p q d h];unfold JU
 cases hb:zQ p q
 · simp
 · by_cases hd:domV p.key q.node nodes=some d
   · simp[hd]
   · simp[hd]
theorem jib {p:Pd} {d:ByteArray} {nodes:List Nod} (h:YD nodes) (l:List Pd):inD p l d nodes≤l.length:=Nat.le_trans (jgE p d h l) (jgF p l)
theorem qm {p:Pd} (h:zZ p.owner=true) (d:ByteArray) (nodes:List Nod):∀l:List Pd,inD p l d nodes=0
 | []=>qx p d nodes
 | q::t=>by
  rw[jab,qm h d nodes t,if_neg (by unfold zQ;rw[h];simp)]
theorem jar {key x:ByteArray}:∀{l:List Nod},domV key x l=(jj l x).bind fun n=>jU n.labels key
 | []=>rfl
 | n::t=>by
  rw[domV];unfold jj;rw[List.find?_cons]
  cases h:eqS n.name x with
  | true=>rfl
  | false =>
   have:=jar (key:=key) (x:=x) (l:=t);unfold jj at this;simpa using this
theorem jc8 {x:ByteArray} (h:zZ x=true):isName x=false:=by
 rw[JA] at h;have e:x.toList=[]:=by simpa using h
 have e2:x.data.toList=[]:=by rw[←Lib.toList_data];exact e
 have e3:x.size=0:=by rw[←ByteArray.size_data,←Array.length_toList,e2];rfl
 unfold isName;rw[e3];rfl
theorem qk.spelt {w:World} {v:Value} {n:Nod} (h:qk w v n):∃b1 k1 d1 b2 k2 d2 b3 k3 d3,v=.agg #[.string n.name,.slice b1 k1 d1,.slice b2 k2 d2,.slice b3 k3 d3,.bool n.cordon]∧zp w (.slice b1 k1 d1) (.slice b2 k2 d2) (.slice b3 k3 d3) n:=by
 obtain⟨v1,v2,v3,rfl,hat⟩:=h;have g1:=hat.cap;have g2:=hat.labels;have g3:=hat.taints;obtain⟨b1,d1,rfl,-,-,-⟩:=g1;obtain⟨b2,d2,rfl,-,-,-⟩:=g2;obtain⟨b3,d3,rfl,-,-,-⟩:=g3;exact⟨_,_,_,_,_,_,_,_,_,rfl,hat⟩
theorem jia {w:World} {v:Value} {l:PL} {key x:ByteArray} {b:Bool} (h:Reads jF w v l) (hx:ZP l key=x) (hb:Za l key=b):Calls Tryz.prog 95 #[v,.string key] w fun e w'=>e=.returned (.tuple #[.string x,.bool b])∧w=w':=by
 subst hx hb;obtain⟨a,cap,rfl,-,-,hr⟩:=h;exact XH a _ cap l key w hr
theorem jcb (s1 s2 s3:Option Addr) (n1 e1 n2 e2 n3 e3:Nat) (a1 a2 a3 a4:Option Addr) (m1 c1 m2 c2 m3 c3 m4 c4:Nat) (p:Pd) (s:Clu) (d:ByteArray) (w:World) (hn:jE w s1 n1 s.nodes) (hp:jN w s2 n2 s.pods) (hb2:n2≤100000) (ha:YD s.nodes) (hk:∀n ∈ s.nodes,jZ n=0):Calls Tryz.prog 97 #[.agg #[.slice s1 n1 e1,.slice s2 n2 e2,.slice s3 n3 e3],jr p (.slice a1 m1 c1) (.slice a2 m2 c2) (.slice a3 m3 c3) (.slice a4 m4 c4),.string d] w (Say (.int .i64 (inD p s.pods d s.nodes)) w):=by
 obtain⟨Z,hZ⟩:∃Z,(w.alloc (.cells #[.slice s1 n1 e1,.slice s2 n2 e2,.slice s3 n3 e3] 51)).alloc (.cells #[.string p.name,.string p.owner,.int .i64 p.prio,.slice a1 m1 c1,.slice a2 m2 c2,.slice a3 m3 c3,.slice a4 m4 c4,.string p.key,.int .i64 p.most,.string p.node,.bool p.hold] 45)=Z:=⟨_,rfl⟩
 have hkz:Kept w Z:=by rw[←hZ];exact jm _ _ _
 have Vd:=lH (jd w (.slice s1 n1 e1) [.slice s2 n2 e2,.slice s3 n3 e3] 51 Z (by rw[←hZ];exact ja _ _));have Vb:=lH (show jf (w.heap.size+1) [.string p.name,.string p.owner,.int .i64 p.prio,.slice a1 m1 c1,.slice a2 m2 c2,.slice a3 m3 c3,.slice a4 m4 c4,.string p.key,.int .i64 p.most,.string p.node,.bool p.hold] Z by
  have dd:=jd (w.alloc (.cells #[.slice s1 n1 e1,.slice s2 n2 e2,.slice s3 n3 e3] 51)) (.string p.name) [.string p.owner,.int .i64 p.prio,.slice a1 m1 c1,.slice a2 m2 c2,.slice a3 m3 c3,.slice a4 m4 c4,.string p.key,.int .i64 p.most,.string p.node,.bool p.hold] 45 Z (by rw[hZ];exact Kept.refl _);rw[World.size_alloc] at dd;exact dd)
 have Ve:=lH hkz;have HN:=lH (hn.kept hkz);have HP:=lH (hp.kept hkz);have UF:=lH hp.1;have Tn:=lH ha;have VT:=lH hk;clear hn hp hkz ha hk;obtain⟨t0,h0⟩:∃t,(p.owner.toList==([]:List UInt8))=t:=⟨_,rfl⟩
 have h0b:(p.owner.toList != ([]:List UInt8))=!t0:=by rw[←h0];rfl
 have T0:=lH (show zZ p.owner=t0 by rw[JA,h0]);unfold jr;go_enter Tryz.func97,Tryz.ntmps97;go_upto_region 2 with fail
 try rw[hZ]
 clear hZ;go_wp2;go_loopw [7,8] (fun nv iv wr=>∃i k:Nat,i≤n2∧iv=.int .i64 i∧nv=.int .i64 k∧Hid (inD p (s.pods.take i) d s.nodes=k∧Kept Z wr)) (fun _ iv _=>n2-(intOf iv).toNat)
 case atStart=>exact⟨0,0,Nat.zero_le _,rfl,rfl,qx p d s.nodes,Kept.refl _⟩
 case round =>
  obtain⟨i,k,hi9,rfl,rfl,HH⟩:=hrel;have Te:=lH HH.out.1;have HK:=lH HH.out.2;clear HH;have Vp:=lH (Vd.out.kept HK.out);have Uc:=lH (Vb.out.kept HK.out);have y0:=Vp.out.at_ 0 _ rfl;have y1:=Vp.out.at_ 1 _ rfl;have y2:=Vp.out.at_ 2 _ rfl;have r0:=Uc.out.at_ 0 _ rfl;have r1:=Uc.out.at_ 1 _ rfl;have r7:=Uc.out.at_ 7 _ rfl;by_cases hlt:i<n2
  · have hkk:(i:Int)<(n2:Int):=by omega
    cases t0 with
    | true =>
     have HE:=lH (show inD p s.pods d s.nodes=k by rw[←Te.out,qm T0.out,qm T0.out]);go_wp2;go_ret;exact⟨jc (by rw[HE.out]),Ve.out.trans HK.out⟩
    | false =>
     obtain⟨g,off,rfl⟩:=HP.out.form.resolve_left (by omega);obtain⟨q,u1,h1,l1,u2,h2,l2,u3,h3,l3,u4,h4,l4,hn,hd,hb,j0,j1,j2,j3,j4,j5,j6,j7,j8,j9,j10,hat⟩:=(HP.out.kept HK.out).at_ hlt;have hki:k≤i:=by
      have:=jib (p:=p) (d:=d) Tn.out (s.pods.take i);rw[Te.out,List.length_take] at this;omega
     have Uy:=lH (jj6 (p:=p) (d:=d) Tn.out hn);have hk0:¬(i:Int)<0:=by omega
     obtain⟨wx,hwx⟩:∃W,wr.alloc (.cells #[.string q.name,.string q.owner,.int .i64 q.prio,.slice u1 h1 l1,.slice u2 h2 l2,.slice u3 h3 l3,.slice u4 h4 l4,.string q.key,.int .i64 q.most,.string q.node,.bool q.hold] 45)=W:=⟨_,rfl⟩
     have hkx:Kept wr wx:=by rw[←hwx];exact ja _ _
     have Va:=lH (jd wr (.string q.name) [.string q.owner,.int .i64 q.prio,.slice u1 h1 l1,.slice u2 h2 l2,.slice u3 h3 l3,.slice u4 h4 l4,.string q.key,.int .i64 q.most,.string q.node,.bool q.hold] 45 wx (by rw[hwx];exact Kept.refl _));obtain⟨bq,hbq⟩:∃z,wr.heap.size=z:=⟨_,rfl⟩
     rw[hbq] at Va;have KX:=lH (HK.out.trans hkx);have Vp:=lH (Vp.out.kept hkx);have Uc:=lH (Uc.out.kept hkx);go_upto_region 6 with fail
     try rw[hwx]
     try rw[hbq]
     clear hwx hbq hd hb hn hkx hk0 hkk hat j0 j1 j2 j3 j4 j5 j6 j7 j8 j9 j10 y0 y1 y2 r0 r1 r7;obtain⟨t4,h4⟩:∃t,q.hold=t:=⟨_,rfl⟩
     rw[h4] at Va;have j0:=Va.out.at_ 0 _ rfl;have j1:=Va.out.at_ 1 _ rfl;have j9:=Va.out.at_ 9 _ rfl;have j10:=Va.out.at_ 10 _ rfl;have y0:=Vp.out.at_ 0 _ rfl;have y1:=Vp.out.at_ 1 _ rfl;have y2:=Vp.out.at_ 2 _ rfl;have r0:=Uc.out.at_ 0 _ rfl;have r1:=Uc.out.at_ 1 _ rfl;have r7:=Uc.out.at_ 7 _ rfl;obtain⟨t2,h2⟩:∃t,(q.owner.toList==p.owner.toList)=t:=⟨_,rfl⟩
     have h2b:(q.owner.toList != p.owner.toList)=!t2:=by rw[←h2];rfl
     have T2:=lH (show eqS q.owner p.owner=t2 from h2);obtain⟨t1,h1⟩:∃t,(q.name.toList==p.name.toList)=t:=⟨_,rfl⟩
     have T1:=lH (show eqS q.name p.name=t1 from h1);obtain⟨t5,h5⟩:∃t,(q.node.toList==([]:List UInt8))=t:=⟨_,rfl⟩
     have T5:=lH (show zZ q.node=t5 by rw[JA,h5]);have T4:=lH h4;clear h4
     cases t2 with
     | false =>
      have HC:=lH (show JU p q d s.nodes=false by unfold JU zQ;rw[T2.out];simp);have HE:=lH (show inD p (s.pods.take (i+1)) d s.nodes=k by rw[Uy.out,HC.out,Te.out];rfl);go_wp2;go_roundw
      case rel=>exact⟨i+1,k,by omega,by go_num,rfl,HE.out,KX.out⟩
      case measure=>simp[intOf];omega
     | true =>
      cases t4 with
      | true =>
       have HC:=lH (show JU p q d s.nodes=false by unfold JU zQ;rw[T4.out];simp);have HE:=lH (show inD p (s.pods.take (i+1)) d s.nodes=k by rw[Uy.out,HC.out,Te.out];rfl);go_wp2;go_roundw
       case rel=>exact⟨i+1,k,by omega,by go_num,rfl,HE.out,KX.out⟩
       case measure=>simp[intOf];omega
      | false =>
       cases t1 with
       | true =>
        have HC:=lH (show JU p q d s.nodes=false by unfold JU zQ;rw[T1.out];simp);have HE:=lH (show inD p (s.pods.take (i+1)) d s.nodes=k by rw[Uy.out,HC.out,Te.out];rfl);go_wp2;go_roundw
        case rel=>exact⟨i+1,k,by omega,by go_num,rfl,HE.out,KX.out⟩
        case measure=>simp[intOf];omega
       | false =>
        cases t5 with
        | true =>
         have HC:=lH (show JU p q d s.nodes=false by unfold JU;rw[ja6 (jc8 T5.out) VT.out];simp);have HE:=lH (show inD p (s.pods.take (i+1)) d s.nodes=k by rw[Uy.out,HC.out,Te.out];rfl);go_wp2;go_roundw
         case rel=>exact⟨i+1,k,by omega,by go_num,rfl,HE.out,KX.out⟩
         case measure=>simp[intOf];omega
        | false =>
         have VD:=lH (show zQ p q=true by unfold zQ;rw[T0.out,T2.out,T4.out,T1.out];rfl);go_wp2_with fail
         refine(X6 s1 n1 e1 s.nodes q.node wx (HN.out.kept KX.out)).mono ?_;rintro e wy ⟨v,rfl,hv,kk⟩;obtain⟨b1,k1,d1,b2,k2,d2,b3,k3,d3,rfl,hat⟩:=hv.spelt;obtain⟨fo,hfo⟩:∃fo,jj s.nodes q.node=fo:=⟨_,rfl⟩
         rw[hfo] at hat;rw[hfo];have N4:=lH hfo;obtain⟨nd,hnd⟩:∃nd,fo.getD Nod.zero=nd:=⟨_,rfl⟩
         rw[hnd] at hat;rw[hnd];have VW:=lH hnd;clear hfo hnd hv;obtain⟨wz,hwz⟩:∃W,wy.alloc (.cells #[.string nd.name,.slice b1 k1 d1,.slice b2 k2 d2,.slice b3 k3 d3,.bool nd.cordon] 99)=W:=⟨_,rfl⟩
         have kz:Kept wy wz:=by rw[←hwz];exact ja _ _
         have Vg:=lH (jd wy (.string nd.name) [.slice b1 k1 d1,.slice b2 k2 d2,.slice b3 k3 d3,.bool nd.cordon] 99 wz (by rw[hwz];exact Kept.refl _));have Vu:=lH (hat.kept kz);have TJ:=lH hwz;obtain⟨bn,hbn⟩:∃z,wy.heap.size=z:=⟨_,rfl⟩
         rw[hbn] at Vg;have TK:=lH hbn;have KX:=lH (KX.out.trans (kk.trans kz));have Uc:=lH (Uc.out.kept (kk.trans kz));clear kk kz hat hwz hbn j0 j1 j9 j10 y0 y1 y2 r0 r1 r7;go_upto_region 8 with fail
         try rw[TJ.out]
         try rw[TK.out]
         clear TJ TK;have z0:=Vg.out.at_ 0 _ rfl;have z1:=Vg.out.at_ 1 _ rfl;have z2:=Vg.out.at_ 2 _ rfl;have z3:=Vg.out.at_ 3 _ rfl;have z4:=Vg.out.at_ 4 _ rfl;have r0:=Uc.out.at_ 0 _ rfl;have r1:=Uc.out.at_ 1 _ rfl;have r7:=Uc.out.at_ 7 _ rfl;obtain⟨go,hgo⟩:∃g,jU nd.labels p.key=g:=⟨_,rfl⟩
         have Us:=lH hgo;have Vl:=lH (jia (key:=p.key) (x:=go.getD ByteArray.empty) (b:=go.isSome) Vu.out.labels (by unfold ZP;rw[hgo]) (by unfold Za;rw[hgo]));clear hgo;go_wp2_with fail
         refine Vl.out.mono ?_;rintro e wv ⟨rfl,rfl⟩;clear Vl z0 z1 z2 z3 z4 r0 r1 r7;have UX:=lH (show domV p.key q.node s.nodes=fo.bind fun n=>jU n.labels p.key from by rw[jar,N4.out])
         cases fo with
         | none =>
          have HC:=lH (show JU p q d s.nodes=false by unfold JU;rw[UX.out];simp);have HE:=lH (show inD p (s.pods.take (i+1)) d s.nodes=k by rw[Uy.out,HC.out,Te.out];rfl);go_wp2;go_roundw
          case rel=>exact⟨i+1,k,by omega,by go_num,rfl,HE.out,KX.out⟩
          case measure=>simp[intOf];omega
         | some n0 =>
          have UX:=lH (show domV p.key q.node s.nodes=go from by rw[UX.out,←Us.out,←VW.out];rfl)
          cases go with
          | none =>
           have HC:=lH (show JU p q d s.nodes=false by unfold JU;rw[UX.out];simp);have HE:=lH (show inD p (s.pods.take (i+1)) d s.nodes=k by rw[Uy.out,HC.out,Te.out];rfl);go_wp2;go_roundw
           case rel=>exact⟨i+1,k,by omega,by go_num,rfl,HE.out,KX.out⟩
           case measure=>simp[intOf];omega
          | some x =>
           obtain⟨t7,h7⟩:∃t,(x.toList==d.toList)=t:=⟨_,rfl⟩
           have T7:=lH (show eqS x d=t7 from h7)
           cases t7 with
           | false =>
            have HC:=lH (show JU p q d s.nodes=false by unfold JU;rw[UX.out];simp;intro _ e;subst e;have:=T7.out;rw[ZJ] at this;cases this);have HE:=lH (show inD p (s.pods.take (i+1)) d s.nodes=k by rw[Uy.out,HC.out,Te.out];rfl);go_wp2;go_roundw
            case rel=>exact⟨i+1,k,by omega,by go_num,rfl,HE.out,KX.out⟩
            case measure=>simp[intOf];omega
           | true =>
            have HC:=lH (show JU p q d s.nodes=true by unfold JU;rw[UX.out,VD.out,jL.1 T7.out];simp);have HE:=lH (show inD p (s.pods.take (i+1)) d s.nodes=k+1 by rw[Uy.out,HC.out,Te.out];rfl);go_wp2;go_roundw
            case rel=>exact⟨i+1,k+1,by omega,by go_num,by go_num,HE.out,KX.out⟩
            case measure=>simp[intOf];omega
  · have hge:¬(i:Int)<(n2:Int):=by omega
    have HE:=lH (show inD p s.pods d s.nodes=k by rw[←Te.out,List.take_of_length_le (by rw[UF.out];omega)]);go_wp2;go_ret;exact⟨jc (by rw[HE.out]),Ve.out.trans HK.out⟩
theorem qJ (x:ByteArray):∀(l:List Pd) (v:Vec.V),jI x l v=jI x (l.filter fun p=>eqS p.node x) v
 | [],v=>rfl
 | p::t,v=>by
  cases h:eqS p.node x with
  | false=>rw[jaN h,List.filter_cons,if_neg (by rw[h];decide)];exact qJ x t v
  | true =>
   have e:∀l,jI x (p::l) v=if (Vec.jk Vec.jK v p.need).1=0 then jI x l (Vec.jk Vec.jK v p.need).2 else ((Vec.jk Vec.jK v p.need).1,[]):=fun l=>by rw[jI,if_pos h]
   rw[List.filter_cons,if_pos h,e,e];split
   · exact qJ x t _
   · rfl
theorem jbu (f:Pd→Bool) (x:ByteArray):∀{l:List Pd},Asc l→(jY x l).filter f=jY x (l.filter f)
 | [],_=>rfl
 | q::t,h=>by
  obtain⟨h1,h2⟩:=List.pairwise_cons.1 h
  cases e:eqS q.name x with
  | true =>
   have ex:=jL.1 e;have hn:∀r ∈ t.filter f,r.name≠x:=fun r hr g=>by
    have:=h1 r (List.mem_filter.1 hr).1;rw[ex,g,Vec.YG] at this
    cases this
   rw[jY,if_pos e,List.filter_cons];split
   · rw[jY,if_pos e]
   · rw[jbB hn]
  | false =>
   rw[jY,if_neg (by rw[e];decide),List.filter_cons,List.filter_cons];split
   · rw[jY,if_neg (by rw[e];decide),jbu f x h2]
   · exact jbu f x h2
theorem jji {p:Pd}:∀{l:List Pd},(∀q ∈ l,ltS p.name q.name=true)→zY p l=p::l
 | [],_=>rfl
 | q::t,h=>by rw[zY,if_pos (h q (List.mem_cons_self ..))]
theorem jcO (f:Pd→Bool) {p:Pd} (hp:f p=true):∀{l:List Pd},Asc l→(zY p l).filter f=zY p (l.filter f)
 | [],_=>by rw[zY,List.filter_cons,if_pos hp];rfl
 | q::t,h=>by
  obtain⟨h1,h2⟩:=List.pairwise_cons.1 h
  cases e:ltS p.name q.name with
  | true =>
   rw[zY,if_pos e,List.filter_cons,if_pos hp,jji (l:=(q::t).filter f)];intro r hr;rcases List.mem_cons.1 (List.mem_filter.1 hr).1 with rfl | hr
   · exact e
   · exact Vec.zX e (h1 r hr)
  | false =>
   rw[zY,if_neg (by rw[e];decide),List.filter_cons,List.filter_cons];split
   · rw[zY,if_neg (by rw[e];decide),jcO f hp h2]
   · exact jcO f hp h2
theorem qO {s:Clu} {x:ByteArray} (h:jj s.nodes x=none):zb s x=Nod.zero:=by unfold zb;rw[h];rfl
theorem YE {s:Clu} {x:ByteArray} {n:Nod} (h:jj s.nodes x=some n):zb s x=n:=by unfold zb;rw[h];rfl
theorem jaI {s:Clu} {x:ByteArray} (h:(zb s x).cap=[]):Y2 s x=none:=by unfold Y2;rw[h];rfl
def Zk (s:Clu) (p:Pd) (x:ByteArray):Option Nat:=Y2 (JT s { p with node:=x }) x
theorem qY {s:Clu} (hA:Asc s.pods) (hn:∀n ∈ s.nodes,zZ n.name=false) (p:Pd) (x:ByteArray):JL s p x=Zk s p x:=by
 unfold JL Zk
 cases hf:jj s.nodes x with
 | none =>
  have h1:zb s x=Nod.zero:=qO hf;rw[jaI (s:=JT s { p with node:=x }) (by rw[show zb (JT s { p with node:=x }) x=zb s x from rfl,h1];rfl),jaI];have h2:zb (JT (J5 s x) { p with node:=x }) x=Nod.zero:=by
   show (jj [zb s x] x).getD Nod.zero=Nod.zero;rw[h1];unfold jj;rw[List.find?_cons];split<;>rfl
  rw[h2];rfl
 | some n =>
  obtain⟨hm,hx⟩:=jc5 hf;have e1:zb s x=n:=YE hf;have f2:jj [n] x=some n:=by unfold jj;rw[List.find?_cons,jL.2 hx]
  have f3:jj (JT (J5 s x) { p with node:=x }).nodes x=some n:=by show jj [zb s x] x=some n;rw[e1];exact f2
  have f4:jj (JT s { p with node:=x }).nodes x=some n:=hf;have hno:zZ x=false:=by rw[←hx];exact hn n hm
  have hu:zy (JT (J5 s x) { p with node:=x }) x=zy (JT s { p with node:=x }) x:=by
   unfold zy;rw[f3,f4];show jI n.name (zY { p with node:=x } (jY p.name (onP x s.pods))) []=jI n.name (zY { p with node:=x } (jY p.name s.pods)) [];rw[hx,qJ x (zY { p with node:=x } (jY p.name s.pods)),jcO (fun q=>eqS q.node x) (ZJ x) (jfz hA),jbu _ _ hA];have ho:onP x s.pods=s.pods.filter fun q=>eqS q.node x:=by unfold onP;rw[if_neg (by rw[hno];decide)]
   rw[ho,qJ x (zY { p with node:=x } (jY p.name (s.pods.filter fun q=>eqS q.node x)))]
  unfold Y2;rw[YE f3,YE f4];congr 1
  refine List.map_congr_left fun a _=>?_;unfold zu;rw[hu,YE f3,YE f4]
theorem jbV {n:Nod} (h:jZ n=0):zZ n.name=false:=by
 cases hn:zZ n.name with
 | false=>rfl
 | true =>
  have:=jc8 hn;unfold jZ at h;rw[if_pos this] at h;cases h
theorem jA.with' {w:World} {v1 v2 v3 u:Value} {s:Clu} {l:List Pd} (h:jA w (zv v1 v2 v3) s) (g:zr w u l):jA w (zv v1 u v3) { s with pods:=l }:=by
 obtain⟨_,_,_,e,g0⟩:=h
 cases e
 exact⟨_,_,_,rfl,⟨g0.nodes,g,g0.buds⟩⟩
theorem jA.podsAt {w:World} {v1 v3:Value} {b:Option Addr} {m cp:Nat} {s:Clu} (h:jA w (zv v1 (.slice b m cp) v3) s):jN w b m s.pods:=by
 obtain⟨_,_,_,e,g0⟩:=h
 cases e
 exact jkz g0.pods
theorem zr.shape {w:World} {v:Value} {l:List Pd} (h:zr w v l):∃a m c,v=.slice a m c∧m≤c∧c≤maxLen∧l.length=m:=by
 obtain⟨a,c,e,h1,h2,-⟩:=h;exact⟨a,_,c,e,h1,h2,rfl⟩
theorem Jy:Kind 48 45 11 184:=by
 obtain⟨i,hi,hz,h1,h2⟩:=info_parts jeq;exact⟨i,_,Tryz.underlying48,hi,hz,h1,h2,rfl,by decide⟩
theorem jh.low {w:World} {b:Option Addr} {m k:Nat} {lx:List PX} (h:jh jg w b m lx) (hk:k≤m):jh jg w b k (lx.take k):=by
 rcases h.form with h0 | ⟨b9,off,rfl⟩
 · obtain rfl:k=0:=by omega
   rw[List.take_zero];exact jh.nil w b
 · exact h.preP (by have:=h.1;omega)
theorem jaH {v u:Value} {s:Clu} {l:List Pd} {w:World} (h:jA w v s) (g:zr w u l):Calls Tryz.prog 94 #[v,u] w (qv { s with pods:=l } w):=by
 have h0:=h;obtain⟨v1,v2,v3,rfl,⟨a,cap,rfl,-,-,-⟩,⟨b,cp,rfl,-,-,-⟩,⟨d,cb,rfl,-,-,-⟩⟩:=h0;obtain⟨len,hl1⟩:∃q,s.nodes.length=q:=⟨_,rfl⟩
 obtain⟨m,hl2⟩:∃q,s.pods.length=q:=⟨_,rfl⟩
 obtain⟨n,hl3⟩:∃q,s.buds.length=q:=⟨_,rfl⟩
 rw[hl1,hl2,hl3] at h ⊢;clear hl1 hl2 hl3;obtain⟨b9,m9,c9,rfl,-,-,-⟩:=g.shape;obtain⟨Z,hZ⟩:∃Z,(w.alloc (.cells #[.slice a len cap,.slice b m cp,.slice d n cb] 51)).alloc (.cells #[.slice none 0 0,.slice none 0 0,.slice none 0 0] 51)=Z:=⟨_,rfl⟩
 have hkz:Kept w Z:=by rw[←hZ];exact jm _ _ _
 have HQ:=lH (show jf w.heap.size [.slice a len cap,.slice b m cp,.slice d n cb] Z from jd w (.slice a len cap) [.slice b m cp,.slice d n cb] 51 Z (by rw[←hZ];exact ja _ _));have HH:=lH (show jf (w.heap.size+1) [.slice none 0 0,.slice none 0 0,.slice none 0 0] Z by
  have dd:=jd (w.alloc (.cells #[.slice a len cap,.slice b m cp,.slice d n cb] 51)) (.slice none 0 0) [.slice none 0 0,.slice none 0 0] 51 Z (by rw[hZ];exact Kept.refl _);rw[World.size_alloc] at dd;exact dd)
 have Tl:=lH (show ∀W,Kept Z W→Yy W (w.heap.size+1) from fun W k=>by
  have hh:Z.heap[w.heap.size+1]?=some (.cells #[.slice none 0 0,.slice none 0 0,.slice none 0 0] 51):=by
   have:=(w.alloc (.cells #[.slice a len cap,.slice b m cp,.slice d n cb] 51)).alloc_heap_new (.cells #[.slice none 0 0,.slice none 0 0,.slice none 0 0] 51);rw[World.size_alloc,hZ] at this;exact this
  exact zk ((k.block _ (Array.getElem?_eq_some_iff.1 hh).1).trans hh))
 have HV:=lH (h.kept hkz);have Ve:=lH hkz;have HG:=lH (g.kept hkz);clear h g hkz;have cq0:=(HQ.out.kept (Kept.refl _)).at_ 0 _ rfl;have cq1:=(HQ.out.kept (Kept.refl _)).at_ 1 _ rfl;have cq2:=(HQ.out.kept (Kept.refl _)).at_ 2 _ rfl;go_enter Tryz.func94,Tryz.ntmps94;go_upto_region 1 with fail
 try rw[hZ]
 clear hZ;have H9:=lH (HH.out.kept (Kept.refl _));have z0:=H9.out.at_ 0 _ rfl;have z1:=H9.out.at_ 1 _ rfl;have z2:=H9.out.at_ 2 _ rfl;have f0:=H9.out.free 0;have f1:=H9.out.free 1;have f2:=H9.out.free 2;have PP:=lH (jW (vs:=[.slice a len cap,.slice b9 m9 c9,.slice d n cb]) H9.out rfl);go_wp2;obtain⟨WE,hWE⟩:∃V,Z.setCells (w.heap.size+1) 0 [.slice a len cap,.slice b9 m9 c9,.slice d n cb]=V:=⟨_,rfl⟩
 have hWE2:(((Z.setCell ⟨(w.heap.size+1),0,none⟩ (.slice a len cap)).setCell ⟨(w.heap.size+1),1,none⟩ (.slice b9 m9 c9)).setCell ⟨(w.heap.size+1),2,none⟩ (.slice d n cb))=WE:=hWE;rw[hWE] at PP;try rw[hWE2]
 clear hWE hWE2;obtain⟨PC,hsz,hbl,hkp⟩:=PP.out;refine bodyPost_ret (by simp[results,Tryz.results94,go_sem,PC.at_ 0 _ rfl,PC.at_ 1 _ rfl,PC.at_ 2 _ rfl];try rfl) rfl ?_;exact⟨_,rfl,zj hsz hbl (Tl.out _ (Kept.refl _)) (HV.out.with' HG.out),hkp _ _ (Nat.le_succ _) (Ve.out.trans (Kept.refl _))⟩
end Go.Proofs.YtmlgobiifebjkabGreat
