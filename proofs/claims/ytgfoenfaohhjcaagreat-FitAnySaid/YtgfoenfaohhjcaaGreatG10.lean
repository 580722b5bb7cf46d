/- What serves all packages,and package by package the contracts of the functions that the law calls. -/
import Derived.Test.YtgfoenfaohhjcaaGreatG1
import Derived.Test.YtgfoenfaohhjcaaGreatG2
import Derived.Test.YtgfoenfaohhjcaaGreatG3
import Derived.Test.YtgfoenfaohhjcaaGreatG4
import Derived.Test.YtgfoenfaohhjcaaGreatG5
import Derived.Test.YtgfoenfaohhjcaaGreatG8
import Derived.Test.YtgfoenfaohhjcaaGreatG9
set_option linter.unusedVariables false
set_option maxRecDepth 100000
set_option maxHeartbeats 25600000
namespace Go.Proofs.YtgfoenfaohhjcaaGreat
open Go.RowKit
theorem jgv {w:World} {v:Value} {l:Vec.V} (h:Vec.Reads w v l):Vec.zT l:=by
 obtain⟨a9,c9,-,-,-,g⟩:=h;exact g.2.2.1
theorem jgu {w:World} {v1 v2 v3 v4:Value} {p:Pd} (h:jz w v1 v2 v3 v4 p) (hc:Jc p=0):XP p.need:=by
 refine jaw (Xi (l:=Yj p) hc _ ?_) (jgv h.need);unfold Yj;simp
abbrev PZ:List Value:=[.string ⟨#[]⟩,.string ⟨#[]⟩,.int .i64 0,.slice none 0 0,.slice none 0 0,.slice none 0 0,.slice none 0 0,.string ⟨#[]⟩,.int .i64 0,.string ⟨#[]⟩,.bool false]
def jbE (q:Nat) (W:World):Prop:=∀i,W.cell? ⟨q,i,none⟩=PZ[i]?
theorem zh {q:Nat} {W:World} {T:TypeId} {fr:Nat×Nat} (h:W.heap[q]?=some (.cells PZ.toArray T fr)):jbE q W:=fun i=>by
 rw[Lib.cell_of_heap h];simp
theorem XR:∀{o:Nat} {y:ByteArray},PZ[o]?=some (.string y)→y=⟨#[]⟩
 | 0,y,h=>by cases h;rfl
 | 1,y,h=>by cases h;rfl
 | 2,y,h=>by cases h
 | 3,y,h=>by cases h
 | 4,y,h=>by cases h
 | 5,y,h=>by cases h
 | 6,y,h=>by cases h
 | 7,y,h=>by cases h;rfl
 | 8,y,h=>by cases h
 | 9,y,h=>by cases h;rfl
 | 10,y,h=>by cases h
 | o+11,y,h=>by simp at h
theorem jbA:∀{o:Nat} {y:ByteArray} {a:Option Addr} {n c:Nat},PZ[o]?=some (.string y)→PZ[o+1]?=some (.slice a n c)→False
 | 0,_,_,_,_,_,h=>by cases h
 | 1,_,_,_,_,_,h=>by cases h
 | 2,_,_,_,_,h,_=>by cases h
 | 3,_,_,_,_,h,_=>by cases h
 | 4,_,_,_,_,h,_=>by cases h
 | 5,_,_,_,_,h,_=>by cases h
 | 6,_,_,_,_,h,_=>by cases h
 | 7,_,_,_,_,_,h=>by cases h
 | 8,_,_,_,_,h,_=>by cases h
 | 9,_,_,_,_,_,h=>by cases h
 | 10,_,_,_,_,h,_=>by cases h
 | o+11,_,_,_,_,h,_=>by simp at h
theorem jhW:∀{o:Nat} {x y:ByteArray} {b:Bool},PZ[o]?=some (.string x)→PZ[o+1]?=some (.string y)→PZ[o+2]?=some (.bool b)→False
 | 0,_,_,_,_,_,h=>by cases h
 | 1,_,_,_,_,h,_=>by cases h
 | 2,_,_,_,h,_,_=>by cases h
 | 3,_,_,_,h,_,_=>by cases h
 | 4,_,_,_,h,_,_=>by cases h
 | 5,_,_,_,h,_,_=>by cases h
 | 6,_,_,_,h,_,_=>by cases h
 | 7,_,_,_,_,h,_=>by cases h
 | 8,_,_,_,h,_,_=>by cases h
 | 9,_,_,_,_,h,_=>by cases h
 | 10,_,_,_,h,_,_=>by cases h
 | o+11,_,_,_,h,_,_=>by simp at h
theorem jhn:∀{o:Nat} {z:Int} {x y:ByteArray},PZ[o]?=some (.int .i64 z)→PZ[o+1]?=some (.string x)→PZ[o+2]?=some (.string y)→False
 | 0,_,_,_,h,_,_=>by cases h
 | 1,_,_,_,h,_,_=>by cases h
 | 2,_,_,_,_,h,_=>by cases h
 | 3,_,_,_,h,_,_=>by cases h
 | 4,_,_,_,h,_,_=>by cases h
 | 5,_,_,_,h,_,_=>by cases h
 | 6,_,_,_,h,_,_=>by cases h
 | 7,_,_,_,h,_,_=>by cases h
 | 8,_,_,_,_,_,h=>by cases h
 | 9,_,_,_,h,_,_=>by cases h
 | 10,_,_,_,h,_,_=>by cases h
 | o+11,_,_,_,h,_,_=>by simp at h
def NoZ {α:Type} (L:Lay α) (l:List α):Prop:=∀x ∈ l,∀o,(∀(j:Nat) u,(L.cs x)[j]?=some u→PZ[o+j]?=some u)→False
theorem jah {α:Type} {L:Lay α} {w w':World} {a:Option Addr} {len:Nat} {l:List α} {N:Nat} (hL:NoZ L l) (h:jh L w a len l) (hs:w'.heap.size=w.heap.size) (hb:∀b,b≠N→w'.heap[b]?=w.heap[b]?) (hn:jbE N w):jh L w' a len l:=by
 obtain⟨h3,h4,h5,h6⟩:=h;refine⟨h3,h4,h5,?_⟩;rcases h6 with h6 | ⟨b,off,rfl,hlt,hc⟩
 · exact .inl h6
 · cases l with
   | nil=>exact .inl h3.symm
   | cons x t =>
    have hne:b≠N:=by
     rintro rfl;refine hL x (by simp) off fun j u hu=>?_;have:=hc 0 x j u rfl hu;rw[Nat.zero_mul,Nat.add_zero,hn] at this;exact this
    exact .inr ⟨b,off,rfl,by rw[hs];exact hlt,fun i x j u hi hj=>(World.cell?_of_block (a:=⟨b,off+i*L.m+j,none⟩) (hb b hne)).trans (hc i x j u hi hj)⟩
theorem ZW {α:Type} {L:Lay α} {w w':World} {v:Value} {l:List α} {N:Nat} (hL:NoZ L l) (h:Reads L w v l) (hs:w'.heap.size=w.heap.size) (hb:∀b,b≠N→w'.heap[b]?=w.heap[b]?) (hn:jbE N w):Reads L w' v l:=by
 obtain⟨a,cap,rfl,h1,h2,h3⟩:=h;exact⟨a,cap,rfl,h1,h2,jah hL h3 hs hb hn⟩
theorem jcl {l:PL} (h:∀x ∈ l,x.1≠⟨#[]⟩):NoZ jw l:=fun x hx o hc=>h x hx (XR (hc 0 _ rfl))
theorem jfu (l:NL):NoZ jr l:=fun x hx o hc=>jhW (hc 0 _ rfl) (hc 1 _ rfl) (hc 2 _ rfl)
theorem jb7 (l:TL):NoZ jI l:=fun x hx o hc=>jhn (hc 0 _ rfl) (hc 1 _ rfl) (hc 2 _ rfl)
theorem jg4 (l:List NX):NoZ zp l:=fun x hx o hc=>jbA (hc 0 _ rfl) (hc 1 _ rfl)
theorem jgY (l:List BX):NoZ zi l:=fun x hx o hc=>jbA (hc 0 _ rfl) (hc 1 _ rfl)
theorem jgQ {l:List PX} (h:∀x ∈ l,x.1.name≠⟨#[]⟩):NoZ jE l:=fun x hx o hc=>h x hx (XR (hc 0 _ rfl))
theorem jeM {w w':World} {v:Value} {l:Vec.V} {N:Nat} (hL:∀x ∈ l,x.1≠⟨#[]⟩) (h:Vec.Reads w v l) (hs:w'.heap.size=w.heap.size) (hb:∀b,b≠N→w'.heap[b]?=w.heap[b]?) (hn:jbE N w):Vec.Reads w' v l:=by
 obtain⟨a,cap,rfl,h1,h2,h3⟩:=h;refine⟨a,cap,rfl,h1,h2,?_⟩;obtain⟨g0,g1,g2,g3⟩:=h3;refine⟨g0,g1,g2,?_⟩;rcases g3 with g3 | ⟨b,off,rfl,hlt,hc⟩
 · exact .inl g3
 · cases l with
   | nil=>exact .inl rfl
   | cons x t =>
    have hne:b≠N:=by
     rintro rfl;have h0:=(hc 0 (by simp)).1;rw[hn] at h0;exact hL x (by simp) (XR h0)
    refine .inr ⟨b,off,rfl,by rw[hs];exact hlt,fun i hi=>?_⟩;have e:∀j,w'.cell? ⟨b,j,none⟩=w.cell? ⟨b,j,none⟩:=fun j=>World.cell?_of_block (a:=⟨b,j,none⟩) (hb b hne);rw[e,e];exact hc i hi
theorem Xx {x:ByteArray} (h:isName x=true):x≠⟨#[]⟩:=fun e=>by
 rw[e,show isName ⟨#[]⟩=false by kernel_rfl] at h;cases h
theorem jcb:∀{prev:Option ByteArray} {l:PL},zO prev l=0→∀x ∈ l,isName x.1=true
 | _,[],_,x,hx=>by cases hx
 | prev,y::t,h,x,hx=>by
  rw[zO] at h;split at h
  · cases h
  · rename_i h1;split at h
    · cases h
    · rcases List.mem_cons.1 hx with rfl | hx
      · have h1:(isName x.1&&isName x.2)=true:=by simpa using h1
        exact(Bool.and_eq_true_iff.1 h1).1
      · exact jcb h x hx
theorem jaM {l:PL} (h:ZC l=0):∀x ∈ l,x.1≠⟨#[]⟩:=by
 unfold ZC at h;split at h
 · cases h
 · exact fun x hx=>Xx (jcb h x hx)
structure qO (n:Nod):Prop where
 cap:∀x ∈ n.cap,x.1≠⟨#[]⟩
 labels:∀x ∈ n.labels,x.1≠⟨#[]⟩
structure XY (p:Pd):Prop where
 name:p.name≠⟨#[]⟩
 need:∀x ∈ p.need,x.1≠⟨#[]⟩
 labels:∀x ∈ p.labels,x.1≠⟨#[]⟩
theorem jgo {n:Nod} (h:jY n=0) (hc:XP n.cap):qO n:=by
 refine⟨fun x hx=>Xx (hc.1.1 x hx).1,?_⟩;unfold jY at h;split at h
 · cases h
 · split at h
   · rename_i h1;exact absurd h h1
   · split at h
     · rename_i h1;exact absurd h h1
     · rename_i h1;exact jaM (Decidable.of_not_not h1)
theorem jb5 {p:Pd} (h:Jc p=0) (hc:XP p.need):XY p:=by
 have hz:=Xi (l:=Yj p) h;unfold Yj at hz;simp only[List.mem_cons,List.not_mem_nil,or_false] at hz;refine⟨?_,fun x hx=>Xx (hc.1.1 x hx).1,jaM (hz _ (.inr (.inr (.inr (.inl rfl)))))⟩;have h0:=hz _ (.inl rfl);unfold Yv at h0;split at h0
 · rename_i h1;exact Xx h1.1
 · cases h0
section
variable {w w':World} {N:Nat} (hs:w'.heap.size=w.heap.size) (hb:∀b,b≠N→w'.heap[b]?=w.heap[b]?) (hn:jbE N w)
include hs hb hn
theorem jgF {v1 v2 v3:Value} {n:Nod} (hf:qO n) (h:zl w v1 v2 v3 n):zl w' v1 v2 v3 n:=⟨h.size,jeM hf.cap h.cap hs hb hn,ZW (jcl hf.labels) h.labels hs hb hn,ZW (jfu _) h.taints hs hb hn⟩
theorem zX {v1 v2 v3 v4:Value} {n:Pd} (hf:XY n) (h:jz w v1 v2 v3 v4 n):jz w' v1 v2 v3 v4 n:=⟨h.name,h.owner,h.key,h.node,h.prio,h.most,jeM hf.need h.need hs hb hn,ZW (jcl hf.labels) h.labels hs hb hn,ZW (jb7 _) h.sel hs hb hn,ZW (jfu _) h.tols hs hb hn⟩
theorem jgb {v:Value} {l:List Nod} (hf:∀n ∈ l,qO n) (h:zI w v l):zI w' v l:=by
 obtain⟨a,cap,rfl,h1,h2,h3⟩:=h;obtain⟨lx,hm,hr,hat⟩:=jau h3;exact⟨a,cap,rfl,h1,h2,by
  rw[←hm];exact zZ (by rw[hm];exact jah (jg4 lx) hr hs hb hn) fun z hz=>jgF hs hb hn (hf _ (by rw[←hm];exact List.mem_map_of_mem hz)) (hat z hz)⟩
theorem jgX {v:Value} {l:List Pd} (hf:∀n ∈ l,XY n) (h:zU w v l):zU w' v l:=by
 obtain⟨a,cap,rfl,h1,h2,h3⟩:=h;obtain⟨lx,hm,hr,hat⟩:=jay h3;have hfx:∀z ∈ lx,XY z.1:=fun z hz=>hf _ (by rw[←hm];exact List.mem_map_of_mem hz);exact⟨a,cap,rfl,h1,h2,by
  rw[←hm];exact zW (by rw[hm];exact jah (jgQ fun z hz=>(hfx z hz).name) hr hs hb hn) fun z hz=>zX hs hb hn (hfx z hz) (hat z hz)⟩
theorem jg5 {v:Value} {l:List Bd} (h:Jg w v l):Jg w' v l:=by
 obtain⟨a,cap,rfl,h1,h2,h3⟩:=h;obtain⟨lx,hm,hr,hat⟩:=jaA h3;exact⟨a,cap,rfl,h1,h2,by
  rw[←hm];exact jcq (by rw[hm];exact jah (jgY lx) hr hs hb hn) fun z hz=>by
   have g:=hat z hz;exact⟨g.name,g.floor,ZW (jb7 _) g.sel hs hb hn⟩⟩
theorem JR {v:Value} {s:Clu} (hf:∀n ∈ s.nodes,qO n) (hg:∀n ∈ s.pods,XY n) (h:jx w v s):jx w' v s:=by
 obtain⟨v1,v2,v3,e,g⟩:=h;exact⟨v1,v2,v3,e,jgb hs hb hn hf g.nodes,jgX hs hb hn hg g.pods,jg5 hs hb hn g.buds⟩
end
theorem zn {v1 v2 v3 v4:Value} {n:Pd} {w w':World} {M:Nat} (hs:w'.heap.size=w.heap.size) (hbM:∀b,b≠M→w'.heap[b]?=w.heap[b]?) (hm:ZX w M) (h:jz w v1 v2 v3 v4 n):jz w' v1 v2 v3 v4 n:=⟨h.name,h.owner,h.key,h.node,h.prio,h.most,qq h.need hs hbM hm.noRow,JD jgL h.labels hs hbM hm,JD jej h.sel hs hbM hm,JD jgJ h.tols hs hbM hm⟩
theorem jet {s:Clu} (h:Sound s):∀n ∈ s.nodes,qO n:=fun n hn=>by
 have hN:=h.parts.nodes;unfold jN at hN;split at hN
 · cases hN
 · exact jgo ((Z6 hN).2.2 n hn) (h.cap n hn)
theorem jeZ {s:Clu} (h:Sound s):∀p ∈ s.pods,XY p:=fun p hp=>by
 have hP:=h.parts.pods;unfold jW at hP;split at hP
 · cases hP
 · exact jb5 (jat hP p hp) (h.need p hp)
end Go.Proofs.YtgfoenfaohhjcaaGreat
namespace Go.Proofs.YtgfoenfaohhjcaaGreat
open Go.RowKit
def ZG (key:ByteArray) (nodes:List Nod):List ByteArray:=nodes.filterMap fun n=>jO n.labels key
def Z8 (key:ByteArray) (nodes:List Nod):List (List UInt8):=(ZG key nodes).map fun x=>x.data.toList
def Xn (l:List (List UInt8)):List (List UInt8):=l.mergeSort fun x y=>decide (x≤y)
def jea (key:ByteArray) (nodes:List Nod):List (List UInt8):=Lib.compact (Xn (Z8 key nodes))
def ZU (key:ByteArray) (nodes:List Nod):List ByteArray:=(jea key nodes).map bytes
theorem Y7 (d:Array (List UInt8)) (hs:∀i j,i<j→j<d.size→d[i]!≤d[j]!):∀m,m≤d.size→(Lib.compactUpTo d m).Pairwise (·<·)∧(∀x,x ∈ Lib.compactUpTo d m↔∃j,j<m∧d[j]! = x)∧(0<m→∀x ∈ Lib.compactUpTo d m,x≤d[m-1]!)
 | 0,_=>⟨List.Pairwise.nil,fun x=>⟨(fun h=>by cases h),(fun ⟨j,hj,_⟩=>absurd hj (Nat.not_lt_zero _))⟩,(fun h=>absurd h (by decide))⟩
 | m+1,hm=>by
  obtain⟨h1,h2,h3⟩:=Y7 d hs m (by omega);rw[Lib.compactUpTo_succ];by_cases hk:Lib.keeps d m=true
  · rw[if_pos hk];have hlt:∀x ∈ Lib.compactUpTo d m,x<d[m]!:=fun x hx=>by
     obtain⟨j,hj,e⟩:=(h2 x).1 hx;have h5:=h3 (by omega) x hx;have h6:=hs (m-1) m (by omega) (by omega);unfold Lib.keeps at hk;have h7:d[m]!≠d[m-1]!:=by
      rcases of_decide_eq_true hk with h | h
      · omega
      · exact h
     rcases Decidable.em (x<d[m]!) with h | h
     · exact h
     · exact absurd (List.le_antisymm (List.le_trans (show d[m]!≤x from h) h5) h6) h7
    refine⟨List.pairwise_append.2 ⟨h1,List.pairwise_singleton ..,fun x hx y hy=>by rw[List.mem_singleton.1 hy];exact hlt x hx⟩,fun x=>?_,fun _ x hx=>?_⟩
    · rw[List.mem_append,List.mem_singleton];constructor
      · rintro (h | rfl)
        · obtain⟨j,hj,e⟩:=(h2 x).1 h;exact⟨j,by omega,e⟩
        · exact⟨m,by omega,rfl⟩
      · rintro ⟨j,hj,e⟩;by_cases hjm:j=m
        · exact .inr (by rw[←e,hjm])
        · exact .inl ((h2 x).2 ⟨j,by omega,e⟩)
    · rcases List.mem_append.1 hx with h | h
      · exact List.le_of_lt (hlt x h)
      · rw[List.mem_singleton.1 h];exact List.le_refl _
  · rw[if_neg hk,List.append_nil];have hk:Lib.keeps d m=false:=by simpa using hk
    unfold Lib.keeps at hk;have hk:=of_decide_eq_false hk;have hm0:0<m:=Nat.pos_of_ne_zero fun e=>hk (.inl e);have he:d[m]! = d[m-1]!:=Decidable.byContradiction fun g=>hk (.inr g);refine⟨h1,fun x=>⟨fun h=>?_,?_⟩,fun _ x hx=>?_⟩
    · obtain⟨j,hj,e⟩:=(h2 x).1 h;exact⟨j,by omega,e⟩
    · rintro ⟨j,hj,e⟩;by_cases hjm:j=m
      · exact(h2 x).2 ⟨m-1,by omega,by rw[←e,hjm,he]⟩
      · exact(h2 x).2 ⟨j,by omega,e⟩
    · show x≤d[m]!;rw[he];exact h3 hm0 x hx
theorem jfg (l:List (List UInt8)):(Xn l).Pairwise (·≤·):=by
 have tr:∀a b c:List UInt8,decide (a≤b)=true→decide (b≤c)=true→decide (a≤c)=true:=fun a b c h1 h2=>by simp only[decide_eq_true_eq] at *;exact List.le_trans h1 h2
 have tot:∀a b:List UInt8,(decide (a≤b)||decide (b≤a))=true:=fun a b=>by simp only[Bool.or_eq_true,decide_eq_true_eq];exact List.le_total a b
 exact(List.pairwise_mergeSort tr tot l).imp fun h=>of_decide_eq_true h
theorem YZ (key:ByteArray) (nodes:List Nod):(jea key nodes).Pairwise (·<·)∧∀x,x ∈ jea key nodes↔x ∈ Z8 key nodes:=by
 have hp:=jfg (Z8 key nodes);obtain⟨h1,h2,-⟩:=Y7 (Xn (Z8 key nodes)).toArray (fun i j hij hj=>by
  have hj':j<(Xn (Z8 key nodes)).length:=by simpa using hj
  have:=List.pairwise_iff_getElem.1 hp i j (by omega) hj' hij;simpa [getElem!_pos,hj',show i<(Xn (Z8 key nodes)).length by omega] using this) (Xn (Z8 key nodes)).length (by simp)
 refine⟨h1,fun x=>(h2 x).trans ?_⟩;rw[←(List.mergeSort_perm (Z8 key nodes) fun x y=>decide (x≤y)).mem_iff];show _↔x ∈ Xn (Z8 key nodes);constructor
 · rintro ⟨j,hj,e⟩;rw[←e];simp[getElem!_pos,hj]
 · intro h;obtain⟨j,hj,e⟩:=List.getElem_of_mem h;exact⟨j,hj,by simpa [getElem!_pos,hj] using e⟩
theorem jbi:∀{l l':List (List UInt8)},l.Pairwise (·<·)→l'.Pairwise (·<·)→(∀x,x ∈ l↔x ∈ l')→l=l'
 | [],[],_,_,_=>rfl
 | [],y::u,_,_,h=>absurd ((h y).2 (by simp)) (by simp)
 | x::t,[],_,_,h=>absurd ((h x).1 (by simp)) (by simp)
 | x::t,y::u,h1,h2,h=>by
  obtain⟨a1,a2⟩:=List.pairwise_cons.1 h1;obtain⟨b1,b2⟩:=List.pairwise_cons.1 h2;have hxy:x=y:=by
   rcases List.mem_cons.1 ((h x).1 (by simp)) with e | e
   · exact e
   · rcases List.mem_cons.1 ((h y).2 (by simp)) with f | f
     · exact f.symm
     · exact absurd (List.lt_trans (b1 x e) (a1 y f)) (List.lt_irrefl _)
  subst hxy;rw[jbi a2 b2 fun z=>⟨fun hz=>?_,fun hz=>?_⟩]
  · rcases List.mem_cons.1 ((h z).1 (by simp[hz])) with e | e
    · subst e;exact absurd (a1 _ hz) (List.lt_irrefl _)
    · exact e
  · rcases List.mem_cons.1 ((h z).2 (by simp[hz])) with e | e
    · subst e;exact absurd (b1 _ hz) (List.lt_irrefl _)
    · exact e
theorem jaW {key:ByteArray} {l:List Nod} {k:Nat} {n:Nod} (h:l[k]?=some n):ZG key (l.take (k+1))=ZG key (l.take k)++(match jO n.labels key with | none=>[] | some d=>[d]):=by
 unfold ZG;rw[List.take_add_one,h,List.filterMap_append]
 cases hg:jO n.labels key<;>simp[hg]
theorem jfN (p q:Pd) (d:ByteArray):∀{l:List Nod},Z7 l→Ys p q d l=if domV p.key q.node l=some d then 1 else 0
 | [],_=>by simp[Ys,domV]
 | n::t,h=>by
  obtain⟨h1,h2⟩:=List.pairwise_cons.1 h;rw[Ys,domV];by_cases e:q.node=n.name
  · rw[qs p q d fun x hx=>fun e2=>jaR (h1 x hx) (e.symm.trans e2),if_pos (show eqS n.name q.node=true from za.2 e.symm),Nat.add_zero];by_cases g:jO n.labels p.key=some d
    · rw[if_pos ⟨g,e⟩,if_pos g]
    · rw[if_neg fun x=>g x.1,if_neg g]
  · rw[if_neg fun x=>e x.2,if_neg (show ¬eqS n.name q.node=true from fun g=>e (za.1 g).symm),jfN p q d h2,Nat.zero_add]
theorem jgw {key d:ByteArray} {nodes:List Nod}:d ∈ ZU key nodes↔∃n ∈ nodes,jO n.labels key=some d:=by
 unfold ZU;rw[List.mem_map];constructor
 · rintro ⟨x,hx,rfl⟩;have:=((YZ key nodes).2 x).1 hx;unfold Z8 ZG at this;obtain⟨y,hy,rfl⟩:=List.mem_map.1 this;obtain⟨n,hn,e⟩:=List.mem_filterMap.1 hy;exact⟨n,hn,by rw[Xh];exact e⟩
 · rintro ⟨n,hn,e⟩;refine⟨d.data.toList,((YZ key nodes).2 _).2 ?_,Xh d⟩;unfold Z8 ZG;exact List.mem_map.2 ⟨d,List.mem_filterMap.2 ⟨n,hn,e⟩,rfl⟩
theorem jcA {k d:ByteArray}:∀{l:PL},jO l k=some d→∃x ∈ l,x.2=d
 | y::t,h=>by
  rw[jO] at h;split at h
  · exact⟨y,by simp,Option.some.inj h⟩
  · obtain⟨x,hx,e⟩:=jcA h;exact⟨x,by simp[hx],e⟩
theorem XO:∀{prev:Option ByteArray} {l:List Nod},zr prev l=0→∀n ∈ l,jY n=0
 | _,[],_,x,hx=>by cases hx
 | prev,y::t,h,x,hx=>by
  by_cases z:jY y=0
  · by_cases b:Vec.jH prev y.name=true
    · rw[Xf z b] at h;cases h
    · rw[YT z (by simpa using b)] at h;rcases List.mem_cons.1 hx with rfl | hx
      · exact z
      · exact XO h x hx
  · rw[qz z] at h;exact absurd h z
theorem jdY {s:Clu} (h:JQ s=true):∀n ∈ s.nodes,jY n=0:=by
 have hc:=Xy h;have h0:or3 (jN s.nodes) (jW s.pods) (jZ s.buds)=0:=Decidable.byContradiction fun g=>g ((Xo (nl:=s.nodes) (pl:=s.pods) (bl:=s.buds) rfl g).symm.trans hc);have ho:jN s.nodes=0:=by
  unfold or3 at h0;split at h0
  · rename_i h1;exact absurd h0 h1
  · rename_i h1;exact Decidable.of_not_not h1
 unfold jN at ho;split at ho
 · cases ho
 · exact XO ho
theorem jgt {n:Nod} (h:jY n=0):isName n.name=true:=by
 unfold jY at h;split at h
 · cases h
 · rename_i h1;simpa using h1
theorem qi {key x:ByteArray} (hx:isName x=false):∀{l:List Nod},(∀n ∈ l,jY n=0)→domV key x l=none
 | [],_=>rfl
 | n::t,h=>by
  rw[domV,if_neg fun e=>by
   have:=jgt (h n (by simp));rw[za.1 e,hx] at this
   cases this]
  exact qi hx fun m hm=>h m (by simp[hm])
theorem jh.preP {α:Type} {L:Lay α} {w:World} {b off len:Nat} {l:List α} {k:Nat} (h:jh L w (some ⟨b,off,none⟩) len l) (hk:k≤l.length):jh L w (some ⟨b,off,none⟩) k (l.take k):=by
 have:=h.part 0 k (by have:=h.1;omega);simpa using this
theorem jh.postP {α:Type} {L:Lay α} {w:World} {b off len:Nat} {l:List α} {k:Nat} (h:jh L w (some ⟨b,off,none⟩) len l) (hk:k≤l.length):jh L w (some ⟨b,off+k*L.m,none⟩) (l.length-k) (l.drop k):=by
 have:=h.part k (l.length-k) (by have:=h.1;omega);rw[List.take_of_length_le (by rw[List.length_drop];omega)] at this;exact this
theorem jhb {w:World} {a:Option Addr} {len:Nat} {l:List Pd} (h:jC w a len l):∃lx:List PX,(lx.map fun z=>z.1)=l∧jh jE w a len lx∧∀z ∈ lx,At4 w z:=by
 obtain⟨h0,h1,h2⟩:=h;rcases h2 with h2 | ⟨b,off,rfl,hb,hc⟩
 · have:l=[]:=List.eq_nil_of_length_eq_zero (by omega);subst this;subst h2;exact⟨[],rfl,jh.nil w a,fun z hz=>absurd hz (by simp)⟩
 · have step:∀m,m≤l.length→∃lx:List PX,(lx.map fun z=>z.1)=l.take m∧(∀i x j u,lx[i]?=some x→(jE.cs x)[j]?=some u→w.cell? ⟨b,off+i*11+j,none⟩=some u)∧∀z ∈ lx,At4 w z:=by
    intro m
    induction m with
    | zero=>exact fun _=>⟨[],rfl,fun i x j u hi=>by simp at hi,fun z hz=>absurd hz (by simp)⟩
    | succ m ih =>
     intro hm;obtain⟨lx,e,hcell,hat⟩:=ih (by omega);obtain⟨n,hn⟩:∃n,l[m]?=some n:=⟨_,List.getElem?_eq_getElem (by omega)⟩
     obtain⟨v1,v2,v3,v4,p0,p1,p2,p3,p4,p5,p6,p7,p8,p9,p10,hp⟩:=hc m n hn;obtain⟨b1,n1,d1,b2,n2,d2,b3,n3,d3,b4,n4,d4,rfl,rfl,rfl,rfl⟩:=hp.spelt;have hlen:lx.length=m:=by
      have:=congrArg List.length e;rw[List.length_map,List.length_take] at this;omega
     refine⟨lx++[(n,(b1,n1,d1),(b2,n2,d2),(b3,n3,d3),(b4,n4,d4))],?_,?_,?_⟩
     · rw[List.map_append,e,zx hn];rfl
     · intro i x j u hi hj;by_cases him:i<m
       · rw[List.getElem?_append_left (by omega)] at hi;exact hcell i x j u hi hj
       · have hi2:=(List.getElem?_eq_some_iff.1 hi).1;rw[List.length_append,List.length_singleton] at hi2;obtain rfl:i=m:=by omega
         rw[List.getElem?_append_right (by omega),hlen,Nat.sub_self] at hi;obtain rfl:=Option.some.inj hi
         match j,hj with
         | 0,hj=>obtain rfl:=Option.some.inj hj;exact p0
         | 1,hj=>obtain rfl:=Option.some.inj hj;exact p1
         | 2,hj=>obtain rfl:=Option.some.inj hj;exact p2
         | 3,hj=>obtain rfl:=Option.some.inj hj;exact p3
         | 4,hj=>obtain rfl:=Option.some.inj hj;exact p4
         | 5,hj=>obtain rfl:=Option.some.inj hj;exact p5
         | 6,hj=>obtain rfl:=Option.some.inj hj;exact p6
         | 7,hj=>obtain rfl:=Option.some.inj hj;exact p7
         | 8,hj=>obtain rfl:=Option.some.inj hj;exact p8
         | 9,hj=>obtain rfl:=Option.some.inj hj;exact p9
         | 10,hj=>obtain rfl:=Option.some.inj hj;exact p10
         | j+11,hj=>simp[jE] at hj
     · intro z hz;rcases List.mem_append.1 hz with hz | hz
       · exact hat z hz
       · obtain rfl:z=_:=List.mem_singleton.1 hz;exact jz.at4 hp
   obtain⟨lx,e,hcell,hat⟩:=step l.length (Nat.le_refl _);rw[List.take_of_length_le (Nat.le_refl _)] at e;have hl:lx.length=len:=by rw[←h0,←e,List.length_map]
   exact⟨lx,e,⟨hl,h1,fun _ _=>trivial,.inr ⟨b,off,rfl,hb,hcell⟩⟩,hat⟩
def jaz (l:List ByteArray):Prop:=l.Pairwise fun x y=>ltS x y=true
theorem jgP {key:ByteArray} {nodes:List Nod} {la:List ByteArray} (h:jaz la) (hm:∀x,x ∈ la↔x ∈ ZG key nodes):la=ZU key nodes:=by
 have h1:la.map (fun x=>x.data.toList)=jea key nodes:=jbi (List.pairwise_map.2 (h.imp fun {a b} h=>by
  rw[Vec.jbz,bytesLess_eq] at h;exact of_decide_eq_true h)) (YZ key nodes).1 fun x=>by
  rw[(YZ key nodes).2];unfold Z8;constructor
  · intro hx;obtain⟨y,hy,rfl⟩:=List.mem_map.1 hx;exact List.mem_map.2 ⟨y,(hm y).1 hy,rfl⟩
  · intro hx;obtain⟨y,hy,rfl⟩:=List.mem_map.1 hx;exact List.mem_map.2 ⟨y,(hm y).2 hy,rfl⟩
 unfold ZU;rw[←h1,List.map_map];refine(List.map_id la).symm.trans (List.map_congr_left fun x _=>?_);exact(Xh x).symm
theorem jhg {la:List ByteArray} {q:Nat} {d:ByteArray} (h:jaz la) (h1:∀x ∈ la.take q,ltS x d=true) (h2:∀x ∈ la.drop q,ltS d x=true):jaz (la.take q++d::la.drop q):=by
 refine List.pairwise_append.2 ⟨h.sublist (List.take_sublist _ _),List.pairwise_cons.2 ⟨h2,h.sublist (List.drop_sublist _ _)⟩,fun x hx y hy=>?_⟩;rcases List.mem_cons.1 hy with rfl | hy
 · exact h1 x hx
 · exact Vec.Ji (h1 x hx) (h2 y hy)
theorem ins_mem' {la:List ByteArray} {q:Nat} {d x:ByteArray}:x ∈ la.take q++d::la.drop q↔x ∈ la∨x=d:=by
 rw[List.mem_append,List.mem_cons];have:x ∈ la↔x ∈ la.take q∨x ∈ la.drop q:=by
  conv=>lhs;rw[←List.take_append_drop q la]
  exact List.mem_append
 rw[this];constructor
 · rintro (h | h | h)
   · exact .inl (.inl h)
   · exact .inr h
   · exact .inl (.inr h)
 · rintro ((h | h) | h)
   · exact .inl h
   · exact .inr (.inr h)
   · exact .inr (.inl h)
theorem jgq {la:List ByteArray} {q:Nat} {d y:ByteArray} (h:jaz la) (hy:la[q]?=some y) (h1:ltS y d=false) (h2:eqS y d=false):∀x ∈ la.drop q,ltS d x=true:=by
 have hdy:ltS d y=true:=by
  cases hc:ltS d y with
  | true=>rfl
  | false =>
   have:=Vec.X4 h1 hc;subst this;rw[Zu] at h2;cases h2
 obtain⟨hq,rfl⟩:=List.getElem?_eq_some_iff.1 hy;intro x hx;rw[List.drop_eq_getElem_cons hq] at hx;rcases List.mem_cons.1 hx with rfl | hx
 · exact hdy
 · obtain⟨j,hj,rfl⟩:=List.mem_iff_getElem.1 hx;rw[List.getElem_drop];exact Vec.Ji hdy (List.pairwise_iff_getElem.1 h q (q+1+j) hq (by rw[List.length_drop] at hj;omega) (by omega))
theorem jg6 {la:List ByteArray} {q:Nat} {d y:ByteArray} (h:∀x ∈ la.take q,ltS x d=true) (hy:la[q]?=some y) (h1:ltS y d=true):∀x ∈ la.take (q+1),ltS x d=true:=by
 intro x hx;rw[List.take_add_one,hy] at hx;rcases List.mem_append.1 hx with hx | hx
 · exact h x hx
 · rcases List.mem_singleton.1 hx with rfl;exact h1
theorem jgE {key:ByteArray} {l:List Nod} {k:Nat} {n:Nod} (h:l[k]?=some n) (hg:jO n.labels key=none):ZG key (l.take (k+1))=ZG key (l.take k):=by rw[jaW h,hg];simp
theorem jcw {key d:ByteArray} {l:List Nod} {k:Nat} {n:Nod} (h:l[k]?=some n) (hg:jO n.labels key=some d) {x:ByteArray}:x ∈ ZG key (l.take (k+1))↔x ∈ ZG key (l.take k)∨x=d:=by rw[jaW h,hg];simp
theorem jf2 {w:World} {v:Value} {l:PL} {k d:ByteArray} (h:Reads jw w v l) (hd:jO l k=some d):d.size≤maxLen:=by
 obtain⟨x,hx,rfl⟩:=jcA hd;obtain⟨a,cap,-,-,-,hr⟩:=h;exact(hr.2.2.1 x hx).2
theorem kindStr:Kind 29 9 1 16:=by
 obtain⟨i,hi,hz,h1,h2⟩:=info_parts (show (Tryz.prog.info? 9).map (fun i=>(i.zero,i.size,i.bytes))=some (some (.string ByteArray.empty),1,16) by kernel_rfl);exact⟨i,_,Tryz.underlying29,hi,hz,h1,h2,rfl,by decide⟩
theorem Yz (a:Option Addr) (len cap:Nat) (l:PL) (n:ByteArray) (w:World) (hr:jh jw w a len l) :
 Calls Tryz.prog 90 #[.slice a len cap,.string n] w fun e w'=>e=.returned (.tuple #[.string (Za l n),.bool (JB l n)])∧w=w':=by
 have hl:=hr.1;have hm:=hr.2.1;unfold maxLen at hm;rcases hr.form with h0 | ⟨b,off,rfl⟩
 · subst h0;have HE:=lH (show jO l n=none by rw[List.eq_nil_of_length_eq_zero hl];rfl);clear hr hl;go_enter Tryz.func90,Tryz.ntmps90;go_wp2;refine wp_loop_rounds 1 ?_;rw[rounds_succ];go_wp2;go_ret2
   exact⟨Yi HE.out,rfl⟩
 · have HR:=lH hr;have HL:=lH hl;clear hr hl;go_enter Tryz.func90,Tryz.ntmps90;go_wp2;go_loop [6] (fun i=>∃k:Nat,k≤len∧i=.int .i64 k∧jO (l.drop k) n=jO l n) (fun i=>len-(intOf i).toNat)
   case atStart=>exact⟨0,Nat.zero_le _,rfl,rfl⟩
   case round =>
    obtain⟨k,hk,rfl,hrest⟩:=hrel;by_cases hlt:k<len
    · obtain⟨x,y,hx,hd,hb,hz,hz2,c1,c2⟩:=HR.out.pair hlt;have HT:=lH (hrest.symm.trans ((congrArg (fun z=>jO z n) hd).trans (jaV _ _ _ _)));clear hrest hx hd;by_cases e:eqS x n=true
      · have E:=lH e;have e':(x.toList==n.toList)=true:=e;clear e;go_wp2;go_ret2
        exact⟨Yi (HT.out.trans (if_pos E.out)),rfl⟩
      · have E:=lH e;have e':(x.toList==n.toList)=false:=by unfold eqS at e;simpa using e
        clear e;go_wp2;go_round
        case rel=>exact⟨k+1,by omega,by go_num,(HT.out.trans (if_neg E.out)).symm⟩
        case measure=>simp[intOf];omega
    · have HS:=lH (hrest.symm.trans (congrArg (fun z=>jO z n) (zC (by rw[HL.out];exact hlt))));clear hrest;go_wp2;go_ret2
      exact⟨Yi (HS.out.trans rfl),rfl⟩
theorem jbC (a a':Option Addr) (len cap len' cap':Nat) (l:TL) (s:PL) (w:World) (hr:jh jI w a len l) (hr':jh jw w a' len' s) :
 Calls Tryz.prog 55 #[.slice a len cap,.slice a' len' cap'] w fun e w'=>e=.returned (.bool (zL l s))∧w=w':=by
 have hl:=hr.1;have hm:=hr.2.1;unfold maxLen at hm;rcases hr.form with h0 | ⟨b,off,rfl⟩
 · subst h0;have HE:=lH (show zL l s=true by rw[List.eq_nil_of_length_eq_zero hl];rfl);clear hr hl hr';go_enter Tryz.func55,Tryz.ntmps55;go_wp2;refine wp_loop_rounds 1 ?_;rw[rounds_succ];go_wp2;go_ret;exact⟨jf HE.out.symm,rfl⟩
 · have HR:=lH hr;have HR':=lH hr';have HL:=lH hl;clear hr hl hr';go_enter Tryz.func55,Tryz.ntmps55;go_wp2;go_loop [5] (fun i=>∃k:Nat,k≤len∧i=.int .i64 k∧zL (l.drop k) s=zL l s) (fun i=>len-(intOf i).toNat)
   case atStart=>exact⟨0,Nat.zero_le _,rfl,rfl⟩
   case round =>
    obtain⟨k,hk,rfl,hrest⟩:=hrel;by_cases hlt:k<len
    · obtain⟨o,x,y,hx,hd,hb,ho,hz,hz2,c1,c2,c3⟩:=HR.out.term hlt;have HT:=lH (hrest.symm.trans ((congrArg (fun z=>zL z s) hd).trans (jae _ _ _)));have HG:=lH (Yz a' len' cap' s x w HR'.out);obtain⟨v,hv⟩:∃v,Za s x=v:=⟨_,rfl⟩
      obtain⟨h,hh⟩:∃h,JB s x=h:=⟨_,rfl⟩
      obtain⟨q,hq⟩:∃q,eqS v y=q:=⟨_,rfl⟩
      have hq':(v.toList==y.toList)=q:=hq;rw[hv,hh] at HG;clear hrest hx hd;by_cases h1:o=1
      · subst h1;have HV:=lH (show Jd s (1,x,y)=(h&&q) by rw[Jh,if_pos rfl,hv,hh,hq]);clear hv hh hq
        cases h<;>cases q
        · go_wp2_with (go_at_call 90;refine HG.out.mono ?_;rintro e w1 ⟨rfl,rfl⟩)
          go_ret;exact⟨jf (HT.out.trans (by rw[HV.out];exact Bool.false_and _)).symm,rfl⟩
        · go_wp2_with (go_at_call 90;refine HG.out.mono ?_;rintro e w1 ⟨rfl,rfl⟩)
          go_ret;exact⟨jf (HT.out.trans (by rw[HV.out];exact Bool.false_and _)).symm,rfl⟩
        · go_wp2_with (go_at_call 90;refine HG.out.mono ?_;rintro e w1 ⟨rfl,rfl⟩)
          go_ret;exact⟨jf (HT.out.trans (by rw[HV.out];exact Bool.false_and _)).symm,rfl⟩
        · go_wp2_with (go_at_call 90;refine HG.out.mono ?_;rintro e w1 ⟨rfl,rfl⟩)
          go_round
          case rel=>exact⟨k+1,by omega,by go_num,(HT.out.trans (by rw[HV.out];exact Bool.true_and _)).symm⟩
          case measure=>simp[intOf];omega
      · by_cases h2:o=2
        · subst h2;have HV:=lH (show Jd s (2,x,y)=(!h||!q) by rw[Jh,if_neg (by decide),if_pos rfl,hv,hh,hq]);clear hv hh hq h1
          cases h<;>cases q
          · go_wp2_with (go_at_call 90;refine HG.out.mono ?_;rintro e w1 ⟨rfl,rfl⟩)
            go_round
            case rel=>exact⟨k+1,by omega,by go_num,(HT.out.trans (by rw[HV.out];exact Bool.true_and _)).symm⟩
            case measure=>simp[intOf];omega
          · go_wp2_with (go_at_call 90;refine HG.out.mono ?_;rintro e w1 ⟨rfl,rfl⟩)
            go_round
            case rel=>exact⟨k+1,by omega,by go_num,(HT.out.trans (by rw[HV.out];exact Bool.true_and _)).symm⟩
            case measure=>simp[intOf];omega
          · go_wp2_with (go_at_call 90;refine HG.out.mono ?_;rintro e w1 ⟨rfl,rfl⟩)
            go_round
            case rel=>exact⟨k+1,by omega,by go_num,(HT.out.trans (by rw[HV.out];exact Bool.true_and _)).symm⟩
            case measure=>simp[intOf];omega
          · go_wp2_with (go_at_call 90;refine HG.out.mono ?_;rintro e w1 ⟨rfl,rfl⟩)
            go_ret;exact⟨jf (HT.out.trans (by rw[HV.out];exact Bool.false_and _)).symm,rfl⟩
        · by_cases h3:o=3
          · subst h3;have HV:=lH (show Jd s (3,x,y)=h by rw[Jh,if_neg (by decide),if_neg (by decide),if_pos rfl,hh]);clear hv hh hq h1 h2
            cases h
            · go_wp2_with (go_at_call 90;refine HG.out.mono ?_;rintro e w1 ⟨rfl,rfl⟩)
              go_ret;exact⟨jf (HT.out.trans (by rw[HV.out];exact Bool.false_and _)).symm,rfl⟩
            · go_wp2_with (go_at_call 90;refine HG.out.mono ?_;rintro e w1 ⟨rfl,rfl⟩)
              go_round
              case rel=>exact⟨k+1,by omega,by go_num,(HT.out.trans (by rw[HV.out];exact Bool.true_and _)).symm⟩
              case measure=>simp[intOf];omega
          · by_cases h4:o=4
            · subst h4;have HV:=lH (show Jd s (4,x,y)=!h by rw[Jh,if_neg (by decide),if_neg (by decide),if_neg (by decide),if_pos rfl,hh]);clear hv hh hq h1 h2 h3
              cases h
              · go_wp2_with (go_at_call 90;refine HG.out.mono ?_;rintro e w1 ⟨rfl,rfl⟩)
                go_round
                case rel=>exact⟨k+1,by omega,by go_num,(HT.out.trans (by rw[HV.out];exact Bool.true_and _)).symm⟩
                case measure=>simp[intOf];omega
              · go_wp2_with (go_at_call 90;refine HG.out.mono ?_;rintro e w1 ⟨rfl,rfl⟩)
                go_ret;exact⟨jf (HT.out.trans (by rw[HV.out];exact Bool.false_and _)).symm,rfl⟩
            · have HV:=lH (show Jd s (o,x,y)=false by rw[Jh,if_neg h1,if_neg h2,if_neg h3,if_neg h4]);have e1:(o==1)=false:=by simpa using h1
              have e2:(o==2)=false:=by simpa using h2
              have e3:(o==3)=false:=by simpa using h3
              have e4:(o==4)=false:=by simpa using h4
              clear hv hh hq h1 h2 h3 h4
              · go_wp2_with (go_at_call 90;refine HG.out.mono ?_;rintro e w1 ⟨rfl,rfl⟩)
                go_ret;exact⟨jf (HT.out.trans (by rw[HV.out];exact Bool.false_and _)).symm,rfl⟩
    · have HS:=lH (hrest.symm.trans (congrArg (fun z=>zL z s) (zC (by rw[HL.out];exact hlt))));clear hrest;go_wp2;go_ret;exact⟨jf (HS.out.trans rfl).symm,rfl⟩
theorem jfC {v v':Value} {l:TL} {s:PL} {b:Bool} {w:World} (h:Reads jI w v l) (h':Reads jw w v' s) (hb:zL l s=b) :
 Calls Tryz.prog 55 #[v,v'] w (Say (.bool b) w):=by
 obtain⟨a,cap,rfl,_,_,hr⟩:=h;obtain⟨a',cap',rfl,_,_,hr'⟩:=h';exact(jbC a a' _ cap _ cap' l s w hr hr').mono fun e w' ⟨he,k⟩=>⟨by rw[he,hb],k▸Kept.refl _⟩
theorem jds (p:Pd) (d:ByteArray) (a b:List Pd):∀l:List Nod,inD p (a++b) d l=inD p a d l+inD p b d l
 | []=>rfl
 | n::t=>by
  rw[inD,inD,inD,jds p d a b t,XZ];split<;>omega
def Jq (p q:Pd) (d:ByteArray) (nodes:List Nod):Bool:=zE p q&&decide (domV p.key q.node nodes=some d)
theorem jgd {p q:Pd} {pods:List Pd} {d:ByteArray} {nodes:List Nod} {k:Nat} (h:Z7 nodes) (hq:pods[k]?=some q):inD p (pods.take (k+1)) d nodes=inD p (pods.take k) d nodes+(if Jq p q d nodes=true then 1 else 0):=by
 rw[List.take_add_one,hq,show (some q).toList=[q] from rfl,jds,Xl,Y9,jfN p q d h];unfold Jq
 cases hb:zE p q
 · simp
 · by_cases hd:domV p.key q.node nodes=some d
   · simp[hd]
   · simp[hd]
theorem jeU {p:Pd} {d:ByteArray} {nodes:List Nod} (h:Z7 nodes) (l:List Pd):inD p l d nodes≤l.length:=Nat.le_trans (jdl p d h l) (jdC p l)
theorem Y2 {p:Pd} (h:Jn p.owner=true) (d:ByteArray) (nodes:List Nod):∀l:List Pd,inD p l d nodes=0
 | []=>Y9 p d nodes
 | q::t=>by
  rw[Xl,Y2 h d nodes t,if_neg (by unfold zE;rw[h];simp)]
theorem XN {key x:ByteArray}:∀{l:List Nod},domV key x l=(jm l x).bind fun n=>jO n.labels key
 | []=>rfl
 | n::t=>by
  rw[domV];unfold jm;rw[List.find?_cons]
  cases h:eqS n.name x with
  | true=>rfl
  | false =>
   have:=XN (key:=key) (x:=x) (l:=t);unfold jm at this;simpa using this
theorem jfD {x:ByteArray} (h:Jn x=true):isName x=false:=by
 rw[Jk] at h;have e:x.toList=[]:=by simpa using h
 have e2:x.data.toList=[]:=by rw[←Lib.toList_data];exact e
 have e3:x.size=0:=by rw[←ByteArray.size_data,←Array.length_toList,e2];rfl
 unfold isName;rw[e3];rfl
theorem XB.spelt {w:World} {v:Value} {n:Nod} (h:XB w v n):∃b1 k1 d1 b2 k2 d2 b3 k3 d3,v=.agg #[.string n.name,.slice b1 k1 d1,.slice b2 k2 d2,.slice b3 k3 d3,.bool n.cordon]∧zl w (.slice b1 k1 d1) (.slice b2 k2 d2) (.slice b3 k3 d3) n:=by
 obtain⟨v1,v2,v3,rfl,hat⟩:=h;have g1:=hat.cap;have g2:=hat.labels;have g3:=hat.taints;obtain⟨b1,d1,rfl,-,-,-⟩:=g1;obtain⟨b2,d2,rfl,-,-,-⟩:=g2;obtain⟨b3,d3,rfl,-,-,-⟩:=g3;exact⟨_,_,_,_,_,_,_,_,_,rfl,hat⟩
theorem jeK {w:World} {v:Value} {l:PL} {key x:ByteArray} {b:Bool} (h:Reads jw w v l) (hx:Za l key=x) (hb:JB l key=b):Calls Tryz.prog 90 #[v,.string key] w fun e w'=>e=.returned (.tuple #[.string x,.bool b])∧w=w':=by
 subst hx hb;obtain⟨a,cap,rfl,-,-,hr⟩:=h;exact Yz a _ cap l key w hr
theorem qX (s1 s2 s3:Option Addr) (n1 e1 n2 e2 n3 e3:Nat) (a1 a2 a3 a4:Option Addr) (m1 c1 m2 c2 m3 c3 m4 c4:Nat) (p:Pd) (s:Clu) (d:ByteArray) (w:World) (hn:ju w s1 n1 s.nodes) (hp:jC w s2 n2 s.pods) (hb2:n2≤100000) (ha:Z7 s.nodes) (hk:∀n ∈ s.nodes,jY n=0):Calls Tryz.prog 92 #[.agg #[.slice s1 n1 e1,.slice s2 n2 e2,.slice s3 n3 e3],jv p (.slice a1 m1 c1) (.slice a2 m2 c2) (.slice a3 m3 c3) (.slice a4 m4 c4),.string d] w (Say (.int .i64 (inD p s.pods d s.nodes)) w):=by
 obtain⟨Z,hZ⟩:∃Z,(w.alloc (.cells #[.slice s1 n1 e1,.slice s2 n2 e2,.slice s3 n3 e3] 56)).alloc (.cells #[.string p.name,.string p.owner,.int .i64 p.prio,.slice a1 m1 c1,.slice a2 m2 c2,.slice a3 m3 c3,.slice a4 m4 c4,.string p.key,.int .i64 p.most,.string p.node,.bool p.hold] 50)=Z:=⟨_,rfl⟩
 have hkz:Kept w Z:=by rw[←hZ];exact jn _ _ _
 have HB1:=lH (jc w (.slice s1 n1 e1) [.slice s2 n2 e2,.slice s3 n3 e3] 56 Z (by rw[←hZ];exact ja _ _));have HB2:=lH (show je (w.heap.size+1) [.string p.name,.string p.owner,.int .i64 p.prio,.slice a1 m1 c1,.slice a2 m2 c2,.slice a3 m3 c3,.slice a4 m4 c4,.string p.key,.int .i64 p.most,.string p.node,.bool p.hold] Z by
  have dd:=jc (w.alloc (.cells #[.slice s1 n1 e1,.slice s2 n2 e2,.slice s3 n3 e3] 56)) (.string p.name) [.string p.owner,.int .i64 p.prio,.slice a1 m1 c1,.slice a2 m2 c2,.slice a3 m3 c3,.slice a4 m4 c4,.string p.key,.int .i64 p.most,.string p.node,.bool p.hold] 50 Z (by rw[hZ];exact Kept.refl _);rw[World.size_alloc] at dd;exact dd)
 have HKZ:=lH hkz;have HN:=lH (hn.kept hkz);have HP:=lH (hp.kept hkz);have HPL:=lH hp.1;have HAS:=lH ha;have HCK:=lH hk;clear hn hp hkz ha hk;obtain⟨t0,h0⟩:∃t,(p.owner.toList==([]:List UInt8))=t:=⟨_,rfl⟩
 have h0b:(p.owner.toList != ([]:List UInt8))=!t0:=by rw[←h0];rfl
 have T0:=lH (show Jn p.owner=t0 by rw[Jk,h0]);unfold jv;go_enter Tryz.func92,Tryz.ntmps92;go_upto_region 2 with fail
 try rw[hZ]
 clear hZ;go_wp2;go_loopw [7,8] (fun nv iv wr=>∃i k:Nat,i≤n2∧iv=.int .i64 i∧nv=.int .i64 k∧Hid (inD p (s.pods.take i) d s.nodes=k∧Kept Z wr)) (fun _ iv _=>n2-(intOf iv).toNat)
 case atStart=>exact⟨0,0,Nat.zero_le _,rfl,rfl,Y9 p d s.nodes,Kept.refl _⟩
 case round =>
  obtain⟨i,k,hi9,rfl,rfl,HH⟩:=hrel;have HKE:=lH HH.out.1;have HK:=lH HH.out.2;clear HH;have HS1:=lH (HB1.out.kept HK.out);have HS2:=lH (HB2.out.kept HK.out);have y0:=HS1.out.at_ 0 _ rfl;have y1:=HS1.out.at_ 1 _ rfl;have y2:=HS1.out.at_ 2 _ rfl;have r0:=HS2.out.at_ 0 _ rfl;have r1:=HS2.out.at_ 1 _ rfl;have r7:=HS2.out.at_ 7 _ rfl;by_cases hlt:i<n2
  · have hkk:(i:Int)<(n2:Int):=by omega
    cases t0 with
    | true =>
     have HE:=lH (show inD p s.pods d s.nodes=k by rw[←HKE.out,Y2 T0.out,Y2 T0.out]);go_wp2;go_ret;exact⟨jb (by rw[HE.out]),HKZ.out.trans HK.out⟩
    | false =>
     obtain⟨g,off,rfl⟩:=HP.out.form.resolve_left (by omega);obtain⟨q,u1,h1,l1,u2,h2,l2,u3,h3,l3,u4,h4,l4,hn,hd,hb,j0,j1,j2,j3,j4,j5,j6,j7,j8,j9,j10,hat⟩:=(HP.out.kept HK.out).at_ hlt;have hki:k≤i:=by
      have:=jeU (p:=p) (d:=d) HAS.out (s.pods.take i);rw[HKE.out,List.length_take] at this;omega
     have HTK:=lH (jgd (p:=p) (d:=d) HAS.out hn);have hk0:¬(i:Int)<0:=by omega
     obtain⟨wx,hwx⟩:∃W,wr.alloc (.cells #[.string q.name,.string q.owner,.int .i64 q.prio,.slice u1 h1 l1,.slice u2 h2 l2,.slice u3 h3 l3,.slice u4 h4 l4,.string q.key,.int .i64 q.most,.string q.node,.bool q.hold] 50)=W:=⟨_,rfl⟩
     have hkx:Kept wr wx:=by rw[←hwx];exact ja _ _
     have HQB:=lH (jc wr (.string q.name) [.string q.owner,.int .i64 q.prio,.slice u1 h1 l1,.slice u2 h2 l2,.slice u3 h3 l3,.slice u4 h4 l4,.string q.key,.int .i64 q.most,.string q.node,.bool q.hold] 50 wx (by rw[hwx];exact Kept.refl _));obtain⟨bq,hbq⟩:∃z,wr.heap.size=z:=⟨_,rfl⟩
     rw[hbq] at HQB;have KX:=lH (HK.out.trans hkx);have HS1:=lH (HS1.out.kept hkx);have HS2:=lH (HS2.out.kept hkx);go_upto_region 6 with fail
     try rw[hwx]
     try rw[hbq]
     clear hwx hbq hd hb hn hkx hk0 hkk hat j0 j1 j2 j3 j4 j5 j6 j7 j8 j9 j10 y0 y1 y2 r0 r1 r7;obtain⟨t4,h4⟩:∃t,q.hold=t:=⟨_,rfl⟩
     rw[h4] at HQB;have j0:=HQB.out.at_ 0 _ rfl;have j1:=HQB.out.at_ 1 _ rfl;have j9:=HQB.out.at_ 9 _ rfl;have j10:=HQB.out.at_ 10 _ rfl;have y0:=HS1.out.at_ 0 _ rfl;have y1:=HS1.out.at_ 1 _ rfl;have y2:=HS1.out.at_ 2 _ rfl;have r0:=HS2.out.at_ 0 _ rfl;have r1:=HS2.out.at_ 1 _ rfl;have r7:=HS2.out.at_ 7 _ rfl;obtain⟨t2,h2⟩:∃t,(q.owner.toList==p.owner.toList)=t:=⟨_,rfl⟩
     have h2b:(q.owner.toList != p.owner.toList)=!t2:=by rw[←h2];rfl
     have T2:=lH (show eqS q.owner p.owner=t2 from h2);obtain⟨t1,h1⟩:∃t,(q.name.toList==p.name.toList)=t:=⟨_,rfl⟩
     have T1:=lH (show eqS q.name p.name=t1 from h1);obtain⟨t5,h5⟩:∃t,(q.node.toList==([]:List UInt8))=t:=⟨_,rfl⟩
     have T5:=lH (show Jn q.node=t5 by rw[Jk,h5]);have T4:=lH h4;clear h4
     cases t2 with
     | false =>
      have HC:=lH (show Jq p q d s.nodes=false by unfold Jq zE;rw[T2.out];simp);have HE:=lH (show inD p (s.pods.take (i+1)) d s.nodes=k by rw[HTK.out,HC.out,HKE.out];rfl);go_wp2;go_roundw
      case rel=>exact⟨i+1,k,by omega,by go_num,rfl,HE.out,KX.out⟩
      case measure=>simp[intOf];omega
     | true =>
      cases t4 with
      | true =>
       have HC:=lH (show Jq p q d s.nodes=false by unfold Jq zE;rw[T4.out];simp);have HE:=lH (show inD p (s.pods.take (i+1)) d s.nodes=k by rw[HTK.out,HC.out,HKE.out];rfl);go_wp2;go_roundw
       case rel=>exact⟨i+1,k,by omega,by go_num,rfl,HE.out,KX.out⟩
       case measure=>simp[intOf];omega
      | false =>
       cases t1 with
       | true =>
        have HC:=lH (show Jq p q d s.nodes=false by unfold Jq zE;rw[T1.out];simp);have HE:=lH (show inD p (s.pods.take (i+1)) d s.nodes=k by rw[HTK.out,HC.out,HKE.out];rfl);go_wp2;go_roundw
        case rel=>exact⟨i+1,k,by omega,by go_num,rfl,HE.out,KX.out⟩
        case measure=>simp[intOf];omega
       | false =>
        cases t5 with
        | true =>
         have HC:=lH (show Jq p q d s.nodes=false by unfold Jq;rw[qi (jfD T5.out) HCK.out];simp);have HE:=lH (show inD p (s.pods.take (i+1)) d s.nodes=k by rw[HTK.out,HC.out,HKE.out];rfl);go_wp2;go_roundw
         case rel=>exact⟨i+1,k,by omega,by go_num,rfl,HE.out,KX.out⟩
         case measure=>simp[intOf];omega
        | false =>
         have HBS:=lH (show zE p q=true by unfold zE;rw[T0.out,T2.out,T4.out,T1.out];rfl);go_wp2_with fail
         refine(YG s1 n1 e1 s.nodes q.node wx (HN.out.kept KX.out)).mono ?_;rintro e wy ⟨v,rfl,hv,kk⟩;obtain⟨b1,k1,d1,b2,k2,d2,b3,k3,d3,rfl,hat⟩:=hv.spelt;obtain⟨fo,hfo⟩:∃fo,jm s.nodes q.node=fo:=⟨_,rfl⟩
         rw[hfo] at hat;rw[hfo];have HFO:=lH hfo;obtain⟨nd,hnd⟩:∃nd,fo.getD Nod.zero=nd:=⟨_,rfl⟩
         rw[hnd] at hat;rw[hnd];have HND:=lH hnd;clear hfo hnd hv;obtain⟨wz,hwz⟩:∃W,wy.alloc (.cells #[.string nd.name,.slice b1 k1 d1,.slice b2 k2 d2,.slice b3 k3 d3,.bool nd.cordon] 107)=W:=⟨_,rfl⟩
         have kz:Kept wy wz:=by rw[←hwz];exact ja _ _
         have HNB:=lH (jc wy (.string nd.name) [.slice b1 k1 d1,.slice b2 k2 d2,.slice b3 k3 d3,.bool nd.cordon] 107 wz (by rw[hwz];exact Kept.refl _));have HAT:=lH (hat.kept kz);have HWZ:=lH hwz;obtain⟨bn,hbn⟩:∃z,wy.heap.size=z:=⟨_,rfl⟩
         rw[hbn] at HNB;have HBN:=lH hbn;have KX:=lH (KX.out.trans (kk.trans kz));have HS2:=lH (HS2.out.kept (kk.trans kz));clear kk kz hat hwz hbn j0 j1 j9 j10 y0 y1 y2 r0 r1 r7;go_upto_region 8 with fail
         try rw[HWZ.out]
         try rw[HBN.out]
         clear HWZ HBN;have z0:=HNB.out.at_ 0 _ rfl;have z1:=HNB.out.at_ 1 _ rfl;have z2:=HNB.out.at_ 2 _ rfl;have z3:=HNB.out.at_ 3 _ rfl;have z4:=HNB.out.at_ 4 _ rfl;have r0:=HS2.out.at_ 0 _ rfl;have r1:=HS2.out.at_ 1 _ rfl;have r7:=HS2.out.at_ 7 _ rfl;obtain⟨go,hgo⟩:∃g,jO nd.labels p.key=g:=⟨_,rfl⟩
         have HGO:=lH hgo;have HLB:=lH (jeK (key:=p.key) (x:=go.getD ByteArray.empty) (b:=go.isSome) HAT.out.labels (by unfold Za;rw[hgo]) (by unfold JB;rw[hgo]));clear hgo;go_wp2_with fail
         refine HLB.out.mono ?_;rintro e wv ⟨rfl,rfl⟩;clear HLB z0 z1 z2 z3 z4 r0 r1 r7;have HDV:=lH (show domV p.key q.node s.nodes=fo.bind fun n=>jO n.labels p.key from by rw[XN,HFO.out])
         cases fo with
         | none =>
          have HC:=lH (show Jq p q d s.nodes=false by unfold Jq;rw[HDV.out];simp);have HE:=lH (show inD p (s.pods.take (i+1)) d s.nodes=k by rw[HTK.out,HC.out,HKE.out];rfl);go_wp2;go_roundw
          case rel=>exact⟨i+1,k,by omega,by go_num,rfl,HE.out,KX.out⟩
          case measure=>simp[intOf];omega
         | some n0 =>
          have HDV:=lH (show domV p.key q.node s.nodes=go from by rw[HDV.out,←HGO.out,←HND.out];rfl)
          cases go with
          | none =>
           have HC:=lH (show Jq p q d s.nodes=false by unfold Jq;rw[HDV.out];simp);have HE:=lH (show inD p (s.pods.take (i+1)) d s.nodes=k by rw[HTK.out,HC.out,HKE.out];rfl);go_wp2;go_roundw
           case rel=>exact⟨i+1,k,by omega,by go_num,rfl,HE.out,KX.out⟩
           case measure=>simp[intOf];omega
          | some x =>
           obtain⟨t7,h7⟩:∃t,(x.toList==d.toList)=t:=⟨_,rfl⟩
           have T7:=lH (show eqS x d=t7 from h7)
           cases t7 with
           | false =>
            have HC:=lH (show Jq p q d s.nodes=false by unfold Jq;rw[HDV.out];simp;intro _ e;subst e;have:=T7.out;rw[Zu] at this;cases this);have HE:=lH (show inD p (s.pods.take (i+1)) d s.nodes=k by rw[HTK.out,HC.out,HKE.out];rfl);go_wp2;go_roundw
            case rel=>exact⟨i+1,k,by omega,by go_num,rfl,HE.out,KX.out⟩
            case measure=>simp[intOf];omega
           | true =>
            have HC:=lH (show Jq p q d s.nodes=true by unfold Jq;rw[HDV.out,HBS.out,za.1 T7.out];simp);have HE:=lH (show inD p (s.pods.take (i+1)) d s.nodes=k+1 by rw[HTK.out,HC.out,HKE.out];rfl);go_wp2;go_roundw
            case rel=>exact⟨i+1,k+1,by omega,by go_num,by go_num,HE.out,KX.out⟩
            case measure=>simp[intOf];omega
  · have hge:¬(i:Int)<(n2:Int):=by omega
    have HE:=lH (show inD p s.pods d s.nodes=k by rw[←HKE.out,List.take_of_length_le (by rw[HPL.out];omega)]);go_wp2;go_ret;exact⟨jb (by rw[HE.out]),HKZ.out.trans HK.out⟩
theorem jh.upto {α:Type} {L:Lay α} {w:World} {b off len:Nat} {l:List α} {k:Nat} (h:jh L w (some ⟨b,off,none⟩) len l) (hk:k≤len):jh L w (some ⟨b,off,none⟩) k (l.take k):=jh.preP h (by rw[h.1];exact hk)
theorem YF {l:List ByteArray} {n:Nat} (h:l.length=n):(jd jl l).length=n*1:=by rw[zc,h];rfl
theorem jfP {la:List ByteArray} {q:Nat} {d:ByteArray}:jd jl (la.take q)++[.string d]++jd jl (la.drop q)=jd jl (la.take q++d::la.drop q):=by
 rw[Ja,show d::la.drop q=[d]++la.drop q from rfl,Ja,List.append_assoc];rfl
theorem YD (l:List ByteArray):∀u ∈ jd jl l,u.oneCell'=true:=fun u hu=>zN jl l u hu
def Xw (key:ByteArray) (nodes:List Nod) (B k:Nat) (v:Value) (Z wr:World):Prop:=∃la:List ByteArray,la.length≤k∧jaz la∧(∀x,x ∈ la↔x ∈ ZG key (nodes.take k))∧Own jl 9 wr B v la∧Kept Z wr
theorem Xw.more {key d:ByteArray} {nodes:List Nod} {B k q m g:Nat} {W Z wr:World} {la:List ByteArray} {n:Nod} {c:Nat} (hn:nodes[k]?=some n) (hg:jO n.labels key=some d) (hd:d.size≤maxLen) (hr:jaz la) (hl:la.length≤k) (hmem:∀x,x ∈ la↔x ∈ ZG key (nodes.take k)) (hf:∀x ∈ la,jl.fine x) (h1:∀x ∈ la.take q,ltS x d=true) (h2:∀x ∈ la.drop q,ltS d x=true) (hq:q≤la.length) (hm:la.length+1=m)
 (hB:B≤wr.heap.size) (hk:Kept Z wr) (hw:Kept wr W) (ho:W.ownsRow wr.heap.size 9 1 (.slice (some ⟨g,0,none⟩) m c) m (jd jl (la.take q)++[.string d]++jd jl (la.drop q))):Xw key nodes B (k+1) (.slice (some ⟨g,0,none⟩) m c) Z W:=by
 have hlen:(la.take q++d::la.drop q).length=m:=by rw[List.length_append,List.length_cons,List.length_take,List.length_drop];omega
 refine⟨la.take q++d::la.drop q,by omega,jhg hr h1 h2,fun x=>?_,(show Own jl 9 W wr.heap.size _ _ from⟨?_,fun x hx=>?_⟩).base_le hB,hk.trans hw⟩
 · rw[ins_mem',jcw hn hg,hmem]
 · rw[jfP] at ho;rw[hlen];exact ho
 · rcases ins_mem'.1 hx with hx | rfl
   · exact hf x hx
   · exact hd
theorem jbN (s1 s2 s3:Option Addr) (n1 e1 n2 e2 n3 e3:Nat) (nodes:List Nod) (key:ByteArray) (w:World) (hn:ju w s1 n1 nodes) (hb1:n1≤100000):Calls Tryz.prog 93 #[.agg #[.slice s1 n1 e1,.slice s2 n2 e2,.slice s3 n3 e3],.string key] w fun e w'=>∃v,e=.returned v∧Own jl 9 w' w.heap.size v (ZU key nodes)∧Kept w w':=by
 obtain⟨Z,hZ⟩:∃Z,w.alloc (.cells #[.slice s1 n1 e1,.slice s2 n2 e2,.slice s3 n3 e3] 56)=Z:=⟨_,rfl⟩
 have hkz:Kept w Z:=by rw[←hZ];exact ja _ _
 have HSB:=lH (jc w (.slice s1 n1 e1) [.slice s2 n2 e2,.slice s3 n3 e3] 56 Z (by rw[hZ];exact Kept.refl _));have HN:=lH (hn.kept hkz);have HNL:=lH hn.1;have HKZ:=lH hkz;clear hn hkz;go_enter Tryz.func93,Tryz.ntmps93;go_upto_region 2 with fail
 try rw[hZ]
 clear hZ;go_wp2;go_loopw [5,6] (fun v i wr=>∃k:Nat,k≤n1∧i=.int .i64 k∧Hid (Xw key nodes Z.heap.size k v Z wr)) (fun _ i _=>n1-(intOf i).toNat)
 case atStart=>exact⟨0,Nat.zero_le _,rfl,[],Nat.zero_le _,List.Pairwise.nil,(fun x=>by simp[ZG]),Own.nil _ _ _,Kept.refl _⟩
 case round =>
  obtain⟨k,hk,rfl,HI⟩:=hrel;obtain⟨la,hl,hr,hmem,ho,hK⟩:=HI.out;have HLK:=lH hl;have HR:=lH hr;have HM:=lH hmem;have HO:=lH ho;have HK:=lH hK;clear hl hr hmem ho hK;have HSR:=lH (HSB.out.kept HK.out);have y0:=HSR.out.at_ 0 _ rfl;by_cases hlt:k<n1
  · obtain⟨gn,off,rfl⟩:=HN.out.form.resolve_left (by omega);obtain⟨n,b1,q1,f1,b2,q2,f2,b3,q3,f3,hn,hd,hb,u0,u1,u2,u3,u4,hat⟩:=(HN.out.kept HK.out).at_ hlt;have HNN:=lH hn;have HAT:=lH hat;have hkk:(k:Int)<(n1:Int):=by omega
    have hk0:¬(k:Int)<0:=by omega
    obtain⟨go,hgo⟩:∃g,jO n.labels key=g:=⟨_,rfl⟩
    have HGO:=lH hgo;have HLB:=lH (show Calls Tryz.prog 90 #[.slice b2 q2 f2,.string key] wr fun e w'=>e=.returned (.tuple #[.string (go.getD ByteArray.empty),.bool go.isSome])∧wr=w' from by
     obtain⟨a9,c9,e9,-,-,hrow⟩:=hat.labels;injection e9 with e1 e2 e3;subst e1 e2 e3;have h:=Yz b2 _ f2 n.labels key wr hrow;unfold Za JB at h;rw[hgo] at h;exact h)
    clear hgo hn hd hb hat;go_wp2_with fail
    refine HLB.out.mono ?_;rintro e w3 ⟨rfl,rfl⟩;clear HLB
    cases go with
    | none =>
     have HX:=lH (show Xw key nodes Z.heap.size (k+1) u5 Z wr from⟨la,by have:=HLK.out;omega,HR.out,(fun x=>by rw[jgE HNN.out HGO.out];exact HM.out x),HO.out,HK.out⟩);go_wp2;go_roundw
     case rel=>exact⟨k+1,by omega,by go_num,HX⟩
     case measure=>simp[intOf];omega
    | some d =>
     have HDS:=lH (jf2 HAT.out.labels HGO.out);have hB:Z.heap.size≤wr.heap.size:=HK.out.size;obtain⟨oa,oc,rfl,hcap,hcm,hrow⟩:=HO.out.at_;obtain⟨m,hm⟩:∃m,la.length=m:=⟨_,rfl⟩
     rw[hm] at hcap hrow;try rw[hm]
     have HLM:=lH hm;have HRW:=lH hrow;have ho2:=HO.out;rw[hm] at ho2;have HO:=lH ho2;clear ho2;have hmk:m≤k:=by have:=HLK.out;omega
     have hmx:maxLen=9223372036854775807:=rfl;clear hm hrow;go_wp2;go_loop [9] (fun iv=>∃q:Nat,q≤m∧iv=.int .i64 q∧Hid (∀x ∈ la.take q,ltS x d=true)) (fun iv=>m-(intOf iv).toNat)
     case atStart=>exact⟨0,Nat.zero_le _,rfl,fun x hx=>by simp at hx⟩
     case round =>
      obtain⟨q,hq,rfl,HQ⟩:=hrel;by_cases hqm:q<m
      · obtain⟨g,gz,rfl⟩:=HRW.out.form.resolve_left (by omega);obtain⟨y,hy,-,-,-,cy⟩:=HRW.out.str hqm;have hqi:(q:Int)<(m:Int):=by omega
        have hq0:¬(q:Int)<0:=by omega
        obtain⟨t,ht⟩:∃t,Op.bytesLess y.toList d.toList=t:=⟨_,rfl⟩
        have HT:=lH (show ltS y d=t from ht)
        cases t with
        | true =>
         have HQ2:=lH (jg6 HQ.out hy HT.out);clear hy;go_wp2;go_round
         case rel=>exact⟨q+1,by omega,by go_num,HQ2⟩
         case measure=>simp[intOf];omega
        | false =>
         obtain⟨z,hz⟩:∃z,(y.toList==d.toList)=z:=⟨_,rfl⟩
         have HZ:=lH (show eqS y d=z from hz)
         cases z with
         | true =>
          have hyd:y=d:=za.1 HZ.out;have HX:=lH (show Xw key nodes Z.heap.size (k+1) (.slice (some ⟨g,gz,none⟩) m oc) Z wr from⟨la,by have:=HLK.out;omega,HR.out,(fun x=>by rw[jcw HNN.out HGO.out,←HM.out];exact⟨fun h=>.inl h,fun h=>h.elim id fun e=>by rw[e,←hyd];exact List.mem_of_getElem? hy⟩),HO.out,HK.out⟩);clear hy hyd;go_wp2;go_roundw
          case rel=>exact⟨k+1,by omega,by go_num,HX⟩
          case measure=>simp[intOf];omega
         | false =>
          have HD:=lH (jgq HR.out hy HT.out HZ.out);have hgz:gz=0:=by
           rcases HO.out.1.2 with ⟨e,_⟩ | ⟨_,_,_,e,_⟩
           · cases e
           · cases e;rfl
          subst hgz;rw[Nat.zero_add] at cy;have hqc:¬oc=q:=by omega
          clear hy;have HW1:=lH (zS wr wr.heap.size 1 9 (Nat.le_refl _));have HA1:=lH ((jh.upto (HRW.out.kept (ja wr (.cells #[] 9))) hq).src (cap:=oc));have hc1:=YF (l:=la.take q) (n:=q) (by rw[List.length_take,HLM.out];omega);have HA3:=lH (fun (W:World) (k:Kept wr W)=>show YA W (.slice (some ⟨g,q,none⟩) (m-q) (oc-q)) (m-q) (jd jl (la.drop q)) from by
           have h:=(jh.postP (HRW.out.kept k) (k:=q) (by rw[HLM.out];exact hq)).src (cap:=oc-q);rw[HLM.out,show 0+q*jl.m=q from by show 0+q*1=q;omega] at h;exact h)
          have hc3:=YF (l:=la.drop q) (n:=m-q) (by rw[List.length_drop,HLM.out]);go_wp2_with (at_builtin;first
           | (refine jy kindStr _ rfl (.tmp 57) (.tmp 60) rfl wr.heap.size (by simp) wr.heap.size 0 0 [] rfl HW1.out _ q (jd jl (la.take q)) rfl hc1 (YD _) HA1.out (by omega) (by omega) ?_;intro g1 c1 w4 ho1 hx1 hg1;have HO1:=lH (show w4.ownsRow wr.heap.size 9 1 (.slice (some ⟨g1,0,none⟩) q c1) q (jd jl (la.take q)) from by simpa using ho1);have K4:=lH (show Kept wr w4 from Below.trans (ja wr (.cells #[] 9)) hx1);try simp only[Nat.zero_add];clear ho1 hx1 hg1)
           | (refine jy kindStr _ rfl (.tmp 61) (.tmp 63) rfl wr.heap.size (by have:=K4.out.size;simp;omega) g1 q c1 (jd jl (la.take q)) rfl (YI HO1.out _) _ 1 [.string d] rfl rfl (ZV d) (X1 rfl (World.alloc_heap_new w4 _)) (by omega) (by omega) ?_;intro g2 c2 w5 ho2 hx2 hg2;have K5:=lH (show Kept wr w5 from Below.trans (Below.trans K4.out (Below.mono (ja w4 _) K4.out.size)) hx2);have HO2:=lH ho2;clear ho2 hx2 hg2)
           | (refine jy kindStr _ rfl (.tmp 65) (.tmp 68) rfl wr.heap.size K5.out.size g2 (q+1) c2 (jd jl (la.take q)++[.string d]) rfl HO2.out _ (m-q) (jd jl (la.drop q)) rfl hc3 (YD _) (HA3.out _ K5.out) (by omega) (by omega) ?_;intro g3 c3 w6 ho3 hx3 hg3;have K6:=lH (show Kept wr w6 from Below.trans K5.out hx3);have HO3:=lH ho3;clear ho3 hx3 hg3))
          have HO3:=lH (show w6.ownsRow wr.heap.size 9 1 (.slice (some ⟨g3,0,none⟩) (q+1+(m-q)) c3) (q+1+(m-q)) (jd jl (la.take q)++[.string d]++jd jl (la.drop q)) from HO3.out);have HX:=lH (Xw.more (B:=Z.heap.size) (q:=q) HNN.out HGO.out HDS.out HR.out HLK.out HM.out HO.out.2 HQ.out HD.out (by have:=HLM.out;omega) (show la.length+1=q+1+(m-q) by have:=HLM.out;omega) hB HK.out K6.out HO3.out);go_roundw
          case rel=>exact⟨k+1,by omega,by go_num,by first | exact HX | (simpa using HX)⟩
          case measure=>simp[intOf];omega
      · have hqi:¬(q:Int)<(m:Int):=by omega
        have hqe:q=m:=by omega
        clear hqm;rcases HO.out.1.2 with ⟨e0,h0⟩ | ⟨g,oc2,cur,e0,-⟩
        · have e1:oa=none:=by injection e0
          have e2:m=0:=by injection e0
          have e3:oc=0:=by injection e0
          subst e1 e3;subst e2;obtain rfl:q=0:=by omega
          clear e0 h0 hqe;have HW1:=lH (zS wr wr.heap.size 1 9 (Nat.le_refl _));go_wp2_with (at_builtin;first
           | (refine jy kindStr _ rfl (.tmp 57) (.tmp 60) rfl wr.heap.size (by simp) wr.heap.size 0 0 [] rfl HW1.out _ 0 [] rfl rfl (by intro u hu;cases hu) (.inr ⟨_,rfl,rfl⟩) (by decide) (by decide) ?_;intro g1 c1 w4 ho1 hx1 hg1;have HO1:=lH (show w4.ownsRow wr.heap.size 9 1 (.slice (some ⟨g1,0,none⟩) 0 c1) 0 ([]) from by simpa using ho1);have K4:=lH (show Kept wr w4 from Below.trans (ja wr (.cells #[] 9)) hx1);try simp only[Nat.zero_add];clear ho1 hx1 hg1)
           | (refine jy kindStr _ rfl (.tmp 61) (.tmp 63) rfl wr.heap.size (by have:=K4.out.size;simp;omega) g1 0 c1 ([]) rfl (YI HO1.out _) _ 1 [.string d] rfl rfl (ZV d) (X1 rfl (World.alloc_heap_new w4 _)) (by omega) (by omega) ?_;intro g2 c2 w5 ho2 hx2 hg2;have K5:=lH (show Kept wr w5 from Below.trans (Below.trans K4.out (Below.mono (ja w4 _) K4.out.size)) hx2);have HO2:=lH ho2;clear ho2 hx2 hg2)
           | (refine jy kindStr _ rfl (.tmp 65) (.tmp 68) rfl wr.heap.size K5.out.size g2 (0+1) c2 ([]++[.string d]) rfl HO2.out _ 0 [] rfl rfl (by intro u hu;cases hu) (.inr ⟨_,rfl,rfl⟩) (by decide) (by decide) ?_;intro g3 c3 w6 ho3 hx3 hg3;have K6:=lH (show Kept wr w6 from Below.trans K5.out hx3);have HO3:=lH ho3;clear ho3 hx3 hg3))
          have HO3:=lH (show w6.ownsRow wr.heap.size 9 1 (.slice (some ⟨g3,0,none⟩) (0+1) c3) (0+1) (jd jl (la.take 0)++[.string d]++jd jl (la.drop 0)) from by
           rw[List.drop_of_length_le (show la.length≤0 by rw[HLM.out];omega)];have h:=HO3.out;simpa [jd] using h)
          have HX:=lH (Xw.more (B:=Z.heap.size) (q:=0) HNN.out HGO.out HDS.out HR.out HLK.out HM.out HO.out.2 (fun x hx=>by simp at hx) (fun x hx=>by rw[List.drop_of_length_le (by rw[HLM.out];omega)] at hx;cases hx) (by have:=HLM.out;omega) (show la.length+1=0+1 by have:=HLM.out;omega) hB HK.out K6.out HO3.out);go_roundw
          case rel=>exact⟨k+1,by omega,by go_num,by first | exact HX | (simpa using HX)⟩
          case measure=>simp[intOf];omega
        · have e1:oa=some ⟨g,0,none⟩:=by injection e0
          subst e1;clear e0;subst hqe;by_cases hqc:oc=q
          · have hqe2:q=oc:=hqc.symm;clear hqc;subst hqe2;have HW1:=lH (zS wr wr.heap.size 1 9 (Nat.le_refl _));have HA1:=lH ((jh.upto (HRW.out.kept (ja wr (.cells #[] 9))) hq).src (cap:=q));have hc1:=YF (l:=la.take q) (n:=q) (by rw[List.length_take,HLM.out];omega);go_wp2_with (at_builtin;first
             | (refine jy kindStr _ rfl (.tmp 57) (.tmp 60) rfl wr.heap.size (by simp) wr.heap.size 0 0 [] rfl HW1.out _ q (jd jl (la.take q)) rfl hc1 (YD _) HA1.out (by omega) (by omega) ?_;intro g1 c1 w4 ho1 hx1 hg1;have HO1:=lH (show w4.ownsRow wr.heap.size 9 1 (.slice (some ⟨g1,0,none⟩) q c1) q (jd jl (la.take q)) from by simpa using ho1);have K4:=lH (show Kept wr w4 from Below.trans (ja wr (.cells #[] 9)) hx1);try simp only[Nat.zero_add];clear ho1 hx1 hg1)
             | (refine jy kindStr _ rfl (.tmp 61) (.tmp 63) rfl wr.heap.size (by have:=K4.out.size;simp;omega) g1 q c1 (jd jl (la.take q)) rfl (YI HO1.out _) _ 1 [.string d] rfl rfl (ZV d) (X1 rfl (World.alloc_heap_new w4 _)) (by omega) (by omega) ?_;intro g2 c2 w5 ho2 hx2 hg2;have K5:=lH (show Kept wr w5 from Below.trans (Below.trans K4.out (Below.mono (ja w4 _) K4.out.size)) hx2);have HO2:=lH ho2;clear ho2 hx2 hg2)
             | (refine jy kindStr _ rfl (.tmp 65) (.tmp 68) rfl wr.heap.size K5.out.size g2 (q+1) c2 (jd jl (la.take q)++[.string d]) rfl HO2.out _ 0 [] rfl rfl (by intro u hu;cases hu) (.inl ⟨_,_,rfl,by intro j u hu;simp at hu⟩) (by omega) (by omega) ?_;intro g3 c3 w6 ho3 hx3 hg3;have K6:=lH (show Kept wr w6 from Below.trans K5.out hx3);have HO3:=lH ho3;clear ho3 hx3 hg3))
            have HO3:=lH (show w6.ownsRow wr.heap.size 9 1 (.slice (some ⟨g3,0,none⟩) (q+1) c3) (q+1) (jd jl (la.take q)++[.string d]++jd jl (la.drop q)) from by
             rw[List.drop_of_length_le (show la.length≤q by rw[HLM.out];omega)];have h:=HO3.out;simpa [jd] using h)
            have HX:=lH (Xw.more (B:=Z.heap.size) (q:=q) HNN.out HGO.out HDS.out HR.out HLK.out HM.out HO.out.2 HQ.out (fun x hx=>by rw[List.drop_of_length_le (by rw[HLM.out];omega)] at hx;cases hx) (by have:=HLM.out;omega) (show la.length+1=q+1 by have:=HLM.out;omega) hB HK.out K6.out HO3.out);go_roundw
            case rel=>exact⟨k+1,by omega,by go_num,by first | exact HX | (simpa using HX)⟩
            case measure=>simp[intOf];omega
          · skip;have HW1:=lH (zS wr wr.heap.size 1 9 (Nat.le_refl _));have HA1:=lH ((jh.upto (HRW.out.kept (ja wr (.cells #[] 9))) hq).src (cap:=oc));have hc1:=YF (l:=la.take q) (n:=q) (by rw[List.length_take,HLM.out];omega);go_wp2_with (at_builtin;first
             | (refine jy kindStr _ rfl (.tmp 57) (.tmp 60) rfl wr.heap.size (by simp) wr.heap.size 0 0 [] rfl HW1.out _ q (jd jl (la.take q)) rfl hc1 (YD _) HA1.out (by omega) (by omega) ?_;intro g1 c1 w4 ho1 hx1 hg1;have HO1:=lH (show w4.ownsRow wr.heap.size 9 1 (.slice (some ⟨g1,0,none⟩) q c1) q (jd jl (la.take q)) from by simpa using ho1);have K4:=lH (show Kept wr w4 from Below.trans (ja wr (.cells #[] 9)) hx1);try simp only[Nat.zero_add];clear ho1 hx1 hg1)
             | (refine jy kindStr _ rfl (.tmp 61) (.tmp 63) rfl wr.heap.size (by have:=K4.out.size;simp;omega) g1 q c1 (jd jl (la.take q)) rfl (YI HO1.out _) _ 1 [.string d] rfl rfl (ZV d) (X1 rfl (World.alloc_heap_new w4 _)) (by omega) (by omega) ?_;intro g2 c2 w5 ho2 hx2 hg2;have K5:=lH (show Kept wr w5 from Below.trans (Below.trans K4.out (Below.mono (ja w4 _) K4.out.size)) hx2);have HO2:=lH ho2;clear ho2 hx2 hg2)
             | (refine jy kindStr _ rfl (.tmp 65) (.tmp 68) rfl wr.heap.size K5.out.size g2 (q+1) c2 (jd jl (la.take q)++[.string d]) rfl HO2.out _ 0 [] rfl rfl (by intro u hu;cases hu) (.inl ⟨_,_,rfl,by intro j u hu;simp at hu⟩) (by omega) (by omega) ?_;intro g3 c3 w6 ho3 hx3 hg3;have K6:=lH (show Kept wr w6 from Below.trans K5.out hx3);have HO3:=lH ho3;clear ho3 hx3 hg3))
            have HO3:=lH (show w6.ownsRow wr.heap.size 9 1 (.slice (some ⟨g3,0,none⟩) (q+1) c3) (q+1) (jd jl (la.take q)++[.string d]++jd jl (la.drop q)) from by
             rw[List.drop_of_length_le (show la.length≤q by rw[HLM.out];omega)];have h:=HO3.out;simpa [jd] using h)
            have HX:=lH (Xw.more (B:=Z.heap.size) (q:=q) HNN.out HGO.out HDS.out HR.out HLK.out HM.out HO.out.2 HQ.out (fun x hx=>by rw[List.drop_of_length_le (by rw[HLM.out];omega)] at hx;cases hx) (by have:=HLM.out;omega) (show la.length+1=q+1 by have:=HLM.out;omega) hB HK.out K6.out HO3.out);go_roundw
            case rel=>exact⟨k+1,by omega,by go_num,by first | exact HX | (simpa using HX)⟩
            case measure=>simp[intOf];omega
  · have hge:¬(k:Int)<(n1:Int):=by omega
    have HE:=lH (show la=ZU key nodes from jgP HR.out fun x=>by rw[HM.out,List.take_of_length_le (by rw[HNL.out];omega)]);go_wp2;go_ret;exact⟨_,rfl,by rw[←HE.out];exact HO.out.base_le HKZ.out.size,HKZ.out.trans HK.out⟩
theorem jbB {key e:ByteArray} {nodes:List Nod}:JN key e nodes=true↔e ∈ ZU key nodes:=by
 rw[jgw];unfold JN;rw[List.any_eq_true];exact⟨fun ⟨n,hn,h⟩=>⟨n,hn,of_decide_eq_true h⟩,fun ⟨n,hn,h⟩=>⟨n,hn,decide_eq_true h⟩⟩
def ZD (p:Pd) (s:Clu) (d:ByteArray) (i z:Nat):Prop:=z≤inD p s.pods d s.nodes+1∧(∀e ∈ (ZU p.key s.nodes).take i,z≤inD p s.pods e s.nodes+(if e=d then 1 else 0))∧(z=inD p s.pods d s.nodes+1∨∃e ∈ (ZU p.key s.nodes).take i,z=inD p s.pods e s.nodes+(if e=d then 1 else 0))
theorem ZD.same {p:Pd} {s:Clu} {d e:ByteArray} {i z:Nat} (h:ZD p s d i z) (he:(ZU p.key s.nodes)[i]?=some e) (hz:z≤inD p s.pods e s.nodes+(if e=d then 1 else 0)):ZD p s d (i+1) z:=by
 obtain⟨h1,h2,h3⟩:=h;refine⟨h1,fun x hx=>?_,h3.imp id fun ⟨x,hx,e2⟩=>⟨x,by rw[List.take_add_one];exact List.mem_append_left _ hx,e2⟩⟩;rw[List.take_add_one,he] at hx;rcases List.mem_append.1 hx with hx | hx
 · exact h2 x hx
 · rcases List.mem_singleton.1 hx with rfl;exact hz
theorem ZD.less {p:Pd} {s:Clu} {d e:ByteArray} {i z y:Nat} (h:ZD p s d i z) (he:(ZU p.key s.nodes)[i]?=some e) (hy:y=inD p s.pods e s.nodes+(if e=d then 1 else 0)) (hz:y≤z):ZD p s d (i+1) y:=by
 obtain⟨h1,h2,h3⟩:=h;refine⟨by omega,fun x hx=>?_,.inr ⟨e,by rw[List.take_add_one,he];exact List.mem_append_right _ (by simp),hy⟩⟩;rw[List.take_add_one,he] at hx;rcases List.mem_append.1 hx with hx | hx
 · exact Nat.le_trans hz (h2 x hx)
 · rcases List.mem_singleton.1 hx with rfl;omega
theorem ZD.end_ {p:Pd} {s:Clu} {name d:ByteArray} {i z c:Nat} (h:ZD p s d i z) (hi:(ZU p.key s.nodes).length≤i) (hk:Jn p.key=false) (hd:domV p.key name s.nodes=some d) (hc:inD p s.pods d s.nodes=c):zA p s name=(((c+1:Nat):Int)-(z:Int),true):=by
 obtain⟨h1,h2,h3⟩:=h;rw[List.take_of_length_le hi] at h2 h3;have hl:ZH p s.pods s.nodes d s.nodes (inD p s.pods d s.nodes+1)=z:=ja4 (Yy hd) rfl (fun e he=>h2 e (jbB.1 he)) (by
  rcases h3 with h3 | ⟨e,he,h3⟩
  · exact⟨d,Yy hd,by rw[if_pos rfl];exact h3⟩
  · exact⟨e,jbB.2 he,h3⟩)
 unfold zA ZI;rw[if_neg (by rw[hk];decide),hd];dsimp only;rw[hl,hc]
theorem je1 (s1 s2 s3:Option Addr) (n1 e1 n2 e2 n3 e3:Nat) (a1 a2 a3 a4:Option Addr) (m1 c1 m2 c2 m3 c3 m4 c4:Nat) (p:Pd) (s:Clu) (name:ByteArray) (w:World) (hn:ju w s1 n1 s.nodes) (hp:jC w s2 n2 s.pods) (hb1:n1≤100000) (hb2:n2≤100000) (ha:Z7 s.nodes) (hk:∀n ∈ s.nodes,jY n=0):Calls Tryz.prog 57 #[.agg #[.slice s1 n1 e1,.slice s2 n2 e2,.slice s3 n3 e3],jv p (.slice a1 m1 c1) (.slice a2 m2 c2) (.slice a3 m3 c3) (.slice a4 m4 c4),.string name] w (Say (.tuple #[.int .i64 (zA p s name).1,.bool (zA p s name).2]) w):=by
 obtain⟨Z,hZ⟩:∃Z,(w.alloc (.cells #[.slice s1 n1 e1,.slice s2 n2 e2,.slice s3 n3 e3] 56)).alloc (.cells #[.string p.name,.string p.owner,.int .i64 p.prio,.slice a1 m1 c1,.slice a2 m2 c2,.slice a3 m3 c3,.slice a4 m4 c4,.string p.key,.int .i64 p.most,.string p.node,.bool p.hold] 50)=Z:=⟨_,rfl⟩
 have hkz:Kept w Z:=by rw[←hZ];exact jn _ _ _
 have HB1:=lH (jc w (.slice s1 n1 e1) [.slice s2 n2 e2,.slice s3 n3 e3] 56 Z (by rw[←hZ];exact ja _ _));have HB2:=lH (show je (w.heap.size+1) [.string p.name,.string p.owner,.int .i64 p.prio,.slice a1 m1 c1,.slice a2 m2 c2,.slice a3 m3 c3,.slice a4 m4 c4,.string p.key,.int .i64 p.most,.string p.node,.bool p.hold] Z by
  have dd:=jc (w.alloc (.cells #[.slice s1 n1 e1,.slice s2 n2 e2,.slice s3 n3 e3] 56)) (.string p.name) [.string p.owner,.int .i64 p.prio,.slice a1 m1 c1,.slice a2 m2 c2,.slice a3 m3 c3,.slice a4 m4 c4,.string p.key,.int .i64 p.most,.string p.node,.bool p.hold] 50 Z (by rw[hZ];exact Kept.refl _);rw[World.size_alloc] at dd;exact dd)
 have HKZ:=lH hkz;have HN:=lH (hn.kept hkz);have HP:=lH (hp.kept hkz);have HPL:=lH hp.1;have HAS:=lH ha;have HCK:=lH hk;clear hn hp hkz ha hk;obtain⟨t0,h0⟩:∃t,(p.key.toList==([]:List UInt8))=t:=⟨_,rfl⟩
 have T0:=lH (show Jn p.key=t0 by rw[Jk,h0]);have y0:=HB1.out.at_ 0 _ rfl;have y1:=HB1.out.at_ 1 _ rfl;have y2:=HB1.out.at_ 2 _ rfl;have r0:=HB2.out.at_ 0 _ rfl;have r1:=HB2.out.at_ 1 _ rfl;have r2:=HB2.out.at_ 2 _ rfl;have r3:=HB2.out.at_ 3 _ rfl;have r4:=HB2.out.at_ 4 _ rfl;have r5:=HB2.out.at_ 5 _ rfl;have r6:=HB2.out.at_ 6 _ rfl;have r7:=HB2.out.at_ 7 _ rfl;have r8:=HB2.out.at_ 8 _ rfl;have r9:=HB2.out.at_ 9 _ rfl;have r10:=HB2.out.at_ 10 _ rfl;unfold jv;go_enter Tryz.func57,Tryz.ntmps57
 cases t0 with
 | true =>
  have HV:=lH (show zA p s name=(0,true) by unfold zA;rw[if_pos T0.out]);go_wp2;try rw[hZ]
  go_ret2
  rw[HV.out];exact⟨rfl,by first | exact HKZ.out | (rw[hZ];exact HKZ.out)⟩
 | false =>
  go_upto_region 3 with fail
  try rw[hZ]
  clear hZ;go_wp2_with fail
  refine(YG s1 n1 e1 s.nodes name Z HN.out).mono ?_;rintro e wy ⟨v,rfl,hv,kk⟩;obtain⟨b1,k1,d1,b2,k2,d2,b3,k3,d3,rfl,hat⟩:=hv.spelt;obtain⟨fo,hfo⟩:∃fo,jm s.nodes name=fo:=⟨_,rfl⟩
  rw[hfo] at hat;rw[hfo];have HFO:=lH hfo;obtain⟨nd,hnd⟩:∃nd,fo.getD Nod.zero=nd:=⟨_,rfl⟩
  rw[hnd] at hat;rw[hnd];have HND:=lH hnd;clear hfo hnd hv;obtain⟨wz,hwz⟩:∃W,wy.alloc (.cells #[.string nd.name,.slice b1 k1 d1,.slice b2 k2 d2,.slice b3 k3 d3,.bool nd.cordon] 107)=W:=⟨_,rfl⟩
  have kz:Kept wy wz:=by rw[←hwz];exact ja _ _
  have HNB:=lH (jc wy (.string nd.name) [.slice b1 k1 d1,.slice b2 k2 d2,.slice b3 k3 d3,.bool nd.cordon] 107 wz (by rw[hwz];exact Kept.refl _));have HAT:=lH (hat.kept kz);have HWZ:=lH hwz;obtain⟨bn,hbn⟩:∃z,wy.heap.size=z:=⟨_,rfl⟩
  rw[hbn] at HNB;have HBN:=lH hbn;have K:=lH (kk.trans kz);have HB1:=lH (HB1.out.kept (kk.trans kz));have HB2:=lH (HB2.out.kept (kk.trans kz));clear kk kz hat hwz hbn y0 y1 y2 r0 r1 r2 r3 r4 r5 r6 r7 r8 r9 r10;go_upto_region 4 with fail
  try rw[HWZ.out]
  try rw[HBN.out]
  clear HWZ HBN;have z0:=HNB.out.at_ 0 _ rfl;have z1:=HNB.out.at_ 1 _ rfl;have z2:=HNB.out.at_ 2 _ rfl;have z3:=HNB.out.at_ 3 _ rfl;have z4:=HNB.out.at_ 4 _ rfl;have r7:=HB2.out.at_ 7 _ rfl;obtain⟨go,hgo⟩:∃g,jO nd.labels p.key=g:=⟨_,rfl⟩
  have HGO:=lH hgo;have HLB:=lH (jeK (key:=p.key) (x:=go.getD ByteArray.empty) (b:=go.isSome) HAT.out.labels (by unfold Za;rw[hgo]) (by unfold JB;rw[hgo]));clear hgo;go_wp2_with fail
  refine HLB.out.mono ?_;rintro e wv ⟨rfl,rfl⟩;clear HLB z0 z1 z2 z3 z4 r7;have HDV:=lH (show domV p.key name s.nodes=fo.bind fun n=>jO n.labels p.key from by rw[XN,HFO.out])
  cases fo with
  | none =>
   have HV:=lH (show zA p s name=(0,false) by unfold zA;rw[if_neg (by rw[T0.out];decide),show domV p.key name s.nodes=none from HDV.out]);go_wp2;go_ret2
   rw[HV.out];exact⟨rfl,HKZ.out.trans K.out⟩
  | some n0 =>
   have HDV:=lH (show domV p.key name s.nodes=go from by rw[HDV.out,←HGO.out,←HND.out];rfl)
   cases go with
   | none =>
    have HV:=lH (show zA p s name=(0,false) by unfold zA;rw[if_neg (by rw[T0.out];decide),show domV p.key name s.nodes=none from HDV.out]);go_wp2;go_ret2
    rw[HV.out];exact⟨rfl,HKZ.out.trans K.out⟩
   | some d =>
    have y0:=HB1.out.at_ 0 _ rfl;have y1:=HB1.out.at_ 1 _ rfl;have y2:=HB1.out.at_ 2 _ rfl;have r0:=HB2.out.at_ 0 _ rfl;have r1:=HB2.out.at_ 1 _ rfl;have r2:=HB2.out.at_ 2 _ rfl;have r3:=HB2.out.at_ 3 _ rfl;have r4:=HB2.out.at_ 4 _ rfl;have r5:=HB2.out.at_ 5 _ rfl;have r6:=HB2.out.at_ 6 _ rfl;have r7:=HB2.out.at_ 7 _ rfl;have r8:=HB2.out.at_ 8 _ rfl;have r9:=HB2.out.at_ 9 _ rfl;have r10:=HB2.out.at_ 10 _ rfl;obtain⟨c,hc⟩:∃c,inD p s.pods d s.nodes=c:=⟨_,rfl⟩
    have HC:=lH hc;have hcb:c≤100000:=by have:=jeU (p:=p) (d:=d) HAS.out s.pods;rw[hc,HPL.out] at this;omega
    have HCT:=qX s1 s2 s3 n1 e1 n2 e2 n3 e3 a1 a2 a3 a4 m1 c1 m2 c2 m3 c3 m4 c4 p s d wz (HN.out.kept K.out) (HP.out.kept K.out) hb2 HAS.out HCK.out;rw[hc] at HCT;unfold jv at HCT;have HCT:=lH HCT;clear hc;obtain⟨cc,hcc⟩:∃q,c+1=q:=⟨_,rfl⟩
    have hadd:(c:Int)+1=(cc:Int):=by omega
    have haw:IntKind.i64.wrap (cc:Int)=(cc:Int):=IntWalk.i64_in _ (by omega);have HCC:=lH hcc;clear hcc;go_wp2_with fail
    refine HCT.out.mono ?_;rintro e w3 ⟨rfl,kk⟩;clear HCT y0 y1 y2 r0 r1 r2 r3 r4 r5 r6 r7 r8 r9 r10;have HB1:=lH (HB1.out.kept kk);have HB2:=lH (HB2.out.kept kk);have K:=lH (K.out.trans kk);clear kk;have y0:=HB1.out.at_ 0 _ rfl;have y1:=HB1.out.at_ 1 _ rfl;have y2:=HB1.out.at_ 2 _ rfl;have r7:=HB2.out.at_ 7 _ rfl;go_wp2_with fail
    refine(jbN s1 s2 s3 n1 e1 n2 e2 n3 e3 s.nodes p.key w3 (HN.out.kept K.out) hb1).mono ?_;rintro e w4 ⟨v9,rfl,ho,kk⟩;have HB1:=lH (HB1.out.kept kk);have HB2:=lH (HB2.out.kept kk);have K:=lH (K.out.trans kk);obtain⟨la,lc,rfl,-,-,hrow⟩:=ho.reads;obtain⟨m,hm⟩:∃m,(ZU p.key s.nodes).length=m:=⟨_,rfl⟩
    rw[hm] at hrow;try rw[hm]
    have HRW:=lH hrow;have HM:=lH hm;have hmx:=hrow.2.1;unfold maxLen at hmx;clear kk ho hrow hm r7 y0 y1 y2;go_wp2;go_loopw [13,15] (fun lv iv wr=>∃i z:Nat,i≤m∧iv=.int .i64 i∧lv=.int .i64 z∧Hid (ZD p s d i z∧Kept w4 wr)) (fun _ iv _=>m-(intOf iv).toNat)
    case atStart=>exact⟨0,cc,Nat.zero_le _,rfl,rfl,⟨by rw[HC.out,HCC.out];exact Nat.le_refl _,(fun e he=>by simp at he),.inl (by rw[HC.out,HCC.out])⟩,Kept.refl _⟩
    case round =>
     obtain⟨i,z,hi9,rfl,rfl,HH⟩:=hrel;have HLI:=lH HH.out.1;have HK:=lH HH.out.2;clear HH;have hzc:z≤cc:=by have:=HLI.out.1;rw[HC.out,HCC.out] at this;exact this
     by_cases hlt:i<m
     · obtain⟨bl,ol,rfl⟩:=HRW.out.form.resolve_left (by omega);obtain⟨x,hx,-,hxb,hxs,cx⟩:=(HRW.out.kept HK.out).str hlt;have HXX:=lH hx;have CXX:=lH cx;have hkk:(i:Int)<(m:Int):=by omega
       have hk0:¬(i:Int)<0:=by omega
       clear hx cx hxb;have HS1:=lH (HB1.out.kept HK.out);have HS2:=lH (HB2.out.kept HK.out);have HF:=lH (show ∀W,Kept wr W→W.cell? ⟨w.heap.size,0,none⟩=some (.slice s1 n1 e1)∧W.cell? ⟨w.heap.size,1,none⟩=some (.slice s2 n2 e2)∧W.cell? ⟨w.heap.size,2,none⟩=some (.slice s3 n3 e3)∧W.cell? ⟨w.heap.size+1,0,none⟩=some (.string p.name)∧W.cell? ⟨w.heap.size+1,1,none⟩=some (.string p.owner)∧W.cell? ⟨w.heap.size+1,2,none⟩=some (.int .i64 p.prio)∧W.cell? ⟨w.heap.size+1,3,none⟩=some (.slice a1 m1 c1)∧W.cell? ⟨w.heap.size+1,4,none⟩=some (.slice a2 m2 c2)∧W.cell? ⟨w.heap.size+1,5,none⟩=some (.slice a3 m3 c3)∧W.cell? ⟨w.heap.size+1,6,none⟩=some (.slice a4 m4 c4)∧W.cell? ⟨w.heap.size+1,7,none⟩=some (.string p.key)∧W.cell? ⟨w.heap.size+1,8,none⟩=some (.int .i64 p.most)∧W.cell? ⟨w.heap.size+1,9,none⟩=some (.string p.node)∧W.cell? ⟨w.heap.size+1,10,none⟩=some (.bool p.hold)∧W.cell? ⟨bl,ol+i,none⟩=some (.string x) from fun W k=>by
        have h1:=HS1.out.kept k;have h2:=HS2.out.kept k;exact⟨h1.at_ 0 _ rfl,h1.at_ 1 _ rfl,h1.at_ 2 _ rfl,h2.at_ 0 _ rfl,h2.at_ 1 _ rfl,h2.at_ 2 _ rfl,h2.at_ 3 _ rfl,h2.at_ 4 _ rfl,h2.at_ 5 _ rfl,h2.at_ 6 _ rfl,h2.at_ 7 _ rfl,h2.at_ 8 _ rfl,h2.at_ 9 _ rfl,h2.at_ 10 _ rfl,cell_later k CXX.out⟩)
       obtain⟨y,hy⟩:∃y,inD p s.pods x s.nodes=y:=⟨_,rfl⟩
       have HY:=lH hy;have HCT:=lH (show ∀W,Kept wr W→Calls Tryz.prog 92 #[.agg #[.slice s1 n1 e1,.slice s2 n2 e2,.slice s3 n3 e3],.agg #[.string p.name,.string p.owner,.int .i64 p.prio,.slice a1 m1 c1,.slice a2 m2 c2,.slice a3 m3 c3,.slice a4 m4 c4,.string p.key,.int .i64 p.most,.string p.node,.bool p.hold],.string x] W (Say (.int .i64 y) W) from fun W k=>by
        have h:=qX s1 s2 s3 n1 e1 n2 e2 n3 e3 a1 a2 a3 a4 m1 c1 m2 c2 m3 c3 m4 c4 p s x W (HN.out.kept (K.out.trans (HK.out.trans k))) (HP.out.kept (K.out.trans (HK.out.trans k))) hb2 HAS.out HCK.out;rw[hy] at h;exact h)
       clear hy;go_upto_region 13 with fail
       have J:=lH (Kept.drew wr);refine wp_region_held_drew (S:=fun W=>W.cell? ⟨w.heap.size,0,none⟩=some (.slice s1 n1 e1)∧W.cell? ⟨w.heap.size,1,none⟩=some (.slice s2 n2 e2)∧W.cell? ⟨w.heap.size,2,none⟩=some (.slice s3 n3 e3)∧W.cell? ⟨w.heap.size+1,0,none⟩=some (.string p.name)∧W.cell? ⟨w.heap.size+1,1,none⟩=some (.string p.owner)∧W.cell? ⟨w.heap.size+1,2,none⟩=some (.int .i64 p.prio)∧W.cell? ⟨w.heap.size+1,3,none⟩=some (.slice a1 m1 c1)∧W.cell? ⟨w.heap.size+1,4,none⟩=some (.slice a2 m2 c2)∧W.cell? ⟨w.heap.size+1,5,none⟩=some (.slice a3 m3 c3)∧W.cell? ⟨w.heap.size+1,6,none⟩=some (.slice a4 m4 c4)∧W.cell? ⟨w.heap.size+1,7,none⟩=some (.string p.key)∧W.cell? ⟨w.heap.size+1,8,none⟩=some (.int .i64 p.most)∧W.cell? ⟨w.heap.size+1,9,none⟩=some (.string p.node)∧W.cell? ⟨w.heap.size+1,10,none⟩=some (.bool p.hold)∧W.cell? ⟨bl,ol+i,none⟩=some (.string x)) (by kernel_rfl) (HF.out _ J.out) (fun hHeld=>?_);obtain⟨wd,hwd⟩:∃W,wr.drew=W:=⟨_,rfl⟩
       rw[hwd] at J hHeld;try rw[hwd]
       clear hwd;refine wpAnyH_take  (i:=0) (v:=?_) (by rw[List.getElem?_toArray];exact rfl) (by kernel_rfl) (by kernel_rfl) (by kernel_rfl) (by exact fun _ _ _ h=>h) (Or.inl ⟨by rfl,(by rintro W ⟨o0,o1,o2,o3,o4,o5,o6,o7,o8,o9,o10,o11,o12,o13,o14⟩;go_simp<;>with_reducible rfl)⟩) (by assumption) ?_;try simp only  [Act.put,List.setIfInBounds_toArray,List.set_cons_zero,List.set_cons_succ]
       refine wpAnyH_take  (i:=1) (v:=?_) (by rw[List.getElem?_toArray];exact rfl) (by kernel_rfl) (by kernel_rfl) (by kernel_rfl) (by exact fun _ _ _ h=>h) (Or.inl ⟨by rfl,(by rintro W ⟨o0,o1,o2,o3,o4,o5,o6,o7,o8,o9,o10,o11,o12,o13,o14⟩;go_simp<;>with_reducible rfl)⟩) (by assumption) ?_;try simp only  [Act.put,List.setIfInBounds_toArray,List.set_cons_zero,List.set_cons_succ]
       refine wpAnyH_take  (i:=2) (v:=?_) (by rw[List.getElem?_toArray];exact rfl) (by kernel_rfl) (by kernel_rfl) (by kernel_rfl) (by exact fun _ _ _ h=>h) (Or.inl ⟨by rfl,(by rintro W ⟨o0,o1,o2,o3,o4,o5,o6,o7,o8,o9,o10,o11,o12,o13,o14⟩;go_simp<;>with_reducible rfl)⟩) (by assumption) ?_;try simp only  [Act.put,List.setIfInBounds_toArray,List.set_cons_zero,List.set_cons_succ]
       refine wpAnyH_take  (i:=3) (v:=?_) (by rw[List.getElem?_toArray];exact rfl) (by kernel_rfl) (by kernel_rfl) (by kernel_rfl) (by exact fun _ _ _ h=>h) (Or.inl ⟨by rfl,(by rintro W ⟨o0,o1,o2,o3,o4,o5,o6,o7,o8,o9,o10,o11,o12,o13,o14⟩;go_simp<;>with_reducible rfl)⟩) (by assumption) ?_;try simp only  [Act.put,List.setIfInBounds_toArray,List.set_cons_zero,List.set_cons_succ]
       refine wpAnyH_take  (i:=4) (v:=?_) (by rw[List.getElem?_toArray];exact rfl) (by kernel_rfl) (by kernel_rfl) (by kernel_rfl) (by exact fun _ _ _ h=>h) (Or.inl ⟨by rfl,(by rintro W ⟨o0,o1,o2,o3,o4,o5,o6,o7,o8,o9,o10,o11,o12,o13,o14⟩;go_simp<;>with_reducible rfl)⟩) (by assumption) ?_;try simp only  [Act.put,List.setIfInBounds_toArray,List.set_cons_zero,List.set_cons_succ]
       refine wpAnyH_take  (i:=5) (v:=?_) (by rw[List.getElem?_toArray];exact rfl) (by kernel_rfl) (by kernel_rfl) (by kernel_rfl) (by exact fun _ _ _ h=>h) (Or.inl ⟨by rfl,(by rintro W ⟨o0,o1,o2,o3,o4,o5,o6,o7,o8,o9,o10,o11,o12,o13,o14⟩;go_simp<;>with_reducible rfl)⟩) (by assumption) ?_;try simp only  [Act.put,List.setIfInBounds_toArray,List.set_cons_zero,List.set_cons_succ]
       refine wpAnyH_ready  (rs:=[6]) (by kernel_rfl) (by simp) (AllReadyH.cons  (by rw[List.getElem?_toArray];exact rfl) (fun K9 hK9=>?_) AllReadyH.nil);go_simp;refine(HCT.out _ J.out).mono ?_;rintro e wc ⟨rfl,kk⟩;have J:=lH (J.out.trans kk);clear kk HCT;refine hK9.out _ _ (HF.out _ J.out) (fun hHeld1=>?_);clear hK9 K9;try simp only  [Act.put,List.setIfInBounds_toArray,List.set_cons_zero,List.set_cons_succ]
       refine wpAnyH_take  (i:=7) (v:=?_) (by rw[List.getElem?_toArray];exact rfl) (by kernel_rfl) (by kernel_rfl) (by kernel_rfl) (by exact fun _ _ _ h=>h) (Or.inl ⟨by rfl,(by rintro W ⟨o0,o1,o2,o3,o4,o5,o6,o7,o8,o9,o10,o11,o12,o13,o14⟩;go_simp<;>with_reducible rfl)⟩) (by assumption) ?_;try simp only  [Act.put,List.setIfInBounds_toArray,List.set_cons_zero,List.set_cons_succ]
       refine wpAnyH_done (by kernel_rfl) ?_ _;have cx:=cell_later J.out CXX.out;obtain⟨t,ht⟩:∃t,(x.toList==d.toList)=t:=⟨_,rfl⟩
       have htb:(x.toList != d.toList)=!t:=by rw[←ht];rfl
       have HT:=lH (show eqS x d=t from ht)
       cases t with
       | true =>
        have HL2:=lH (HLI.out.same HXX.out (by rw[za.1 HT.out,if_pos rfl];exact HLI.out.1));go_wp2;go_roundw
        case rel=>exact⟨i+1,z,by omega,by go_num,rfl,HL2.out,HK.out.trans J.out⟩
        case measure=>simp[intOf];omega
       | false =>
        have hne:¬x=d:=fun e=>by have:=HT.out;rw[e,Zu] at this;cases this
        by_cases hyz:y<z
        · have HL2:=lH (HLI.out.less HXX.out (by rw[HY.out,if_neg hne];rfl) (Nat.le_of_lt hyz));clear hne;go_wp2;go_roundw
          case rel=>exact⟨i+1,y,by omega,by go_num,rfl,HL2.out,HK.out.trans J.out⟩
          case measure=>simp[intOf];omega
        · have HL2:=lH (HLI.out.same HXX.out (by rw[HY.out,if_neg hne];omega));clear hne;go_wp2;go_roundw
          case rel=>exact⟨i+1,z,by omega,by go_num,rfl,HL2.out,HK.out.trans J.out⟩
          case measure=>simp[intOf];omega
     · have hge:¬(i:Int)<(m:Int):=by omega
       have HV:=lH (HLI.out.end_ (by rw[HM.out];omega) T0.out HDV.out HC.out);obtain⟨r,hr⟩:∃r:Nat,(cc:Int)-(z:Int)=(r:Int):=⟨cc-z,by omega⟩
       have hrw:IntKind.i64.wrap (r:Int)=(r:Int):=IntWalk.i64_in _ (by omega);have HV2:=lH (show zA p s name=((r:Int),true) by rw[HV.out,HCC.out,hr]);go_wp2;go_ret2
       rw[HV2.out];exact⟨rfl,HKZ.out.trans (K.out.trans HK.out)⟩
theorem jx.with' {w:World} {v1 v2 v3 u:Value} {s:Clu} {l:List Pd} (h:jx w (Jm v1 v2 v3) s) (g:zU w u l):jx w (Jm v1 u v3) { s with pods:=l }:=by
 obtain⟨_,_,_,e,g0⟩:=h
 cases e
 exact⟨_,_,_,rfl,⟨g0.nodes,g,g0.buds⟩⟩
theorem jx.podsAt {w:World} {v1 v3:Value} {b:Option Addr} {m cp:Nat} {s:Clu} (h:jx w (Jm v1 (.slice b m cp) v3) s):jC w b m s.pods:=by
 obtain⟨_,_,_,e,g0⟩:=h
 cases e
 exact jf9 g0.pods
theorem zU.shape {w:World} {v:Value} {l:List Pd} (h:zU w v l):∃a m c,v=.slice a m c∧m≤c∧c≤maxLen∧l.length=m:=by
 obtain⟨a,c,e,h1,h2,-⟩:=h;exact⟨a,_,c,e,h1,h2,rfl⟩
theorem jhO {v u:Value} {s:Clu} {l:List Pd} {w:World} (h:jx w v s) (g:zU w u l):Calls Tryz.prog 89 #[v,u] w (jbV { s with pods:=l } w):=by
 have h0:=h;obtain⟨v1,v2,v3,rfl,⟨a,cap,rfl,-,-,-⟩,⟨b,cp,rfl,-,-,-⟩,⟨d,cb,rfl,-,-,-⟩⟩:=h0;obtain⟨len,hl1⟩:∃q,s.nodes.length=q:=⟨_,rfl⟩
 obtain⟨m,hl2⟩:∃q,s.pods.length=q:=⟨_,rfl⟩
 obtain⟨n,hl3⟩:∃q,s.buds.length=q:=⟨_,rfl⟩
 rw[hl1,hl2,hl3] at h ⊢;clear hl1 hl2 hl3;obtain⟨b9,m9,c9,rfl,-,-,-⟩:=g.shape;obtain⟨Z,hZ⟩:∃Z,(w.alloc (.cells #[.slice a len cap,.slice b m cp,.slice d n cb] 56)).alloc (.cells #[.slice none 0 0,.slice none 0 0,.slice none 0 0] 56)=Z:=⟨_,rfl⟩
 have hkz:Kept w Z:=by rw[←hZ];exact jn _ _ _
 have HQ:=lH (show je w.heap.size [.slice a len cap,.slice b m cp,.slice d n cb] Z from jc w (.slice a len cap) [.slice b m cp,.slice d n cb] 56 Z (by rw[←hZ];exact ja _ _));have HH:=lH (show je (w.heap.size+1) [.slice none 0 0,.slice none 0 0,.slice none 0 0] Z by
  have dd:=jc (w.alloc (.cells #[.slice a len cap,.slice b m cp,.slice d n cb] 56)) (.slice none 0 0) [.slice none 0 0,.slice none 0 0] 56 Z (by rw[hZ];exact Kept.refl _);rw[World.size_alloc] at dd;exact dd)
 have HSL:=lH (show ∀W,Kept Z W→ZX W (w.heap.size+1) from fun W k=>by
  have hh:Z.heap[w.heap.size+1]?=some (.cells #[.slice none 0 0,.slice none 0 0,.slice none 0 0] 56):=by
   have:=(w.alloc (.cells #[.slice a len cap,.slice b m cp,.slice d n cb] 56)).alloc_heap_new (.cells #[.slice none 0 0,.slice none 0 0,.slice none 0 0] 56);rw[World.size_alloc,hZ] at this;exact this
  exact jG ((k.block _ (Array.getElem?_eq_some_iff.1 hh).1).trans hh))
 have HV:=lH (h.kept hkz);have HKZ:=lH hkz;have HG:=lH (g.kept hkz);clear h g hkz;have cq0:=(HQ.out.kept (Kept.refl _)).at_ 0 _ rfl;have cq1:=(HQ.out.kept (Kept.refl _)).at_ 1 _ rfl;have cq2:=(HQ.out.kept (Kept.refl _)).at_ 2 _ rfl;go_enter Tryz.func89,Tryz.ntmps89;go_upto_region 1 with fail
 try rw[hZ]
 clear hZ;have H9:=lH (HH.out.kept (Kept.refl _));have z0:=H9.out.at_ 0 _ rfl;have z1:=H9.out.at_ 1 _ rfl;have z2:=H9.out.at_ 2 _ rfl;have f0:=H9.out.free 0;have f1:=H9.out.free 1;have f2:=H9.out.free 2;have PP:=lH (jL (vs:=[.slice a len cap,.slice b9 m9 c9,.slice d n cb]) H9.out rfl);go_wp2;obtain⟨WE,hWE⟩:∃V,Z.setCells (w.heap.size+1) 0 [.slice a len cap,.slice b9 m9 c9,.slice d n cb]=V:=⟨_,rfl⟩
 have hWE2:(((Z.setCell ⟨(w.heap.size+1),0,none⟩ (.slice a len cap)).setCell ⟨(w.heap.size+1),1,none⟩ (.slice b9 m9 c9)).setCell ⟨(w.heap.size+1),2,none⟩ (.slice d n cb))=WE:=hWE;rw[hWE] at PP;try rw[hWE2]
 clear hWE hWE2;obtain⟨PC,hsz,hbl,hkp⟩:=PP.out;refine bodyPost_ret (by simp[results,Tryz.results89,go_sem,PC.at_ 0 _ rfl,PC.at_ 1 _ rfl,PC.at_ 2 _ rfl];try rfl) rfl ?_;exact⟨_,rfl,jF hsz hbl (HSL.out _ (Kept.refl _)) (HV.out.with' HG.out),hkp _ _ (Nat.le_succ _) (HKZ.out.trans (Kept.refl _))⟩
theorem jgD {v:Value} {s:Clu} {w:World} (h:jx w v s) (x:ByteArray) (hl:s.pods.length≤100000):Calls Tryz.prog 53 #[v,.string x] w (jbV (jaH s x) w):=by
 have h0:=h;obtain⟨v1,v2,v3,rfl,⟨a,cap,rfl,-,-,-⟩,⟨b,cp,rfl,-,-,-⟩,⟨d,cb,rfl,-,-,-⟩⟩:=h0;obtain⟨len,hl1⟩:∃q,s.nodes.length=q:=⟨_,rfl⟩
 obtain⟨m,hl2⟩:∃q,s.pods.length=q:=⟨_,rfl⟩
 obtain⟨n,hl3⟩:∃q,s.buds.length=q:=⟨_,rfl⟩
 rw[hl1,hl2,hl3] at h ⊢;rw[hl2] at hl;clear hl1 hl2 hl3;obtain⟨i0,hi,hz0,hz1,hz2'⟩:=info_parts jeG;obtain⟨Z,hZ⟩:∃Z,(w.alloc (.cells #[.slice a len cap,.slice b m cp,.slice d n cb] 56)).alloc (.cells #[.slice none 0 0,.slice none 0 0,.slice none 0 0] 56)=Z:=⟨_,rfl⟩
 have hkz:Kept w Z:=by rw[←hZ];exact jn _ _ _
 have HQ:=lH (show je w.heap.size [.slice a len cap,.slice b m cp,.slice d n cb] Z from jc w (.slice a len cap) [.slice b m cp,.slice d n cb] 56 Z (by rw[←hZ];exact ja _ _));have HH:=lH (show je (w.heap.size+1) [.slice none 0 0,.slice none 0 0,.slice none 0 0] Z by
  have dd:=jc (w.alloc (.cells #[.slice a len cap,.slice b m cp,.slice d n cb] 56)) (.slice none 0 0) [.slice none 0 0,.slice none 0 0] 56 Z (by rw[hZ];exact Kept.refl _);rw[World.size_alloc] at dd;exact dd)
 have HSL:=lH (show ∀W,Kept Z W→ZX W (w.heap.size+1) from fun W k=>by
  have hh:Z.heap[w.heap.size+1]?=some (.cells #[.slice none 0 0,.slice none 0 0,.slice none 0 0] 56):=by
   have:=(w.alloc (.cells #[.slice a len cap,.slice b m cp,.slice d n cb] 56)).alloc_heap_new (.cells #[.slice none 0 0,.slice none 0 0,.slice none 0 0] 56);rw[World.size_alloc,hZ] at this;exact this
  exact jG ((k.block _ (Array.getElem?_eq_some_iff.1 hh).1).trans hh))
 have HV:=lH (h.kept hkz);have HKZ:=lH hkz;clear h hkz;obtain⟨lx,hlx,hrow,hat4⟩:=jhb HV.out.podsAt;have HRX:=lH hrow;have HLX:=lH hlx;have HAT:=lH hat4;have hlen:lx.length=m:=hrow.1;have HLEN:=lH hlen;have hmm:=hrow.2.1;unfold maxLen at hmm;clear hrow hlx hat4 hlen;have cq0:=(HQ.out.kept (Kept.refl _)).at_ 0 _ rfl;have cq1:=(HQ.out.kept (Kept.refl _)).at_ 1 _ rfl;have cq2:=(HQ.out.kept (Kept.refl _)).at_ 2 _ rfl;go_enter Tryz.func53,Tryz.ntmps53;go_upto_region 1 with fail
 try rw[hZ]
 clear hZ cq0 cq1 cq2;go_wp2;go_loopw [5,6] (fun v i wr=>∃k:Nat,k≤m∧i=.int .i64 k∧∃ly:List PX,ly=(lx.take k).filter (fun z=>!eqS z.1.name x)∧ly.length≤k∧Own jE 50 wr Z.heap.size v ly∧Kept Z wr) (fun _ i _=>m-(intOf i).toNat)
 case atStart=>exact⟨0,Nat.zero_le _,rfl,[],rfl,Nat.le_refl _,Own.nil _ _ _,Kept.refl _⟩
 case round =>
  obtain⟨k,hk,rfl,ly,hly,hll,ho,hK⟩:=hrel;have HLY:=lH hly;have HLL:=lH hll;have HO:=lH ho;have HK:=lH hK;have cq0:=(HQ.out.kept hK).at_ 0 _ rfl;have cq1:=(HQ.out.kept hK).at_ 1 _ rfl;have cq2:=(HQ.out.kept hK).at_ 2 _ rfl;by_cases hlt:k<m
  · have hkk:(k:Int)<(m:Int):=by omega
    obtain⟨b9,off,rfl⟩:=HRX.out.form.resolve_left (by omega);obtain⟨z,hz,hd,hb,-,hc⟩:=(HRX.out.kept hK).cells hlt;have HZZ:=lH hz;obtain⟨n9,⟨a1,m1,c1⟩,⟨a2,m2,c2⟩,⟨a3,m3,c3⟩,⟨a4,m4,c4⟩⟩:=z;have p0:wr.cell? ⟨b9,off+k*11,none⟩=some (.string n9.name):=hc 0 _ rfl;have p1:wr.cell? ⟨b9,off+k*11+1,none⟩=some (.string n9.owner):=hc 1 _ rfl;have p2:wr.cell? ⟨b9,off+k*11+2,none⟩=some (.int .i64 n9.prio):=hc 2 _ rfl;have p3:wr.cell? ⟨b9,off+k*11+3,none⟩=some (.slice a1 m1 c1):=hc 3 _ rfl;have p4:wr.cell? ⟨b9,off+k*11+4,none⟩=some (.slice a2 m2 c2):=hc 4 _ rfl;have p5:wr.cell? ⟨b9,off+k*11+5,none⟩=some (.slice a3 m3 c3):=hc 5 _ rfl;have p6:wr.cell? ⟨b9,off+k*11+6,none⟩=some (.slice a4 m4 c4):=hc 6 _ rfl;have p7:wr.cell? ⟨b9,off+k*11+7,none⟩=some (.string n9.key):=hc 7 _ rfl;have p8:wr.cell? ⟨b9,off+k*11+8,none⟩=some (.int .i64 n9.most):=hc 8 _ rfl;have p9:wr.cell? ⟨b9,off+k*11+9,none⟩=some (.string n9.node):=hc 9 _ rfl;have p10:wr.cell? ⟨b9,off+k*11+10,none⟩=some (.bool n9.hold):=hc 10 _ rfl;obtain⟨e1,he1⟩:∃e,eqS n9.name x=e:=⟨_,rfl⟩
    have he1':(n9.name.toList==x.toList)=e1:=he1;have he1n:(n9.name.toList != x.toList)=!e1:=by rw[bne,he1']
    have HE:=lH he1;have HST:=lH (show (lx.take (k+1)).filter (fun z:PX=>!eqS z.1.name x)=ly++(if (!e1)=true then [(n9,(a1,m1,c1),(a2,m2,c2),(a3,m3,c3),(a4,m4,c4))] else []) by
     have hz9:lx[k]?=some (n9,(a1,m1,c1),(a2,m2,c2),(a3,m3,c3),(a4,m4,c4)):=HZZ.out;rw[zx hz9,List.filter_append,←HLY.out,List.filter_cons,List.filter_nil];simp only[HE.out])
    clear hly hll ho hK hz hd hc hb he1
    cases e1 with
    | true =>
     have HX:=lH (show ly=(lx.take (k+1)).filter (fun z:PX=>!eqS z.1.name x) by rw[HST.out];simp);go_wp2;go_roundw
     case rel=>exact⟨k+1,by omega,by go_num,ly,HX.out,by have:=HLL.out;omega,HO.out,HK.out⟩
     case measure=>simp[intOf];omega
    | false =>
     obtain⟨len1,hlen1⟩:∃q,ly.length=q:=⟨_,rfl⟩
     have HL1:=lH hlen1;rw[hlen1] at HLL;clear hlen1;have hbase:Z.heap.size≤wr.heap.size:=HK.out.size;have HOWN:=lH (show wr.ownsRow Z.heap.size 50 11 u5 len1 (jd jE ly) by have:=HO.out.1;rw[HL1.out] at this;exact this);go_wp2_with (at_builtin;refine wpList_append_lies _ rfl _ _ _ rfl Z.heap.size 50 i0 _ 11 184 Tryz.underlying53 hi hz0 hz1 hz2' rfl (by decide) u5 len1 (jd jE ly) rfl (HOWN.out.alloc _) ⟨wr.heap.size,0,none⟩ 1 1 (jE.cs (n9,(a1,m1,c1),(a2,m2,c2),(a3,m3,c3),(a4,m4,c4))) rfl rfl (World.news_of_block (cs:=#[.string n9.name,.string n9.owner,.int .i64 n9.prio,.slice a1 m1 c1,.slice a2 m2 c2,.slice a3 m3 c3,.slice a4 m4 c4,.string n9.key,.int .i64 n9.most,.string n9.node,.bool n9.hold]) (t:=50) (fr:=(0,0)) (heap_alloc_new wr _)) (qC _) (by decide) (by unfold maxLen;have:=HLL.out;omega) (by have:=HLL.out;omega) (by simp;omega) (wr.heap.size+1) (by simp) ?_;intro gg cap1 w2 hown1 hgrow hat hlt1)
     have HON:=lH (show Own jE 50 w2 Z.heap.size (.slice (some ⟨gg,0,none⟩) (len1+1) cap1) (ly++[(n9,(a1,m1,c1),(a2,m2,c2),(a3,m3,c3),(a4,m4,c4))]) from Own.snoc hown1 (by rw[HL1.out]) HO.out.2 trivial);have HKN:=lH (show Kept Z w2 from(show Below Z.heap.size Z _ from HK.out.trans (ja wr (.cells #[.string n9.name,.string n9.owner,.int .i64 n9.prio,.slice a1 m1 c1,.slice a2 m2 c2,.slice a3 m3 c3,.slice a4 m4 c4,.string n9.key,.int .i64 n9.most,.string n9.node,.bool n9.hold] 50))).grown hgrow (by rw[World.size_alloc];omega) (fun j hj=>(HOWN.out.lt j hj).1));have HX:=lH (show ly++[(n9,(a1,m1,c1),(a2,m2,c2),(a3,m3,c3),(a4,m4,c4))]=(lx.take (k+1)).filter (fun z:PX=>!eqS z.1.name x) by rw[HST.out];rfl);clear hown1 hgrow hat hlt1;go_wp2;go_roundw
     case rel=>exact⟨k+1,by omega,by go_num,_,HX.out,by rw[List.length_append,HL1.out];have:=HLL.out;simp;omega,HON.out,HKN.out⟩
     case measure=>simp[intOf];omega
  · have hkk:¬(k:Int)<(m:Int):=by omega
    have HPR:=lH (show zU wr u5 (Z3 x s.pods) by
     have:=qD ho (fun z hz=>jz.kept (HAT.out z (List.mem_of_mem_take (List.mem_filter.1 (hly▸hz)).1)) hK);rw[hly,List.take_of_length_le (by rw[HLEN.out];omega)] at this;unfold Z3;rw[←HLX.out,List.filter_map];exact this)
    clear hly hll ho hK;obtain⟨b9,m9,c9,rfl,-,-,-⟩:=HPR.out.shape;go_wp2_with fail
    refine(jhO (HV.out.kept HK.out) HPR.out).mono ?_;rintro e w9 ⟨y9,rfl,hy,kk⟩;have hy0:=hy;obtain⟨_,_,_,rfl,⟨g1,r1,rfl,-,-,-⟩,⟨g2,r2,rfl,-,-,-⟩,⟨g3,r3,rfl,-,-,-⟩⟩:=hy0;have K9:=lH (HK.out.trans kk);obtain⟨t1,ht1⟩:∃q,({ s with pods:=Z3 x s.pods }:Clu).nodes.length=q:=⟨_,rfl⟩
    rw[ht1] at hy;try rw[ht1]
    clear ht1;obtain⟨t2,ht2⟩:∃q,({ s with pods:=Z3 x s.pods }:Clu).pods.length=q:=⟨_,rfl⟩
    rw[ht2] at hy;try rw[ht2]
    clear ht2;obtain⟨t3,ht3⟩:∃q,({ s with pods:=Z3 x s.pods }:Clu).buds.length=q:=⟨_,rfl⟩
    rw[ht3] at hy;try rw[ht3]
    clear ht3;have HY:=lH hy;clear hy kk cq0 cq1 cq2;have H9:=lH (HH.out.kept K9.out);have z0:=H9.out.at_ 0 _ rfl;have z1:=H9.out.at_ 1 _ rfl;have z2:=H9.out.at_ 2 _ rfl;have f0:=H9.out.free 0;have f1:=H9.out.free 1;have f2:=H9.out.free 2;have PP:=lH (jL (vs:=[.slice g1 t1 r1,.slice g2 t2 r2,.slice g3 t3 r3]) H9.out rfl);go_wp2;obtain⟨WE,hWE⟩:∃V,w9.setCells (w.heap.size+1) 0 [.slice g1 t1 r1,.slice g2 t2 r2,.slice g3 t3 r3]=V:=⟨_,rfl⟩
    have hWE2:(((w9.setCell ⟨(w.heap.size+1),0,none⟩ (.slice g1 t1 r1)).setCell ⟨(w.heap.size+1),1,none⟩ (.slice g2 t2 r2)).setCell ⟨(w.heap.size+1),2,none⟩ (.slice g3 t3 r3))=WE:=hWE;rw[hWE] at PP;try rw[hWE2]
    clear hWE hWE2;obtain⟨PC,hsz,hbl,hkp⟩:=PP.out;refine bodyPost_ret (by simp[results,Tryz.results53,go_sem,PC.at_ 0 _ rfl,PC.at_ 1 _ rfl,PC.at_ 2 _ rfl];try rfl) rfl ?_;exact⟨_,rfl,jF hsz hbl (HSL.out _ K9.out) HY.out,hkp _ _ (Nat.le_succ _) (HKZ.out.trans K9.out)⟩
end Go.Proofs.YtgfoenfaohhjcaaGreat
