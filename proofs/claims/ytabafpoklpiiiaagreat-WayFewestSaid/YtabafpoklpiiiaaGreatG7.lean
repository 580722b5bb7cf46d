/- C. -/
import Derived.Test.YtabafpoklpiiiaaGreatG0
import Derived.Test.YtabafpoklpiiiaaGreatG1
import Derived.Test.YtabafpoklpiiiaaGreatG2
import Derived.Test.YtabafpoklpiiiaaGreatG3
import Derived.Test.YtabafpoklpiiiaaGreatG4
import Derived.Test.YtabafpoklpiiiaaGreatG5
import Derived.Test.YtabafpoklpiiiaaGreatG6
set_option linter.unusedVariables false
set_option maxRecDepth 100000
set_option maxHeartbeats 25600000
namespace Go.Proofs.YtabafpoklpiiiaaGreat
open Go.RowKit Go.Sort
def jG (p:Pd):Bool:=zq p.node&&!p.hold
def j5 (p q:Pd):Bool:=decide (Zq p q<0)
def Yp (l m:List Pd):Prop:=m.Perm (l.filter jG)∧m.Pairwise fun a b=>j5 b a=false
theorem qG {p q:Pd}:j5 p q=true↔(q.prio<p.prio∨(q.prio=p.prio∧ltS p.name q.name=true)):=by
 unfold j5;rw[decide_eq_true_iff,qA]
theorem YE {p q:Pd}:j5 p q=false↔¬(q.prio<p.prio∨(q.prio=p.prio∧ltS p.name q.name=true)):=by
 rw[←Bool.not_eq_true,qG]
theorem Xs {p q:Pd} (h:j5 p q=false) (g:j5 q p=false):p.name=q.name:=by
 rw[YE] at h g;have e:p.prio=q.prio:=by omega
 refine Vec.ZP ?_ ?_
 · cases k:ltS p.name q.name with
   | false=>rfl
   | true=>exact absurd (.inr ⟨e.symm,k⟩) h
 · cases k:ltS q.name p.name with
   | false=>rfl
   | true=>exact absurd (.inr ⟨e,k⟩) g
theorem Z5 {x y z:Pd} (h1:j5 x y=true) (h2:j5 y z=true):j5 x z=true:=by
 unfold j5 at *;rw[decide_eq_true_iff] at *;exact ja1 h1 h2
theorem Y7 {x y z:Pd} (h1:j5 x y=false) (h2:j5 y z=false):j5 x z=false:=by
 cases e:j5 x z with
 | false=>rfl
 | true =>
  cases q:j5 y x with
  | true=>rw[Z5 q e] at h2;cases h2
  | false =>
   have hn:=Xs h1 q;rw[YE] at h1 q h2;rw[qG] at e;rcases e with e | ⟨e1,e2⟩
   · exact absurd (.inl (by omega)) h2
   · exact absurd (.inr ⟨by omega,by rw[←hn];exact e2⟩) h2
theorem Y0 (x:Pd):j5 x x=false:=by
 rw[YE,Vec.Zg];rintro (h | ⟨-,h⟩)
 · omega
 · cases h
theorem jbg {l:List Pd} (h:Asc l) {p q:Pd} (hp:p ∈ l) (hq:q ∈ l) (e:p.name=q.name):p=q:=by
 have h1:=YT h hp;have h2:=YT h hq;rw[e,h2] at h1;exact(Option.some.inj h1).symm
theorem Yp.unique {l m k:List Pd} (ha:Asc l) (h:Yp l m) (g:Yp l k):m=k :=
 List.Perm.eq_of_pairwise (fun a b h1 h2 e1 e2=>jbg ha (List.mem_filter.1 (h.1.mem_iff.1 h1)).1 (List.mem_filter.1 (g.1.mem_iff.1 h2)).1 (Xs e2 e1)) h.2 g.2 (h.1.trans g.1.symm)
def Zo (l:List Pd):List Pd:=(l.filter jG).mergeSort fun a b=>!j5 b a
theorem XV (l:List Pd):Yp l (Zo l):=by
 refine⟨List.mergeSort_perm _ _,?_⟩;have h:=List.pairwise_mergeSort (le:=fun a b=>!j5 b a) (fun a b c h1 h2=>by
  simp only[Bool.not_eq_true'] at *;exact Y7 h2 h1) (fun a b=>by
  cases e:j5 b a with
  | false=>rfl
  | true =>
   cases q:j5 a b with
   | false=>rfl
   | true=>have:=Z5 e q;rw[Y0 b] at this;cases this) (l.filter jG)
 exact h.imp fun {a b} g=>by simpa using g
theorem jbb {l m:List Pd} (ha:Asc l) (h:Yp l m):m=Zo l:=h.unique ha (XV l)
theorem jdH {l:List Pd} {p:Pd}:p ∈ Zo l↔p ∈ l∧jG p=true:=by rw[(XV l).1.mem_iff,List.mem_filter]
theorem jeC (l:List Pd):(Zo l).length=(l.filter jG).length:=(XV l).1.length_eq
theorem jfm (l:List Pd):(Zo l).length≤l.length:=by rw[jeC];exact List.length_filter_le _ _
def jeT (s:Clu) (p:Pd) (pack:Bool):Option ByteArray:=((j4 s p s.nodes).mergeSort fun a b=>!ZA s p pack b a).head?
theorem jf2 (s:Clu) (p:Pd) (pack:Bool):jc6 s p pack ((j4 s p s.nodes).mergeSort fun a b=>!ZA s p pack b a):=by
 refine⟨List.mergeSort_perm _ _,?_⟩;have h:=List.pairwise_mergeSort (le:=fun a b=>!ZA s p pack b a) (fun a b c h1 h2=>by
  simp only[Bool.not_eq_true'] at *;exact jaM h2 h1) (fun a b=>by
  cases e:ZA s p pack b a with
  | false=>rfl
  | true =>
   cases q:ZA s p pack a b with
   | false=>rfl
   | true=>have:=Xc e q;rw[jaK] at this;cases this) (j4 s p s.nodes)
 exact h.imp fun {a b} g=>by simpa using g
theorem jfM {s:Clu} {p:Pd} {pack:Bool} {x:ByteArray} (h:jeT s p pack=some x):x ∈ j4 s p s.nodes :=
 (jf2 s p pack).1.mem_iff.1 (List.mem_of_head? h)
def jaV (s:Clu) (pack:Bool):List Pd→Option (ByteArray×ByteArray)
 | []=>none
 | p::t=>match jeT s p pack with
  | some x=>some (p.name,x)
  | none=>jaV s pack t
def jdb (s:Clu) (pack:Bool):Option (ByteArray×ByteArray):=jaV s pack (Zo s.pods)
theorem jba {s:Clu} {pack:Bool} {x t:ByteArray}:∀{l:List Pd},jaV s pack l=some (x,t)→∃p ∈ l,p.name=x∧jeT s p pack=some t
 | [],h=>by cases h
 | p::l,h=>by
  rw[jaV] at h;split at h
  · rename_i y e;obtain⟨rfl,rfl⟩:=Prod.mk.inj (Option.some.inj h);exact⟨p,by simp,rfl,e⟩
  · obtain⟨q,hq,e⟩:=jba h;exact⟨q,by simp[hq],e⟩
theorem ja7 {s:Clu} {pack:Bool} {x t:ByteArray} (h:jdb s pack=some (x,t)):∃p ∈ s.pods,jG p=true∧p.name=x∧t ∈ j4 s p s.nodes:=by
 obtain⟨p,hp,e,c⟩:=jba h;obtain⟨h1,h2⟩:=jdH.1 hp;exact⟨p,h1,h2,e,jfM c⟩
theorem jbm {p:Pd} {y:ByteArray}:∀{l:List Pd},Asc l→p ∈ l→Zr p.name y l=zR { p with node:=y } (jL p.name l)
 | [],_,h=>by cases h
 | q::r,ha,h=>by
  obtain⟨h1,h2⟩:=List.pairwise_cons.1 ha;rw[Zr,jL];by_cases e:eqS q.name p.name=true
  · rw[if_pos e,if_pos e];have hq:q=p:=jbg ha (by simp) h (jI.1 e);subst hq
    cases r with
    | nil=>rfl
    | cons z r=>rw[zR,if_pos (by exact h1 z (by simp))]
  · rw[if_neg e,if_neg e];have hp:p ∈ r:=(List.mem_cons.1 h).resolve_left fun g=>e (by rw[g];exact Jz _);have hlt:¬ltS p.name q.name=true:=fun g'=>absurd (Vec.zD (h1 p hp) g') (by rw[Vec.Zg];decide);rw[zR,if_neg (by exact hlt),jbm h2 hp]
structure ZV (s:Clu):Prop where
 chk:JS s=0
 sound:Sound s
 low:jn s
 few:s.pods.length≤128
theorem ZV.asc {s:Clu} (h:ZV s):Asc s.pods:=h.sound.asc
theorem ZV.pods {s:Clu} (h:ZV s):∀q ∈ s.pods,zJ q=0:=by
 have hP:=h.sound.parts.pods;unfold zw at hP;split at hP
 · cases hP
 · exact qK hP
theorem ZV.nodes {s:Clu} (h:ZV s):∀m ∈ s.nodes,Jj m=0:=by
 have hN:=h.sound.parts.nodes;unfold zx at hN;split at hN
 · cases hN
 · exact(Zt hN).2.2
theorem jef {x:ByteArray} (h:isName x=true):zq x=false:=by
 cases e:zq x with
 | false=>rfl
 | true =>
  have:=jI.1 (show eqS x ByteArray.empty=true from e);subst this;exact absurd h (by decide)
theorem ZV.to {s:Clu} (h:ZV s) {pack:Bool} {x t:ByteArray} (hn:jdb s pack=some (x,t)):zq t=false:=by
 obtain⟨p,-,-,-,ht⟩:=ja7 hn;obtain⟨-,n,hnn,rfl⟩:=jal ht;exact jef (jau (h.nodes n hnn))
theorem ZV.bind {s:Clu} (h:ZV s) {pack:Bool} {x t:ByteArray} (hn:jdb s pack=some (x,t)):ZV (zv s x t):=by
 obtain⟨p,hp,-,rfl,ht⟩:=ja7 hn;obtain⟨hf,-⟩:=jal ht;have e:zv s p.name t=zo s { p with node:=t }:=by unfold zv zo;rw[jbm h.asc hp]
 have hd:(jw s p.name).pods.length+1=s.pods.length:=by
  have:=Zx s p.name;rw[YT h.asc hp] at this;simpa using this
 have hc:JS (zo s { p with node:=t })=0:=jcJ h.chk h.sound (h.pods p hp) (h.sound.need p hp) (by have:=h.few;omega) hf;rw[e];have hlow:=h.low.pods p hp;refine⟨hc,⟨jeY hc,jck h.asc _,fun q hq=>?_,h.sound.cap⟩,qO h.low ⟨hlow.need,hlow.labels,hlow.sel,hlow.tols⟩ (by have:=h.few;omega),?_⟩
 · rcases ins_mem hq with rfl | hq
   · exact h.sound.need p hp
   · exact h.sound.need q (Jn hq)
 · have:=qV (s:=s) { p with node:=t };have e3:(zo s { p with node:=t }).pods.length=(jw s p.name).pods.length+1:=this;have:=h.few;omega
open Go.RowKit
def jM (p:Pd):Bool:=!p.hold
abbrev Pl:=ByteArray×List ByteArray×Clu
def JD (x:ByteArray) (s:Clu):Option Pd:=(onP x s.pods).find? fun q=>q.hold
def zt (z:Pl):Option Pl:=(JD z.1 z.2.2).map fun h=>(z.1,z.2.1++[h.name],jw z.2.2 h.name)
def Jf (l:List Pl):List Pl:=l.filterMap zt
def ZN (p:Pd) (z:Pl):Bool:=decide (Zd z.2.2 p z.1=0)
def JM (s:Clu):Clu:=⟨s.nodes,s.pods.filter jM,s.buds⟩
def J7 (s:Clu) (p:Pd):List Pl:=(j4 (JM s) p s.nodes).map fun x=>(x,[],s)
def j8 (p:Pd):Nat→List Pl→Option Pl
 | 0,_=>none
 | n+1,l=>match l.find? (ZN p) with
  | some z=>some z
  | none=>j8 p n (Jf l)
def jgq (s:Clu) (p:Pd):Option Pl:=if p.hold=true then none else j8 p (s.pods.length+1) (J7 s p)
theorem ZH (p:Pd):∀n,j8 p n []=none
 | 0=>rfl
 | n+1=>by rw[j8];exact ZH p n
theorem jcH {p:Pd} {n:Nat} {l:List Pl} {z:Pl} (h:l.find? (ZN p)=some z):j8 p (n+1) l=some z:=by rw[j8,h]
theorem jch {p:Pd} {n:Nat} {l:List Pl} (h:l.find? (ZN p)=none):j8 p (n+1) l=j8 p n (Jf l):=by rw[j8,h]
theorem qj {x:ByteArray} {s:Clu} {q:Pd} (h:JD x s=some q):q ∈ s.pods∧q.hold=true∧q.node=x:=by
 unfold JD onP at h;have h1:=List.mem_of_find?_eq_some h;have h2:q.hold=true:=List.find?_some (p:=fun q:Pd=>q.hold) h;split at h1
 · cases h1
 · obtain⟨h3,h4⟩:=List.mem_filter.1 h1;exact⟨h3,h2,jI.1 h4⟩
theorem jc9 {z y:Pl} (h:zt z=some y):y.2.2.pods.length+1=z.2.2.pods.length:=by
 unfold zt at h
 cases e:JD z.1 z.2.2 with
 | none=>rw[e] at h;cases h
 | some q =>
  rw[e] at h;obtain rfl:=Option.some.inj h;have hm:=(qj e).1;have hs:(zC z.2.2.pods q.name).isSome=true:=by
   unfold zC;rw[List.find?_isSome];exact⟨q,hm,Jz _⟩
  have:=Zx z.2.2 q.name;rw[if_pos hs] at this;exact this
theorem jfr {z y:Pl} (h:zt z=some y) (hl:jn z.2.2):jn y.2.2:=by
 unfold zt at h
 cases e:JD z.1 z.2.2 with
 | none=>rw[e] at h;cases h
 | some q =>
  rw[e] at h;obtain rfl:=Option.some.inj h;exact Z6 hl _
theorem jdZ {l:List Pl} {y:Pl} (h:y ∈ Jf l):∃z ∈ l,zt z=some y:=List.mem_filterMap.1 h
theorem jfv {s:Clu} (h:jn s):jn (JM s):=⟨h.nodes,fun q hq=>h.pods q (List.mem_filter.1 hq).1,h.buds,h.nodesN,Nat.le_trans (List.length_filter_le _ _) h.podsN,h.budsN⟩
theorem jdf (x:ByteArray) (s:Clu):JD x s=(idxB (fun q:Pd=>q.hold) (onP x s.pods)).bind fun k=>(onP x s.pods)[k]?:=by
 unfold JD
 induction onP x s.pods with
 | nil=>rfl
 | cons q t ih =>
  rw[idxB,List.find?_cons]
  cases e:q.hold with
  | true=>rfl
  | false =>
   rw[ih];simp only[Bool.false_eq_true,if_false]
   cases idxB (fun q:Pd=>q.hold) t<;>rfl
abbrev PlX:=Pl×(Option Addr×Nat×Nat)×(Option Addr×Nat×Nat)×(Option Addr×Nat×Nat)×(Option Addr×Nat×Nat)
theorem qQ (z:PlX) (u:Value) (h:u ∈ [Value.string z.1.1,slV z.2.1,slV z.2.2.1,slV z.2.2.2.1,slV z.2.2.2.2]):u.oneCell'=true:=by
 simp only[List.mem_cons,List.not_mem_nil,or_false] at h;rcases h with rfl | rfl | rfl | rfl | rfl<;>rfl
def Jq:Lay PlX:={ m:=5,cs:=fun z=>[.string z.1.1,slV z.2.1,slV z.2.2.1,slV z.2.2.2.1,slV z.2.2.2.2],fine:=fun _=>True,len:=fun _=>rfl,one:=qQ,pos:=by decide }
def gvP (z:PlX):Value:=slV z.2.1
def rvP (z:PlX):Value:=j9 (slV z.2.2.1) (slV z.2.2.2.1) (slV z.2.2.2.2)
structure JK (Ch:Nat→Prop) (B:Nat) (w:World) (lx:List PlX):Prop where
 gone:∀z ∈ lx,Own jK 9 w B (gvP z) z.1.2.1
 rest:∀z ∈ lx,Off Ch w fun u=>jC u (rvP z) z.1.2.2
 ch:∀z ∈ lx,∀b,(gvP z).ownBlock=some b→Ch b
 dist:lx.Pairwise fun y z=>∀b,(gvP y).ownBlock=some b→(gvP z).ownBlock≠some b
theorem JK.kept {Ch:Nat→Prop} {B:Nat} {w w':World} {lx:List PlX} (h:JK Ch B w lx) (k:Kept w w'):JK Ch B w' lx :=
 ⟨fun z hz=>(h.gone z hz).kept k,fun z hz=>(h.rest z hz).step (jb.of k),h.ch,h.dist⟩
theorem JK.sub {Ch:Nat→Prop} {B:Nat} {w:World} {lx ly:List PlX} (h:JK Ch B w lx) (hs:ly.Sublist lx):JK Ch B w ly :=
 ⟨fun z hz=>h.gone z (hs.mem hz),fun z hz=>h.rest z (hs.mem hz),fun z hz=>h.ch z (hs.mem hz),h.dist.sublist hs⟩
theorem JK.round {Ch Ch':Nat→Prop} {B:Nat} {w w':World} {ly lr:List PlX} {z z':PlX} {nv:Value} (h:JK Ch B w (ly++z::lr)) (hn:∀b,nv.ownBlock=some b→Ch b) (hs:∀y ∈ ly++z::lr,∀b,(gvP y).ownBlock=some b→nv.ownBlock≠some b)
 (g:jb (fun b=>(gvP z).ownBlock=some b∨nv.ownBlock=some b) w w') (h1:∀b,Ch' b→Ch b∨w.heap.size≤b) (h2:∀b,Ch b→Ch' b)
 (ho:Own jK 9 w' B (gvP z') z'.1.2.1) (hr:Off Ch' w' fun u=>jC u (rvP z') z'.1.2.2) (hc:∀b,(gvP z').ownBlock=some b→Ch' b) (hg:∀b,(gvP z').ownBlock=some b→(gvP z).ownBlock=some b∨w.heap.size≤b):JK Ch' B w' (ly++z'::lr):=by
 have hz:z ∈ ly++z::lr:=List.mem_append.2 (.inr (List.mem_cons_self ..));have hgc:jb Ch w w':=g.mono fun b e=>e.elim (fun e=>h.ch z hz b e) (hn b);obtain⟨d1,d2,d3⟩:=List.pairwise_append.1 h.dist;obtain⟨d4,d5⟩:=List.pairwise_cons.1 d2;have hl:∀y,y ∈ ly∨y ∈ lr→y ∈ ly++z::lr:=fun y e=>List.mem_append.2 (e.imp id fun e=>List.mem_cons_of_mem _ e);have hd:∀y,y ∈ ly∨y ∈ lr→∀b,(gvP y).ownBlock=some b→(gvP z).ownBlock≠some b:=fun y e b eb=>by
  rcases e with e | e
  · exact d3 y e z (List.mem_cons_self ..) b eb
  · intro ez;exact d4 y e b ez eb
 have hd':∀y,y ∈ ly∨y ∈ lr→∀b,(gvP y).ownBlock=some b→(gvP z').ownBlock≠some b:=fun y e b eb ez=>by
  rcases hg b ez with q | q
  · exact hd y e b eb q
  · have:=(jR (h.gone y (hl y e)) b eb).2;omega
 have hm:∀y,y ∈ ly++z'::lr→(y ∈ ly∨y ∈ lr)∨y=z':=fun y e=>by
  rcases List.mem_append.1 e with e | e
  · exact .inl (.inl e)
  · rcases List.mem_cons.1 e with e | e
    · exact .inr e
    · exact .inl (.inr e)
 refine⟨fun y hy=>?_,fun y hy=>?_,fun y hy b e=>?_,?_⟩
 · rcases hm y hy with hy | rfl
   · exact(h.gone y (hl y hy)).goff g fun k ek e=>e.elim (fun e=>hd y hy k ek e) (fun e=>hs y (hl y hy) k ek e)
   · exact ho
 · rcases hm y hy with hy | rfl
   · exact(h.rest y (hl y hy)).new hgc h1
   · exact hr
 · rcases hm y hy with hy | rfl
   · exact h2 b (h.ch y (hl y hy) b e)
   · exact hc b e
 · refine List.pairwise_append.2 ⟨d1,List.pairwise_cons.2 ⟨fun y hy b e e2=>hd' y (.inr hy) b e2 e,d5⟩,fun y hy x hx b e=>?_⟩;rcases List.mem_cons.1 hx with rfl | hx
   · exact hd' y (.inl hy) b e
   · exact d3 y hy x (List.mem_cons_of_mem _ hx) b e
structure Ze (B:Nat) (v:Value) (lx:List PlX) (w:World) (k:Nat) (wr:World) (nv:Value) (ly:List PlX) (Ch:Nat→Prop):Prop where
 rowl:Own Jq 153 wr B v lx
 rown:Own Jq 153 wr B nv ly
 hold:JK Ch B wr (ly++lx.drop k)
 map:(ly.map fun z=>z.1)=Jf ((lx.take k).map fun z=>z.1)
 sepv:∀z ∈ ly++lx.drop k,∀b,(gvP z).ownBlock=some b→v.ownBlock≠some b
 sepn:∀z ∈ ly++lx.drop k,∀b,(gvP z).ownBlock=some b→nv.ownBlock≠some b
 vn:∀b,nv.ownBlock=some b→v.ownBlock≠some b
 nch:∀b,nv.ownBlock=some b→Ch b
 chB:∀b,Ch b→B≤b∧b<wr.heap.size
 below:Below B w wr
 base:B≤w.heap.size
theorem Ze.kept {B k:Nat} {v nv:Value} {lx ly:List PlX} {w wr w2:World} {Ch:Nat→Prop} (h:Ze B v lx w k wr nv ly Ch) (kk:Kept wr w2):Ze B v lx w k w2 nv ly Ch :=
 ⟨h.rowl.kept kk,h.rown.kept kk,h.hold.kept kk,h.map,h.sepv,h.sepn,h.vn,h.nch,fun b e=>⟨(h.chB b e).1,Nat.lt_of_lt_of_le (h.chB b e).2 kk.size⟩,h.below.trans (Below.mono kk (Nat.le_trans h.base h.below.size)),h.base⟩
theorem Y8 {lx:List PlX} {k:Nat} {z:PlX} (hz:lx[k]?=some z):Jf ((lx.take (k+1)).map fun z=>z.1)=Jf ((lx.take k).map fun z=>z.1)++(zt z.1).toList:=by
 have e:List.filterMap zt [z.1]=(zt z.1).toList:=by cases h:zt z.1<;>simp[h]
 rw[List.take_add_one,hz,List.map_append];unfold Jf;rw[List.filterMap_append,show List.map (fun z:PlX=>z.1) (some z).toList=[z.1] from rfl,e]
theorem Ze.skip {B k:Nat} {v nv:Value} {lx ly:List PlX} {w wr:World} {Ch:Nat→Prop} {z:PlX} (h:Ze B v lx w k wr nv ly Ch) (hz:lx[k]?=some z) (hs:zt z.1=none):Ze B v lx w (k+1) wr nv ly Ch:=by
 have hd:(ly++lx.drop (k+1)).Sublist (ly++lx.drop k):=by
  refine(List.Sublist.refl ly).append ?_;rw[←List.drop_drop];exact List.drop_sublist _ _
 exact⟨h.rowl,h.rown,h.hold.sub hd,by rw[Y8 hz,hs,h.map];simp,fun y hy=>h.sepv y (hd.mem hy),fun y hy=>h.sepn y (hd.mem hy),h.vn,h.nch,h.chB,h.below,h.base⟩
theorem Ze.go {B k g gN capN m:Nat} {v nv:Value} {lx ly:List PlX} {w wr w4 w6 wd w8 w9:World} {Ch:Nat→Prop} {z z':PlX} (h:Ze B v lx w k wr nv ly Ch) (hz:lx[k]?=some z) (hs:zt z.1=some z'.1)
 (k4:Kept wr w4) (hg:w4.grownBy w6 (gvP z).ownBlock) (hat:(gvP z).ownBlock=some g∨g=w4.heap.size) (hgv:(gvP z').ownBlock=some g) (hgo:Own jK 9 w6 B (gvP z') z'.1.2.1)
 (kd:Kept w6 wd) (hr:Off (fun b=>b<w6.heap.size) wd fun u=>jC u (rvP z') z'.1.2.2) (k8:Kept wd w8)
 (hgN:w8.grownBy w9 nv.ownBlock) (hatN:nv.ownBlock=some gN∨gN=w8.heap.size) (hltN:gN<w9.heap.size) (hown:w9.ownsRow B 153 5 (.slice (some ⟨gN,0,none⟩) m capN) m (jd Jq ly++Jq.cs z')) (hm:ly.length+1=m) :
 Ze B v lx w (k+1) w9 (.slice (some ⟨gN,0,none⟩) m capN) (ly++[z']) (fun b=>Ch b∨b=g∨b=gN):=by
 have hdk:lx.drop k=z::lx.drop (k+1):=by
  obtain⟨hk,rfl⟩:=List.getElem?_eq_some_iff.1 hz;exact List.drop_eq_getElem_cons hk
 have hho:=h.hold;rw[hdk] at hho;have hzm:z ∈ ly++lx.drop k:=by rw[hdk];exact List.mem_append.2 (.inr (List.mem_cons_self ..))
 have hzb:∀b,(gvP z).ownBlock=some b→b<wr.heap.size:=fun b e=>(jR (h.hold.gone z hzm) b e).2;have hnb:∀b,nv.ownBlock=some b→b<wr.heap.size:=fun b e=>(jR h.rown b e).2;have hvb:∀b,v.ownBlock=some b→b<wr.heap.size:=fun b e=>(jR h.rowl b e).2;have s4:=k4.size;have s6:w4.heap.size≤w6.heap.size:=hg.size;have sd:=kd.size;have s8:=k8.size;have s9:w8.heap.size≤w9.heap.size:=hgN.size;have hg6:g<w6.heap.size:=(jR hgo g hgv).2;have hgB:B≤g:=(jR hgo g hgv).1;have hgNB:B≤gN:=by
  rcases hatN with e | e
  · exact(jR h.rown gN e).1
  · have:=Nat.le_trans h.base h.below.size;omega
 have G1:jb (fun b=>(gvP z).ownBlock=some b∨nv.ownBlock=some b) wr w6:=(jb.of k4).trans (jb.grown hg fun b e=>.inl e);have G2:jb (fun b=>nv.ownBlock=some b) w6 w9:=((jb.of kd).trans (jb.of k8)).trans (jb.grown hgN fun b e=>e);have G:jb (fun b=>(gvP z).ownBlock=some b∨nv.ownBlock=some b) wr w9:=G1.trans (G2.mono fun b e=>.inr e);have hgn:nv.ownBlock≠some g:=fun e=>by
  rcases hat with q | q
  · exact h.sepn z hzm g q e
  · have:=hnb g e;omega
 have hggN:g≠gN:=fun e=>by
  rcases hatN with q | q
  · exact hgn (by rw[e];exact q)
  · omega
 have key:=hho.round (Ch':=fun b=>Ch b∨b=g∨b=gN) (w':=w9) (z':=z') (nv:=nv) h.nch (fun y hy=>h.sepn y (by rw[hdk];exact hy)) G
  (fun b e=>by
    rcases e with e | e | e
    · exact .inl e
    · subst e;rcases hat with q | q
      · exact .inl (h.hold.ch z hzm _ q)
      · exact .inr (by omega)
    · subst e;rcases hatN with q | q
      · exact .inl (h.nch _ q)
      · exact .inr (by omega)) (fun b e=>.inl e)
  (hgo.goff G2 fun b e q=>by rw[hgv] at e;obtain rfl:=Option.some.inj e;exact hgn q)
  (hr.new (((jb.of k8).trans (jb.grown (S:=fun b=>nv.ownBlock=some b) hgN fun b e=>e)).mono fun b e=>by have:=hnb b e;omega) (fun b e=>by
    rcases e with e | e | e
    · exact .inl (by have:=(h.chB b e).2;omega)
    · exact .inl (by omega)
    · subst e;rcases hatN with q | q
      · exact .inl (by have:=hnb _ q;omega)
      · exact .inr (by omega)))
  (fun b e=>by rw[hgv] at e;exact .inr (.inl (Option.some.inj e).symm)) (fun b e=>by
   rw[hgv] at e;obtain rfl:=Option.some.inj e;exact hat.imp id fun q=>by omega)
 have hap:∀l:List PlX,ly++[z']++l=ly++z'::l:=fun l=>by rw[List.append_assoc];rfl
 have hmem:∀y,y ∈ ly++z'::lx.drop (k+1)→(y ∈ ly++lx.drop k)∨y=z':=fun y e=>by
  rw[hdk];rcases List.mem_append.1 e with e | e
  · exact .inl (List.mem_append.2 (.inl e))
  · rcases List.mem_cons.1 e with e | e
    · exact .inr e
    · exact .inl (List.mem_append.2 (.inr (List.mem_cons_of_mem _ e)))
 have hN:∀b,(Value.slice (some ⟨gN,0,none⟩) m capN).ownBlock=some b→b=gN:=fun b e=>(Option.some.inj e).symm;refine⟨h.rowl.goff G fun b e q=>?_,Own.snoc hown hm h.rown.2 trivial,by rw[hap];exact key,?_,fun y hy b e q=>?_,fun y hy b e q=>?_,fun b e q=>?_,fun b e=>.inr (.inr (hN b e)),fun b e=>?_,?_,h.base⟩
 · rcases q with q | q
   · exact h.sepv z hzm b q e
   · exact h.vn b q e
 · rw[Y8 hz,hs,List.map_append,h.map];rfl
 · rw[hap] at hy;rcases hmem y hy with hy | rfl
   · exact h.sepv y hy b e q
   · rw[hgv] at e;obtain rfl:=Option.some.inj e;rcases hat with q2 | q2
     · exact h.sepv z hzm _ q2 q
     · have:=hvb _ q;omega
 · rw[hap] at hy;obtain rfl:=hN b q;rcases hmem y hy with hy | rfl
   · rcases hatN with q2 | q2
     · exact h.sepn y hy _ e q2
     · have:=(jR (h.hold.gone y hy) _ e).2;omega
   · rw[hgv] at e;exact hggN (Option.some.inj e)
 · obtain rfl:=hN b e;rcases hatN with q2 | q2
   · exact h.vn _ q2 q
   · have:=hvb _ q;omega
 · rcases e with e | e | e
   · have:=h.chB b e;omega
   · subst e;omega
   · subst e;omega
 · exact h.below.trans (G.at_below (fun b e=>by
    rcases e with e | e
    · exact(jR (h.hold.gone z hzm) b e).1
    · exact(jR h.rown b e).1) (Nat.le_trans h.base h.below.size))
theorem jd9:ByteArray.empty.toList=[]:=by first | rfl | decide | simp | kernel_rfl
theorem noE {x:ByteArray} (h:zq x=true):x.toList.isEmpty=true:=by
 rw[jI.1 (show eqS x ByteArray.empty=true from h),jd9];rfl
theorem noF {x:ByteArray} (h:zq x=false):x.toList.isEmpty=false:=by
 cases e:x.toList.isEmpty with
 | false=>rfl
 | true =>
  have:zq x=true:=by
   unfold zq eqS;rw[List.isEmpty_iff.1 e,jd9];rfl
  rw[this] at h;cases h
theorem XK (n:Pd) (v1 v2 v3 v4:Value) (w:World):Calls Tryz.prog 45 #[jo n v1 v2 v3 v4] w fun e w'=>e=.returned (.bool (!jG n))∧Kept w w':=by
 have c9:=(jc w (.string n.name) [.string n.owner,.int .i64 n.prio,v1,v2,v3,v4,.string n.key,.int .i64 n.most,.string n.node,.bool n.hold] 41 _ (Kept.refl _)).at_ 9 _ rfl;have c10:=(jc w (.string n.name) [.string n.owner,.int .i64 n.prio,v1,v2,v3,v4,.string n.key,.int .i64 n.most,.string n.node,.bool n.hold] 41 _ (Kept.refl _)).at_ 10 _ rfl;have HV:=lH (show ∀a b,zq n.node=a→n.hold=b→(!jG n)=(!a||b) from fun a b ha hb=>by unfold jG;rw[ha,hb];cases a<;>cases b<;>rfl);unfold jo
 cases ha:zq n.node with
 | true =>
  have ha':n.node.toList.isEmpty=true:=noE ha;rw[HV.out true _ ha rfl];clear ha;go_enter Tryz.func45,Tryz.ntmps45;go_wp2;go_ret;exact⟨by first | rfl | simp,ja _ _⟩
 | false =>
  have ha':n.node.toList.isEmpty=false:=noF ha;rw[HV.out false _ ha rfl];clear ha;go_enter Tryz.func45,Tryz.ntmps45;go_wp2;go_ret;exact⟨by first | rfl | simp,ja _ _⟩
theorem qa (a:Option Addr) (len cap:Nat) (l:List Pd) (w:World) (hr:jv w a len l) :
 Calls Tryz.prog 85 #[.slice a len cap,.func (.func 45) #[] #[]] w (Say (.int .i64 (ZU (idxB (fun p=>!jG p) l))) w):=by
 have hl:=hr.1;have hm:=hr.2.1;unfold maxLen at hm;have HL:=lH hl;have HR:=lH hr;clear hr hl;go_enter Tryz.func85,Tryz.ntmps85;go_wp2;go_loopw [8] (fun i wr=>∃k:Nat,k≤len∧i=.int .i64 k∧(idxB (fun p=>!jG p) (l.drop k)).map (·+k)=idxB (fun p=>!jG p) l∧Kept w wr) (fun i _=>len-(intOf i).toNat)
 case atStart=>exact⟨0,Nat.zero_le _,rfl,by simp,Kept.refl _⟩
 case round =>
  obtain⟨k,hk,rfl,hrest,hK⟩:=hrel;have HS:=lH hrest;have HK:=lH hK;by_cases hlt:k<len
  · obtain⟨b,off,rfl⟩:=HR.out.form.resolve_left (by omega);obtain⟨n,a1,m1,c1,a2,m2,c2,a3,m3,c3,a4,m4,c4,hn,hd,hb,p0,p1,p2,p3,p4,p5,p6,p7,p8,p9,p10,hat⟩:=(HR.out.kept hK).at_ hlt;have HD:=lH hd;have UL:=lH (XK n (.slice a1 m1 c1) (.slice a2 m2 c2) (.slice a3 m3 c3) (.slice a4 m4 c4) wr);obtain⟨t,ht⟩:=eX ((!jG n))
    have HT:=lH ht;unfold jo at UL;have HC:=lH UL.out;rw[ht] at HC;clear UL;clear hrest hK hat hd hn ht
    cases t with
    | true =>
     have HF:=lH (Xw (f:=fun p=>!jG p) HD.out HT.out HS.out);go_wp2_with fail
     refine HC.out.mono ?_;rintro e w1 ⟨rfl,k1⟩;have K1:=lH (HK.out.trans k1);clear k1;go_wp2;go_ret;exact⟨by rw[HF.out];rfl,K1.out⟩
    | false =>
     have HE:=lH (YI (f:=fun p=>!jG p) HD.out HT.out HS.out);go_wp2_with fail
     refine HC.out.mono ?_;rintro e w1 ⟨rfl,k1⟩;have K1:=lH (HK.out.trans k1);clear k1;go_wp2;go_roundw
     case rel=>exact⟨k+1,by omega,by go_num,HE.out,K1.out⟩
     case measure=>simp[intOf];omega
  · have HF:=lH (show idxB (fun p=>!jG p) l=none by rw[←hrest,List.drop_of_length_le (by rw[HL.out];omega)];rfl);clear hrest hK;go_wp2;go_ret;exact⟨by rw[HF.out];rfl,HK.out⟩
theorem YA (l:List PX) (k:Nat):jd PodLay0 (l.take k)=(jd PodLay0 l).take (k*11):=by
 induction l generalizing k with
 | nil=>simp[jd]
 | cons z t ih =>
  cases k with
  | zero=>simp[jd]
  | succ k =>
   have e:(PodLay0.cs z).length=11:=rfl;have ih2:=ih k;unfold jd at ih2 ⊢;rw[List.take_succ_cons,List.flatMap_cons,List.flatMap_cons,ih2,show (k+1)*11=(PodLay0.cs z).length+k*11 by rw[e];omega,List.take_length_add_append]
theorem jac:∀{lx:List PX},idxB (fun p=>!jG p) (lx.map fun z=>z.1)=none→lx.filter (fun z=>jG z.1)=lx
 | [],_=>rfl
 | z::t,h=>by
  rw[List.map_cons,idxB] at h;split at h
  · cases h
  · rename_i g;have g2:jG z.1=true:=by simpa using g
    rw[List.filter_cons_of_pos (by exact g2),jac (Option.map_eq_none_iff.1 h)]
theorem jaf:∀{lx:List PX} {k:Nat},idxB (fun p=>!jG p) (lx.map fun z=>z.1)=some k→(lx.take (k+1)).filter (fun z=>jG z.1)=lx.take k
 | [],k,h=>by cases h
 | z::t,k,h=>by
  rw[List.map_cons,idxB] at h;split at h
  · rename_i g;obtain rfl:=Option.some.inj h;have g2:jG z.1=false:=by simpa using g
    rw[List.take_succ_cons,List.take_zero,List.take_zero,List.filter_cons_of_neg (by rw[g2];decide)];rfl
  · rename_i g;have g2:jG z.1=true:=by simpa using g
    cases e:idxB (fun p=>!jG p) (t.map fun z=>z.1) with
    | none=>rw[e] at h;cases h
    | some q =>
     rw[e] at h;obtain rfl:=Option.some.inj h;rw[List.take_succ_cons,List.take_succ_cons,List.filter_cons_of_pos (by exact g2),jaf e]
structure Xt (B g len cap i j:Nat) (lx:List PX) (w wr:World) (ly:List PX):Prop where
 own:Own PodLay0 41 wr B (.slice (some ⟨g,0,none⟩) len cap) ly
 len:ly.length=len
 fst:ly.take i=(lx.take j).filter fun z=>jG z.1
 snd:ly.drop j=lx.drop j
 off:jb (fun b=>b=g) w wr
theorem Xt.skip {B g len cap i j:Nat} {lx ly:List PX} {w wr w1:World} {z:PX} (h:Xt B g len cap i j lx w wr ly) (hz:lx[j]?=some z) (hr:jG z.1=false) (k:Kept wr w1):Xt B g len cap i (j+1) lx w w1 ly:=by
 refine⟨h.own.kept k,h.len,?_,?_,h.off.trans (jb.of k)⟩
 · rw[h.fst,List.take_add_one,hz,List.filter_append];simp[hr]
 · rw[←List.drop_drop,←List.drop_drop,h.snd]
theorem Xt.keep {B g len cap i j:Nat} {lx ly:List PX} {w wr w1:World} {z:PX} (h:Xt B g len cap i j lx w wr ly) (hij:i<j) (hj:j<len) (hz:lx[j]?=some z) (hr:jG z.1=true) (k:Kept wr w1):Xt B g len cap (i+1) (j+1) lx w (w1.setCells g (i*11) (PodLay0.cs z)) (ly.set i z):=by
 have hi:i<ly.length:=by rw[h.len];omega
 refine⟨(h.own.kept k).Zz hi z trivial,by rw[List.length_set];exact h.len,?_,?_,(h.off.trans (jb.of k)).trans (jb.cells (S:=fun b=>b=g) g rfl _ _ _)⟩
 · rw[List.take_add_one,List.getElem?_set_self hi,List.take_set_of_le (Nat.le_refl _),h.fst,List.take_add_one,hz,List.filter_append];simp[hr]
 · rw[List.drop_set_of_lt (by omega),←List.drop_drop,←List.drop_drop,h.snd]
theorem jeI (g len cap B:Nat) (lx:List PX) (w:World) (ho:Own PodLay0 41 w B (.slice (some ⟨g,0,none⟩) len cap) lx) (hat:∀z ∈ lx,At4 w z) (hlen:len≤100000) :
 Calls Tryz.prog 43 #[.slice (some ⟨g,0,none⟩) len cap,.func (.func 45) #[] #[]] w fun e w'=>∃n,e=.returned (.slice (some ⟨g,0,none⟩) n cap)∧Own PodLay0 41 w' B (.slice (some ⟨g,0,none⟩) n cap) (lx.filter fun z=>jG z.1)∧jb (fun b=>b=g) w w':=by
 have hn:len=lx.length:=by obtain⟨a,c,e,_⟩:=ho.at_;cases e;rfl
 have hr:jv w (some ⟨g,0,none⟩) len (lx.map fun z=>z.1):=jbx (ZY ho hat);obtain⟨cur,hB,hg,hlc,hm,hsz,ht,hl⟩:=zp (show w.ownsRow B 41 11 (.slice (some ⟨g,0,none⟩) len cap) len (jd PodLay0 lx) by have:=ho.1;rw[←hn] at this;exact this);obtain⟨HI,HO,HN⟩:=lH3 (qa (some ⟨g,0,none⟩) len cap (lx.map fun z=>z.1) w hr) ho hn;have hm':cap≤9223372036854775807:=by unfold maxLen at hm;omega
 clear ho hr hat hn hB hg hsz ht hl hm
 cases hi:idxB (fun p=>!jG p) (lx.map fun z=>z.1) with
 | none =>
  rw[hi] at HI;have HF:=lH (jac hi);clear hi;unfold ZU at HI;go_enter Tryz.func43,Tryz.ntmps43;go_wp2_with fail
  refine HI.out.mono ?_;rintro e w1 ⟨rfl,k⟩;have K:=lH k;clear k;go_wp2;go_ret;exact⟨len,rfl,by rw[HF.out];exact HO.out.kept K.out,jb.of K.out⟩
 | some k0 =>
  rw[hi] at HI;have hk0:k0<len:=by have:=ZB hi;rw[List.length_map] at this;have:=HN.out;omega
  have HF:=lH (jaf hi);clear hi;unfold ZU at HI;have hne:((k0:Int)==-1)=false:=beq_eq_false_iff_ne.2 (by omega);go_enter Tryz.func43,Tryz.ntmps43;go_wp2_with fail
  refine HI.out.mono ?_;rintro e w1 ⟨rfl,k⟩;have K:=lH k;clear k;go_wp2_with fail
  go_loopw [5,6] (fun vi vj wr=>∃(i j:Nat) (ly:List PX),vi=.int .i64 i∧vj=.int .i64 j∧i<j∧j≤len∧Xt B g len cap i j lx w wr ly) (fun _ vj _=>len-(intOf vj).toNat)
  case atStart=>exact⟨k0,k0+1,lx,rfl,by first | rfl | go_num,by omega,by omega,HO.out.kept K.out,HN.out.symm,HF.out.symm,rfl,jb.of K.out⟩
  case round =>
   obtain⟨i,j,ly,rfl,rfl,hij,hj,hinv⟩:=hrel;have HV:=lH hinv;have hly:=hinv.len;by_cases hlt:j<len
   · obtain⟨z,hz⟩:∃z,ly[j]?=some z:=⟨_,List.getElem?_eq_getElem (by omega)⟩
     have hzx:lx[j]?=some z:=by
      have h0:(ly.drop j)[0]?=(lx.drop j)[0]?:=by rw[hinv.snd]
      rw[List.getElem?_drop,List.getElem?_drop,Nat.add_zero] at h0;rw[←h0];exact hz
     obtain⟨y,hy⟩:∃z,ly[i]?=some z:=⟨_,List.getElem?_eq_getElem (by omega)⟩
     have HY:=lH hy;obtain⟨n,⟨b1,n1,d1⟩,⟨b2,n2,d2⟩,⟨b3,n3,d3⟩,⟨b4,n4,d4⟩⟩:=z;have p0:wr.cell? ⟨g,j*11,none⟩=some (.string n.name):=hinv.own.cell_at hz (j:=0) rfl;have p1:wr.cell? ⟨g,j*11+1,none⟩=some (.string n.owner):=hinv.own.cell_at hz (j:=1) rfl;have p2:wr.cell? ⟨g,j*11+2,none⟩=some (.int .i64 n.prio):=hinv.own.cell_at hz (j:=2) rfl;have p3:wr.cell? ⟨g,j*11+3,none⟩=some (.slice b1 n1 d1):=hinv.own.cell_at hz (j:=3) rfl;have p4:wr.cell? ⟨g,j*11+4,none⟩=some (.slice b2 n2 d2):=hinv.own.cell_at hz (j:=4) rfl;have p5:wr.cell? ⟨g,j*11+5,none⟩=some (.slice b3 n3 d3):=hinv.own.cell_at hz (j:=5) rfl;have p6:wr.cell? ⟨g,j*11+6,none⟩=some (.slice b4 n4 d4):=hinv.own.cell_at hz (j:=6) rfl;have p7:wr.cell? ⟨g,j*11+7,none⟩=some (.string n.key):=hinv.own.cell_at hz (j:=7) rfl;have p8:wr.cell? ⟨g,j*11+8,none⟩=some (.int .i64 n.most):=hinv.own.cell_at hz (j:=8) rfl;have p9:wr.cell? ⟨g,j*11+9,none⟩=some (.string n.node):=hinv.own.cell_at hz (j:=9) rfl;have p10:wr.cell? ⟨g,j*11+10,none⟩=some (.bool n.hold):=hinv.own.cell_at hz (j:=10) rfl;have Tp:=lH hzx;have hjj:(j:Int)<(len:Int):=by omega
     have HS:=lH (XK n (.slice b1 n1 d1) (.slice b2 n2 d2) (.slice b3 n3 d3) (.slice b4 n4 d4) (wr.alloc (.cells #[.string n.name,.string n.owner,.int .i64 n.prio,.slice b1 n1 d1,.slice b2 n2 d2,.slice b3 n3 d3,.slice b4 n4 d4,.string n.key,.int .i64 n.most,.string n.node,.bool n.hold] 41)));unfold jo at HS;obtain⟨c,hc⟩:=eX (jG n)
     have HC:=lH hc;rw[hc] at HS;clear hz hzx hy hinv hc hly
     cases c with
     | false =>
      go_wp2_with fail
      refine HS.out.mono ?_;rintro e w2 ⟨rfl,kk⟩;have HD:=lH (HV.out.skip Tp.out HC.out ((ja _ _).trans kk));clear kk p0 p1 p2 p3 p4 p5 p6 p7 p8 p9 p10;go_wp2;go_roundw
      case rel=>exact⟨i,j+1,ly,rfl,by first | rfl | go_num,by omega,by omega,HD.out⟩
      case measure=>simp[intOf];omega
     | true =>
      go_wp2_with fail
      refine HS.out.mono ?_;rintro e w2 ⟨rfl,kk⟩;have KW:=lH ((ja wr (.cells #[.string n.name,.string n.owner,.int .i64 n.prio,.slice b1 n1 d1,.slice b2 n2 d2,.slice b3 n3 d3,.slice b4 n4 d4,.string n.key,.int .i64 n.most,.string n.node,.bool n.hold] 41)).trans kk);obtain⟨y0,y1,y2,y3,y4,y5,y6,y7,y8,y9,y10⟩:=(jc wr (.string n.name) [.string n.owner,.int .i64 n.prio,.slice b1 n1 d1,.slice b2 n2 d2,.slice b3 n3 d3,.slice b4 n4 d4,.string n.key,.int .i64 n.most,.string n.node,.bool n.hold] 41 w2 kk).at11;have HD:=lH (HV.out.keep hij hlt Tp.out HC.out KW.out);obtain⟨u0,q0⟩:∃u,w2.cell? ⟨g,i*11,none⟩=some u:=⟨_,(HV.out.own.kept KW.out).cell_at HY.out (j:=0) rfl⟩
      obtain⟨u1,q1⟩:∃u,w2.cell? ⟨g,i*11+1,none⟩=some u:=⟨_,(HV.out.own.kept KW.out).cell_at HY.out (j:=1) rfl⟩
      obtain⟨u2,q2⟩:∃u,w2.cell? ⟨g,i*11+2,none⟩=some u:=⟨_,(HV.out.own.kept KW.out).cell_at HY.out (j:=2) rfl⟩
      obtain⟨u3,q3⟩:∃u,w2.cell? ⟨g,i*11+3,none⟩=some u:=⟨_,(HV.out.own.kept KW.out).cell_at HY.out (j:=3) rfl⟩
      obtain⟨u4,q4⟩:∃u,w2.cell? ⟨g,i*11+4,none⟩=some u:=⟨_,(HV.out.own.kept KW.out).cell_at HY.out (j:=4) rfl⟩
      obtain⟨u5,q5⟩:∃u,w2.cell? ⟨g,i*11+5,none⟩=some u:=⟨_,(HV.out.own.kept KW.out).cell_at HY.out (j:=5) rfl⟩
      obtain⟨u6,q6⟩:∃u,w2.cell? ⟨g,i*11+6,none⟩=some u:=⟨_,(HV.out.own.kept KW.out).cell_at HY.out (j:=6) rfl⟩
      obtain⟨u7,q7⟩:∃u,w2.cell? ⟨g,i*11+7,none⟩=some u:=⟨_,(HV.out.own.kept KW.out).cell_at HY.out (j:=7) rfl⟩
      obtain⟨u8,q8⟩:∃u,w2.cell? ⟨g,i*11+8,none⟩=some u:=⟨_,(HV.out.own.kept KW.out).cell_at HY.out (j:=8) rfl⟩
      obtain⟨u9,q9⟩:∃u,w2.cell? ⟨g,i*11+9,none⟩=some u:=⟨_,(HV.out.own.kept KW.out).cell_at HY.out (j:=9) rfl⟩
      obtain⟨u10,q10⟩:∃u,w2.cell? ⟨g,i*11+10,none⟩=some u:=⟨_,(HV.out.own.kept KW.out).cell_at HY.out (j:=10) rfl⟩
      have x0f:w2.frozen? ⟨g,i*11,none⟩=false:=(HV.out.own.kept KW.out).frozen_at _;have x1f:w2.frozen? ⟨g,i*11+1,none⟩=false:=(HV.out.own.kept KW.out).frozen_at _;have x2f:w2.frozen? ⟨g,i*11+2,none⟩=false:=(HV.out.own.kept KW.out).frozen_at _;have x3f:w2.frozen? ⟨g,i*11+3,none⟩=false:=(HV.out.own.kept KW.out).frozen_at _;have x4f:w2.frozen? ⟨g,i*11+4,none⟩=false:=(HV.out.own.kept KW.out).frozen_at _;have x5f:w2.frozen? ⟨g,i*11+5,none⟩=false:=(HV.out.own.kept KW.out).frozen_at _;have x6f:w2.frozen? ⟨g,i*11+6,none⟩=false:=(HV.out.own.kept KW.out).frozen_at _;have x7f:w2.frozen? ⟨g,i*11+7,none⟩=false:=(HV.out.own.kept KW.out).frozen_at _;have x8f:w2.frozen? ⟨g,i*11+8,none⟩=false:=(HV.out.own.kept KW.out).frozen_at _;have x9f:w2.frozen? ⟨g,i*11+9,none⟩=false:=(HV.out.own.kept KW.out).frozen_at _;have x10f:w2.frozen? ⟨g,i*11+10,none⟩=false:=(HV.out.own.kept KW.out).frozen_at _;have hii:(i:Int)<(len:Int):=by omega
      clear kk p0 p1 p2 p3 p4 p5 p6 p7 p8 p9 p10;go_wp2;obtain⟨WE,hWE⟩:=eX (w2.setCells g (i*11) [.string n.name,.string n.owner,.int .i64 n.prio,.slice b1 n1 d1,.slice b2 n2 d2,.slice b3 n3 d3,.slice b4 n4 d4,.string n.key,.int .i64 n.most,.string n.node,.bool n.hold])
      have hWE2:(((((((((((w2.setCell ⟨g,i*11,none⟩ (.string n.name)).setCell ⟨g,i*11+1,none⟩ (.string n.owner)).setCell ⟨g,i*11+2,none⟩ (.int .i64 n.prio)).setCell ⟨g,i*11+3,none⟩ (.slice b1 n1 d1)).setCell ⟨g,i*11+4,none⟩ (.slice b2 n2 d2)).setCell ⟨g,i*11+5,none⟩ (.slice b3 n3 d3)).setCell ⟨g,i*11+6,none⟩ (.slice b4 n4 d4)).setCell ⟨g,i*11+7,none⟩ (.string n.key)).setCell ⟨g,i*11+8,none⟩ (.int .i64 n.most)).setCell ⟨g,i*11+9,none⟩ (.string n.node)).setCell ⟨g,i*11+10,none⟩ (.bool n.hold))=WE:=hWE;have HD:=lH (show Xt B g len cap (i+1) (j+1) lx w WE (ly.set i (n,(b1,n1,d1),(b2,n2,d2),(b3,n3,d3),(b4,n4,d4))) by rw[←hWE];exact HD.out);try rw[hWE2]
      clear y0 y1 y2 y3 y4 y5 y6 y7 y8 y9 y10 hWE hWE2 q0 q1 q2 q3 q4 q5 q6 q7 q8 q9 q10 x0f x1f x2f x3f x4f x5f x6f x7f x8f x9f x10f;go_roundw
      case rel=>exact⟨i+1,j+1,_,by first | rfl | go_num,by first | rfl | go_num,by omega,by omega,HD.out⟩
      case measure=>simp[intOf];omega
   · obtain rfl:j=len:=by omega
     obtain⟨i0,hi0,hz0,hz1,hz2⟩:=info_parts Z2;have hxs:ly.filter (fun _=>true)=ly:=by simp
     have hrl:(jd PodLay0 ly).length=j*11:=by rw[jx,hinv.len];rfl
     have hown:wr.ownsRow B 41 11 (.slice (some ⟨g,0,none⟩) j cap) j (jd PodLay0 ly):=by have:=hinv.own.1;rw[hly] at this;exact this
     have hcell:∀t,t<j*11→(wr.cell? ⟨g,t,none⟩).isSome=true:=fun t h=>by
      rw[hown.cellAt t h,List.getElem?_eq_getElem (by rw[hrl];exact h)];rfl
     have hcl:∀ty,(Builtin.clear_ #[32] ty #[.slice (some ⟨g,i*11,none⟩) (j-i) (cap-i)]).run Tryz.prog wr=.ok (.tuple #[]) (wr.setCells g (i*11) (Builtin.zeroCells jQ (j-i)).toList) :=
      fun ty=>Zm wr _ 41 ty i0 (.agg jQ) Tryz.underlying32 hi0 hz0 g _ _ _ (by omega) (Xf _) (fun t h=>hcell _ (by rw[Ya,zz] at h;omega)) (fun t h=>hinv.own.frozen_at _)
     have X:=lH (show Own PodLay0 41 (wr.setCells g (i*11) (Builtin.zeroCells jQ (j-i)).toList) B (.slice (some ⟨g,0,none⟩) i cap) (lx.filter fun z=>jG z.1) by
      have hfl:ly.take i=lx.filter fun z=>jG z.1:=by rw[hinv.fst,List.take_of_length_le (by rw[HN.out];exact Nat.le_refl _)]
      have hli:(ly.take i).length=i:=by rw[List.length_take];omega
      have h:=XW (i:=i) (j:=j) (zs:=(Builtin.zeroCells jQ (j-i)).toList) hown (Nat.le_of_lt hij) (Nat.le_refl _) (by rw[Array.length_toList,zz]);rw[List.drop_of_length_le (by rw[hrl];exact Nat.le_refl _),Nat.sub_self,Nat.add_zero,List.append_nil] at h;refine⟨?_,fun _ _=>trivial⟩;rw[←hfl,hli];have e2:jd PodLay0 (ly.take i)=(jd PodLay0 ly).take (i*11):=YA ly i;rw[e2];exact h)
     have GX:=lH (show jb (fun b=>b=g) w (wr.setCells g (i*11) (Builtin.zeroCells jQ (j-i)).toList) from hinv.off.trans (jb.cells (S:=fun b=>b=g) g rfl _ _ _));have hjj:¬(j:Int)<(j:Int):=by omega
     have hci:¬cap=i:=by omega
     have hic:i≤cap:=by omega
     have hil:i≤j:=by omega
     clear hinv hcell hown hrl hxs hly;go_wp2;go_ret;exact⟨i,rfl,X.out,GX.out⟩
theorem jdL (w:World):Calls Tryz.prog 43 #[.slice none 0 0,.func (.func 45) #[] #[]] w fun e w'=>e=.returned (.slice none 0 0)∧Kept w w':=by
 have HI:=lH (qa none 0 0 [] w ⟨rfl,by decide,.inl rfl⟩);have HI:=lH (show Calls Tryz.prog 85 #[.slice none 0 0,.func (.func 45) #[] #[]] w (Say (.int .i64 (-1)) w) from HI.out);go_enter Tryz.func43,Tryz.ntmps43;go_wp2_with fail
 refine HI.out.mono ?_;rintro e w1 ⟨rfl,k⟩;have K:=lH k;clear k;go_wp2;go_ret;exact⟨rfl,K.out⟩
theorem jbd (n:Pd) (v1 v2 v3 v4:Value) (w:World):Calls Tryz.prog 138 #[jo n v1 v2 v3 v4] w fun e w'=>e=.returned (.bool (!jM n))∧Kept w w':=by
 have c10:=(jc w (.string n.name) [.string n.owner,.int .i64 n.prio,v1,v2,v3,v4,.string n.key,.int .i64 n.most,.string n.node,.bool n.hold] 41 _ (Kept.refl _)).at_ 10 _ rfl;rw[show (!jM n)=n.hold by unfold jM;rw[Bool.not_not]];unfold jo;go_enter Tryz.func138,Tryz.ntmps138;go_wp2;go_ret;exact⟨by first | rfl | simp,ja _ _⟩
theorem XT (a:Option Addr) (len cap:Nat) (l:List Pd) (w:World) (hr:jv w a len l) :
 Calls Tryz.prog 85 #[.slice a len cap,.func (.func 138) #[] #[]] w (Say (.int .i64 (ZU (idxB (fun p=>!jM p) l))) w):=by
 have hl:=hr.1;have hm:=hr.2.1;unfold maxLen at hm;have HL:=lH hl;have HR:=lH hr;clear hr hl;go_enter Tryz.func85,Tryz.ntmps85;go_wp2;go_loopw [8] (fun i wr=>∃k:Nat,k≤len∧i=.int .i64 k∧(idxB (fun p=>!jM p) (l.drop k)).map (·+k)=idxB (fun p=>!jM p) l∧Kept w wr) (fun i _=>len-(intOf i).toNat)
 case atStart=>exact⟨0,Nat.zero_le _,rfl,by simp,Kept.refl _⟩
 case round =>
  obtain⟨k,hk,rfl,hrest,hK⟩:=hrel;have HS:=lH hrest;have HK:=lH hK;by_cases hlt:k<len
  · obtain⟨b,off,rfl⟩:=HR.out.form.resolve_left (by omega);obtain⟨n,a1,m1,c1,a2,m2,c2,a3,m3,c3,a4,m4,c4,hn,hd,hb,p0,p1,p2,p3,p4,p5,p6,p7,p8,p9,p10,hat⟩:=(HR.out.kept hK).at_ hlt;have HD:=lH hd;have UL:=lH (jbd n (.slice a1 m1 c1) (.slice a2 m2 c2) (.slice a3 m3 c3) (.slice a4 m4 c4) wr);obtain⟨t,ht⟩:=eX ((!jM n))
    have HT:=lH ht;unfold jo at UL;have HC:=lH UL.out;rw[ht] at HC;clear UL;clear hrest hK hat hd hn ht
    cases t with
    | true =>
     have HF:=lH (Xw (f:=fun p=>!jM p) HD.out HT.out HS.out);go_wp2_with fail
     refine HC.out.mono ?_;rintro e w1 ⟨rfl,k1⟩;have K1:=lH (HK.out.trans k1);clear k1;go_wp2;go_ret;exact⟨by rw[HF.out];rfl,K1.out⟩
    | false =>
     have HE:=lH (YI (f:=fun p=>!jM p) HD.out HT.out HS.out);go_wp2_with fail
     refine HC.out.mono ?_;rintro e w1 ⟨rfl,k1⟩;have K1:=lH (HK.out.trans k1);clear k1;go_wp2;go_roundw
     case rel=>exact⟨k+1,by omega,by go_num,HE.out,K1.out⟩
     case measure=>simp[intOf];omega
  · have HF:=lH (show idxB (fun p=>!jM p) l=none by rw[←hrest,List.drop_of_length_le (by rw[HL.out];omega)];rfl);clear hrest hK;go_wp2;go_ret;exact⟨by rw[HF.out];rfl,HK.out⟩
theorem qe:∀{lx:List PX},idxB (fun p=>!jM p) (lx.map fun z=>z.1)=none→lx.filter (fun z=>jM z.1)=lx
 | [],_=>rfl
 | z::t,h=>by
  rw[List.map_cons,idxB] at h;split at h
  · cases h
  · rename_i g;have g2:jM z.1=true:=by simpa using g
    rw[List.filter_cons_of_pos (by exact g2),qe (Option.map_eq_none_iff.1 h)]
theorem qo:∀{lx:List PX} {k:Nat},idxB (fun p=>!jM p) (lx.map fun z=>z.1)=some k→(lx.take (k+1)).filter (fun z=>jM z.1)=lx.take k
 | [],k,h=>by cases h
 | z::t,k,h=>by
  rw[List.map_cons,idxB] at h;split at h
  · rename_i g;obtain rfl:=Option.some.inj h;have g2:jM z.1=false:=by simpa using g
    rw[List.take_succ_cons,List.take_zero,List.take_zero,List.filter_cons_of_neg (by rw[g2];decide)];rfl
  · rename_i g;have g2:jM z.1=true:=by simpa using g
    cases e:idxB (fun p=>!jM p) (t.map fun z=>z.1) with
    | none=>rw[e] at h;cases h
    | some q =>
     rw[e] at h;obtain rfl:=Option.some.inj h;rw[List.take_succ_cons,List.take_succ_cons,List.filter_cons_of_pos (by exact g2),qo e]
structure Xo (B g len cap i j:Nat) (lx:List PX) (w wr:World) (ly:List PX):Prop where
 own:Own PodLay0 41 wr B (.slice (some ⟨g,0,none⟩) len cap) ly
 len:ly.length=len
 fst:ly.take i=(lx.take j).filter fun z=>jM z.1
 snd:ly.drop j=lx.drop j
 off:jb (fun b=>b=g) w wr
theorem Xo.skip {B g len cap i j:Nat} {lx ly:List PX} {w wr w1:World} {z:PX} (h:Xo B g len cap i j lx w wr ly) (hz:lx[j]?=some z) (hr:jM z.1=false) (k:Kept wr w1):Xo B g len cap i (j+1) lx w w1 ly:=by
 refine⟨h.own.kept k,h.len,?_,?_,h.off.trans (jb.of k)⟩
 · rw[h.fst,List.take_add_one,hz,List.filter_append];simp[hr]
 · rw[←List.drop_drop,←List.drop_drop,h.snd]
theorem Xo.keep {B g len cap i j:Nat} {lx ly:List PX} {w wr w1:World} {z:PX} (h:Xo B g len cap i j lx w wr ly) (hij:i<j) (hj:j<len) (hz:lx[j]?=some z) (hr:jM z.1=true) (k:Kept wr w1):Xo B g len cap (i+1) (j+1) lx w (w1.setCells g (i*11) (PodLay0.cs z)) (ly.set i z):=by
 have hi:i<ly.length:=by rw[h.len];omega
 refine⟨(h.own.kept k).Zz hi z trivial,by rw[List.length_set];exact h.len,?_,?_,(h.off.trans (jb.of k)).trans (jb.cells (S:=fun b=>b=g) g rfl _ _ _)⟩
 · rw[List.take_add_one,List.getElem?_set_self hi,List.take_set_of_le (Nat.le_refl _),h.fst,List.take_add_one,hz,List.filter_append];simp[hr]
 · rw[List.drop_set_of_lt (by omega),←List.drop_drop,←List.drop_drop,h.snd]
theorem jfw (g len cap B:Nat) (lx:List PX) (w:World) (ho:Own PodLay0 41 w B (.slice (some ⟨g,0,none⟩) len cap) lx) (hat:∀z ∈ lx,At4 w z) (hlen:len≤100000) :
 Calls Tryz.prog 43 #[.slice (some ⟨g,0,none⟩) len cap,.func (.func 138) #[] #[]] w fun e w'=>∃n,e=.returned (.slice (some ⟨g,0,none⟩) n cap)∧Own PodLay0 41 w' B (.slice (some ⟨g,0,none⟩) n cap) (lx.filter fun z=>jM z.1)∧jb (fun b=>b=g) w w':=by
 have hn:len=lx.length:=by obtain⟨a,c,e,_⟩:=ho.at_;cases e;rfl
 have hr:jv w (some ⟨g,0,none⟩) len (lx.map fun z=>z.1):=jbx (ZY ho hat);obtain⟨cur,hB,hg,hlc,hm,hsz,ht,hl⟩:=zp (show w.ownsRow B 41 11 (.slice (some ⟨g,0,none⟩) len cap) len (jd PodLay0 lx) by have:=ho.1;rw[←hn] at this;exact this);obtain⟨HI,HO,HN⟩:=lH3 (XT (some ⟨g,0,none⟩) len cap (lx.map fun z=>z.1) w hr) ho hn;have hm':cap≤9223372036854775807:=by unfold maxLen at hm;omega
 clear ho hr hat hn hB hg hsz ht hl hm
 cases hi:idxB (fun p=>!jM p) (lx.map fun z=>z.1) with
 | none =>
  rw[hi] at HI;have HF:=lH (qe hi);clear hi;unfold ZU at HI;go_enter Tryz.func43,Tryz.ntmps43;go_wp2_with fail
  refine HI.out.mono ?_;rintro e w1 ⟨rfl,k⟩;have K:=lH k;clear k;go_wp2;go_ret;exact⟨len,rfl,by rw[HF.out];exact HO.out.kept K.out,jb.of K.out⟩
 | some k0 =>
  rw[hi] at HI;have hk0:k0<len:=by have:=ZB hi;rw[List.length_map] at this;have:=HN.out;omega
  have HF:=lH (qo hi);clear hi;unfold ZU at HI;have hne:((k0:Int)==-1)=false:=beq_eq_false_iff_ne.2 (by omega);go_enter Tryz.func43,Tryz.ntmps43;go_wp2_with fail
  refine HI.out.mono ?_;rintro e w1 ⟨rfl,k⟩;have K:=lH k;clear k;go_wp2_with fail
  go_loopw [5,6] (fun vi vj wr=>∃(i j:Nat) (ly:List PX),vi=.int .i64 i∧vj=.int .i64 j∧i<j∧j≤len∧Xo B g len cap i j lx w wr ly) (fun _ vj _=>len-(intOf vj).toNat)
  case atStart=>exact⟨k0,k0+1,lx,rfl,by first | rfl | go_num,by omega,by omega,HO.out.kept K.out,HN.out.symm,HF.out.symm,rfl,jb.of K.out⟩
  case round =>
   obtain⟨i,j,ly,rfl,rfl,hij,hj,hinv⟩:=hrel;have HV:=lH hinv;have hly:=hinv.len;by_cases hlt:j<len
   · obtain⟨z,hz⟩:∃z,ly[j]?=some z:=⟨_,List.getElem?_eq_getElem (by omega)⟩
     have hzx:lx[j]?=some z:=by
      have h0:(ly.drop j)[0]?=(lx.drop j)[0]?:=by rw[hinv.snd]
      rw[List.getElem?_drop,List.getElem?_drop,Nat.add_zero] at h0;rw[←h0];exact hz
     obtain⟨y,hy⟩:∃z,ly[i]?=some z:=⟨_,List.getElem?_eq_getElem (by omega)⟩
     have HY:=lH hy;obtain⟨n,⟨b1,n1,d1⟩,⟨b2,n2,d2⟩,⟨b3,n3,d3⟩,⟨b4,n4,d4⟩⟩:=z;have p0:wr.cell? ⟨g,j*11,none⟩=some (.string n.name):=hinv.own.cell_at hz (j:=0) rfl;have p1:wr.cell? ⟨g,j*11+1,none⟩=some (.string n.owner):=hinv.own.cell_at hz (j:=1) rfl;have p2:wr.cell? ⟨g,j*11+2,none⟩=some (.int .i64 n.prio):=hinv.own.cell_at hz (j:=2) rfl;have p3:wr.cell? ⟨g,j*11+3,none⟩=some (.slice b1 n1 d1):=hinv.own.cell_at hz (j:=3) rfl;have p4:wr.cell? ⟨g,j*11+4,none⟩=some (.slice b2 n2 d2):=hinv.own.cell_at hz (j:=4) rfl;have p5:wr.cell? ⟨g,j*11+5,none⟩=some (.slice b3 n3 d3):=hinv.own.cell_at hz (j:=5) rfl;have p6:wr.cell? ⟨g,j*11+6,none⟩=some (.slice b4 n4 d4):=hinv.own.cell_at hz (j:=6) rfl;have p7:wr.cell? ⟨g,j*11+7,none⟩=some (.string n.key):=hinv.own.cell_at hz (j:=7) rfl;have p8:wr.cell? ⟨g,j*11+8,none⟩=some (.int .i64 n.most):=hinv.own.cell_at hz (j:=8) rfl;have p9:wr.cell? ⟨g,j*11+9,none⟩=some (.string n.node):=hinv.own.cell_at hz (j:=9) rfl;have p10:wr.cell? ⟨g,j*11+10,none⟩=some (.bool n.hold):=hinv.own.cell_at hz (j:=10) rfl;have Tp:=lH hzx;have hjj:(j:Int)<(len:Int):=by omega
     have HS:=lH (jbd n (.slice b1 n1 d1) (.slice b2 n2 d2) (.slice b3 n3 d3) (.slice b4 n4 d4) (wr.alloc (.cells #[.string n.name,.string n.owner,.int .i64 n.prio,.slice b1 n1 d1,.slice b2 n2 d2,.slice b3 n3 d3,.slice b4 n4 d4,.string n.key,.int .i64 n.most,.string n.node,.bool n.hold] 41)));unfold jo at HS;obtain⟨c,hc⟩:=eX (jM n)
     have HC:=lH hc;rw[hc] at HS;clear hz hzx hy hinv hc hly
     cases c with
     | false =>
      go_wp2_with fail
      refine HS.out.mono ?_;rintro e w2 ⟨rfl,kk⟩;have HD:=lH (HV.out.skip Tp.out HC.out ((ja _ _).trans kk));clear kk p0 p1 p2 p3 p4 p5 p6 p7 p8 p9 p10;go_wp2;go_roundw
      case rel=>exact⟨i,j+1,ly,rfl,by first | rfl | go_num,by omega,by omega,HD.out⟩
      case measure=>simp[intOf];omega
     | true =>
      go_wp2_with fail
      refine HS.out.mono ?_;rintro e w2 ⟨rfl,kk⟩;have KW:=lH ((ja wr (.cells #[.string n.name,.string n.owner,.int .i64 n.prio,.slice b1 n1 d1,.slice b2 n2 d2,.slice b3 n3 d3,.slice b4 n4 d4,.string n.key,.int .i64 n.most,.string n.node,.bool n.hold] 41)).trans kk);obtain⟨y0,y1,y2,y3,y4,y5,y6,y7,y8,y9,y10⟩:=(jc wr (.string n.name) [.string n.owner,.int .i64 n.prio,.slice b1 n1 d1,.slice b2 n2 d2,.slice b3 n3 d3,.slice b4 n4 d4,.string n.key,.int .i64 n.most,.string n.node,.bool n.hold] 41 w2 kk).at11;have HD:=lH (HV.out.keep hij hlt Tp.out HC.out KW.out);obtain⟨u0,q0⟩:∃u,w2.cell? ⟨g,i*11,none⟩=some u:=⟨_,(HV.out.own.kept KW.out).cell_at HY.out (j:=0) rfl⟩
      obtain⟨u1,q1⟩:∃u,w2.cell? ⟨g,i*11+1,none⟩=some u:=⟨_,(HV.out.own.kept KW.out).cell_at HY.out (j:=1) rfl⟩
      obtain⟨u2,q2⟩:∃u,w2.cell? ⟨g,i*11+2,none⟩=some u:=⟨_,(HV.out.own.kept KW.out).cell_at HY.out (j:=2) rfl⟩
      obtain⟨u3,q3⟩:∃u,w2.cell? ⟨g,i*11+3,none⟩=some u:=⟨_,(HV.out.own.kept KW.out).cell_at HY.out (j:=3) rfl⟩
      obtain⟨u4,q4⟩:∃u,w2.cell? ⟨g,i*11+4,none⟩=some u:=⟨_,(HV.out.own.kept KW.out).cell_at HY.out (j:=4) rfl⟩
      obtain⟨u5,q5⟩:∃u,w2.cell? ⟨g,i*11+5,none⟩=some u:=⟨_,(HV.out.own.kept KW.out).cell_at HY.out (j:=5) rfl⟩
      obtain⟨u6,q6⟩:∃u,w2.cell? ⟨g,i*11+6,none⟩=some u:=⟨_,(HV.out.own.kept KW.out).cell_at HY.out (j:=6) rfl⟩
      obtain⟨u7,q7⟩:∃u,w2.cell? ⟨g,i*11+7,none⟩=some u:=⟨_,(HV.out.own.kept KW.out).cell_at HY.out (j:=7) rfl⟩
      obtain⟨u8,q8⟩:∃u,w2.cell? ⟨g,i*11+8,none⟩=some u:=⟨_,(HV.out.own.kept KW.out).cell_at HY.out (j:=8) rfl⟩
      obtain⟨u9,q9⟩:∃u,w2.cell? ⟨g,i*11+9,none⟩=some u:=⟨_,(HV.out.own.kept KW.out).cell_at HY.out (j:=9) rfl⟩
      obtain⟨u10,q10⟩:∃u,w2.cell? ⟨g,i*11+10,none⟩=some u:=⟨_,(HV.out.own.kept KW.out).cell_at HY.out (j:=10) rfl⟩
      have x0f:w2.frozen? ⟨g,i*11,none⟩=false:=(HV.out.own.kept KW.out).frozen_at _;have x1f:w2.frozen? ⟨g,i*11+1,none⟩=false:=(HV.out.own.kept KW.out).frozen_at _;have x2f:w2.frozen? ⟨g,i*11+2,none⟩=false:=(HV.out.own.kept KW.out).frozen_at _;have x3f:w2.frozen? ⟨g,i*11+3,none⟩=false:=(HV.out.own.kept KW.out).frozen_at _;have x4f:w2.frozen? ⟨g,i*11+4,none⟩=false:=(HV.out.own.kept KW.out).frozen_at _;have x5f:w2.frozen? ⟨g,i*11+5,none⟩=false:=(HV.out.own.kept KW.out).frozen_at _;have x6f:w2.frozen? ⟨g,i*11+6,none⟩=false:=(HV.out.own.kept KW.out).frozen_at _;have x7f:w2.frozen? ⟨g,i*11+7,none⟩=false:=(HV.out.own.kept KW.out).frozen_at _;have x8f:w2.frozen? ⟨g,i*11+8,none⟩=false:=(HV.out.own.kept KW.out).frozen_at _;have x9f:w2.frozen? ⟨g,i*11+9,none⟩=false:=(HV.out.own.kept KW.out).frozen_at _;have x10f:w2.frozen? ⟨g,i*11+10,none⟩=false:=(HV.out.own.kept KW.out).frozen_at _;have hii:(i:Int)<(len:Int):=by omega
      clear kk p0 p1 p2 p3 p4 p5 p6 p7 p8 p9 p10;go_wp2;obtain⟨WE,hWE⟩:=eX (w2.setCells g (i*11) [.string n.name,.string n.owner,.int .i64 n.prio,.slice b1 n1 d1,.slice b2 n2 d2,.slice b3 n3 d3,.slice b4 n4 d4,.string n.key,.int .i64 n.most,.string n.node,.bool n.hold])
      have hWE2:(((((((((((w2.setCell ⟨g,i*11,none⟩ (.string n.name)).setCell ⟨g,i*11+1,none⟩ (.string n.owner)).setCell ⟨g,i*11+2,none⟩ (.int .i64 n.prio)).setCell ⟨g,i*11+3,none⟩ (.slice b1 n1 d1)).setCell ⟨g,i*11+4,none⟩ (.slice b2 n2 d2)).setCell ⟨g,i*11+5,none⟩ (.slice b3 n3 d3)).setCell ⟨g,i*11+6,none⟩ (.slice b4 n4 d4)).setCell ⟨g,i*11+7,none⟩ (.string n.key)).setCell ⟨g,i*11+8,none⟩ (.int .i64 n.most)).setCell ⟨g,i*11+9,none⟩ (.string n.node)).setCell ⟨g,i*11+10,none⟩ (.bool n.hold))=WE:=hWE;have HD:=lH (show Xo B g len cap (i+1) (j+1) lx w WE (ly.set i (n,(b1,n1,d1),(b2,n2,d2),(b3,n3,d3),(b4,n4,d4))) by rw[←hWE];exact HD.out);try rw[hWE2]
      clear y0 y1 y2 y3 y4 y5 y6 y7 y8 y9 y10 hWE hWE2 q0 q1 q2 q3 q4 q5 q6 q7 q8 q9 q10 x0f x1f x2f x3f x4f x5f x6f x7f x8f x9f x10f;go_roundw
      case rel=>exact⟨i+1,j+1,_,by first | rfl | go_num,by first | rfl | go_num,by omega,by omega,HD.out⟩
      case measure=>simp[intOf];omega
   · obtain rfl:j=len:=by omega
     obtain⟨i0,hi0,hz0,hz1,hz2⟩:=info_parts Z2;have hxs:ly.filter (fun _=>true)=ly:=by simp
     have hrl:(jd PodLay0 ly).length=j*11:=by rw[jx,hinv.len];rfl
     have hown:wr.ownsRow B 41 11 (.slice (some ⟨g,0,none⟩) j cap) j (jd PodLay0 ly):=by have:=hinv.own.1;rw[hly] at this;exact this
     have hcell:∀t,t<j*11→(wr.cell? ⟨g,t,none⟩).isSome=true:=fun t h=>by
      rw[hown.cellAt t h,List.getElem?_eq_getElem (by rw[hrl];exact h)];rfl
     have hcl:∀ty,(Builtin.clear_ #[32] ty #[.slice (some ⟨g,i*11,none⟩) (j-i) (cap-i)]).run Tryz.prog wr=.ok (.tuple #[]) (wr.setCells g (i*11) (Builtin.zeroCells jQ (j-i)).toList) :=
      fun ty=>Zm wr _ 41 ty i0 (.agg jQ) Tryz.underlying32 hi0 hz0 g _ _ _ (by omega) (Xf _) (fun t h=>hcell _ (by rw[Ya,zz] at h;omega)) (fun t h=>hinv.own.frozen_at _)
     have X:=lH (show Own PodLay0 41 (wr.setCells g (i*11) (Builtin.zeroCells jQ (j-i)).toList) B (.slice (some ⟨g,0,none⟩) i cap) (lx.filter fun z=>jM z.1) by
      have hfl:ly.take i=lx.filter fun z=>jM z.1:=by rw[hinv.fst,List.take_of_length_le (by rw[HN.out];exact Nat.le_refl _)]
      have hli:(ly.take i).length=i:=by rw[List.length_take];omega
      have h:=XW (i:=i) (j:=j) (zs:=(Builtin.zeroCells jQ (j-i)).toList) hown (Nat.le_of_lt hij) (Nat.le_refl _) (by rw[Array.length_toList,zz]);rw[List.drop_of_length_le (by rw[hrl];exact Nat.le_refl _),Nat.sub_self,Nat.add_zero,List.append_nil] at h;refine⟨?_,fun _ _=>trivial⟩;rw[←hfl,hli];have e2:jd PodLay0 (ly.take i)=(jd PodLay0 ly).take (i*11):=YA ly i;rw[e2];exact h)
     have GX:=lH (show jb (fun b=>b=g) w (wr.setCells g (i*11) (Builtin.zeroCells jQ (j-i)).toList) from hinv.off.trans (jb.cells (S:=fun b=>b=g) g rfl _ _ _));have hjj:¬(j:Int)<(j:Int):=by omega
     have hci:¬cap=i:=by omega
     have hic:i≤cap:=by omega
     have hil:i≤j:=by omega
     clear hinv hcell hown hrl hxs hly;go_wp2;go_ret;exact⟨i,rfl,X.out,GX.out⟩
theorem jex (w:World):Calls Tryz.prog 43 #[.slice none 0 0,.func (.func 138) #[] #[]] w fun e w'=>e=.returned (.slice none 0 0)∧Kept w w':=by
 have HI:=lH (XT none 0 0 [] w ⟨rfl,by decide,.inl rfl⟩);have HI:=lH (show Calls Tryz.prog 85 #[.slice none 0 0,.func (.func 138) #[] #[]] w (Say (.int .i64 (-1)) w) from HI.out);go_enter Tryz.func43,Tryz.ntmps43;go_wp2_with fail
 refine HI.out.mono ?_;rintro e w1 ⟨rfl,k⟩;have K:=lH k;clear k;go_wp2;go_ret;exact⟨rfl,K.out⟩
theorem jd4 {r:Int×Vec.V} {w w':World} {e:Ending} (h:Vec.ZS r w e w'):jgg r w e w':=by
 obtain⟨v,e,h,k⟩:=h;exact⟨v,e,h.at_,k⟩
theorem jgT {v:Value} {s:Clu} {w:World} (h:jC w v s) (x:ByteArray) (hl:jn s):Calls Tryz.prog 190 #[v,.string x] w (jgg (JA s x) w):=by
 obtain⟨v1,v2,v3,rfl,⟨a,cap,rfl,l1,m1,h1⟩,⟨b,cp,rfl,l2,m2,h2⟩,⟨d,cb,rfl,l3,m3,h3⟩⟩:=h;exact(jd7 a b d _ cap _ cp _ cb s.nodes s.pods x w h1 h2 hl.nodes).mono fun _ _ h=>jd4 h
theorem onR {v:Value} {s:Clu} {w:World} (h:jC w v s) (x:ByteArray) (hl:jn s):Calls Tryz.prog 21 #[v,.string x] w fun e w'=>∃y,e=.returned y∧Jw w' y (onP x s.pods)∧Kept w w':=by
 obtain⟨v1,v2,v3,rfl,⟨a,cap,rfl,l1,m1,h1⟩,⟨b,cp,rfl,l2,m2,h2⟩,⟨d,cb,rfl,l3,m3,h3⟩⟩:=h;exact jeE b a d _ cp _ cap _ cb s.pods x w h2 hl.pods hl.podsN
theorem jfZ:(Tryz.prog.info? 153).map (fun i=>(i.zero,i.size,i.bytes))=some (some (.agg #[.string ByteArray.empty,.slice none 0 0,.slice none 0 0,.slice none 0 0,.slice none 0 0]),5,112):=by kernel_rfl
theorem jgn:(Tryz.prog.info? 9).map (fun i=>(i.zero,i.size,i.bytes))=some (some (.string ByteArray.empty),1,16):=by kernel_rfl
theorem Own.Yb {α:Type} {L:Lay α} {T:TypeId} {w:World} {B n cap:Nat} {a:Option Addr} {l:List α} (h:Own L T w B (.slice a n cap) l):jk L w a n l:=by
 obtain⟨a',c',e,_,_,h3⟩:=h.at_
 cases e
 exact h3
theorem jfU:(fun p:Pd=>!jM p)=fun q:Pd=>q.hold:=funext fun p=>by unfold jM;rw[Bool.not_not]
theorem jcu {v:Value} {s:Clu} {w:World} (h:jC w v s) (x:ByteArray) (hl:jn s):Calls Tryz.prog 17 #[v,.string x] w fun e w'=>∃u1 v1 x1 u2 v2 x2 u3 v3 x3,e=.returned (.agg #[.slice u1 v1 x1,.slice u2 v2 x2,.slice u3 v3 x3])∧(Off (fun b=>b<w.heap.size) w' fun u=>jC u (.agg #[.slice u1 v1 x1,.slice u2 v2 x2,.slice u3 v3 x3]) (jw s x))∧Kept w w':=by
 obtain⟨v1,v2,v3,rfl,⟨a,cap,rfl,l1,m1,h1⟩,⟨b,cp,rfl,l2,m2,h2⟩,⟨d,cb,rfl,l3,m3,h3⟩⟩:=h;refine(YR a b d _ cap _ cp _ cb s.nodes s.pods s.buds x w h1 h2 h3 l1 m1 l2 m2 l3 m3 hl).mono ?_;rintro e w' ⟨_,_,_,_,_,_,_,_,_,rfl,ho,kk⟩;exact⟨_,_,_,_,_,_,_,_,_,rfl,fun u g=>(ho.step g).toR,kk⟩
structure Jr (B:Nat) (w:World) (v:Value) (lx:List PlX) (Ch:Nat→Prop):Prop where
 row:Own Jq 153 w B v lx
 hold:JK Ch B w lx
 sep:∀z ∈ lx,∀b,(gvP z).ownBlock=some b→v.ownBlock≠some b
 ch:∀b,Ch b→B≤b∧b<w.heap.size
theorem Jr.start {B:Nat} {w:World} {v:Value} {lx:List PlX} {Ch:Nat→Prop} (h:Jr B w v lx Ch) (hB:B≤w.heap.size):Ze B v lx w 0 w (.slice none 0 0) [] Ch :=
 ⟨h.row,Own.nil _ _ _,h.hold,rfl,h.sep,(fun z _ b _ e=>by cases e),(fun b e=>by cases e),(fun b e=>by cases e),h.ch,Below.refl _ _,hB⟩
def jfC (B:Nat) (lx:List PlX) (w:World) (v':Value) (w':World):Prop:=∃ly Ch2,(ly.map fun z=>z.1)=Jf (lx.map fun z=>z.1)∧Jr B w' v' ly Ch2∧Go.RowKit.Below B w w'
theorem Ze.fin {B k:Nat} {v nv:Value} {lx ly:List PlX} {w wr:World} {Ch:Nat→Prop} (h:Ze B v lx w k wr nv ly Ch) (hk:lx.length≤k):(ly.map fun z=>z.1)=Jf (lx.map fun z=>z.1)∧Jr B wr nv ly Ch:=by
 have hd:lx.drop k=[]:=List.drop_of_length_le hk;have h1:=h.hold;have h2:=h.sepn;rw[hd,List.append_nil] at h1 h2;exact⟨by rw[h.map,List.take_of_length_le hk],h.rown,h1,h2,h.chB⟩
theorem jeX (a:Option Addr) (n1 cap B:Nat) (lx:List PlX) (Ch:Nat→Prop) (w:World) (ht:Jr B w (.slice a n1 cap) lx Ch) (hB:B≤w.heap.size) (hl:∀z ∈ lx,jn z.1.2.2) (hlen:∀z ∈ lx,z.1.2.1.length+z.1.2.2.pods.length≤100000) (hn:n1≤100000):Calls Tryz.prog 93 #[.slice a n1 cap] w fun e w'=>∃v',e=.returned v'∧jfC B lx w v' w':=by
 obtain⟨i0,hi,hz0,hz1,hz2'⟩:=info_parts jfZ;obtain⟨j0,hj,hj0,hj1,hj2'⟩:=info_parts jgn;have hrow0:=Own.Yb ht.row;obtain⟨VX,HT,HB,TP,Ns,HN,Rg⟩:=lH7 (show lx.length=n1 from hrow0.1) ht hB hl hlen hn hrow0.form;clear ht hB hl hlen hrow0;go_enter Tryz.func93,Tryz.ntmps93;go_wp2;go_loopw [11,3] (fun iv nv wr=>∃(k:Nat) (ly:List PlX) (Ch2:Nat→Prop),k≤n1∧iv=.int .i64 k∧Ze B (.slice a n1 cap) lx w k wr nv ly Ch2) (fun iv _ _=>n1-(intOf iv).toNat)
 case atStart=>exact⟨0,[],Ch,Nat.zero_le _,rfl,HT.out.start HB.out⟩
 case round =>
  obtain⟨k,ly,Ch2,hk,rfl,hinv⟩:=hrel;have HI:=lH hinv;clear hinv;by_cases hlt:k<n1
  · obtain⟨g,off,rfl⟩:=Rg.out.resolve_left (by omega);obtain⟨z,hz,hd,hb,-,hc⟩:=(Own.Yb HI.out.rowl).cells hlt;obtain⟨⟨x,gl,sz⟩,⟨ga,gn,gc⟩,⟨t1,k1,d1⟩,⟨t2,k2,d2⟩,⟨t3,k3,d3⟩⟩:=z;have u0:wr.cell? ⟨g,off+k*5,none⟩=some (.string x):=hc 0 _ rfl;have u1:wr.cell? ⟨g,off+k*5+1,none⟩=some (.slice ga gn gc):=hc 1 _ rfl;have u2:wr.cell? ⟨g,off+k*5+2,none⟩=some (.slice t1 k1 d1):=hc 2 _ rfl;have u3:wr.cell? ⟨g,off+k*5+3,none⟩=some (.slice t2 k2 d2):=hc 3 _ rfl;have u4:wr.cell? ⟨g,off+k*5+4,none⟩=some (.slice t3 k3 d3):=hc 4 _ rfl;have HZ:=lH hz;have hzl:((x,gl,sz),(ga,gn,gc),(t1,k1,d1),(t2,k2,d2),(t3,k3,d3)) ∈ lx:=List.mem_of_getElem? hz;have hzm:((x,gl,sz),(ga,gn,gc),(t1,k1,d1),(t2,k2,d2),(t3,k3,d3)) ∈ ly++lx.drop k:=List.mem_append.2 (.inr (by rw[hd];exact List.mem_cons_self ..));obtain⟨UZ,TQ,Nt,U0,Uw⟩:=lH5 hzm (show jn sz from TP.out _ hzl) (show gl.length+sz.pods.length≤100000 from Ns.out _ hzl) (show jC wr (.agg #[.slice t1 k1 d1,.slice t2 k2 d2,.slice t3 k3 d3]) sz from(HI.out.hold.rest _ hzm).here) (show Own jK 9 wr B (.slice ga gn gc) gl from HI.out.hold.gone _ hzm);have Rh:=lH (Own.Yb Uw.out).1;have hkk:(k:Int)<(n1:Int):=by omega
    have hk0:¬(k:Int)<0:=by omega
    obtain⟨wx,hwx⟩:=eX (wr.alloc (.cells #[.string x,.slice ga gn gc,.slice t1 k1 d1,.slice t2 k2 d2,.slice t3 k3 d3] 153))
    have hkx:Kept wr wx:=by rw[←hwx];exact ja _ _
    have Vu:=lH (jc wr (.string x) [.slice ga gn gc,.slice t1 k1 d1,.slice t2 k2 d2,.slice t3 k3 d3] 153 wx (by rw[hwx];exact Kept.refl _));obtain⟨bq,hbq⟩:=eX (wr.heap.size)
    have Vn:=lH hbq;rw[hbq] at Vu;have KX:=lH hkx;have RQ:=lH (onR (U0.out.kept hkx) x TQ.out);go_upto_region 5 with fail
    try rw[hwx]
    try rw[hbq]
    clear hwx hbq hd hb hz hc hzl hzm hkx hk0 hkk u0 u1 u2 u3 u4;have y0:=Vu.out.at_ 0 _ rfl;have y1:=Vu.out.at_ 1 _ rfl;have y2:=Vu.out.at_ 2 _ rfl;have y3:=Vu.out.at_ 3 _ rfl;have y4:=Vu.out.at_ 4 _ rfl;go_wp2_with fail
    clear y0 y1 y2 y3 y4;refine RQ.out.mono ?_;rintro e w1 ⟨y,rfl,⟨pa,pc,rfl,-,-,hrow⟩,kk⟩;have K1:=lH (KX.out.trans kk);have Vu:=lH (Vu.out.kept kk);obtain⟨pl,hpl⟩:=eX (onP x sz.pods)
    rw[hpl] at hrow;try rw[hpl]
    have VO:=lH hpl;obtain⟨pn,hpn⟩:=eX (pl.length)
    rw[hpn] at hrow;try rw[hpn]
    obtain⟨VY,Ub,VW⟩:=lH3 hpn hrow (XT pa pn pc pl w1 hrow);clear kk hrow hpl hpn RQ;have UM:=lH (jdf x sz);rw[VO.out,←jfU] at UM
    cases hix:idxB (fun p=>!jM p) pl with
    | none =>
     rw[hix] at VW UM;have VW:=lH (show Calls Tryz.prog 85 #[.slice pa pn pc,.func (.func 138) #[] #[]] w1 (Say (.int .i64 (-1)) w1) from VW.out);clear hix;have Ri:=lH (show zt (x,gl,sz)=none from by
      unfold zt;show (JD x sz).map _=none;rw[UM.out];rfl)
     go_wp2_with fail
     refine VW.out.mono ?_;rintro e w2 ⟨rfl,kk⟩;have HF:=lH ((HI.out.kept (K1.out.trans kk)).skip HZ.out Ri.out);clear kk VW;go_wp2;go_roundw
     case rel=>exact⟨k+1,ly,Ch2,by omega,by go_num,HF.out⟩
     case measure=>simp[intOf];omega
    | some j =>
     have hjn:j<pn:=by have:=ZB hix;have:=VY.out;omega
     rw[hix] at VW UM;have VW:=lH (show Calls Tryz.prog 85 #[.slice pa pn pc,.func (.func 138) #[] #[]] w1 (Say (.int .i64 (j:Int)) w1) from VW.out);clear hix;obtain⟨pg,po,rfl⟩:=Ub.out.form.resolve_left (by omega);go_wp2_with fail
     refine VW.out.mono ?_;rintro e w2 ⟨rfl,kk⟩;obtain⟨q,b1,q1,f1,b2,q2,f2,b3,q3,f3,b4,q4,f4,hn,hd,hb,p0,p1,p2,p3,p4,p5,p6,p7,p8,p9,p10,hat⟩:=(Ub.out.kept kk).at_ hjn;have K2:=lH (K1.out.trans kk);have Vu:=lH (Vu.out.kept kk);obtain⟨nm,hnm⟩:=eX (q.name)
     have UN:=lH (show nm.size≤maxLen by rw[←hnm];exact hat.name);have Ri:=lH (show zt (x,gl,sz)=some (x,gl++[nm],jw sz nm) from by
      unfold zt;show (JD x sz).map _=_;rw[UM.out];show ((pl[j]?).map _)=_;rw[hn];show some (x,gl++[q.name],jw sz q.name)=_;rw[hnm])
     have Nu:=lH (show q ∈ sz.pods from by
      have h1:JD x sz=some q:=by rw[UM.out];exact hn
      exact(qj h1).1)
     have hspos:0<sz.pods.length:=List.length_pos_of_mem Nu.out;have Uu:=lH (show gn+1≤100000 from by have:=Nt.out;have:=Rh.out;omega);rw[hnm] at p0;have hjm:¬(j:Int)<0:=by omega
     have hjp:(0:Int)≤(j:Int):=by omega
     have hjj:(j:Int)<(pn:Int):=by omega
     clear kk VW UM hn hd hb hat hnm hspos p1 p2 p3 p4 p5 p6 p7 p8 p9 p10;go_upto_region 9 with fail
     clear p0 hjm hjp hjj;have Ux:=lH (HI.out.kept K2.out);have HF:=lH (show ∀W,jb (fun b=>(Value.slice ga gn gc).ownBlock=some b) w2 W→W.cell? ⟨bq,0,none⟩=some (.string x)∧W.cell? ⟨bq,1,none⟩=some (.slice ga gn gc)∧W.cell? ⟨bq,2,none⟩=some (.slice t1 k1 d1)∧W.cell? ⟨bq,3,none⟩=some (.slice t2 k2 d2)∧W.cell? ⟨bq,4,none⟩=some (.slice t3 k3 d3) from fun W gg=>by
      have h:=Vu.out.block (gg.block bq Vu.out.lt fun e=>by have:=(jR Uw.out _ e).2;have:=Vn.out;omega);exact⟨h.at_ 0 _ rfl,h.at_ 1 _ rfl,h.at_ 2 _ rfl,h.at_ 3 _ rfl,h.at_ 4 _ rfl⟩)
     have J:=lH (Kept.drew w2);refine wp_region_held_drew (S:=fun W=>W.cell? ⟨bq,0,none⟩=some (.string x)∧W.cell? ⟨bq,1,none⟩=some (.slice ga gn gc)∧W.cell? ⟨bq,2,none⟩=some (.slice t1 k1 d1)∧W.cell? ⟨bq,3,none⟩=some (.slice t2 k2 d2)∧W.cell? ⟨bq,4,none⟩=some (.slice t3 k3 d3)) (by kernel_rfl) (HF.out _ (jb.of J.out)) (fun hHeld=>?_);obtain⟨wd,hwd⟩:=eX (w2.drew)
     rw[hwd] at J hHeld;try rw[hwd]
     clear hwd;refine tR 0 rfl (by kernel_rfl) (fun _ _ _=>id) (Or.inl ⟨by rfl,by rintro W ⟨o0,o1,o2,o3,o4⟩;go_simp<;>with_reducible rfl⟩) ‹_› ?_;refine tR 1 rfl (by kernel_rfl) (fun _ _ _=>id) (Or.inl ⟨by rfl,by rintro W ⟨o0,o1,o2,o3,o4⟩;go_simp<;>with_reducible rfl⟩) ‹_› ?_;refine tR 2 rfl (by kernel_rfl) (fun _ _ _=>id) (Or.inl ⟨by rfl,by rintro W ⟨o0,o1,o2,o3,o4⟩;go_simp<;>with_reducible rfl⟩) ‹_› ?_;refine tR 3 rfl (by kernel_rfl) (fun _ _ _=>id) (Or.inl ⟨by rfl,by rintro W ⟨o0,o1,o2,o3,o4⟩;go_simp<;>with_reducible rfl⟩) ‹_› ?_;refine tR 4 rfl (by kernel_rfl) (fun _ _ _=>id) (Or.inl ⟨by rfl,by rintro W ⟨o0,o1,o2,o3,o4⟩;go_simp<;>with_reducible rfl⟩) ‹_› ?_;try simp only[nA,nB,nC,nD,nE]
     refine tR 5 rfl (by kernel_rfl) (fun _ _ _=>id) (Or.inl ⟨by rfl,by rintro W ⟨o0,o1,o2,o3,o4⟩;go_simp<;>with_reducible rfl⟩) ‹_› ?_;refine tR 8 rfl (by kernel_rfl) (fun _ _ _=>id) (Or.inl ⟨by rfl,by rintro W ⟨o0,o1,o2,o3,o4⟩;go_simp<;>with_reducible rfl⟩) ‹_› ?_;refine tR 9 rfl (by kernel_rfl) (fun _ _ _=>id) (Or.inl ⟨by rfl,by rintro W ⟨o0,o1,o2,o3,o4⟩;go_simp<;>with_reducible rfl⟩) ‹_› ?_;refine tR 10 rfl (by kernel_rfl) (fun _ _ _=>id) (Or.inl ⟨by rfl,by rintro W ⟨o0,o1,o2,o3,o4⟩;go_simp<;>with_reducible rfl⟩) ‹_› ?_;try simp only[nA,nB,nC,nD,nE]
     refine rd1 6 fun K9 Ky=>?_;go_simp;obtain⟨w4,hw4⟩:=eX (wd.alloc (.cells #[.string nm] 9))
     have hk4:Kept wd w4:=by rw[←hw4];exact ja _ _
     have Rb:=lH (show w4.heap[wd.heap.size]?=some (.cells #[.string nm] 9) by rw[←hw4];exact World.alloc_heap_new wd _);have J4:=lH (J.out.trans hk4);try rw[hw4]
     clear hw4 hk4;refine Ky.out _ _ (HF.out _ (jb.of J4.out)) (fun _=>?_);clear Ky K9;try simp only[nA,nB,nC,nD,nE]
     refine rd1 7 fun K9 Ky=>?_;refine step_append_lies _ (by rfl) _ _ _ (by rfl) B 9 j0 _ 1 16 Tryz.underlying44 hj hj0 hj1 hj2' rfl (by decide) (.slice ga gn gc) gn (jd jK gl) (by rfl) (by have:=(Uw.out.kept (K2.out.trans J4.out)).1;rw[Rh.out] at this;exact this) ⟨wd.heap.size,0,none⟩ 1 1 [.string nm] (by rfl) (by rfl) (World.news_of_block (cs:=#[.string nm]) (t:=9) (fr:=(0,0)) Rb.out) (jda nm) (by decide) (by have:=Uu.out;unfold maxLen;omega) (by have:=Uu.out;omega) (Nat.le_trans HB.out (Nat.le_trans Ux.out.below.size J4.out.size)) _ rfl ?_;intro g9 cap9 w6 hown hgrow hat hlt9;obtain⟨Ut,Nv,VM,G6⟩:=lH4 (show Own jK 9 w6 B (.slice (some ⟨g9,0,none⟩) (gn+1) cap9) (gl++[nm]) from Own.snoc hown (by rw[Rh.out]) Uw.out.2 UN.out) hgrow hat ((jb.of (S:=fun b=>(Value.slice ga gn gc).ownBlock=some b) J4.out).trans (jb.grown hgrow fun b e=>e));clear hown hgrow hat hlt9;refine Ky.out _ _ (HF.out _ G6.out) (fun _=>?_);clear Ky K9;try simp only[nA,nB,nC,nD,nE]
     refine rd1 11 fun K9 Ky=>?_;go_simp;have Vm:=lH ((Ux.out.hold.rest _ UZ.out).step (G6.out.mono fun b e=>Ux.out.hold.ch _ UZ.out b e));refine(jcu (show jC w6 (.agg #[.slice t1 k1 d1,.slice t2 k2 d2,.slice t3 k3 d3]) sz from Vm.out.here) nm TQ.out).mono ?_;rintro e w7 ⟨x1,v1,f1,x2,v2,f2,x3,v3,f3,rfl,hoff,kk⟩;obtain⟨Vo,KD,G7⟩:=lH3 hoff kk (G6.out.trans (jb.of kk));clear kk hoff Vm;refine Ky.out _ _ (HF.out _ G7.out) (fun _=>?_);clear Ky K9;try simp only[nA,nB,nC,nD,nE]
     refine tR 12 rfl (by kernel_rfl) (fun _ _ _=>id) (Or.inl ⟨by rfl,by rintro W ⟨o0,o1,o2,o3,o4⟩;go_simp<;>with_reducible rfl⟩) ‹_› ?_;try simp only[nA,nB,nC,nD,nE]
     refine rd1 13 fun K9 Ky=>?_;go_simp;obtain⟨w8,hw8⟩:=eX (w7.alloc (.cells #[.string x,.slice (some ⟨g9,0,none⟩) (gn+1) cap9,.slice x1 v1 f1,.slice x2 v2 f2,.slice x3 v3 f3] 153))
     have hk8:Kept w7 w8:=by rw[←hw8];exact ja _ _
     obtain⟨Nw,K8,G8⟩:=lH3 (show w8.heap[w7.heap.size]?=some (.cells #[.string x,.slice (some ⟨g9,0,none⟩) (gn+1) cap9,.slice x1 v1 f1,.slice x2 v2 f2,.slice x3 v3 f3] 153) by rw[←hw8];exact World.alloc_heap_new w7 _) hk8 (G7.out.trans (jb.of hk8));try rw[hw8]
     clear hw8 hk8;refine Ky.out _ _ (HF.out _ G8.out) (fun _=>?_);clear Ky K9;try simp only[nA,nB,nC,nD,nE]
     refine rd1 14 fun K9 Ky=>?_;have TI:=lH (show w8.ownsRow B 153 5 u3 ly.length (jd Jq ly) from(Ux.out.rown.goff G8.out (fun b e q=>Ux.out.sepn _ UZ.out b q e)).1);obtain⟨m,hm⟩:=eX (ly.length)
     have HM:=lH hm;have VS:=lH (show m≤100000 from by
      have h1:=congrArg List.length Ux.out.map;rw[List.length_map] at h1;have h2:(Jf ((lx.take k).map fun z=>z.1)).length≤k:=by
       unfold Jf;refine Nat.le_trans (List.length_filterMap_le _ _) ?_;rw[List.length_map,List.length_take];omega
      have:=HN.out;omega)
     rw[hm] at TI;clear hm;refine step_append_lies _ (by rfl) _ _ _ (by rfl) B 153 i0 _ 5 112 Tryz.underlying149 hi hz0 hz1 hz2' rfl (by decide) u3 m (jd Jq ly) (by rfl) TI.out ⟨w7.heap.size,0,none⟩ 1 1 [.string x,.slice (some ⟨g9,0,none⟩) (gn+1) cap9,.slice x1 v1 f1,.slice x2 v2 f2,.slice x3 v3 f3] (by rfl) (by rfl) (World.news_of_block (cs:=#[.string x,.slice (some ⟨g9,0,none⟩) (gn+1) cap9,.slice x1 v1 f1,.slice x2 v2 f2,.slice x3 v3 f3]) (t:=153) (fr:=(0,0)) Nw.out) (qQ ((x,gl++[nm],jw sz nm),(some ⟨g9,0,none⟩,gn+1,cap9),(x1,v1,f1),(x2,v2,f2),(x3,v3,f3))) (by decide) (by have:=VS.out;unfold maxLen;omega) (by have:=VS.out;omega) (Nat.le_trans HB.out (Nat.le_trans Ux.out.below.size G8.out.size)) _ rfl ?_;intro gN capN w9 hown hgrow hat hlt9;have Nx:=lH (Ze.go (z':=((x,gl++[nm],jw sz nm),(some ⟨g9,0,none⟩,gn+1,cap9),(x1,v1,f1),(x2,v2,f2),(x3,v3,f3))) Ux.out HZ.out Ri.out J4.out Nv.out VM.out rfl Ut.out KD.out Vo.out K8.out hgrow hat hlt9 hown (by rw[HM.out]));have Rj:=lH (show w9.cell? ⟨bq,0,none⟩=some (.string x)∧w9.cell? ⟨bq,1,none⟩=some (.slice ga gn gc)∧w9.cell? ⟨bq,2,none⟩=some (.slice t1 k1 d1)∧w9.cell? ⟨bq,3,none⟩=some (.slice t2 k2 d2)∧w9.cell? ⟨bq,4,none⟩=some (.slice t3 k3 d3) from by
      have h:=Vu.out.block ((G8.out.mono (S':=fun b=>(Value.slice ga gn gc).ownBlock=some b∨u3.ownBlock=some b) fun b e=>.inl e).trans (jb.grown hgrow fun b e=>.inr e) |>.block bq Vu.out.lt fun e=>by
       rcases e with e | e
       · have:=(jR Uw.out _ e).2;have:=Vn.out;omega
       · have:=(jR HI.out.rown _ e).2;have:=Vn.out;omega)
      exact⟨h.at_ 0 _ rfl,h.at_ 1 _ rfl,h.at_ 2 _ rfl,h.at_ 3 _ rfl,h.at_ 4 _ rfl⟩)
     clear hown hgrow hat hlt9;refine Ky.out _ _ (Rj.out) (fun _=>?_);clear Ky K9;try simp only[nA,nB,nC,nD,nE]
     refine tR 15 rfl (by kernel_rfl) (fun _ _ _=>id) (Or.inl ⟨by rfl,by rintro W ⟨o0,o1,o2,o3,o4⟩;go_simp<;>with_reducible rfl⟩) ‹_› ?_;try simp only[nA,nB,nC,nD,nE]
     refine wpAnyH_done (by kernel_rfl) ?_ _;go_wp2;go_roundw
     case rel=>exact⟨k+1,_,_,by omega,by go_num,Nx.out⟩
     case measure=>simp[intOf];omega
  · have hge:¬(k:Int)<(n1:Int):=by omega
    have HE:=lH (HI.out.fin (by rw[VX.out];omega));have HW:=lH HI.out.below;go_wp2;go_ret;exact⟨_,rfl,ly,Ch2,HE.out.1,HE.out.2,HW.out⟩
theorem je0 (a b d:Option Addr) (len cap m c n e:Nat) (nl:List Nod) (pl:List Pd) (bl:List Bd) (w:World) (hn:jt w a len nl) (hp:jv w b m pl) (hb:zu w d n bl) (h1:len≤cap) (h2:cap≤maxLen) (h3:m≤c) (h4:c≤maxLen) (h5:n≤e) (h6:e≤maxLen) (hl:jn ⟨nl,pl,bl⟩) :
 Calls Tryz.prog 137 #[.agg #[.slice a len cap,.slice b m c,.slice d n e]] w fun e9 w'=>∃v2,e9=.returned (.agg #[.slice a len cap,v2,.slice d n e])∧Jw w' v2 (pl.filter jM)∧Kept w w':=by
 obtain⟨Z,hZ⟩:=eX ((w.alloc (.cells #[.slice a len cap,.slice b m c,.slice d n e] 35)).alloc (.cells #[.slice none 0 0,.slice none 0 0,.slice none 0 0] 35))
 have hkz:Kept w Z:=by rw[←hZ];exact ji _ _ _
 have cc:=jc w (.slice a len cap) [.slice b m c,.slice d n e] 35 Z (by rw[←hZ];exact ja _ _);have HQ:=lH (show je (w.heap.size+1) [.slice none 0 0,.slice none 0 0,.slice none 0 0] Z by
  have dd:=jc (w.alloc (.cells #[.slice a len cap,.slice b m c,.slice d n e] 35)) (.slice none 0 0) [.slice none 0 0,.slice none 0 0] 35 Z (by rw[hZ];exact Kept.refl _);rw[World.size_alloc] at dd;exact dd)
 obtain⟨VG,Ur,Vd⟩:=lH3 cc (show Z.heap.size=w.heap.size+2 by rw[←hZ];simp) hkz;obtain⟨lx,hlx,hrx,hax⟩:=jcl hp;have hlm:m≤100000:=by have h1:pl.length≤100000:=hl.podsN;have h0:=hp.1;omega
 obtain⟨HC,TR,RR⟩:=lH3 (Y6 b m c lx Z (hrx.kept hkz) h3 h4 hlm) hlx (show ∀z ∈ lx,At4 w z from hax);have hxl:lx.length=m:=hrx.1;have Ny:=lH hxl;have Nz:=lH hlm;clear hn hp hb h1 h2 h3 h4 h5 h6 hl hkz hlx hrx hax hxl hlm;obtain⟨o0,o1,o2⟩:=cc.at3;clear cc;go_enter Tryz.func137,Tryz.ntmps137;go_wp2_with fail
 try rw[hZ]
 go_wp2_with fail
 try rw[hZ]
 refine HC.out.mono ?_;rintro e9 w1 ⟨hcl,k⟩;obtain⟨K,VG,HQ,U8⟩:=lH4 (Vd.out.trans k) (VG.out.kept k) (HQ.out.kept k) k;clear k o0 o1 o2 HC;try clear hZ
 rcases hcl with ⟨rfl,h0⟩ | ⟨g,c9,rfl,ho⟩
 · subst h0;have hm0:pl=[]:=by rw[←TR.out];rfl
   subst hm0;go_wp2_with fail
   refine(jex _).mono ?_;rintro e9 w2 ⟨rfl,k⟩;obtain⟨K2,VG,HQ⟩:=lH3 (K.out.trans k) (VG.out.kept k) (HQ.out.kept k);clear k;have Rl:=lH (show ∀W,Jw W (.slice none 0 0) ([]:List Pd) from fun W=>⟨none,0,rfl,Nat.le_refl _,by decide,rfl,by decide,.inl rfl⟩);obtain⟨o0,o1,o2⟩:=VG.out.at3;have f1:=VG.out.free 1;obtain⟨P1,VV,K3⟩:=lH3 (show je w.heap.size [.slice a len cap,.slice none 0 0,.slice d n e] (w2.setCell ⟨w.heap.size,1,none⟩ (.slice none 0 0)) from VG.out.set (j:=1) (u:=.slice none 0 0) (by simp)) (HQ.out.other (p:=w.heap.size) (j:=1) (u:=.slice none 0 0) (by omega)) (jA K2.out (a:=⟨w.heap.size,1,none⟩) (by show w.heap.size≤w.heap.size;omega) (.slice none 0 0));obtain⟨W3,hW3⟩:=eX (w2.setCell ⟨w.heap.size,1,none⟩ (.slice none 0 0))
   rw[hW3] at P1 VV K3;have V9:=lH hW3;clear hW3;go_upto_region 2 with fail
   try rw[V9.out]
   clear o0 o1 o2 f1 V9;obtain⟨p0,p1,p2⟩:=P1.out.at3;obtain⟨z0,z1,z2⟩:=VV.out.at3;have f0:=VV.out.free 0;have f1:=VV.out.free 1;have f2:=VV.out.free 2;have P:=lH (jW (vs:=[.slice a len cap,.slice none 0 0,.slice d n e]) VV.out rfl);go_wp2;obtain⟨WE,hWE⟩:=eX (W3.setCells (w.heap.size+1) 0 [.slice a len cap,.slice none 0 0,.slice d n e])
   have hWE2:(((W3.setCell ⟨(w.heap.size+1),0,none⟩ (.slice a len cap)).setCell ⟨(w.heap.size+1),1,none⟩ (.slice none 0 0)).setCell ⟨(w.heap.size+1),2,none⟩ (.slice d n e))=WE:=hWE;rw[hWE] at P;try rw[hWE2]
   obtain⟨PC,hsz,hbl,hkp⟩:=P.out;have GE:=lH (show jb (fun b=>b=w.heap.size+1) W3 WE by rw[←hWE];exact jb.cells (S:=fun b=>b=w.heap.size+1) _ rfl _ _ _);clear hWE hWE2;refine bodyPost_ret (by simp[results,Tryz.results137,go_sem,PC.at_ 0 _ rfl,PC.at_ 1 _ rfl,PC.at_ 2 _ rfl];try rfl) rfl ?_;exact⟨_,rfl,Rl.out WE,hkp _ _ (by omega) K3.out⟩
 · have hoL:m=lx.length:=Ny.out.symm;have HD:=lH (jfw g m c9 Z.heap.size lx w1 ho (fun z hz=>jq.kept (RR.out z hz) K.out) Nz.out);have NA:=lH (jR ho g rfl);clear ho hoL;go_wp2_with fail
   refine HD.out.mono ?_;rintro e9 w2 ⟨n8,rfl,ho2,g2⟩;have U1:=lH (show w.heap.size+2≤g from by have:=NA.out.1;have:=Ur.out;omega);obtain⟨K2,VG,HQ⟩:=lH3 (jb.below K.out g2 fun i e=>by subst e;have:=U1.out;omega) (VG.out.block (g2.block _ VG.out.lt (by have:=U1.out;omega))) (HQ.out.block (g2.block _ HQ.out.lt (by have:=U1.out;omega)));have hfl:pl.filter jM=(lx.filter fun z=>jM z.1).map fun z=>z.1:=by rw[←TR.out,List.filter_map];rfl
   have Tq:=lH hfl;have UO:=lH (show ∀W,jb (fun b=>b<g) w2 W→Kept w W→Jw W (.slice (some ⟨g,0,none⟩) n8 c9) (pl.filter jM) from fun W gg kk=>by
    rw[Tq.out];exact ZY (ho2.goff gg fun k e h=>by have e2:g=k:=Option.some.inj e;have h2:k<g:=h;omega) fun z hz=>jq.kept (RR.out z (List.mem_filter.1 hz).1) kk)
   clear ho2 g2 HD hfl;obtain⟨o0,o1,o2⟩:=VG.out.at3;have f1:=VG.out.free 1;obtain⟨P1,VV,K3⟩:=lH3 (show je w.heap.size [.slice a len cap,.slice (some ⟨g,0,none⟩) n8 c9,.slice d n e] (w2.setCell ⟨w.heap.size,1,none⟩ (.slice (some ⟨g,0,none⟩) n8 c9)) from VG.out.set (j:=1) (u:=.slice (some ⟨g,0,none⟩) n8 c9) (by simp)) (HQ.out.other (p:=w.heap.size) (j:=1) (u:=.slice (some ⟨g,0,none⟩) n8 c9) (by omega)) (jA K2.out (a:=⟨w.heap.size,1,none⟩) (by show w.heap.size≤w.heap.size;omega) (.slice (some ⟨g,0,none⟩) n8 c9));obtain⟨W3,hW3⟩:=eX (w2.setCell ⟨w.heap.size,1,none⟩ (.slice (some ⟨g,0,none⟩) n8 c9))
   have NB:=lH (show jb (fun b=>b<g) w2 W3 by rw[←hW3];exact jb.cell (S:=fun b=>b<g) w.heap.size 1 _ (by have:=U1.out;omega));rw[hW3] at P1 VV K3;have V9:=lH hW3;clear hW3;go_upto_region 2 with fail
   try rw[V9.out]
   clear o0 o1 o2 f1 V9;obtain⟨p0,p1,p2⟩:=P1.out.at3;obtain⟨z0,z1,z2⟩:=VV.out.at3;have f0:=VV.out.free 0;have f1:=VV.out.free 1;have f2:=VV.out.free 2;have P:=lH (jW (vs:=[.slice a len cap,.slice (some ⟨g,0,none⟩) n8 c9,.slice d n e]) VV.out rfl);go_wp2;obtain⟨WE,hWE⟩:=eX (W3.setCells (w.heap.size+1) 0 [.slice a len cap,.slice (some ⟨g,0,none⟩) n8 c9,.slice d n e])
   have hWE2:(((W3.setCell ⟨(w.heap.size+1),0,none⟩ (.slice a len cap)).setCell ⟨(w.heap.size+1),1,none⟩ (.slice (some ⟨g,0,none⟩) n8 c9)).setCell ⟨(w.heap.size+1),2,none⟩ (.slice d n e))=WE:=hWE;rw[hWE] at P;try rw[hWE2]
   obtain⟨PC,hsz,hbl,hkp⟩:=P.out;have GE:=lH (show jb (fun b=>b=w.heap.size+1) W3 WE by rw[←hWE];exact jb.cells (S:=fun b=>b=w.heap.size+1) _ rfl _ _ _);clear hWE hWE2;refine bodyPost_ret (by simp[results,Tryz.results137,go_sem,PC.at_ 0 _ rfl,PC.at_ 1 _ rfl,PC.at_ 2 _ rfl];try rfl) rfl ?_;exact⟨_,rfl,UO.out WE (NB.out.trans (GE.out.mono fun b e=>by subst e;have:=U1.out;omega)) (hkp _ _ (by omega) K3.out),hkp _ _ (by omega) K3.out⟩
theorem jgX {v:Value} {s:Clu} {w:World} (h:jC w v s) (hl:jn s):Calls Tryz.prog 137 #[v] w (jbi (JM s) w):=by
 obtain⟨v1,v2,v3,rfl,⟨a,cap,rfl,l1,m1,h1⟩,⟨b,cp,rfl,l2,m2,h2⟩,⟨d,cb,rfl,l3,m3,h3⟩⟩:=h;refine(je0 a b d _ cap _ cp _ cb s.nodes s.pods s.buds w h1 h2 h3 l1 m1 l2 m2 l3 m3 hl).mono ?_;rintro e w' ⟨v2,rfl,hp,kk⟩;exact⟨_,rfl,⟨_,_,_,rfl,⟨a,cap,rfl,l1,m1,h1.kept kk⟩,hp,⟨d,cb,rfl,l3,m3,h3.kept kk⟩⟩,kk⟩
def jg9 (o:Option Nod) (w:World) (e:Ending) (w':World):Prop:=(∀n,o=some n→∃b1 k1 d1 b2 k2 d2 b3 k3 d3,e=.returned (Zh n (.slice b1 k1 d1) (.slice b2 k2 d2) (.slice b3 k3 d3))∧zA w' (.slice b1 k1 d1) (.slice b2 k2 d2) (.slice b3 k3 d3) n)∧(o=none→e=.panicked [jV 3])∧Kept w w'
theorem Yk (c:Int) (w:World):Calls Tryz.prog 150 #[.bool false,.int .i64 c] w fun e w'=>e=.returned (.tuple #[])∧w=w':=by
 go_enter Tryz.func150,Tryz.ntmps150;go_wp2;refine⟨rfl,.tuple #[],by simp[results,Tryz.results150,go_sem],?_⟩;exact⟨rfl,rfl⟩
theorem ZJ (c:Int) (w:World):Calls Tryz.prog 150 #[.bool true,.int .i64 c] w fun e w'=>e=.panicked [jV c]∧w=w':=by
 go_enter Tryz.func150,Tryz.ntmps150;go_wp2;exact⟨rfl,rfl,rfl⟩
theorem jb6 (s1 s2 s3:Option Addr) (n1 e1 n2 e2 n3 e3:Nat) (nodes:List Nod) (name:ByteArray) (w:World) (hn:jt w s1 n1 nodes) (hb1:n1≤100000) :
 Calls Tryz.prog 149 #[.agg #[.slice s1 n1 e1,.slice s2 n2 e2,.slice s3 n3 e3],.string name] w (jg9 (jl nodes name) w):=by
 obtain⟨Z,hZ⟩:=eX ((w.alloc (.cells #[.slice s1 n1 e1,.slice s2 n2 e2,.slice s3 n3 e3] 35)).alloc (.cells #[.string ⟨#[]⟩,.slice none 0 0,.slice none 0 0,.slice none 0 0,.bool false] 29))
 have hkz:Kept w Z:=by rw[←hZ];exact ji _ _ _
 have Vh:=lH (jc w (.slice s1 n1 e1) [.slice s2 n2 e2,.slice s3 n3 e3] 35 Z (by rw[←hZ];exact ja _ _));have hyb:je (w.heap.size+1) [.string ⟨#[]⟩,.slice none 0 0,.slice none 0 0,.slice none 0 0,.bool false] Z:=by
  have dd:=jc (w.alloc (.cells #[.slice s1 n1 e1,.slice s2 n2 e2,.slice s3 n3 e3] 35)) (.string ⟨#[]⟩) [.slice none 0 0,.slice none 0 0,.slice none 0 0,.bool false] 29 Z (by rw[hZ];exact Kept.refl _);rw[World.size_alloc] at dd;exact dd
 obtain⟨NC,HN,VN,Vd⟩:=lH4 hyb hn hn.1 hkz;clear hn hkz hyb;go_enter Tryz.func149,Tryz.ntmps149;have y0:=Vh.out.at_ 0 _ rfl;go_upto_region 1 with fail
 try rw[hZ]
 clear hZ;go_wp2;clear y0;go_loopw [10] (fun i wr=>∃k:Nat,k≤n1∧i=.int .i64 k∧jl (nodes.drop k) name=jl nodes name∧Kept Z wr) (fun i _=>n1-(intOf i).toNat)
 case atStart=>exact⟨0,Nat.zero_le _,rfl,rfl,Kept.refl _⟩
 case round =>
  obtain⟨k,hk,rfl,hR,hK⟩:=hrel;obtain⟨HR,HK,Us⟩:=lH3 hR (Vd.out.trans hK) hK;by_cases hlt:k<n1
  · obtain⟨g,off,rfl⟩:=HN.out.form.resolve_left (by omega);obtain⟨n,b1,k1,d1,b2,k2,d2,b3,k3,d3,hn,hd,hb,u0,u1,u2,u3,u4,hat⟩:=HN.out.at_ hlt;have VM:=lH hat;have HD:=lH hd;have u0:=cell_later HK.out u0;have u1:=cell_later HK.out u1;have u2:=cell_later HK.out u2;have u3:=cell_later HK.out u3;have u4:=cell_later HK.out u4;have hkk:(k:Int)<(n1:Int):=by omega
    have hk0:¬(k:Int)<0:=by omega
    obtain⟨wx,hwx⟩:=eX (wr.alloc (.cells #[.string n.name,.slice b1 k1 d1,.slice b2 k2 d2,.slice b3 k3 d3,.bool n.cordon] 29))
    have hkx:Kept wr wx:=by rw[←hwx];exact ja _ _
    have Vt:=lH (jc wr (.string n.name) [.slice b1 k1 d1,.slice b2 k2 d2,.slice b3 k3 d3,.bool n.cordon] 29 wx (by rw[hwx];exact Kept.refl _));obtain⟨bq,hbq⟩:=eX (wr.heap.size)
    rw[hbq] at Vt;have KX:=lH hkx;go_upto_region 4 with fail
    try rw[hwx]
    try rw[hbq]
    clear hwx hbq hd hb hn hR hK hkx hk0 hkk hat u0 u1 u2 u3 u4;obtain⟨t0,t1,t2,t3,t4⟩:=Vt.out.at5;obtain⟨t,ht⟩:=eX ((n.name.toList==name.toList))
    have HT:=lH (show eqS n.name name=t from ht)
    cases t with
    | false =>
     have HX:=lH (show jl (nodes.drop (k+1)) name=jl nodes name by rw[←HR.out,HD.out];unfold jl;rw[List.find?_cons,HT.out]);go_wp2;go_roundw
     case rel=>exact⟨k+1,by omega,by go_num,HX.out,Us.out.trans KX.out⟩
     case measure=>simp[intOf];omega
    | true =>
     have HX:=lH (show jl nodes name=some n by rw[←HR.out,HD.out];unfold jl;rw[List.find?_cons,HT.out]);have U2:=lH (NC.out.kept (Us.out.trans KX.out));obtain⟨z0,z1,z2,z3,z4⟩:=U2.out.at5;have f0:=U2.out.free 0;have f1:=U2.out.free 1;have f2:=U2.out.free 2;have f3:=U2.out.free 3;have f4:=U2.out.free 4;have P:=lH (Zz ⟨z0,z1,z2,z3,z4⟩ n.name b1 b2 b3 k1 d1 k2 d2 k3 d3 n.cordon);go_wp2;obtain⟨WE,hWE⟩:=eX ((((((wx.setCell ⟨w.heap.size+1,0,none⟩ (.string n.name)).setCell ⟨w.heap.size+1,1,none⟩ (.slice b1 k1 d1)).setCell ⟨w.heap.size+1,2,none⟩ (.slice b2 k2 d2)).setCell ⟨w.heap.size+1,3,none⟩ (.slice b3 k3 d3)).setCell ⟨w.heap.size+1,4,none⟩ (.bool n.cordon)))
     rw[hWE] at P ⊢;clear hWE z0 z1 z2 z3 z4 t0 t1 t2 t3 t4 f0 f1 f2 f3 f4;obtain⟨⟨d0,d1,d2,d3,d4⟩,hsz,hbl,hkp⟩:=P.out;refine bodyPost_ret (by simp[results,Tryz.results149,go_sem,d0,d1,d2,d3,d4];try rfl) rfl ?_;have KE:=hkp _ _ (Nat.le_succ _) (HK.out.trans KX.out);refine⟨fun m e=>?_,fun e=>?_,KE⟩
     · rw[HX.out] at e;cases e;exact⟨_,_,_,_,_,_,_,_,_,rfl,VM.out.kept KE⟩
     · rw[HX.out] at e;cases e
  · have hge:¬(k:Int)<(n1:Int):=by omega
    have HO:=lH (show jl nodes name=none by rw[←HR.out,List.drop_of_length_le (by rw[VN.out];omega)];rfl);clear hR hK;go_wp2;exact⟨rfl,(fun m e=>by rw[HO.out] at e;cases e),(fun _=>rfl),HK.out⟩
end Go.Proofs.YtabafpoklpiiiaaGreat
