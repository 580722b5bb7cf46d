/- C. -/
import Derived.Test.YtokdjfoalkmhiaaGreatG1
import Derived.Test.YtokdjfoalkmhiaaGreatG3
import Derived.Test.YtokdjfoalkmhiaaGreatG4
import Derived.Test.YtokdjfoalkmhiaaGreatG5
import Derived.Test.YtokdjfoalkmhiaaGreatG6
import Derived.Test.YtokdjfoalkmhiaaGreatG7
import Derived.Test.YtokdjfoalkmhiaaGreatG8
import Derived.Test.YtokdjfoalkmhiaaGreatG12
set_option linter.unusedVariables false
set_option maxRecDepth 100000
set_option maxHeartbeats 25600000
namespace Go.Proofs.YtokdjfoalkmhiaaGreat
open Go.RowKit
def Asc (l:List Pd):Prop:=l.Pairwise fun x y=>ltS x.name y.name=true
theorem jeu:∀{prev:Option ByteArray} {l:List Pd},zc prev l=0→(∀q,prev=some q→∀x ∈ l,ltS q x.name=true)∧Asc l
 | _,[],_=>⟨fun q _ x h=>absurd h (by simp),.nil⟩
 | prev,n::t,h=>by
  by_cases z:zN n=0
  · by_cases y:Vec.jG prev n.name=true
    · rw[qf z y] at h;cases h
    · have y:Vec.jG prev n.name=false:=by simpa using y
      rw[YR z y] at h;obtain⟨h2,h3⟩:=jeu h;refine⟨fun q hq x hx=>?_,List.pairwise_cons.2 ⟨fun x hx=>h2 _ rfl x hx,h3⟩⟩;subst hq;have hlt:ltS q n.name=true:=Vec.XI y;rcases List.mem_cons.1 hx with rfl | hx
      · exact hlt
      · exact Vec.zL hlt (h2 _ rfl x hx)
  · rw[jbk z] at h;exact absurd h z
theorem je5 {s:Clu} (h:Zs s=true):Asc s.pods:=by
 have hc:=Xg h;have h0:or3 (jV s.nodes) (jK s.pods) (jY s.buds)=0:=Decidable.byContradiction fun g=>g ((jaI (nl:=s.nodes) (pl:=s.pods) (bl:=s.buds) rfl g).symm.trans hc);have ho:jK s.pods=0:=by
  unfold or3 at h0;split at h0
  · rename_i h1;exact absurd h0 h1
  · split at h0
    · exact h0
    · rename_i h1;exact Decidable.of_not_not h1
 unfold jK at ho;split at ho
 · cases ho
 · exact(jeu ho).2
theorem qh:∀{l:List Pd} {p:Pd},Asc l→p ∈ l→Jq l p.name=some p
 | [],_,_,h=>by cases h
 | x::t,p,h,hp=>by
  unfold Jq;rcases List.mem_cons.1 hp with hp | hp
  · subst hp;exact List.find?_cons_of_pos (p:=fun n:Pd=>eqS n.name p.name) (J8 _)
  · have hlt:=(List.pairwise_cons.1 h).1 p hp;exact(List.find?_cons_of_neg (p:=fun n:Pd=>eqS n.name p.name) (fun e=>Vec.ZE hlt (jM.1 e))).trans (qh (List.pairwise_cons.1 h).2 hp)
theorem jiJ {l:List Pd} {x:ByteArray}:Jq l x=none↔∀q ∈ l,q.name≠x:=by
 unfold Jq;rw[List.find?_eq_none];exact⟨fun h q hq e=>h q hq (jM.2 e),fun h q hq e=>h q hq (jM.1 e)⟩
theorem jlk {l:List Pd} {x:ByteArray} {p:Pd} (h:Jq l x=some p):p ∈ l∧p.name=x :=
 ⟨List.mem_of_find?_eq_some h,jM.1 (List.find?_some (p:=fun n:Pd=>eqS n.name x) h)⟩
theorem jd1 {x:ByteArray}:∀{l:List Pd},(∀q ∈ l,q.name≠x)→j0 x l=l
 | [],_=>rfl
 | p::t,h=>by
  have hp:=h p (List.mem_cons_self ..);rw[j0,if_neg (fun e=>hp (jM.1 e)),jd1 fun q hq=>h q (List.mem_cons_of_mem _ hq)]
theorem JP {x:ByteArray}:∀{l:List Pd} {q:Pd},q ∈ j0 x l→q ∈ l
 | p::t,q,h=>by
  rw[j0] at h;split at h
  · exact List.mem_cons_of_mem _ h
  · rcases List.mem_cons.1 h with rfl | h
    · exact List.mem_cons_self ..
    · exact List.mem_cons_of_mem _ (JP h)
theorem jc8 {x:ByteArray}:∀{l:List Pd},Asc l→∀q ∈ j0 x l,q.name≠x
 | p::t,h,q,hq=>by
  obtain⟨h1,h2⟩:=List.pairwise_cons.1 h;rw[j0] at hq;split at hq
  · rename_i e;have e:=jM.1 e;have:=Vec.ZE (h1 q hq);rw[e] at this;exact fun e=>this e.symm
  · rename_i e;rcases List.mem_cons.1 hq with rfl | hq
    · exact fun e'=>e (jM.2 e')
    · exact jc8 h2 q hq
theorem jeT {x:ByteArray}:∀{l:List Pd},Asc l→Asc (j0 x l)
 | [],h=>h
 | p::t,h=>by
  obtain⟨h1,h2⟩:=List.pairwise_cons.1 h;rw[j0];split
  · exact h2
  · exact List.pairwise_cons.2 ⟨fun q hq=>h1 q (JP hq),jeT h2⟩
theorem jb9 {x:ByteArray}:∀{l:List Pd},(j0 x l).length+(if (Jq l x).isSome=true then 1 else 0)=l.length
 | []=>rfl
 | p::t=>by
  by_cases e:eqS p.name x=true
  · have hf:Jq (p::t) x=some p:=by unfold Jq;exact List.find?_cons_of_pos (p:=fun n:Pd=>eqS n.name x) e
    rw[j0,if_pos e,hf];simp
  · have hf:Jq (p::t) x=Jq t x:=by unfold Jq;exact List.find?_cons_of_neg (p:=fun n:Pd=>eqS n.name x) e
    rw[j0,if_neg e,hf];have:=jb9 (x:=x) (l:=t);simp only[List.length_cons];omega
theorem ins_mem {p:Pd}:∀{l:List Pd} {q:Pd},q ∈ Jw p l→q=p∨q ∈ l
 | [],q,h=>by
  have:=List.mem_singleton.1 (show q ∈ [p] from h);exact .inl this
 | r::t,q,h=>by
  rw[Jw] at h;split at h
  · rcases List.mem_cons.1 h with rfl | h
    · exact .inl rfl
    · exact .inr h
  · rcases List.mem_cons.1 h with rfl | h
    · exact .inr (List.mem_cons_self ..)
    · exact(ins_mem h).imp id (List.mem_cons_of_mem _)
theorem jcm (p:Pd):∀l:List Pd,(Jw p l).length=l.length+1
 | []=>rfl
 | r::t=>by
  rw[Jw];split
  · rfl
  · rw[List.length_cons,jcm p t,List.length_cons]
theorem jgz {p:Pd}:∀{l:List Pd},Asc l→(∀q ∈ l,q.name≠p.name)→Asc (Jw p l)
 | [],_,_=>List.pairwise_singleton ..
 | r::t,h,hn=>by
  obtain⟨h1,h2⟩:=List.pairwise_cons.1 h;rw[Jw];split
  · rename_i e;refine List.pairwise_cons.2 ⟨fun q hq=>?_,h⟩;rcases List.mem_cons.1 hq with rfl | hq
    · exact e
    · exact Vec.zL e (h1 q hq)
  · rename_i e;have e:ltS p.name r.name=false:=by simpa using e
    refine List.pairwise_cons.2 ⟨fun q hq=>?_,jgz h2 fun q hq=>hn q (List.mem_cons_of_mem _ hq)⟩;rcases ins_mem hq with rfl | hq
    · cases g:ltS r.name q.name with
      | true=>rfl
      | false=>exact absurd (Vec.YA g e) (hn r (List.mem_cons_self ..))
    · exact h1 q hq
theorem jgw {s:Clu} (h:Asc s.pods) (p:Pd):Asc (Jd s p).pods:=jgz (jeT h) (jc8 h)
theorem jcs {s:Clu} (p:Pd):(Jd s p).pods.length=(j8 s p.name).pods.length+1:=jcm p _
theorem Xy (s:Clu) (x:ByteArray):(j8 s x).pods.length+(if (Jq s.pods x).isSome=true then 1 else 0)=s.pods.length:=jb9
def zx (l:Vec.V):Prop:=Vec.Gd l∧l.length≤8
theorem zx.nil:zx []:=⟨Vec.Gd.nil,by decide⟩
theorem jgO {l:Vec.V} (h:Vec.jv l=0) (hf:Vec.Ja l):zx l:=⟨Vec.Z8 h hf,Vec.Zx h⟩
theorem Y6 {f g:ByteArray→Int} {r:Vec.V} (h:∀n,f n=g n):Vec.Made f r↔Vec.Made g r:=by rw[funext h]
theorem add_step {v p:Vec.V} (hv:zx v) (hp:zx p) :
 (∃q,Vec.jj Vec.jD v p=(0,q)∧zx q∧∀n,Vec.jh q n=Vec.jh v n+Vec.jh p n) ∨
 (∃c,c≠0∧Vec.jj Vec.jD v p=(c,[])∧∀(r:Vec.V) (f:ByteArray→Int),(∀n,0≤f n)→Vec.Made (fun n=>Vec.jh v n+Vec.jh p n+f n) r→r.length≤8→False):=by
 rcases Vec.merged_spec Vec.jip hv.1 hp.1 hv.2 hp.2 with ⟨⟨n,hn⟩,hb⟩ | ⟨hn,q,hm,⟨h8,hb⟩ | ⟨h8,hb⟩⟩
 · refine .inr ⟨5,by decide,hb,fun r f hf hr _=>hn ((Vec.XN _ _).2 ?_)⟩;have h1:=(Vec.Je n hr.1).2;have h2:=hf n;rw[hr.2 n] at h1;dsimp only at h1;omega
 · refine .inr ⟨4,by decide,hb,fun r f hf hr h9=>?_⟩;have hl:q.length≤r.length:=Vec.Gd.len hm.1 hr.1 fun n hne e=>hne (by
    rw[hm.2 n];show (Vec.jD _ _).1=0;rw[Vec.jbw ((Vec.XN _ _).1 (hn n))];have h1:=hf n;have h2:=Vec.Je n hv.1;have h3:=Vec.Je n hp.1;rw[hr.2 n] at e;dsimp only at e ⊢;omega)
   omega
 · exact .inl ⟨q,hb,⟨hm.1,h8⟩,fun n=>by rw[hm.2 n];show (Vec.jD _ _).1=_;rw[Vec.jbw ((Vec.XN _ _).1 (hn n))]⟩
def JT (x:ByteArray) (p:Pd) (n:ByteArray):Int:=if eqS p.node x=true then Vec.jh p.need n else 0
def zS (x:ByteArray):List Pd→ByteArray→Int
 | [],_=>0
 | p::t,n=>JT x p n+zS x t n
theorem je9 {x:ByteArray} {p:Pd} (h:zx p.need) (n:ByteArray):0≤JT x p n:=by
 unfold JT;split
 · exact(Vec.Je n h.1).1
 · exact Int.le_refl _
theorem jbf {x:ByteArray}:∀{l:List Pd},(∀p ∈ l,zx p.need)→∀n,0≤zS x l n
 | [],_,n=>Int.le_refl _
 | p::t,h,n=>Int.add_nonneg (je9 (h p (List.mem_cons_self ..)) n) (jbf (fun q hq=>h q (List.mem_cons_of_mem _ hq)) n)
theorem jbq {x:ByteArray}:∀{l:List Pd} {v r:Vec.V},(∀p ∈ l,zx p.need)→zx v→(jF x l v=(0,r)↔Vec.Made (fun n=>Vec.jh v n+zS x l n) r∧r.length≤8)
 | [],v,r,_,hv=>by
  constructor
  · intro e
    cases e
    exact⟨⟨hv.1,fun n=>by show _=_+(0:Int);rw[Int.add_zero]⟩,hv.2⟩
  · rintro ⟨hm,_⟩;have e:v=r:=Vec.Gd.ext hv.1 hm.1 fun n=>by rw[hm.2 n];show _=_+(0:Int);rw[Int.add_zero]
    rw[e];rfl
 | p::t,v,r,hl,hv=>by
  have ht:∀q ∈ t,zx q.need:=fun q hq=>hl q (List.mem_cons_of_mem _ hq);have hp:=hl p (List.mem_cons_self ..)
  cases e:eqS p.node x with
  | false =>
   rw[qU e,jbq ht hv];refine and_congr (Y6 fun n=>?_) Iff.rfl;show _=_+(JT x p n+zS x t n);rw[JT,if_neg (by rw[e];decide),Int.zero_add]
  | true =>
   have hone:∀n,JT x p n=Vec.jh p.need n:=fun n=>by rw[JT,if_pos e]
   rcases add_step hv hp with ⟨q,hq,fq,gq⟩ | ⟨c,hc,hq,no⟩
   · rw[jbl e hq,jbq ht fq];refine and_congr (Y6 fun n=>?_) Iff.rfl;show _=_+(JT x p n+zS x t n);rw[hone,gq,Int.add_assoc]
   · rw[jbu e hq hc];constructor
     · intro h;exact absurd (Prod.mk.inj h).1 hc
     · rintro ⟨hm,h8⟩;refine(no r (zS x t) (jbf ht) ((Y6 fun n=>?_).1 hm) h8).elim;show _+(JT x p n+zS x t n)=_;rw[hone,Int.add_assoc]
theorem jbm {x:ByteArray} {l:List Pd} {r:Vec.V} (hl:∀p ∈ l,zx p.need):jF x l []=(0,r)↔Vec.Made (zS x l) r∧r.length≤8:=by
 rw[jbq hl zx.nil];exact and_congr (Y6 fun n=>by show (0:Int)+_=_;rw[Int.zero_add]) Iff.rfl
theorem jc9 {x y:ByteArray}:∀{l:List Pd} {p:Pd},Jq l y=some p→∀n,zS x (j0 y l) n+JT x p n=zS x l n
 | q::t,p,h,n=>by
  by_cases e:eqS q.name y=true
  · have hq:Jq (q::t) y=some q:=by unfold Jq;exact List.find?_cons_of_pos (p:=fun n:Pd=>eqS n.name y) e
    rw[hq] at h;obtain rfl:=Option.some.inj h;rw[j0,if_pos e];show _=JT x q n+zS x t n;omega
  · have hq:Jq (q::t) y=Jq t y:=by unfold Jq;exact List.find?_cons_of_neg (p:=fun n:Pd=>eqS n.name y) e
    rw[hq] at h;have:=jc9 (x:=x) h n;rw[j0,if_neg e];show JT x q n+zS x (j0 y t) n+_=JT x q n+zS x t n;omega
structure Xx (s:Clu):Prop where
 nodes:jV s.nodes=0
 pods:jK s.pods=0
 places:jE s.nodes s.pods=0
 rooms:jW s.pods s.nodes=0
 tot:(Zf s.nodes []).1=0
theorem jbc {s:Clu} (h:Jt s=0):Xx s:=by
 have h0:or3 (jV s.nodes) (jK s.pods) (jY s.buds)=0:=Decidable.byContradiction fun g=>g ((jaI (nl:=s.nodes) (pl:=s.pods) (bl:=s.buds) rfl g).symm.trans h);have h1:jE s.nodes s.pods=0:=Decidable.byContradiction fun g=>g ((jcM (nl:=s.nodes) (pl:=s.pods) (bl:=s.buds) h0 rfl g).symm.trans h);have h2:jW s.pods s.nodes=0:=Decidable.byContradiction fun g=>g ((jbn (nl:=s.nodes) (pl:=s.pods) (bl:=s.buds) h0 h1 rfl g).symm.trans h);have h3:(Zf s.nodes []).1=0:=(ja3 (nl:=s.nodes) (pl:=s.pods) (bl:=s.buds) h0 h1 h2).symm.trans h;have ho:jV s.nodes=0∧jK s.pods=0:=by
  unfold or3 at h0;split at h0
  · rename_i h1;exact absurd h0 h1
  · rename_i g1;split at h0
    · rename_i g2;exact absurd h0 g2
    · rename_i g2;exact⟨Decidable.of_not_not g1,Decidable.of_not_not g2⟩
 exact⟨ho.1,ho.2,h1,h2,h3⟩
theorem jbY {pods:List Pd}:∀{l:List Nod},jW pods l=0→∀n ∈ l,∃u,jF n.name pods []=(0,u)∧Vec.jx n.cap u=true
 | m::t,h,n,hn=>by
  obtain⟨c,u,hu⟩:∃c u,jF m.name pods []=(c,u):=⟨_,_,rfl⟩
  by_cases hc:c=0
  · subst hc
    cases hf:Vec.jx m.cap u with
    | false=>rw[jby hu hf] at h;cases h
    | true =>
     rw[qu hu hf] at h;rcases List.mem_cons.1 hn with rfl | hn
     · exact⟨u,hu,hf⟩
     · exact jbY h n hn
  · rw[jc0 hu hc] at h;exact absurd h hc
def jlY (l:List Nod):Prop:=l.Pairwise fun x y=>ltS x.name y.name=true
theorem YP:∀{prev:Option ByteArray} {l:List Nod},zt prev l=0→(∀q,prev=some q→∀x ∈ l,ltS q x.name=true)∧jlY l∧∀n ∈ l,zy n=0
 | _,[],_=>⟨fun q _ x h=>absurd h (by simp),.nil,fun n h=>absurd h (by simp)⟩
 | prev,n::t,h=>by
  by_cases z:zy n=0
  · by_cases y:Vec.jG prev n.name=true
    · rw[jbK z y] at h;cases h
    · have y:Vec.jG prev n.name=false:=by simpa using y
      rw[jaw z y] at h;obtain⟨h2,h3,h4⟩:=YP h;refine⟨fun q hq x hx=>?_,List.pairwise_cons.2 ⟨fun x hx=>h2 _ rfl x hx,h3⟩,fun m hm=>?_⟩
      · subst hq;have hlt:ltS q n.name=true:=Vec.XI y;rcases List.mem_cons.1 hx with rfl | hx
        · exact hlt
        · exact Vec.zL hlt (h2 _ rfl x hx)
      · rcases List.mem_cons.1 hm with rfl | hm
        · exact z
        · exact h4 m hm
  · rw[jeg z] at h;exact absurd h z
theorem jdi:∀{l:List Nod} {p:Nod},jlY l→p ∈ l→jk l p.name=some p
 | [],_,_,h=>by cases h
 | x::t,p,h,hp=>by
  unfold jk;rcases List.mem_cons.1 hp with hp | hp
  · subst hp;exact List.find?_cons_of_pos (p:=fun n:Nod=>eqS n.name p.name) (J8 _)
  · have hlt:=(List.pairwise_cons.1 h).1 p hp;exact(List.find?_cons_of_neg (p:=fun n:Nod=>eqS n.name p.name) (fun e=>Vec.ZE hlt (jM.1 e))).trans (jdi (List.pairwise_cons.1 h).2 hp)
theorem Xx.jk {s:Clu} (h:Xx s) {n:Nod} (hn:n ∈ s.nodes):jk s.nodes n.name=some n:=by
 have ho:=h.nodes;unfold jV at ho;split at ho
 · cases ho
 · exact jdi (YP ho).2.1 hn
theorem Xx.cap0 {s:Clu} (h:Xx s) {n:Nod} (hn:n ∈ s.nodes):Vec.jv n.cap=0:=by
 have ho:=h.nodes;unfold jV at ho;split at ho
 · cases ho
 · have hc:=(YP ho).2.2 n hn;unfold zy at hc;split at hc
   · cases hc
   · split at hc
     · rename_i g;exact absurd hc g
     · rename_i g;exact Decidable.of_not_not g
theorem jaJ:∀{prev:Option ByteArray} {l:List Pd},zc prev l=0→∀n ∈ l,zN n=0
 | prev,m::t,h,n,hn=>by
  by_cases z:zN m=0
  · by_cases y:Vec.jG prev m.name=true
    · rw[qf z y] at h;cases h
    · have y:Vec.jG prev m.name=false:=by simpa using y
      rw[YR z y] at h;rcases List.mem_cons.1 hn with rfl | hn
      · exact z
      · exact jaJ h n hn
  · rw[jbk z] at h;exact absurd h z
theorem jbt:∀{l:List Int},orL l=0→∀c ∈ l,c=0
 | x::t,h,c,hc=>by
  unfold orL at h;split at h
  · rename_i g;exact absurd h g
  · rename_i g;rcases List.mem_cons.1 hc with rfl | hc
    · exact Decidable.of_not_not g
    · exact jbt h c hc
theorem Xx.need0 {s:Clu} (h:Xx s) {n:Pd} (hn:n ∈ s.pods):Vec.jv n.need=0:=by
 have ho:=h.pods;unfold jK at ho;split at ho
 · cases ho
 · exact jbt (jaJ ho n hn) _ (by simp[jaA])
structure Sound (s:Clu):Prop where
 parts:Xx s
 asc:Asc s.pods
 need:∀p ∈ s.pods,zx p.need
 cap:∀n ∈ s.nodes,zx n.cap
theorem jdX {s:Clu} {w:World} {v:Value} (h:Zs s=true) (hr:jB w v s):Sound s:=by
 have hp:=jbc (Xg h);obtain⟨v1,v2,v3,rfl,⟨a,cap,rfl,-,-,h1⟩,⟨b,cp,rfl,-,-,h2⟩,-⟩:=hr;refine⟨hp,je5 h,fun p hm=>jgO (hp.need0 hm) ?_,fun n hm=>jgO (hp.cap0 hm) ?_⟩
 · obtain⟨k,hk,rfl⟩:=List.mem_iff_getElem.1 hm;rcases h2.2.2 with h0 | ⟨b,off,-,-,hc⟩
   · omega
   · obtain⟨v1,v2,v3,v4,-,-,-,-,-,-,-,-,-,-,-,hat⟩:=hc k _ (List.getElem?_eq_getElem hk);obtain⟨a9,c9,-,-,-,g⟩:=hat.need;exact g.2.2.1
 · obtain⟨k,hk,rfl⟩:=List.mem_iff_getElem.1 hm;rcases h1.2.2 with h0 | ⟨b,off,-,-,hc⟩
   · omega
   · obtain⟨a1,m1,c1,a2,m2,c2,a3,m3,c3,-,-,-,-,-,hat⟩:=hc k _ (List.getElem?_eq_getElem hk);obtain⟨a9,c9,-,-,-,g⟩:=hat.cap;exact g.2.2.1
theorem jlg {s:Clu} (h:Sound s) {n:Nod} (hn:n ∈ s.nodes):JB s n.name=jF n.name s.pods []:=jai (h.parts.jk hn)
theorem jly {s:Clu} (h:Sound s) {n:Nod} (hn:n ∈ s.nodes):∃u f,JB s n.name=(0,u)∧Zo s n.name=(0,f)∧Vec.jj Vec.jD u f=(0,n.cap)∧zx u∧zx f∧Vec.Made (zS n.name s.pods) u∧(∀m,Vec.jh f m=Vec.jh n.cap m-Vec.jh u m)∧∀m,Vec.jh u m≤Vec.jh n.cap m:=by
 obtain⟨u,hu,hf⟩:=jbY h.parts.rooms n hn;obtain⟨hm,hl⟩:=(jbm h.need).1 hu;have hc:=h.cap n hn;have hle:=(Vec.Yt hm.1 hc.1).1 hf;obtain⟨f,hs,hmf,hlf⟩:=Vec.ja2 hc.1 hm.1 hc.2 hl hle;have hget:∀m,Vec.jh f m=Vec.jh n.cap m-Vec.jh u m:=fun m=>hmf.2 m;refine⟨u,f,(jlg h hn).trans hu,?_,?_,⟨hm.1,hl⟩,⟨hmf.1,hlf⟩,hm,hget,hle⟩
 · unfold Zo;rw[h.parts.jk hn];dsimp only;rw[hu,if_pos rfl];exact hs
 · refine Vec.jjU hm.1 hmf.1 hl hlf (fun m=>?_) ⟨hc.1,fun m=>?_⟩ hc.2
   · have:=(Vec.Je m hc.1).2;rw[hget];omega
   · show _=Vec.jh u m+Vec.jh f m;rw[hget];omega
def YU (g:ByteArray→Int):Vec.V→Vec.V
 | []=>[]
 | x::t=>if g x.1=0 then YU g t else (x.1,g x.1)::YU g t
theorem Xe {g:ByteArray→Int}:∀{l:Vec.V} {y:ByteArray×Int},y ∈ YU g l→∃x ∈ l,y=(x.1,g x.1)∧g x.1≠0
 | x::t,y,h=>by
  rw[YU] at h;split at h
  · obtain⟨z,hz,e⟩:=Xe h;exact⟨z,by simp[hz],e⟩
  · rename_i hg;rcases List.mem_cons.1 h with rfl | h
    · exact⟨x,by simp,rfl,hg⟩
    · obtain⟨z,hz,e⟩:=Xe h;exact⟨z,by simp[hz],e⟩
theorem jeI (g:ByteArray→Int):∀l:Vec.V,(YU g l).length≤l.length
 | []=>Nat.le_refl _
 | x::t=>by
  have:=jeI g t;rw[YU];split<;>simp only[List.length_cons]<;>omega
theorem jgj {g:ByteArray→Int}:∀{l:Vec.V},Vec.Gd l→(∀x ∈ l,0≤g x.1∧g x.1≤9223372036854775807)→Vec.Gd (YU g l)
 | [],_,_=>Vec.Gd.nil
 | x::t,h,hb=>by
  obtain⟨h1,h2,h3⟩:=Vec.Gd.cons.1 h;have ih:=jgj h3 fun y hy=>hb y (by simp[hy]);rw[YU];split
  · exact ih
  · rename_i hg;have:=hb x (by simp);refine Vec.Gd.cons.2 ⟨⟨h1.1,by dsimp only;omega,this.2⟩,fun y hy=>?_,ih⟩;obtain⟨z,hz,rfl,_⟩:=Xe hy;exact h2 z hz
theorem ja9 {g:ByteArray→Int} {n:ByteArray}:∀{l:Vec.V},Vec.Gd l→(∃x ∈ l,x.1=n)→Vec.jh (YU g l) n=g n
 | [],_,h=>by obtain⟨x,hx,_⟩:=h;cases hx
 | y::t,h,he=>by
  obtain⟨h1,h2,h3⟩:=Vec.Gd.cons.1 h;by_cases e:y.1=n
  · rw[YU];split
    · rename_i hg;rw[←e,hg];refine Vec.Xk fun z hz=>?_;obtain⟨q,hq,rfl,_⟩:=Xe hz;exact fun e2=>Vec.ZE (h2 q hq) e2.symm
    · rw[←e];exact Vec.zZ _ _
  · have ht:∃x ∈ t,x.1=n:=by
     obtain⟨x,hx,e2⟩:=he;rcases List.mem_cons.1 hx with rfl | hx
     · exact absurd e2 e
     · exact⟨x,hx,e2⟩
    rw[YU];split
    · exact ja9 h3 ht
    · rw[Vec.Jg _ (by exact e)];exact ja9 h3 ht
theorem jkw {g:ByteArray→Int} {u:Vec.V} (hu:zx u) (h0:∀n,0≤g n) (h1:∀n,g n≤Vec.jh u n):∃r,Vec.Made g r∧r.length≤8:=by
 refine⟨YU g u,⟨jgj hu.1 fun x hx=>⟨h0 _,Int.le_trans (h1 _) (Vec.Je _ hu.1).2⟩,fun n=>?_⟩,Nat.le_trans (jeI g u) hu.2⟩;by_cases e:∃x ∈ u,x.1=n
 · exact ja9 hu.1 e
 · have hz:Vec.jh u n=0:=Vec.Xk fun y hy e2=>e ⟨y,hy,e2⟩;have h2:=h0 n;have h3:=h1 n;rw[show g n=0 by omega];refine Vec.Xk fun y hy e2=>?_;obtain⟨x,hx,rfl,_⟩:=Xe hy;exact e ⟨x,hx,e2⟩
theorem jjj {x:ByteArray} {cap:Vec.V} {l:List Pd} (hc:zx cap) (hp:∀p ∈ l,zx p.need) (hs:∀m,zS x l m≤Vec.jh cap m):∃u,jF x l []=(0,u)∧zx u∧(∀m,Vec.jh u m=zS x l m)∧Vec.jx cap u=true:=by
 obtain⟨u,hu,hu8⟩:=jkw hc (jbf hp) hs;exact⟨u,(jbm hp).2 ⟨hu,hu8⟩,⟨hu.1,hu8⟩,hu.2,(Vec.Yt hu.1 hc.1).2 fun m=>by rw[hu.2 m];exact hs m⟩
theorem jgs {s:Clu} {n:Nod} (hf:jk s.nodes n.name=some n) (hc:zx n.cap) (hp:∀p ∈ s.pods,zx p.need) (hs:∀m,zS n.name s.pods m≤Vec.jh n.cap m):∃b,Zo s n.name=(0,b)∧zx b∧∀m,Vec.jh b m=Vec.jh n.cap m-zS n.name s.pods m:=by
 obtain⟨u,h1,h2,h3,h4⟩:=jjj hc hp hs;obtain⟨b,hb,hmb,hlb⟩:=Vec.ja2 hc.1 h2.1 hc.2 h2.2 fun m=>by rw[h3 m];exact hs m
 refine⟨b,?_,⟨hmb.1,hlb⟩,fun m=>by
  have h9:Vec.jh b m=Vec.jh n.cap m-Vec.jh u m:=hmb.2 m;rw[h9,h3 m]⟩
 unfold Zo;rw[hf];dsimp only;rw[h1,if_pos rfl];exact hb
theorem jj8 {s:Clu} {n:Nod} (hf:jk s.nodes n.name=some n) (hc:zx n.cap) (hp:∀p ∈ s.pods,zx p.need) (h:(Zo s n.name).1=0):∀m,zS n.name s.pods m≤Vec.jh n.cap m:=by
 unfold Zo at h;rw[hf] at h;dsimp only at h;obtain⟨c,u,hu⟩:∃c u,jF n.name s.pods []=(c,u):=⟨_,_,rfl⟩
 rw[hu] at h;by_cases hz:c=0
 · subst hz;rw[if_pos rfl] at h;obtain⟨hm,h8⟩:=(jbm hp).1 hu;have:=(Vec.Yt hm.1 hc.1).1 ((Vec.jjX hc.1 hm.1 hc.2 h8).1 h);intro m;rw[←hm.2 m];exact this m
 · rw[if_neg hz] at h;exact absurd h hz
theorem jkm {s:Clu} {p:Pd} {n:Nod} (hf:jk s.nodes n.name=some n) (hc:zx n.cap) (hp:∀p ∈ s.pods,zx p.need) (hq:zx p.need):Yj s p n.name=true↔∀m,zS n.name s.pods m+Vec.jh p.need m≤Vec.jh n.cap m:=by
 unfold Yj;rw[Bool.and_eq_true,decide_eq_true_iff];constructor
 · rintro ⟨h1,h2⟩ m;have hs:=jj8 hf hc hp h1;obtain⟨b,hb,fb,gb⟩:=jgs hf hc hp hs;rw[hb] at h2;have:=(Vec.Yt hq.1 fb.1).1 h2 m;rw[gb] at this;omega
 · intro h;obtain⟨b,hb,fb,gb⟩:=jgs hf hc hp fun m=>by have:=h m;have:=(Vec.Je m hq.1).1;omega
   rw[hb];refine⟨rfl,(Vec.Yt hq.1 fb.1).2 fun m=>?_⟩;rw[gb];have:=h m;omega
theorem jkk {x y:ByteArray} (l:List Pd) (hl:∀p ∈ l,zx p.need) (m:ByteArray):zS x (j0 y l) m≤zS x l m:=by
 cases h:Jq l y with
 | none=>rw[jd1 (jiJ.1 h)];exact Int.le_refl _
 | some p =>
  have h1:=jc9 (x:=x) h m;have h2:=je9 (x:=x) (hl p (jlk h).1) m;omega
theorem Sound.sum {s:Clu} (h:Sound s) {n:Nod} (hn:n ∈ s.nodes) (m:ByteArray):zS n.name s.pods m≤Vec.jh n.cap m:=by
 obtain⟨u,f,-,-,-,-,-,hm,-,hle⟩:=jly h hn;rw[←hm.2 m];exact hle m
theorem jih {s:Clu} (h:∀p ∈ s.pods,zx p.need) (x:ByteArray):∀p ∈ (j8 s x).pods,zx p.need:=fun p hp=>h p (JP hp)
theorem jcS {nodes:List Nod}:∀{l:List Pd},jE nodes l=0→∀p ∈ l,zD p.node=false→(jk nodes p.node).isSome=true
 | q::t,h,p,hp,hn=>by
  by_cases g:zD q.node=false∧(jk nodes q.node).isSome=false
  · rw[jbP g.1 g.2] at h;cases h
  · have h2:jE nodes t=0:=by rw[jE,if_neg g] at h;exact h
    rcases List.mem_cons.1 hp with rfl | hp
    · cases e:(jk nodes p.node).isSome with
      | false=>exact absurd ⟨hn,e⟩ g
      | true=>rfl
    · exact jcS h2 p hp hn
theorem jex {x:ByteArray} {p:Pd}:∀(l:List Pd) (m:ByteArray),zS x (Jw p l) m=JT x p m+zS x l m
 | [],m=>rfl
 | q::t,m=>by
  rw[Jw];split
  · rfl
  · show JT x q m+zS x (Jw p t) m=JT x p m+(JT x q m+zS x t m);rw[jex t m];omega
theorem jgm:∀{prev:Option ByteArray} {l:List Pd},Asc l→(∀p ∈ l,zN p=0)→(∀q,prev=some q→∀x ∈ l,ltS q x.name=true)→zc prev l=0
 | _,[],_,_,_=>rfl
 | prev,n::t,h,hc,hb=>by
  obtain⟨h1,h2⟩:=List.pairwise_cons.1 h;have b:Vec.jG prev n.name=false:=by
   cases prev with
   | none=>rfl
   | some q=>exact Vec.jaq (hb q rfl n (by simp))
  rw[YR (hc n (by simp)) b];exact jgm h2 (fun p hp=>hc p (by simp[hp])) fun q hq x hx=>by cases hq;exact h1 x hx
theorem jc7 {nodes:List Nod}:∀{l:List Pd},(∀p ∈ l,zD p.node=false→(jk nodes p.node).isSome=true)→jE nodes l=0
 | [],_=>rfl
 | q::t,h=>by
  rw[jE,if_neg fun g=>by have:=h q (by simp) g.1;rw[g.2] at this;cases this];exact jc7 fun p hp=>h p (by simp[hp])
theorem jeN {pods:List Pd}:∀{l:List Nod},(∀n ∈ l,∃u,jF n.name pods []=(0,u)∧Vec.jx n.cap u=true)→jW pods l=0
 | [],_=>rfl
 | n::t,h=>by
  obtain⟨u,h1,h2⟩:=h n (by simp);rw[qu h1 h2];exact jeN fun m hm=>h m (by simp[hm])
theorem jjC:∀{l:List Int},(∀c ∈ l,c=0)→orL l=0
 | [],_=>rfl
 | x::t,h=>by rw[orL,if_neg (by rw[h x (by simp)];decide)];exact jjC fun c hc=>h c (by simp[hc])
theorem jc4 {n:Nod} (h:zy n=0):isName n.name=true:=by
 unfold zy at h;split at h
 · cases h
 · rename_i h1;simpa using h1
theorem ji2 {p:Pd} {x:ByteArray} (h:zN p=0) (hx:isName x=true):zN { p with node:=x }=0:=by
 have hz:=jbt (l:=jaA p) h;unfold zN;refine jjC fun c hc=>?_;unfold jaA at hc hz;simp only[List.mem_cons,List.not_mem_nil,or_false] at hc hz;rcases hc with rfl | rfl | rfl | rfl | rfl | rfl | rfl | rfl
 · exact hz _ (.inl rfl)
 · exact hz _ (.inr (.inl rfl))
 · exact hz _ (.inr (.inr (.inl rfl)))
 · exact hz _ (.inr (.inr (.inr (.inl rfl))))
 · exact hz _ (.inr (.inr (.inr (.inr (.inl rfl)))))
 · exact hz _ (.inr (.inr (.inr (.inr (.inr (.inl rfl))))))
 · exact hz _ (.inr (.inr (.inr (.inr (.inr (.inr (.inl rfl)))))))
 · unfold XX X3;rw[hx];simp
theorem jhP {s:Clu} {p:Pd} {x:ByteArray} (hg:Jt s=0) (hs:Sound s) (hp:zN p=0) (hq:zx p.need) (hl:(j8 s p.name).pods.length<128) (h:Ys s p x=0):Jt (Jd s { p with node:=x })=0:=by
 obtain⟨n,hf,hz⟩:=jfn h;obtain⟨-,-,-,h4⟩:=jdV hz;obtain⟨hm,rfl⟩:=jdj hf;have h5:=(jkm (s:=j8 s p.name) hf (hs.cap n hm) (jih hs.need p.name) hq).1 h4;have h0:or3 (jV s.nodes) (jK s.pods) (jY s.buds)=0:=Decidable.byContradiction fun g=>g ((jaI (nl:=s.nodes) (pl:=s.pods) (bl:=s.buds) rfl g).symm.trans hg);have hN:=hs.parts.nodes;have hP:=hs.parts.pods;have hB:jY s.buds=0:=by
  unfold or3 at h0;rw[if_neg (by rw[hN];decide),if_neg (by rw[hP];decide)] at h0;exact h0
 have hnodes:∀m ∈ s.nodes,zy m=0:=by
  unfold jV at hN;split at hN
  · cases hN
  · exact(YP hN).2.2
 have hpods:∀q ∈ s.pods,zN q=0:=by
  unfold jK at hP;split at hP
  · cases hP
  · exact jaJ hP
 have hp':zN { p with node:=n.name }=0:=ji2 hp (jc4 (hnodes n hm));have hP':jK (Jd s { p with node:=n.name }).pods=0:=by
  have e1:=jcs (s:=s) { p with node:=n.name };have e2:=Xy s p.name;unfold jK;rw[if_neg (by
   have e3:(Jd s { p with node:=n.name }).pods.length=(j8 s p.name).pods.length+1:=e1;omega)]
  refine jgm (jgw hs.asc _) (fun q hq=>?_) fun q hq=>by cases hq
  rcases ins_mem hq with rfl | hq
  · exact hp'
  · exact hpods q (JP hq)
 have hpl:jE s.nodes (Jd s { p with node:=n.name }).pods=0:=jc7 fun q hq hn=>by
  rcases ins_mem hq with rfl | hq
  · show (jk s.nodes n.name).isSome=true;have:jk s.nodes n.name=some n:=hf;rw[this];rfl
  · exact jcS hs.parts.places q (JP hq) hn
 have hneed:∀q ∈ (Jd s { p with node:=n.name }).pods,zx q.need:=fun q hq9=>by
  rcases ins_mem hq9 with rfl | hq9
  · exact hq
  · exact hs.need q (JP hq9)
 have hro:jW (Jd s { p with node:=n.name }).pods s.nodes=0:=jeN fun k hk=>by
  obtain⟨u,h1,-,-,h2⟩:=jjj (x:=k.name) (l:=(Jd s { p with node:=n.name }).pods) (hs.cap k hk) hneed fun m=>by
   show zS k.name (Jw { p with node:=n.name } (j0 p.name s.pods)) m≤_;rw[jex];by_cases e:k.name=n.name
   · have hkn:k=n:=by
      have e1:=hs.parts.jk hk;rw[e] at e1;have e2:jk s.nodes n.name=some n:=hf;rw[e2] at e1;exact(Option.some.inj e1).symm
     subst hkn;have e3:JT k.name { p with node:=k.name } m=Vec.jh p.need m:=by unfold JT;rw[if_pos (J8 _)]
     have:=h5 m;have h6:zS k.name (j0 p.name s.pods) m+Vec.jh p.need m≤Vec.jh k.cap m:=this;omega
   · have e3:JT k.name { p with node:=n.name } m=0:=by unfold JT;rw[if_neg fun g=>e (jM.1 g).symm]
     have h7:=hs.sum hk m;have h8:=jkk (x:=k.name) (y:=p.name) s.pods hs.need m;omega
  exact⟨u,h1,h2⟩
 have ho:or3 (jV s.nodes) (jK (Jd s { p with node:=n.name }).pods) (jY s.buds)=0:=by rw[hN,hP',hB];rfl
 exact(ja3 (nl:=s.nodes) (pl:=(Jd s { p with node:=n.name }).pods) (bl:=s.buds) ho hpl hro).trans hs.parts.tot
def je0 (s:Clu) (w:World) (e:Ending) (w':World):Prop:=∃y,e=.returned y∧jB w' y s∧Kept w w'
theorem jl8 {v u:Value} {s:Clu} {p:Pd} {w:World} (h:jB w v s) (g:jcu w u p) (hl:jA s) (hp:Js p):Calls Tryz.prog 57 #[v,u] w (je0 (Jd s p) w):=by
 obtain⟨v1,v2,v3,rfl,⟨a,cap,rfl,l1,m1,h1⟩,⟨b,cp,rfl,l2,m2,h2⟩,⟨d,cb,rfl,l3,m3,h3⟩⟩:=h;obtain⟨u1,u2,u3,u4,rfl,hat⟩:=g;have g1:=hat.need;have g2:=hat.labels;have g3:=hat.sel;have g4:=hat.tols;obtain⟨b1,d1,rfl,-,-,-⟩:=g1;obtain⟨b2,d2,rfl,-,-,-⟩:=g2;obtain⟨b3,d3,rfl,-,-,-⟩:=g3;obtain⟨b4,d4,rfl,-,-,-⟩:=g4;refine(jij a b d _ cap _ cp _ cb s.nodes s.pods s.buds p b1 b2 b3 b4 _ d1 _ d2 _ d3 _ d4 w h1 h2 h3 l1 m1 l2 m2 l3 m3 hl hat hp).mono ?_;rintro e w' ⟨_,_,_,_,_,_,_,_,_,rfl,ho,kk⟩;exact⟨_,rfl,ho.toR,kk⟩
theorem jgt {v:Value} {s:Clu} {w:World} (h:jB w v s) (x:ByteArray) (hl:jA s):Calls Tryz.prog 35 #[v,.string x] w (je0 (j8 s x) w):=by
 obtain⟨v1,v2,v3,rfl,⟨a,cap,rfl,l1,m1,h1⟩,⟨b,cp,rfl,l2,m2,h2⟩,⟨d,cb,rfl,l3,m3,h3⟩⟩:=h;refine(jci a b d _ cap _ cp _ cb s.nodes s.pods s.buds x w h1 h2 h3 l1 m1 l2 m2 l3 m3 hl).mono ?_;rintro e w' ⟨_,_,_,_,_,_,_,_,_,rfl,ho,kk⟩;exact⟨_,rfl,ho.toR,kk⟩
theorem jjL {a:Option Addr} {n c:Nat} {l:List Pd} {w:World} (h:zU w (.slice a n c) l):jC w a n l:=by
 obtain⟨a',cap',e,_,_,h⟩:=h
 cases e
 exact h
theorem jll {s:Clu} {p:Pd} (h:jA s) (hp:Js p) (hn:s.pods.length≤1000):jA (Jd s p) :=
 ⟨h.nodes,fun q hq=>by rcases ins_mem hq with rfl | hq;exact hp;exact h.pods q (JP hq),h.buds,h.nodesN,by
  have h1:=jcs (s:=s) p;have h2:=Xy s p.name;omega,h.budsN⟩
theorem ja6 {s:Clu} (h:jA s) (x:ByteArray):jA (j8 s x) :=
 ⟨h.nodes,fun q hq=>h.pods q (JP hq),h.buds,h.nodesN,by
  have h2:=Xy s x;have:=h.podsN;omega,h.budsN⟩
open Go.RowKit Go.Sort
def jL (p:Pd):Bool:=zD p.node&&!p.hold
def zi (p q:Pd):Bool:=decide (YI p q<0)
def Y5 (l m:List Pd):Prop:=m.Perm (l.filter jL)∧m.Pairwise fun a b=>zi b a=false
theorem jbD {p q:Pd}:zi p q=true↔(q.prio<p.prio∨(q.prio=p.prio∧ltS p.name q.name=true)):=by
 unfold zi;rw[decide_eq_true_iff,jb8]
theorem qm {p q:Pd}:zi p q=false↔¬(q.prio<p.prio∨(q.prio=p.prio∧ltS p.name q.name=true)):=by
 rw[←Bool.not_eq_true,jbD]
theorem qV {p q:Pd} (h:zi p q=false) (g:zi q p=false):p.name=q.name:=by
 rw[qm] at h g;have e:p.prio=q.prio:=by omega
 refine Vec.YA ?_ ?_
 · cases k:ltS p.name q.name with
   | false=>rfl
   | true=>exact absurd (.inr ⟨e.symm,k⟩) h
 · cases k:ltS q.name p.name with
   | false=>rfl
   | true=>exact absurd (.inr ⟨e,k⟩) g
theorem Xm {x y z:Pd} (h1:zi x y=true) (h2:zi y z=true):zi x z=true:=by
 unfold zi at *;rw[decide_eq_true_iff] at *;exact jeK h1 h2
theorem qR {x y z:Pd} (h1:zi x y=false) (h2:zi y z=false):zi x z=false:=by
 cases e:zi x z with
 | false=>rfl
 | true =>
  cases q:zi y x with
  | true=>rw[Xm q e] at h2;cases h2
  | false =>
   have hn:=qV h1 q;rw[qm] at h1 q h2;rw[jbD] at e;rcases e with e | ⟨e1,e2⟩
   · exact absurd (.inl (by omega)) h2
   · exact absurd (.inr ⟨by omega,by rw[←hn];exact e2⟩) h2
theorem qN (x:Pd):zi x x=false:=by
 rw[qm,Vec.Yg];rintro (h | ⟨-,h⟩)
 · omega
 · cases h
theorem jbd {l:List Pd} (h:Asc l) {p q:Pd} (hp:p ∈ l) (hq:q ∈ l) (e:p.name=q.name):p=q:=by
 have h1:=qh h hp;have h2:=qh h hq;rw[e,h2] at h1;exact(Option.some.inj h1).symm
theorem Y5.unique {l m k:List Pd} (ha:Asc l) (h:Y5 l m) (g:Y5 l k):m=k :=
 List.Perm.eq_of_pairwise (fun a b h1 h2 e1 e2=>jbd ha (List.mem_filter.1 (h.1.mem_iff.1 h1)).1 (List.mem_filter.1 (g.1.mem_iff.1 h2)).1 (qV e2 e1)) h.2 g.2 (h.1.trans g.1.symm)
def zr (l:List Pd):List Pd:=(l.filter jL).mergeSort fun a b=>!zi b a
theorem jbr (l:List Pd):Y5 l (zr l):=by
 refine⟨List.mergeSort_perm _ _,?_⟩;have h:=List.pairwise_mergeSort (le:=fun a b=>!zi b a) (fun a b c h1 h2=>by
  simp only[Bool.not_eq_true'] at *;exact qR h2 h1) (fun a b=>by
  cases e:zi b a with
  | false=>rfl
  | true =>
   cases q:zi a b with
   | false=>rfl
   | true=>have:=Xm e q;rw[qN b] at this;cases this) (l.filter jL)
 exact h.imp fun {a b} g=>by simpa using g
theorem qG {l m:List Pd} (ha:Asc l) (h:Y5 l m):m=zr l:=h.unique ha (jbr l)
theorem XG {l:List Pd} {p:Pd}:p ∈ zr l↔p ∈ l∧jL p=true:=by rw[(jbr l).1.mem_iff,List.mem_filter]
theorem jak (l:List Pd):(zr l).length=(l.filter jL).length:=(jbr l).1.length_eq
theorem Xf (l:List Pd):(zr l).length≤l.length:=by rw[jak];exact List.length_filter_le _ _
def XV (s:Clu) (p:Pd) (pack:Bool):Option ByteArray:=((jO s p s.nodes).mergeSort fun a b=>!Yp s p pack b a).head?
theorem jaH (s:Clu) (p:Pd) (pack:Bool):XQ s p pack ((jO s p s.nodes).mergeSort fun a b=>!Yp s p pack b a):=by
 refine⟨List.mergeSort_perm _ _,?_⟩;have h:=List.pairwise_mergeSort (le:=fun a b=>!Yp s p pack b a) (fun a b c h1 h2=>by
  simp only[Bool.not_eq_true'] at *;exact qS h2 h1) (fun a b=>by
  cases e:Yp s p pack b a with
  | false=>rfl
  | true =>
   cases q:Yp s p pack a b with
   | false=>rfl
   | true=>have:=Xo e q;rw[qP] at this;cases this) (jO s p s.nodes)
 exact h.imp fun {a b} g=>by simpa using g
theorem jjl {s:Clu} {p:Pd} {pack:Bool} {l:List ByteArray} (h:XQ s p pack l):l.head?=XV s p pack:=by
 unfold XV;rw[h.unique (jaH s p pack)]
theorem Yx {s:Clu} {p:Pd} {pack:Bool}:XV s p pack=none↔jO s p s.nodes=[]:=by
 unfold XV;rw[List.head?_eq_none_iff];constructor
 · intro h;have:=(jaH s p pack).1;rw[h] at this;exact List.Perm.eq_nil this.symm
 · intro h;have:=(jaH s p pack).1;rw[h] at this;rw[h];exact List.Perm.eq_nil this
theorem jgh {s:Clu} {p:Pd} {pack:Bool} {x:ByteArray} (h:XV s p pack=some x):x ∈ jO s p s.nodes :=
 (jaH s p pack).1.mem_iff.1 (List.mem_of_head? h)
def Jj (s:Clu) (pack:Bool):List Pd→Option (ByteArray×ByteArray)
 | []=>none
 | p::t=>match XV s p pack with
  | some x=>some (p.name,x)
  | none=>Jj s pack t
def nextS (s:Clu) (pack:Bool):Option (ByteArray×ByteArray):=Jj s pack (zr s.pods)
theorem jeq {s:Clu} {pack:Bool} {x t:ByteArray}:∀{l:List Pd},Jj s pack l=some (x,t)→∃p ∈ l,p.name=x∧XV s p pack=some t
 | [],h=>by cases h
 | p::l,h=>by
  rw[Jj] at h;split at h
  · rename_i y e;obtain⟨rfl,rfl⟩:=Prod.mk.inj (Option.some.inj h);exact⟨p,by simp,rfl,e⟩
  · obtain⟨q,hq,e⟩:=jeq h;exact⟨q,by simp[hq],e⟩
theorem jc3 {s:Clu} {pack:Bool}:∀{l:List Pd},Jj s pack l=none→∀p ∈ l,XV s p pack=none
 | [],_,p,hp=>by cases hp
 | q::l,h,p,hp=>by
  rw[Jj] at h;split at h
  · cases h
  · rename_i e;rcases List.mem_cons.1 hp with rfl | hp
    · exact e
    · exact jc3 h p hp
theorem qw {s:Clu} {pack:Bool} {x t:ByteArray} (h:nextS s pack=some (x,t)):∃p ∈ s.pods,jL p=true∧p.name=x∧t ∈ jO s p s.nodes:=by
 obtain⟨p,hp,e,c⟩:=jeq h;obtain⟨h1,h2⟩:=XG.1 hp;exact⟨p,h1,h2,e,jgh c⟩
theorem jez {p:Pd} {y:ByteArray}:∀{l:List Pd},Asc l→p ∈ l→Ji p.name y l=Jw { p with node:=y } (j0 p.name l)
 | [],_,h=>by cases h
 | q::r,ha,h=>by
  obtain⟨h1,h2⟩:=List.pairwise_cons.1 ha;rw[Ji,j0];by_cases e:eqS q.name p.name=true
  · rw[if_pos e,if_pos e];have hq:q=p:=jbd ha (by simp) h (jM.1 e);subst hq
    cases r with
    | nil=>rfl
    | cons z r=>rw[Jw,if_pos (by exact h1 z (by simp))]
  · rw[if_neg e,if_neg e];have hp:p ∈ r:=(List.mem_cons.1 h).resolve_left fun g=>e (by rw[g];exact J8 _);have hlt:¬ltS p.name q.name=true:=fun g'=>absurd (Vec.zL (h1 p hp) g') (by rw[Vec.Yg];decide);rw[Jw,if_neg (by exact hlt),jez h2 hp]
theorem jag {p:Pd} {y:ByteArray} (hr:jL p=true) (hy:zD y=false):∀{l:List Pd},Asc l→p ∈ l→((Ji p.name y l).filter jL).length+1=(l.filter jL).length
 | [],_,h=>by cases h
 | q::r,ha,h=>by
  obtain⟨h1,h2⟩:=List.pairwise_cons.1 ha;rw[Ji];by_cases e:eqS q.name p.name=true
  · rw[if_pos e];have hq:q=p:=jbd ha (by simp) h (jM.1 e);subst hq;rw[List.filter_cons_of_neg (by unfold jL;show ¬((zD y&&!q.hold)=true);rw[hy];simp),List.filter_cons_of_pos hr];rfl
  · rw[if_neg e];have hp:p ∈ r:=(List.mem_cons.1 h).resolve_left fun g=>e (by rw[g];exact J8 _);by_cases g:jL q=true
    · rw[List.filter_cons_of_pos g,List.filter_cons_of_pos g,List.length_cons,List.length_cons,jag hr hy h2 hp]
    · rw[List.filter_cons_of_neg g,List.filter_cons_of_neg g,jag hr hy h2 hp]
theorem jay (x y:ByteArray):∀l:List Pd,(Ji x y l).length=l.length
 | []=>rfl
 | q::r=>by
  rw[Ji];split
  · rfl
  · rw[List.length_cons,List.length_cons,jay x y r]
structure zY (s:Clu):Prop where
 chk:Jt s=0
 sound:Sound s
 low:jA s
 few:s.pods.length≤128
theorem zY.asc {s:Clu} (h:zY s):Asc s.pods:=h.sound.asc
theorem zY.pods {s:Clu} (h:zY s):∀q ∈ s.pods,zN q=0:=by
 have hP:=h.sound.parts.pods;unfold jK at hP;split at hP
 · cases hP
 · exact jaJ hP
theorem zY.nodes {s:Clu} (h:zY s):∀m ∈ s.nodes,zy m=0:=by
 have hN:=h.sound.parts.nodes;unfold jV at hN;split at hN
 · cases hN
 · exact(YP hN).2.2
theorem jiz {x:ByteArray} (h:isName x=true):zD x=false:=by
 cases e:zD x with
 | false=>rfl
 | true =>
  have:=jM.1 (show eqS x ByteArray.empty=true from e);subst this;exact absurd h (by decide)
theorem zY.to {s:Clu} (h:zY s) {pack:Bool} {x t:ByteArray} (hn:nextS s pack=some (x,t)):zD t=false:=by
 obtain⟨p,-,-,-,ht⟩:=qw hn;obtain⟨-,n,hnn,rfl⟩:=XP ht;exact jiz (jc4 (h.nodes n hnn))
theorem zY.bind {s:Clu} (h:zY s) {pack:Bool} {x t:ByteArray} (hn:nextS s pack=some (x,t)):zY (zK s x t):=by
 obtain⟨p,hp,-,rfl,ht⟩:=qw hn;obtain⟨hf,-⟩:=XP ht;have e:zK s p.name t=Jd s { p with node:=t }:=by unfold zK Jd;rw[jez h.asc hp]
 have hd:(j8 s p.name).pods.length+1=s.pods.length:=by
  have:=Xy s p.name;rw[qh h.asc hp] at this;simpa using this
 have hc:Jt (Jd s { p with node:=t })=0:=jhP h.chk h.sound (h.pods p hp) (h.sound.need p hp) (by have:=h.few;omega) hf;rw[e];have hlow:=h.low.pods p hp;refine⟨hc,⟨jbc hc,jgw h.asc _,fun q hq=>?_,h.sound.cap⟩,jll h.low ⟨hlow.need,hlow.labels,hlow.sel,hlow.tols⟩ (by have:=h.few;omega),?_⟩
 · rcases ins_mem hq with rfl | hq
   · exact h.sound.need p hp
   · exact h.sound.need q (JP hq)
 · have:=jcs (s:=s) { p with node:=t };have e3:(Jd s { p with node:=t }).pods.length=(j8 s p.name).pods.length+1:=this;have:=h.few;omega
theorem zY.fewer {s:Clu} (h:zY s) {pack:Bool} {x t:ByteArray} (hn:nextS s pack=some (x,t)):(zr (zK s x t).pods).length+1=(zr s.pods).length:=by
 have ht:=h.to hn;obtain⟨p,hp,hr,rfl,-⟩:=qw hn;rw[jak,jak];exact jag hr ht h.asc hp
def zW (pack:Bool):Nat→Clu→List (ByteArray×ByteArray)
 | 0,_=>[]
 | n+1,s=>match nextS s pack with
  | none=>[]
  | some b=>b::zW pack n (zK s b.1 b.2)
def goS (l:List (ByteArray×ByteArray)) (s:Clu):Clu:=l.foldl (fun s b=>zK s b.1 b.2) s
def JS (s:Clu) (pack:Bool):List (ByteArray×ByteArray):=zW pack (zr s.pods).length s
theorem jjP (l:List (ByteArray×ByteArray)) (b:ByteArray×ByteArray) (s:Clu):goS (l++[b]) s=zK (goS l s) b.1 b.2:=by unfold goS;rw[List.foldl_append];rfl
theorem jbv (pack:Bool):∀(n:Nat) (s:Clu),(zW pack n s).length≤n
 | 0,_=>Nat.le_refl _
 | n+1,s=>by
  rw[zW];split
  · exact Nat.zero_le _
  · rw[List.length_cons];exact Nat.succ_le_succ (jbv pack n _)
theorem jbj (pack:Bool):∀{n:Nat} {s:Clu} {k:Nat},zY s→k≤(zW pack n s).length→zY (goS ((zW pack n s).take k) s)∧(k<n→nextS (goS ((zW pack n s).take k) s) pack=(zW pack n s)[k]?)∧(zr (goS ((zW pack n s).take k) s).pods).length+k=(zr s.pods).length
 | 0,s,k,h,hk=>by
  have e:k=0:=by rw[zW] at hk;simpa using hk
  subst e;exact⟨by simpa [goS] using h,fun h=>absurd h (by omega),rfl⟩
 | n+1,s,0,h,hk=>by
  refine⟨by simpa [goS] using h,fun _=>?_,rfl⟩;show nextS s pack=_;rw[zW]
  cases nextS s pack<;>rfl
 | n+1,s,k+1,h,hk=>by
  rw[zW] at hk ⊢
  cases e:nextS s pack with
  | none=>rw[e] at hk;simp at hk
  | some b =>
   rw[e] at hk;obtain⟨x,t⟩:=b;have ih:=jbj pack (n:=n) (k:=k) (h.bind e) (by simpa using hk);have hf:=h.fewer e;simp only[List.take_succ_cons,List.getElem?_cons_succ];have eg:∀l,goS ((x,t)::l) s=goS l (zK s x t):=fun l=>rfl;rw[eg];exact⟨ih.1,fun hk=>ih.2.1 (by omega),by have:=ih.2.2;omega⟩
theorem ji1 {s:Clu} {pack:Bool} (h:(zr s.pods).length=0):nextS s pack=none:=by
 unfold nextS;rw[List.length_eq_zero_iff.1 h];rfl
theorem je4 {s:Clu} (h:zY s) (pack:Bool) {k:Nat} (hk:k≤(JS s pack).length):nextS (goS ((JS s pack).take k) s) pack=(JS s pack)[k]?:=by
 have hl:=jbv pack (zr s.pods).length s;obtain⟨h1,h2,h3⟩:=jbj pack h hk;by_cases e:k<(zr s.pods).length
 · exact h2 e
 · have e2:k=(zr s.pods).length:=by unfold JS at hk;omega
   rw[List.getElem?_eq_none (by unfold JS;omega)];exact ji1 (by unfold JS;omega)
theorem jeX {s:Clu} (h:zY s) (pack:Bool) {k:Nat} (hk:k≤(JS s pack).length):zY (goS ((JS s pack).take k) s):=(jbj pack h hk).1
theorem jkH {l:List (ByteArray×ByteArray)} {s:Clu} {k:Nat} {b:ByteArray×ByteArray} (h:l[k]?=some b):goS (l.take (k+1)) s=zK (goS (l.take k) s) b.1 b.2:=by
 rw[List.take_add_one,h];exact jjP _ _ _
def jmY (o:Option Nod) (w:World) (e:Ending) (w':World):Prop:=(∀n,o=some n→∃b1 k1 d1 b2 k2 d2 b3 k3 d3,e=.returned (zC n (.slice b1 k1 d1) (.slice b2 k2 d2) (.slice b3 k3 d3))∧zk w' (.slice b1 k1 d1) (.slice b2 k2 d2) (.slice b3 k3 d3) n)∧(o=none→e=.panicked [zo 3])∧Kept w w'
theorem XH (c:Int) (w:World):Calls Tryz.prog 137 #[.bool false,.int .i64 c] w fun e w'=>e=.returned (.tuple #[])∧w=w':=by
 go_enter Tryz.func137,Tryz.ntmps137;go_wp2;refine⟨rfl,.tuple #[],by simp[results,Tryz.results137,go_sem],?_⟩;exact⟨rfl,rfl⟩
theorem Y7 (c:Int) (w:World):Calls Tryz.prog 137 #[.bool true,.int .i64 c] w fun e w'=>e=.panicked [zo c]∧w=w':=by
 go_enter Tryz.func137,Tryz.ntmps137;go_wp2;exact⟨rfl,rfl,rfl⟩
theorem jfF (s1 s2 s3:Option Addr) (n1 e1 n2 e2 n3 e3:Nat) (nodes:List Nod) (name:ByteArray) (w:World) (hn:jt w s1 n1 nodes) (hb1:n1≤100000) :
 Calls Tryz.prog 136 #[.agg #[.slice s1 n1 e1,.slice s2 n2 e2,.slice s3 n3 e3],.string name] w (jmY (jk nodes name) w):=by
 obtain⟨Z,hZ⟩:=eX ((w.alloc (.cells #[.slice s1 n1 e1,.slice s2 n2 e2,.slice s3 n3 e3] 26)).alloc (.cells #[.string ⟨#[]⟩,.slice none 0 0,.slice none 0 0,.slice none 0 0,.bool false] 57))
 have hkz:Kept w Z:=by rw[←hZ];exact jm _ _ _
 have Vs:=lH (jb w (.slice s1 n1 e1) [.slice s2 n2 e2,.slice s3 n3 e3] 26 Z (by rw[←hZ];exact ja _ _));have hyb:je (w.heap.size+1) [.string ⟨#[]⟩,.slice none 0 0,.slice none 0 0,.slice none 0 0,.bool false] Z:=by
  have dd:=jb (w.alloc (.cells #[.slice s1 n1 e1,.slice s2 n2 e2,.slice s3 n3 e3] 26)) (.string ⟨#[]⟩) [.slice none 0 0,.slice none 0 0,.slice none 0 0,.bool false] 57 Z (by rw[hZ];exact Kept.refl _);rw[World.size_alloc] at dd;exact dd
 obtain⟨TS,HN,VP,Vc⟩:=lH4 hyb hn hn.1 hkz;clear hn hkz hyb;go_enter Tryz.func136,Tryz.ntmps136;have y0:=Vs.out.at_ 0 _ rfl;go_upto_region 1 with fail
 try rw[hZ]
 clear hZ;go_wp2;clear y0;go_loopw [10] (fun i wr=>∃k:Nat,k≤n1∧i=.int .i64 k∧jk (nodes.drop k) name=jk nodes name∧Kept Z wr) (fun i _=>n1-(intOf i).toNat)
 case atStart=>exact⟨0,Nat.zero_le _,rfl,rfl,Kept.refl _⟩
 case round =>
  obtain⟨k,hk,rfl,hR,hK⟩:=hrel;obtain⟨HR,HK,Ui⟩:=lH3 hR (Vc.out.trans hK) hK;by_cases hlt:k<n1
  · obtain⟨g,off,rfl⟩:=HN.out.form.resolve_left (by omega);obtain⟨n,b1,k1,d1,b2,k2,d2,b3,k3,d3,hn,hd,hb,u0,u1,u2,u3,u4,hat⟩:=HN.out.at_ hlt;have VD:=lH hat;have HD:=lH hd;have u0:=cell_later HK.out u0;have u1:=cell_later HK.out u1;have u2:=cell_later HK.out u2;have u3:=cell_later HK.out u3;have u4:=cell_later HK.out u4;have hkk:(k:Int)<(n1:Int):=by omega
    have hk0:¬(k:Int)<0:=by omega
    obtain⟨wx,hwx⟩:=eX (wr.alloc (.cells #[.string n.name,.slice b1 k1 d1,.slice b2 k2 d2,.slice b3 k3 d3,.bool n.cordon] 57))
    have hkx:Kept wr wx:=by rw[←hwx];exact ja _ _
    have Vq:=lH (jb wr (.string n.name) [.slice b1 k1 d1,.slice b2 k2 d2,.slice b3 k3 d3,.bool n.cordon] 57 wx (by rw[hwx];exact Kept.refl _));obtain⟨bq,hbq⟩:=eX (wr.heap.size)
    rw[hbq] at Vq;have KX:=lH hkx;go_upto_region 4 with fail
    try rw[hwx]
    try rw[hbq]
    clear hwx hbq hd hb hn hR hK hkx hk0 hkk hat u0 u1 u2 u3 u4;obtain⟨t0,t1,t2,t3,t4⟩:=Vq.out.at5;obtain⟨t,ht⟩:=eX ((n.name.toList==name.toList))
    have HT:=lH (show eqS n.name name=t from ht)
    cases t with
    | false =>
     have HX:=lH (show jk (nodes.drop (k+1)) name=jk nodes name by rw[←HR.out,HD.out];unfold jk;rw[List.find?_cons,HT.out]);go_wp2;go_roundw
     case rel=>exact⟨k+1,by omega,by go_num,HX.out,Ui.out.trans KX.out⟩
     case measure=>simp[intOf];omega
    | true =>
     have HX:=lH (show jk nodes name=some n by rw[←HR.out,HD.out];unfold jk;rw[List.find?_cons,HT.out]);have VV:=lH (TS.out.kept (Ui.out.trans KX.out));obtain⟨z0,z1,z2,z3,z4⟩:=VV.out.at5;have f0:=VV.out.free 0;have f1:=VV.out.free 1;have f2:=VV.out.free 2;have f3:=VV.out.free 3;have f4:=VV.out.free 4;have P:=lH (Zc ⟨z0,z1,z2,z3,z4⟩ n.name b1 b2 b3 k1 d1 k2 d2 k3 d3 n.cordon);go_wp2;obtain⟨WE,hWE⟩:=eX ((((((wx.setCell ⟨w.heap.size+1,0,none⟩ (.string n.name)).setCell ⟨w.heap.size+1,1,none⟩ (.slice b1 k1 d1)).setCell ⟨w.heap.size+1,2,none⟩ (.slice b2 k2 d2)).setCell ⟨w.heap.size+1,3,none⟩ (.slice b3 k3 d3)).setCell ⟨w.heap.size+1,4,none⟩ (.bool n.cordon)))
     rw[hWE] at P ⊢;clear hWE z0 z1 z2 z3 z4 t0 t1 t2 t3 t4 f0 f1 f2 f3 f4;obtain⟨⟨d0,d1,d2,d3,d4⟩,hsz,hbl,hkp⟩:=P.out;refine bodyPost_ret (by simp[results,Tryz.results136,go_sem,d0,d1,d2,d3,d4];try rfl) rfl ?_;have KE:=hkp _ _ (Nat.le_succ _) (HK.out.trans KX.out);refine⟨fun m e=>?_,fun e=>?_,KE⟩
     · rw[HX.out] at e;cases e;exact⟨_,_,_,_,_,_,_,_,_,rfl,VD.out.kept KE⟩
     · rw[HX.out] at e;cases e
  · have hge:¬(k:Int)<(n1:Int):=by omega
    have HO:=lH (show jk nodes name=none by rw[←HR.out,List.drop_of_length_le (by rw[VP.out];omega)];rfl);clear hR hK;go_wp2;exact⟨rfl,(fun m e=>by rw[HO.out] at e;cases e),(fun _=>rfl),HK.out⟩
theorem jdo {r:Int×Vec.V} {w w':World} {e:Ending} (h:Vec.Yr r w e w'):Yv r w e w':=by
 obtain⟨v,e,h,k⟩:=h;exact⟨v,e,h.at_,k⟩
theorem jmy {v:Value} {s:Clu} {w:World} (h:jB w v s) (x:ByteArray) (hl:jA s):Calls Tryz.prog 165 #[v,.string x] w (Yv (JB s x) w):=by
 obtain⟨v1,v2,v3,rfl,⟨a,cap,rfl,l1,m1,h1⟩,⟨b,cp,rfl,l2,m2,h2⟩,⟨d,cb,rfl,l3,m3,h3⟩⟩:=h;exact(jib a b d _ cap _ cp _ cb s.nodes s.pods x w h1 h2 hl.nodes).mono fun _ _ h=>jdo h
theorem jmA {v:Value} {s:Clu} {w:World} (h:jB w v s) (x:ByteArray) (hl:jA s):Calls Tryz.prog 196 #[v,.string x] w (Yv (Zo s x) w):=by
 obtain⟨v1,v2,v3,rfl,⟨a,cap,rfl,l1,m1,h1⟩,⟨b,cp,rfl,l2,m2,h2⟩,⟨d,cb,rfl,l3,m3,h3⟩⟩:=h;exact(jiH a b d _ cap _ cp _ cb s.nodes s.pods x w h1 h2 hl.nodes).mono fun _ _ h=>jdo h
theorem onR {v:Value} {s:Clu} {w:World} (h:jB w v s) (x:ByteArray) (hl:jA s):Calls Tryz.prog 118 #[v,.string x] w fun e w'=>∃y,e=.returned y∧zU w' y (onP x s.pods)∧Kept w w':=by
 obtain⟨v1,v2,v3,rfl,⟨a,cap,rfl,l1,m1,h1⟩,⟨b,cp,rfl,l2,m2,h2⟩,⟨d,cb,rfl,l3,m3,h3⟩⟩:=h;exact jkv b a d _ cp _ cap _ cb s.pods x w h2 hl.pods hl.podsN
theorem jB.nAt {w:World} {v2 v3:Value} {b:Option Addr} {m cp:Nat} {s:Clu} (h:jB w (zP (.slice b m cp) v2 v3) s):jt w b m s.nodes∧m=s.nodes.length:=by
 obtain⟨_,_,_,e,g0⟩:=h
 cases e
 obtain⟨a',cap',e,_,_,h⟩:=g0.nodes
 cases e
 exact⟨h,rfl⟩
theorem jB.pAt {w:World} {v1 v3:Value} {b:Option Addr} {m cp:Nat} {s:Clu} (h:jB w (zP v1 (.slice b m cp) v3) s):jC w b m s.pods∧m=s.pods.length:=by
 obtain⟨_,_,_,e,g0⟩:=h
 cases e
 obtain⟨a',cap',e,_,_,h⟩:=g0.pods
 cases e
 exact⟨h,rfl⟩
theorem jeE (p:Pd) (n:Nod) (a1 a2 a3 a4:Option Addr) (m1 c1 m2 c2 m3 c3 m4 c4:Nat) (b1 b2 b3:Option Addr) (k1 d1 k2 d2 k3 d3:Nat) (w:World) (hp:ji w (.slice a1 m1 c1) (.slice a2 m2 c2) (.slice a3 m3 c3) (.slice a4 m4 c4) p) (hn:zk w (.slice b1 k1 d1) (.slice b2 k2 d2) (.slice b3 k3 d3) n):Calls Tryz.prog 138 #[jw p (.slice a1 m1 c1) (.slice a2 m2 c2) (.slice a3 m3 c3) (.slice a4 m4 c4),zC n (.slice b1 k1 d1) (.slice b2 k2 d2) (.slice b3 k3 d3)] w (Say (.bool (JD p n)) w):=by
 obtain⟨t,ht⟩:=eX (Zz p.sel n.labels)
 have Up:=lH (fun (W:World) (k:Kept w W)=>jmo (hp.sel.kept k) (hn.labels.kept k) ht);obtain⟨cd,hcd⟩:=eX (n.cordon)
 have HV:=lH (show JD p n=(!cd&&t) by unfold JD;rw[ht,hcd]);clear ht;obtain⟨Z,hZ⟩:=eX ((w.alloc (.cells #[.string p.name,.string p.owner,.int .i64 p.prio,.slice a1 m1 c1,.slice a2 m2 c2,.slice a3 m3 c3,.slice a4 m4 c4,.string p.key,.int .i64 p.most,.string p.node,.bool p.hold] 44)).alloc (.cells #[.string n.name,.slice b1 k1 d1,.slice b2 k2 d2,.slice b3 k3 d3,.bool cd] 57))
 have hkz:Kept w Z:=by rw[←hZ];exact jm _ _ _
 have Vi:=lH (jb w (.string p.name) [.string p.owner,.int .i64 p.prio,.slice a1 m1 c1,.slice a2 m2 c2,.slice a3 m3 c3,.slice a4 m4 c4,.string p.key,.int .i64 p.most,.string p.node,.bool p.hold] 44 Z (by rw[←hZ];exact ja _ _));have Vg:=lH (show je (w.heap.size+1) [.string n.name,.slice b1 k1 d1,.slice b2 k2 d2,.slice b3 k3 d3,.bool cd] Z by
  have dd:=jb (w.alloc (.cells #[.string p.name,.string p.owner,.int .i64 p.prio,.slice a1 m1 c1,.slice a2 m2 c2,.slice a3 m3 c3,.slice a4 m4 c4,.string p.key,.int .i64 p.most,.string p.node,.bool p.hold] 44)) (.string n.name) [.slice b1 k1 d1,.slice b2 k2 d2,.slice b3 k3 d3,.bool cd] 57 Z (by rw[hZ];exact Kept.refl _);rw[World.size_alloc] at dd;exact dd)
 have K:=lH hkz;have HM:=lH (Up.out Z hkz);clear Up hp hn hkz;have r5:=Vi.out.at_ 5 _ rfl;have q2:=Vg.out.at_ 2 _ rfl;have q4:=Vg.out.at_ 4 _ rfl;unfold jw zC;rw[hcd];clear hcd;go_enter Tryz.func138,Tryz.ntmps138
 cases cd with
 | true =>
  go_wp2;try rw[hZ]
  go_ret;exact⟨jf (by rw[HV.out];rfl),by first | exact K.out | (rw[hZ];exact K.out)⟩
 | false =>
  go_wp2_with fail
  try rw[hZ]
  refine HM.out.mono ?_;rintro e w1 ⟨rfl,kk⟩;have K:=lH (K.out.trans kk);clear kk hZ;go_wp2;go_ret;exact⟨jf (by rw[HV.out];rfl),K.out⟩
theorem jf0 (p:Pd) (n:Nod) (a1 a2 a3 a4:Option Addr) (m1 c1 m2 c2 m3 c3 m4 c4:Nat) (b1 b2 b3:Option Addr) (k1 d1 k2 d2 k3 d3:Nat) (w:World) (hp:ji w (.slice a1 m1 c1) (.slice a2 m2 c2) (.slice a3 m3 c3) (.slice a4 m4 c4) p) (hn:zk w (.slice b1 k1 d1) (.slice b2 k2 d2) (.slice b3 k3 d3) n):Calls Tryz.prog 139 #[jw p (.slice a1 m1 c1) (.slice a2 m2 c2) (.slice a3 m3 c3) (.slice a4 m4 c4),zC n (.slice b1 k1 d1) (.slice b2 k2 d2) (.slice b3 k3 d3)] w (Say (.bool (Zv p n)) w):=by
 obtain⟨t,ht⟩:=eX ((zT p.tols n.taints).isSome)
 obtain⟨⟨x,y,mm⟩,hx⟩:∃x,wT (zT p.tols n.taints)=x:=⟨_,rfl⟩
 have Up:=lH (fun (W:World) (k:Kept w W)=>jlX (hp.tols.kept k) (hn.taints.kept k) hx ht);have HV:=lH (show Zv p n=(!t) by unfold Zv;rw[ht]);clear ht hx;obtain⟨Z,hZ⟩:=eX ((w.alloc (.cells #[.string p.name,.string p.owner,.int .i64 p.prio,.slice a1 m1 c1,.slice a2 m2 c2,.slice a3 m3 c3,.slice a4 m4 c4,.string p.key,.int .i64 p.most,.string p.node,.bool p.hold] 44)).alloc (.cells #[.string n.name,.slice b1 k1 d1,.slice b2 k2 d2,.slice b3 k3 d3,.bool n.cordon] 57))
 have hkz:Kept w Z:=by rw[←hZ];exact jm _ _ _
 have Vi:=lH (jb w (.string p.name) [.string p.owner,.int .i64 p.prio,.slice a1 m1 c1,.slice a2 m2 c2,.slice a3 m3 c3,.slice a4 m4 c4,.string p.key,.int .i64 p.most,.string p.node,.bool p.hold] 44 Z (by rw[←hZ];exact ja _ _));have Vg:=lH (show je (w.heap.size+1) [.string n.name,.slice b1 k1 d1,.slice b2 k2 d2,.slice b3 k3 d3,.bool n.cordon] Z by
  have dd:=jb (w.alloc (.cells #[.string p.name,.string p.owner,.int .i64 p.prio,.slice a1 m1 c1,.slice a2 m2 c2,.slice a3 m3 c3,.slice a4 m4 c4,.string p.key,.int .i64 p.most,.string p.node,.bool p.hold] 44)) (.string n.name) [.slice b1 k1 d1,.slice b2 k2 d2,.slice b3 k3 d3,.bool n.cordon] 57 Z (by rw[hZ];exact Kept.refl _);rw[World.size_alloc] at dd;exact dd)
 have K:=lH hkz;have HM:=lH (Up.out Z hkz);clear Up hp hn hkz;have r6:=Vi.out.at_ 6 _ rfl;have q3:=Vg.out.at_ 3 _ rfl;unfold jw zC;go_enter Tryz.func139,Tryz.ntmps139;go_wp2_with fail
 try rw[hZ]
 refine HM.out.mono ?_;rintro e w1 ⟨rfl,kk⟩;have K:=lH (K.out.trans kk);clear kk hZ;go_wp2;go_ret;exact⟨jf (by rw[HV.out]),K.out.trans (ja _ _)⟩
theorem jdF (s1 s2 s3:Option Addr) (n1 e1 n2 e2 n3 e3:Nat) (a1 a2 a3 a4:Option Addr) (m1 c1 m2 c2 m3 c3 m4 c4:Nat) (p:Pd) (s:Clu) (name:ByteArray) (w:World) (hs:jB w (zP (.slice s1 n1 e1) (.slice s2 n2 e2) (.slice s3 n3 e3)) s) (hl:jA s):Calls Tryz.prog 140 #[.agg #[.slice s1 n1 e1,.slice s2 n2 e2,.slice s3 n3 e3],jw p (.slice a1 m1 c1) (.slice a2 m2 c2) (.slice a3 m3 c3) (.slice a4 m4 c4),.string name] w (Say (.bool (Zb s p name)) w):=by
 have hn1:=hs.nAt.2;have hn2:=hs.pAt.2;have g1:=hl.nodesN;have g2:=hl.podsN;obtain⟨Z,hZ⟩:=eX ((w.alloc (.cells #[.slice s1 n1 e1,.slice s2 n2 e2,.slice s3 n3 e3] 26)).alloc (.cells #[.string p.name,.string p.owner,.int .i64 p.prio,.slice a1 m1 c1,.slice a2 m2 c2,.slice a3 m3 c3,.slice a4 m4 c4,.string p.key,.int .i64 p.most,.string p.node,.bool p.hold] 44))
 have hkz:Kept w Z:=by rw[←hZ];exact jm _ _ _
 have Vi:=lH (jb w (.slice s1 n1 e1) [.slice s2 n2 e2,.slice s3 n3 e3] 26 Z (by rw[←hZ];exact ja _ _));have Vg:=lH (show je (w.heap.size+1) [.string p.name,.string p.owner,.int .i64 p.prio,.slice a1 m1 c1,.slice a2 m2 c2,.slice a3 m3 c3,.slice a4 m4 c4,.string p.key,.int .i64 p.most,.string p.node,.bool p.hold] Z by
  have dd:=jb (w.alloc (.cells #[.slice s1 n1 e1,.slice s2 n2 e2,.slice s3 n3 e3] 26)) (.string p.name) [.string p.owner,.int .i64 p.prio,.slice a1 m1 c1,.slice a2 m2 c2,.slice a3 m3 c3,.slice a4 m4 c4,.string p.key,.int .i64 p.most,.string p.node,.bool p.hold] 44 Z (by rw[hZ];exact Kept.refl _);rw[World.size_alloc] at dd;exact dd)
 have K:=lH hkz;have HS:=lH (jkS s1 s2 s3 a1 a2 a3 a4 n1 e1 n2 e2 n3 e3 m1 c1 m2 c2 m3 c3 m4 c4 p s name Z (hs.nAt.1.kept hkz) (hs.pAt.1.kept hkz) (by omega) (by omega));clear hs hkz hl hn1 hn2 g1 g2;obtain⟨t7,h7⟩:=eX ((p.key.toList==([]:List UInt8)))
 have H7:=lH (show zD p.key=t7 by rw[ZN,h7]);obtain⟨y0,y1,y2⟩:=Vi.out.at3;obtain⟨r0,r1,r2,r3,r4,r5,r6,r7,r8,r9,r10⟩:=Vg.out.at11;unfold jw at HS ⊢;go_enter Tryz.func140,Tryz.ntmps140
 cases t7 with
 | true =>
  have HV:=lH (show Zb s p name=false by unfold Zb;rw[if_pos H7.out]);go_wp2;try rw[hZ]
  go_ret;exact⟨jf HV.out.symm,by first | exact K.out | (rw[hZ];exact K.out)⟩
 | false =>
  have HV:=lH (show Zb s p name=(!(Zh p s name).2||decide (p.most<(Zh p s name).1)) by unfold Zb;rw[if_neg (by rw[H7.out];decide)]);obtain⟨z,hz⟩:=eX ((Zh p s name).1)
  obtain⟨b,hb⟩:=eX ((Zh p s name).2)
  rw[hz,hb] at HS HV;clear hz hb;go_upto_region 3 with fail
  try rw[hZ]
  clear hZ;go_wp2_with fail
  refine HS.out.mono ?_;rintro e w1 ⟨rfl,kk⟩;have K:=lH (K.out.trans kk);have r8:=(Vg.out.kept kk).at_ 8 _ rfl;clear kk y0 y1 y2 r0 r1 r2 r3 r4 r5 r6 r7 r9 r10
  cases b with
  | false =>
   go_wp2;go_ret;exact⟨jf (by rw[HV.out];rfl),K.out⟩
  | true =>
   by_cases hlt:p.most<z
   · have Rc:=lH hlt;go_wp2;go_ret;exact⟨jf (by rw[HV.out,decide_eq_true Rc.out];rfl),K.out⟩
   · have Rc:=lH hlt;have hle:z≤p.most:=by omega
     clear hlt;go_wp2;go_ret;exact⟨jf (by rw[HV.out,decide_eq_false (by have:=Rc.out;omega)];rfl),K.out⟩
theorem jfw (s1 s2 s3:Option Addr) (n1 e1 n2 e2 n3 e3:Nat) (a1 a2 a3 a4:Option Addr) (m1 c1 m2 c2 m3 c3 m4 c4:Nat) (p:Pd) (s:Clu) (name:ByteArray) (w:World) (hs:jB w (zP (.slice s1 n1 e1) (.slice s2 n2 e2) (.slice s3 n3 e3)) s) (hl:jA s) (hp:ji w (.slice a1 m1 c1) (.slice a2 m2 c2) (.slice a3 m3 c3) (.slice a4 m4 c4) p):Calls Tryz.prog 141 #[.agg #[.slice s1 n1 e1,.slice s2 n2 e2,.slice s3 n3 e3],jw p (.slice a1 m1 c1) (.slice a2 m2 c2) (.slice a3 m3 c3) (.slice a4 m4 c4),.string name] w (Say (.bool (Yj s p name)) w):=by
 obtain⟨Z,hZ⟩:=eX ((w.alloc (.cells #[.slice s1 n1 e1,.slice s2 n2 e2,.slice s3 n3 e3] 26)).alloc (.cells #[.string p.name,.string p.owner,.int .i64 p.prio,.slice a1 m1 c1,.slice a2 m2 c2,.slice a3 m3 c3,.slice a4 m4 c4,.string p.key,.int .i64 p.most,.string p.node,.bool p.hold] 44))
 have hkz:Kept w Z:=by rw[←hZ];exact jm _ _ _
 have Vi:=lH (jb w (.slice s1 n1 e1) [.slice s2 n2 e2,.slice s3 n3 e3] 26 Z (by rw[←hZ];exact ja _ _));have Vg:=lH (show je (w.heap.size+1) [.string p.name,.string p.owner,.int .i64 p.prio,.slice a1 m1 c1,.slice a2 m2 c2,.slice a3 m3 c3,.slice a4 m4 c4,.string p.key,.int .i64 p.most,.string p.node,.bool p.hold] Z by
  have dd:=jb (w.alloc (.cells #[.slice s1 n1 e1,.slice s2 n2 e2,.slice s3 n3 e3] 26)) (.string p.name) [.string p.owner,.int .i64 p.prio,.slice a1 m1 c1,.slice a2 m2 c2,.slice a3 m3 c3,.slice a4 m4 c4,.string p.key,.int .i64 p.most,.string p.node,.bool p.hold] 44 Z (by rw[hZ];exact Kept.refl _);rw[World.size_alloc] at dd;exact dd)
 have K:=lH hkz;have HF:=lH (jmA (hs.kept hkz) name hl);unfold zP at HF;have HP:=lH (hp.need.kept hkz);clear hs hkz hl hp;obtain⟨y0,y1,y2⟩:=Vi.out.at3;unfold jw;obtain⟨c,hc⟩:=eX ((Zo s name).1)
 obtain⟨fl,hfl⟩:=eX ((Zo s name).2)
 obtain⟨q,hq⟩:=eX (Vec.jx fl p.need)
 have HV:=lH (show Yj s p name=(decide (c=0)&&q) by unfold Yj;rw[hc,hfl,hq]);have HQ:=lH hq;go_enter Tryz.func141,Tryz.ntmps141;go_wp2_with fail
 try rw[hZ]
 refine HF.out.mono ?_;rintro e w1 ⟨y,rfl,hy,kk⟩;rw[hc];rw[hfl] at hy;obtain⟨HY,K,HP⟩:=lH3 hy (K.out.trans kk) (HP.out.kept kk);have r3:=(Vg.out.kept kk).at_ 3 _ rfl;clear kk hZ hc hfl hq hy HF y0 y1 y2;by_cases h0:c=0
 · subst h0;go_wp2_with fail
   refine(Vec.jmP HP.out HY.out HQ.out).mono ?_;rintro e w2 ⟨rfl,kk⟩;have K:=lH (K.out.trans kk);clear kk;go_wp2;go_ret;exact⟨jf (by rw[HV.out];rfl),K.out⟩
 · have h0b:(c==0)=false:=by simpa using h0
   have H0:=lH h0;clear h0;go_wp2;go_ret;exact⟨jf (by rw[HV.out,decide_eq_false H0.out];rfl),K.out⟩
def Xs (c:Int) (w:World) (e:Ending) (w':World):Prop:=(c=0→∃x i1 j1 l1 i2 j2 l2 i3 j3 l3 b,e=.returned (.agg #[.string x,.slice i1 j1 l1,.slice i2 j2 l2,.slice i3 j3 l3,.bool b]))∧(c≠0→e=.panicked [zo c])∧Kept w w'
theorem Xs.bad {c d:Int} {w w':World} (h:d=c) (hc:c≠0) (k:Kept w w'):Xs d w (.panicked [zo c]) w':=⟨fun g=>absurd (h.symm.trans g) hc,fun _=>by rw[h],k⟩
theorem jfv (s1 s2 s3:Option Addr) (n1 e1 n2 e2 n3 e3:Nat) (a1 a2 a3 a4:Option Addr) (m1 c1 m2 c2 m3 c3 m4 c4:Nat) (p:Pd) (s:Clu) (name:ByteArray) (w:World) (hs:jB w (zP (.slice s1 n1 e1) (.slice s2 n2 e2) (.slice s3 n3 e3)) s) (hl:jA s) (hp:ji w (.slice a1 m1 c1) (.slice a2 m2 c2) (.slice a3 m3 c3) (.slice a4 m4 c4) p):Calls Tryz.prog 78 #[.agg #[.slice s1 n1 e1,.slice s2 n2 e2,.slice s3 n3 e3],jw p (.slice a1 m1 c1) (.slice a2 m2 c2) (.slice a3 m3 c3) (.slice a4 m4 c4),.string name] w (Xs (zv s p name) w):=by
 obtain⟨Y,hY⟩:=eX ((w.alloc (.cells #[.slice s1 n1 e1,.slice s2 n2 e2,.slice s3 n3 e3] 26)).alloc (.cells #[.string p.name,.string p.owner,.int .i64 p.prio,.slice a1 m1 c1,.slice a2 m2 c2,.slice a3 m3 c3,.slice a4 m4 c4,.string p.key,.int .i64 p.most,.string p.node,.bool p.hold] 44))
 have hky:Kept w Y:=by rw[←hY];exact jm _ _ _
 have hys:Y.heap.size=w.heap.size+2:=by rw[←hY];simp
 have hsb:=jb w (.slice s1 n1 e1) [.slice s2 n2 e2,.slice s3 n3 e3] 26 Y (by rw[←hY];exact ja _ _);have hpb:je (w.heap.size+1) [.string p.name,.string p.owner,.int .i64 p.prio,.slice a1 m1 c1,.slice a2 m2 c2,.slice a3 m3 c3,.slice a4 m4 c4,.string p.key,.int .i64 p.most,.string p.node,.bool p.hold] Y:=by
  have dd:=jb (w.alloc (.cells #[.slice s1 n1 e1,.slice s2 n2 e2,.slice s3 n3 e3] 26)) (.string p.name) [.string p.owner,.int .i64 p.prio,.slice a1 m1 c1,.slice a2 m2 c2,.slice a3 m3 c3,.slice a4 m4 c4,.string p.key,.int .i64 p.most,.string p.node,.bool p.hold] 44 Y (by rw[hY];exact Kept.refl _);rw[World.size_alloc] at dd;exact dd
 obtain⟨Z,hZ⟩:=eX (Y.alloc (.cells #[.string ⟨#[]⟩,.slice none 0 0,.slice none 0 0,.slice none 0 0,.bool false] 57))
 have hkz:Kept Y Z:=by rw[←hZ];exact ja _ _
 have hnb:je (w.heap.size+2) [.string ⟨#[]⟩,.slice none 0 0,.slice none 0 0,.slice none 0 0,.bool false] Z:=by
  have dd:=jb Y (.string ⟨#[]⟩) [.slice none 0 0,.slice none 0 0,.slice none 0 0,.bool false] 57 Z (by rw[hZ];exact Kept.refl _);rw[hys] at dd;exact dd
 have hYZ:((w.alloc (.cells #[.slice s1 n1 e1,.slice s2 n2 e2,.slice s3 n3 e3] 26)).alloc (.cells #[.string p.name,.string p.owner,.int .i64 p.prio,.slice a1 m1 c1,.slice a2 m2 c2,.slice a3 m3 c3,.slice a4 m4 c4,.string p.key,.int .i64 p.most,.string p.node,.bool p.hold] 44)).alloc (.cells #[.string ⟨#[]⟩,.slice none 0 0,.slice none 0 0,.slice none 0 0,.bool false] 57)=Z:=by rw[hY];exact hZ
 obtain⟨Vs,Vt,Vz,K,V8,VX,HL,Ug⟩:=lH8 (hsb.kept hkz) (hpb.kept hkz) hnb (hky.trans hkz) (hs.kept (hky.trans hkz)) (hp.kept (hky.trans hkz)) hl (jfF s1 s2 s3 n1 e1 n2 e2 n3 e3 s.nodes name Z ((hs.kept (hky.trans hkz)).nAt.1) (by have:=hl.nodesN;have:=hs.nAt.2;omega));clear hs hp hl hky hkz hys hsb hpb hnb hY hZ;unfold jw;obtain⟨y0,y1,y2⟩:=Vs.out.at3;go_enter Tryz.func78,Tryz.ntmps78;go_wp2_with fail
 try rw[hYZ]
 clear hYZ;refine Ug.out.mono ?_;rintro e w1 ⟨h1,h2,kk⟩;obtain⟨K,Vs,Vt,Vz,V8,VX⟩:=lH6 (K.out.trans kk) (Vs.out.kept kk) (Vt.out.kept kk) (Vz.out.kept kk) (V8.out.kept kk) (VX.out.kept kk);clear Ug y0 y1 y2
 cases ho:jk s.nodes name with
 | none =>
  obtain rfl:=h2 ho;have HE:=lH (show zv s p name=3 from jaN ho);clear h1 h2 ho kk;go_wp2;exact⟨rfl,Xs.bad HE.out (by decide) K.out⟩
 | some n =>
  obtain⟨b1,k1,d1,b2,k2,d2,b3,k3,d3,rfl,hn⟩:=h1 n ho;have HE:=lH (show zv s p name=zJ s p n name from ja1 ho);clear h1 h2 ho;obtain⟨w2,hw2⟩:=eX (w1.alloc (.cells #[.string n.name,.slice b1 k1 d1,.slice b2 k2 d2,.slice b3 k3 d3,.bool n.cordon] 57))
  have kx:Kept w1 w2:=by rw[←hw2];exact ja _ _
  obtain⟨V2,V0,K,Vs,Vt,Vz,V8,VX⟩:=lH8 (jb w1 (.string n.name) [.slice b1 k1 d1,.slice b2 k2 d2,.slice b3 k3 d3,.bool n.cordon] 57 w2 (by rw[hw2];exact Kept.refl _)) (hn.kept kx) (K.out.trans kx) (Vs.out.kept kx) (Vt.out.kept kx) (Vz.out.kept kx) (V8.out.kept kx) (VX.out.kept kx);obtain⟨gn,hgn⟩:=eX (w1.heap.size)
  rw[hgn] at V2;clear hn kk kx;unfold zC;go_upto_region 2 with fail
  try rw[hw2]
  try rw[hgn]
  clear hw2 hgn;obtain⟨r0,r1,r2,r3,r4,r5,r6,r7,r8,r9,r10⟩:=Vt.out.at11;obtain⟨t0,t1,t2,t3,t4⟩:=V2.out.at5;obtain⟨bb,hbb⟩:=eX (JD p n)
  have HC:=lH (jeE p n a1 a2 a3 a4 m1 c1 m2 c2 m3 c3 m4 c4 b1 b2 b3 k1 d1 k2 d2 k3 d3 _ VX.out V0.out);unfold jw at HC;unfold zC at HC;rw[hbb] at HC;go_wp2_with fail
  refine HC.out.mono ?_;rintro e w3 ⟨rfl,kk⟩;obtain⟨Ve,Vs,Vt,Vz,V8,VX,V2,V0⟩:=lH8 hbb (Vs.out.kept kk) (Vt.out.kept kk) (Vz.out.kept kk) (V8.out.kept kk) (VX.out.kept kk) (V2.out.kept kk) (V0.out.kept kk);have K:=lH (K.out.trans kk);clear kk;clear hbb HC r0 r1 r2 r3 r4 r5 r6 r7 r8 r9 r10 t0 t1 t2 t3 t4
  cases bb with
  | false =>
   go_wp2_with fail
   refine(Y7 8 _).mono ?_;rintro e w4 ⟨rfl,rfl⟩;go_wp2;exact⟨rfl,Xs.bad (HE.out.trans (jaR Ve.out)) (by decide) K.out⟩
  | true =>
   have Vi:=Ve;clear Ve;go_wp2_with fail
   refine(XH 8 _).mono ?_;rintro e w4 ⟨rfl,rfl⟩;obtain⟨r0,r1,r2,r3,r4,r5,r6,r7,r8,r9,r10⟩:=Vt.out.at11;obtain⟨t0,t1,t2,t3,t4⟩:=V2.out.at5;obtain⟨bb,hbb⟩:=eX (Zv p n)
   have HC:=lH (jf0 p n a1 a2 a3 a4 m1 c1 m2 c2 m3 c3 m4 c4 b1 b2 b3 k1 d1 k2 d2 k3 d3 _ VX.out V0.out);unfold jw at HC;unfold zC at HC;rw[hbb] at HC;go_wp2_with fail
   refine HC.out.mono ?_;rintro e w3 ⟨rfl,kk⟩;obtain⟨Ve,Vs,Vt,Vz,V8,VX,V2,V0⟩:=lH8 hbb (Vs.out.kept kk) (Vt.out.kept kk) (Vz.out.kept kk) (V8.out.kept kk) (VX.out.kept kk) (V2.out.kept kk) (V0.out.kept kk);have K:=lH (K.out.trans kk);clear kk;clear hbb HC r0 r1 r2 r3 r4 r5 r6 r7 r8 r9 r10 t0 t1 t2 t3 t4
   cases bb with
   | false =>
    go_wp2_with fail
    refine(Y7 9 _).mono ?_;rintro e w4 ⟨rfl,rfl⟩;go_wp2;exact⟨rfl,Xs.bad (HE.out.trans (qO Vi.out Ve.out)) (by decide) K.out⟩
   | true =>
    have Vg:=Ve;clear Ve;go_wp2_with fail
    refine(XH 9 _).mono ?_;rintro e w4 ⟨rfl,rfl⟩;obtain⟨y0,y1,y2⟩:=Vs.out.at3;obtain⟨r0,r1,r2,r3,r4,r5,r6,r7,r8,r9,r10⟩:=Vt.out.at11;obtain⟨bb,hbb⟩:=eX (Zb s p name)
    have HC:=lH (jdF s1 s2 s3 n1 e1 n2 e2 n3 e3 a1 a2 a3 a4 m1 c1 m2 c2 m3 c3 m4 c4 p s name _ V8.out HL.out);unfold jw at HC;rw[hbb] at HC;go_wp2_with fail
    refine HC.out.mono ?_;rintro e w3 ⟨rfl,kk⟩;obtain⟨Ve,Vs,Vt,Vz,V8,VX,V2,V0⟩:=lH8 hbb (Vs.out.kept kk) (Vt.out.kept kk) (Vz.out.kept kk) (V8.out.kept kk) (VX.out.kept kk) (V2.out.kept kk) (V0.out.kept kk);have K:=lH (K.out.trans kk);clear kk;clear hbb HC y0 y1 y2 r0 r1 r2 r3 r4 r5 r6 r7 r8 r9 r10
    cases bb with
    | true =>
     go_wp2_with fail
     refine(Y7 10 _).mono ?_;rintro e w4 ⟨rfl,rfl⟩;go_wp2;exact⟨rfl,Xs.bad (HE.out.trans (jaf Vi.out Vg.out Ve.out)) (by decide) K.out⟩
    | false =>
     have TE:=Ve;clear Ve;go_wp2_with fail
     refine(XH 10 _).mono ?_;rintro e w4 ⟨rfl,rfl⟩;obtain⟨y0,y1,y2⟩:=Vs.out.at3;obtain⟨r0,r1,r2,r3,r4,r5,r6,r7,r8,r9,r10⟩:=Vt.out.at11;obtain⟨bb,hbb⟩:=eX (Yj s p name)
     have HC:=lH (jfw s1 s2 s3 n1 e1 n2 e2 n3 e3 a1 a2 a3 a4 m1 c1 m2 c2 m3 c3 m4 c4 p s name _ V8.out HL.out VX.out);unfold jw at HC;rw[hbb] at HC;go_wp2_with fail
     refine HC.out.mono ?_;rintro e w3 ⟨rfl,kk⟩;obtain⟨Ve,Vs,Vt,Vz,V8,VX,V2,V0⟩:=lH8 hbb (Vs.out.kept kk) (Vt.out.kept kk) (Vz.out.kept kk) (V8.out.kept kk) (VX.out.kept kk) (V2.out.kept kk) (V0.out.kept kk);have K:=lH (K.out.trans kk);clear kk;clear hbb HC y0 y1 y2 r0 r1 r2 r3 r4 r5 r6 r7 r8 r9 r10
     cases bb with
     | false =>
      go_wp2_with fail
      refine(Y7 7 _).mono ?_;rintro e w4 ⟨rfl,rfl⟩;go_wp2;exact⟨rfl,Xs.bad (HE.out.trans (jac Vi.out Vg.out TE.out Ve.out)) (by decide) K.out⟩
     | true =>
      go_wp2_with fail
      refine(XH 7 _).mono ?_;rintro e w4 ⟨rfl,rfl⟩;obtain⟨t0,t1,t2,t3,t4⟩:=V2.out.at5;obtain⟨z0,z1,z2,z3,z4⟩:=Vz.out.at5;have f0:=Vz.out.free 0;have f1:=Vz.out.free 1;have f2:=Vz.out.free 2;have f3:=Vz.out.free 3;have f4:=Vz.out.free 4;have P:=lH (Zc ⟨z0,z1,z2,z3,z4⟩ n.name b1 b2 b3 k1 d1 k2 d2 k3 d3 n.cordon);obtain⟨x9,hx9⟩:=eX (n.name)
      obtain⟨c9,hc9⟩:=eX (n.cordon)
      rw[hx9] at t0;rw[hc9] at t4;rw[hx9,hc9] at P;have NB:=lH (HE.out.trans (jhe Vi.out Vg.out TE.out Ve.out));clear hx9 hc9 HE V2 V0 V8 VX;go_wp2;obtain⟨WE,hWE⟩:=eX ((((((w3.setCell ⟨w.heap.size+2,0,none⟩ (.string x9)).setCell ⟨w.heap.size+2,1,none⟩ (.slice b1 k1 d1)).setCell ⟨w.heap.size+2,2,none⟩ (.slice b2 k2 d2)).setCell ⟨w.heap.size+2,3,none⟩ (.slice b3 k3 d3)).setCell ⟨w.heap.size+2,4,none⟩ (.bool c9)))
      rw[hWE] at P ⊢;clear hWE z0 z1 z2 z3 z4 t0 t1 t2 t3 t4 f0 f1 f2 f3 f4;obtain⟨⟨q0,q1,q2,q3,q4⟩,hsz,hbl,hkp⟩:=P.out;refine bodyPost_ret (by simp[results,Tryz.results78,go_sem,q0,q1,q2,q3,q4];try rfl) rfl ?_;have KE:=hkp _ _ (by omega) K.out;exact⟨fun _=>⟨_,_,_,_,_,_,_,_,_,_,_,rfl⟩,fun g=>absurd NB.out g,KE⟩
end Go.Proofs.YtokdjfoalkmhiaaGreat
