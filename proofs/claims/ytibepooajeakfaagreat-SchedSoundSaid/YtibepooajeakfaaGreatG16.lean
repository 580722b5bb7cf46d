/- C. -/
import Derived.Test.YtibepooajeakfaaGreatG1
import Derived.Test.YtibepooajeakfaaGreatG2
import Derived.Test.YtibepooajeakfaaGreatG3
import Derived.Test.YtibepooajeakfaaGreatG4
import Derived.Test.YtibepooajeakfaaGreatG6
import Derived.Test.YtibepooajeakfaaGreatG7
import Derived.Test.YtibepooajeakfaaGreatG8
import Derived.Test.YtibepooajeakfaaGreatG10
import Derived.Test.YtibepooajeakfaaGreatG11
import Derived.Test.YtibepooajeakfaaGreatG15
set_option linter.unusedVariables false
set_option maxRecDepth 100000
set_option maxHeartbeats 25600000
namespace Go.Proofs.YtibepooajeakfaaGreat
open Go.RowKit
def Asc (l:List Pd):Prop:=l.Pairwise fun x y=>ltS x.name y.name=true
theorem jf5:∀{prev:Option ByteArray} {l:List Pd},jW prev l=0→(∀q,prev=some q→∀x ∈ l,ltS q x.name=true)∧Asc l
 | _,[],_=>⟨fun q _ x h=>absurd h (by simp),.nil⟩
 | prev,n::t,h=>by
  by_cases z:zG n=0
  · by_cases y:Vec.jK prev n.name=true
    · rw[XB z y] at h;cases h
    · have y:Vec.jK prev n.name=false:=by simpa using y
      rw[Z3 z y] at h;obtain⟨h2,h3⟩:=jf5 h;refine⟨fun q hq x hx=>?_,List.pairwise_cons.2 ⟨fun x hx=>h2 _ rfl x hx,h3⟩⟩;subst hq;have hlt:ltS q n.name=true:=Vec.X7 y;rcases List.mem_cons.1 hx with rfl | hx
      · exact hlt
      · exact Vec.Jb hlt (h2 _ rfl x hx)
  · rw[jax z] at h;exact absurd h z
theorem jgq {s:Clu} (h:ZU s=true):Asc s.pods:=by
 have hc:=XH h;have h0:or3 (jI s.nodes) (jD s.pods) (jH s.buds)=0:=Decidable.byContradiction fun g=>g ((jab (nl:=s.nodes) (pl:=s.pods) (bl:=s.buds) rfl g).symm.trans hc);have ho:jD s.pods=0:=by
  unfold or3 at h0;split at h0
  · rename_i h1;exact absurd h0 h1
  · split at h0
    · exact h0
    · rename_i h1;exact Decidable.of_not_not h1
 unfold jD at ho;split at ho
 · cases ho
 · exact(jf5 ho).2
theorem qU:∀{l:List Pd} {p:Pd},Asc l→p ∈ l→JP l p.name=some p
 | [],_,_,h=>by cases h
 | x::t,p,h,hp=>by
  unfold JP;rcases List.mem_cons.1 hp with hp | hp
  · subst hp;exact List.find?_cons_of_pos (p:=fun n:Pd=>eqS n.name p.name) (zh _)
  · have hlt:=(List.pairwise_cons.1 h).1 p hp;exact(List.find?_cons_of_neg (p:=fun n:Pd=>eqS n.name p.name) (fun e=>Vec.Yc hlt (jR.1 e))).trans (qU (List.pairwise_cons.1 h).2 hp)
theorem jj2 {l:List Pd} {x:ByteArray}:JP l x=none↔∀q ∈ l,q.name≠x:=by
 unfold JP;rw[List.find?_eq_none];exact⟨fun h q hq e=>h q hq (jR.2 e),fun h q hq e=>h q hq (jR.1 e)⟩
theorem jm5 {l:List Pd} {x:ByteArray} {p:Pd} (h:JP l x=some p):p ∈ l∧p.name=x :=
 ⟨List.mem_of_find?_eq_some h,jR.1 (List.find?_some (p:=fun n:Pd=>eqS n.name x) h)⟩
theorem je2 {x:ByteArray}:∀{l:List Pd},(∀q ∈ l,q.name≠x)→zc x l=l
 | [],_=>rfl
 | p::t,h=>by
  have hp:=h p (List.mem_cons_self ..);rw[zc,if_neg (fun e=>hp (jR.1 e)),je2 fun q hq=>h q (List.mem_cons_of_mem _ hq)]
theorem Zl {x:ByteArray}:∀{l:List Pd} {q:Pd},q ∈ zc x l→q ∈ l
 | p::t,q,h=>by
  rw[zc] at h;split at h
  · exact List.mem_cons_of_mem _ h
  · rcases List.mem_cons.1 h with rfl | h
    · exact List.mem_cons_self ..
    · exact List.mem_cons_of_mem _ (Zl h)
theorem jeq {x:ByteArray}:∀{l:List Pd},Asc l→∀q ∈ zc x l,q.name≠x
 | p::t,h,q,hq=>by
  obtain⟨h1,h2⟩:=List.pairwise_cons.1 h;rw[zc] at hq;split at hq
  · rename_i e;have e:=jR.1 e;have:=Vec.Yc (h1 q hq);rw[e] at this;exact fun e=>this e.symm
  · rename_i e;rcases List.mem_cons.1 hq with rfl | hq
    · exact fun e'=>e (jR.2 e')
    · exact jeq h2 q hq
theorem jfW {x:ByteArray}:∀{l:List Pd},Asc l→Asc (zc x l)
 | [],h=>h
 | p::t,h=>by
  obtain⟨h1,h2⟩:=List.pairwise_cons.1 h;rw[zc];split
  · exact h2
  · exact List.pairwise_cons.2 ⟨fun q hq=>h1 q (Zl hq),jfW h2⟩
theorem jc8 {x:ByteArray}:∀{l:List Pd},(zc x l).length+(if (JP l x).isSome=true then 1 else 0)=l.length
 | []=>rfl
 | p::t=>by
  by_cases e:eqS p.name x=true
  · have hf:JP (p::t) x=some p:=by unfold JP;exact List.find?_cons_of_pos (p:=fun n:Pd=>eqS n.name x) e
    rw[zc,if_pos e,hf];simp
  · have hf:JP (p::t) x=JP t x:=by unfold JP;exact List.find?_cons_of_neg (p:=fun n:Pd=>eqS n.name x) e
    rw[zc,if_neg e,hf];have:=jc8 (x:=x) (l:=t);simp only[List.length_cons];omega
theorem ins_mem {p:Pd}:∀{l:List Pd} {q:Pd},q ∈ JZ p l→q=p∨q ∈ l
 | [],q,h=>by
  have:=List.mem_singleton.1 (show q ∈ [p] from h);exact .inl this
 | r::t,q,h=>by
  rw[JZ] at h;split at h
  · rcases List.mem_cons.1 h with rfl | h
    · exact .inl rfl
    · exact .inr h
  · rcases List.mem_cons.1 h with rfl | h
    · exact .inr (List.mem_cons_self ..)
    · exact(ins_mem h).imp id (List.mem_cons_of_mem _)
theorem jdz (p:Pd):∀l:List Pd,(JZ p l).length=l.length+1
 | []=>rfl
 | r::t=>by
  rw[JZ];split
  · rfl
  · rw[List.length_cons,jdz p t,List.length_cons]
theorem jhJ {p:Pd}:∀{l:List Pd},Asc l→(∀q ∈ l,q.name≠p.name)→Asc (JZ p l)
 | [],_,_=>List.pairwise_singleton ..
 | r::t,h,hn=>by
  obtain⟨h1,h2⟩:=List.pairwise_cons.1 h;rw[JZ];split
  · rename_i e;refine List.pairwise_cons.2 ⟨fun q hq=>?_,h⟩;rcases List.mem_cons.1 hq with rfl | hq
    · exact e
    · exact Vec.Jb e (h1 q hq)
  · rename_i e;have e:ltS p.name r.name=false:=by simpa using e
    refine List.pairwise_cons.2 ⟨fun q hq=>?_,jhJ h2 fun q hq=>hn q (List.mem_cons_of_mem _ hq)⟩;rcases ins_mem hq with rfl | hq
    · cases g:ltS r.name q.name with
      | true=>rfl
      | false=>exact absurd (Vec.Xa g e) (hn r (List.mem_cons_self ..))
    · exact h1 q hq
theorem jhm {s:Clu} (h:Asc s.pods) (p:Pd):Asc (Jw s p).pods:=jhJ (jfW h) (jeq h)
theorem jdp {s:Clu} (p:Pd):(Jw s p).pods.length=(zC s p.name).pods.length+1:=jdz p _
theorem qg (s:Clu) (x:ByteArray):(zC s x).pods.length+(if (JP s.pods x).isSome=true then 1 else 0)=s.pods.length:=jc8
def zM (l:Vec.V):Prop:=Vec.Gd l∧l.length≤8
theorem zM.nil:zM []:=⟨Vec.Gd.nil,by decide⟩
theorem jhM {l:Vec.V} (h:Vec.jv l=0) (hf:Vec.Js l):zM l:=⟨Vec.YZ h hf,Vec.Z7 h⟩
theorem Xy {f g:ByteArray→Int} {r:Vec.V} (h:∀n,f n=g n):Vec.Made f r↔Vec.Made g r:=by rw[funext h]
theorem add_step {v p:Vec.V} (hv:zM v) (hp:zM p) :
 (∃q,Vec.jj Vec.jG v p=(0,q)∧zM q∧∀n,Vec.jh q n=Vec.jh v n+Vec.jh p n) ∨
 (∃c,c≠0∧Vec.jj Vec.jG v p=(c,[])∧∀(r:Vec.V) (f:ByteArray→Int),(∀n,0≤f n)→Vec.Made (fun n=>Vec.jh v n+Vec.jh p n+f n) r→r.length≤8→False):=by
 rcases Vec.merged_spec Vec.jjr hv.1 hp.1 hv.2 hp.2 with ⟨⟨n,hn⟩,hb⟩ | ⟨hn,q,hm,⟨h8,hb⟩ | ⟨h8,hb⟩⟩
 · refine .inr ⟨5,by decide,hb,fun r f hf hr _=>hn ((Vec.qe _ _).2 ?_)⟩;have h1:=(Vec.JA n hr.1).2;have h2:=hf n;rw[hr.2 n] at h1;dsimp only at h1;omega
 · refine .inr ⟨4,by decide,hb,fun r f hf hr h9=>?_⟩;have hl:q.length≤r.length:=Vec.Gd.len hm.1 hr.1 fun n hne e=>hne (by
    rw[hm.2 n];show (Vec.jG _ _).1=0;rw[Vec.jcg ((Vec.qe _ _).1 (hn n))];have h1:=hf n;have h2:=Vec.JA n hv.1;have h3:=Vec.JA n hp.1;rw[hr.2 n] at e;dsimp only at e ⊢;omega)
   omega
 · exact .inl ⟨q,hb,⟨hm.1,h8⟩,fun n=>by rw[hm.2 n];show (Vec.jG _ _).1=_;rw[Vec.jcg ((Vec.qe _ _).1 (hn n))]⟩
def Zk (x:ByteArray) (p:Pd) (n:ByteArray):Int:=if eqS p.node x=true then Vec.jh p.need n else 0
def Jh (x:ByteArray):List Pd→ByteArray→Int
 | [],_=>0
 | p::t,n=>Zk x p n+Jh x t n
theorem jfE {x:ByteArray} {p:Pd} (h:zM p.need) (n:ByteArray):0≤Zk x p n:=by
 unfold Zk;split
 · exact(Vec.JA n h.1).1
 · exact Int.le_refl _
theorem jcs {x:ByteArray}:∀{l:List Pd},(∀p ∈ l,zM p.need)→∀n,0≤Jh x l n
 | [],_,n=>Int.le_refl _
 | p::t,h,n=>Int.add_nonneg (jfE (h p (List.mem_cons_self ..)) n) (jcs (fun q hq=>h q (List.mem_cons_of_mem _ hq)) n)
theorem jb5 {x:ByteArray}:∀{l:List Pd} {v r:Vec.V},(∀p ∈ l,zM p.need)→zM v→(jJ x l v=(0,r)↔Vec.Made (fun n=>Vec.jh v n+Jh x l n) r∧r.length≤8)
 | [],v,r,_,hv=>by
  constructor
  · intro e
    cases e
    exact⟨⟨hv.1,fun n=>by show _=_+(0:Int);rw[Int.add_zero]⟩,hv.2⟩
  · rintro ⟨hm,_⟩;have e:v=r:=Vec.Gd.ext hv.1 hm.1 fun n=>by rw[hm.2 n];show _=_+(0:Int);rw[Int.add_zero]
    rw[e];rfl
 | p::t,v,r,hl,hv=>by
  have ht:∀q ∈ t,zM q.need:=fun q hq=>hl q (List.mem_cons_of_mem _ hq);have hp:=hl p (List.mem_cons_self ..)
  cases e:eqS p.node x with
  | false =>
   rw[jbj e,jb5 ht hv];refine and_congr (Xy fun n=>?_) Iff.rfl;show _=_+(Zk x p n+Jh x t n);rw[Zk,if_neg (by rw[e];decide),Int.zero_add]
  | true =>
   have hone:∀n,Zk x p n=Vec.jh p.need n:=fun n=>by rw[Zk,if_pos e]
   rcases add_step hv hp with ⟨q,hq,fq,gq⟩ | ⟨c,hc,hq,no⟩
   · rw[jch e hq,jb5 ht fq];refine and_congr (Xy fun n=>?_) Iff.rfl;show _=_+(Zk x p n+Jh x t n);rw[hone,gq,Int.add_assoc]
   · rw[jce e hq hc];constructor
     · intro h;exact absurd (Prod.mk.inj h).1 hc
     · rintro ⟨hm,h8⟩;refine(no r (Jh x t) (jcs ht) ((Xy fun n=>?_).1 hm) h8).elim;show _+(Zk x p n+Jh x t n)=_;rw[hone,Int.add_assoc]
theorem jco {x:ByteArray} {l:List Pd} {r:Vec.V} (hl:∀p ∈ l,zM p.need):jJ x l []=(0,r)↔Vec.Made (Jh x l) r∧r.length≤8:=by
 rw[jb5 hl zM.nil];exact and_congr (Xy fun n=>by show (0:Int)+_=_;rw[Int.zero_add]) Iff.rfl
theorem jdV {x y:ByteArray}:∀{l:List Pd} {p:Pd},JP l y=some p→∀n,Jh x (zc y l) n+Zk x p n=Jh x l n
 | q::t,p,h,n=>by
  by_cases e:eqS q.name y=true
  · have hq:JP (q::t) y=some q:=by unfold JP;exact List.find?_cons_of_pos (p:=fun n:Pd=>eqS n.name y) e
    rw[hq] at h;obtain rfl:=Option.some.inj h;rw[zc,if_pos e];show _=Zk x q n+Jh x t n;omega
  · have hq:JP (q::t) y=JP t y:=by unfold JP;exact List.find?_cons_of_neg (p:=fun n:Pd=>eqS n.name y) e
    rw[hq] at h;have:=jdV (x:=x) h n;rw[zc,if_neg e];show Zk x q n+Jh x (zc y t) n+_=Zk x q n+Jh x t n;omega
structure XZ (s:Clu):Prop where
 nodes:jI s.nodes=0
 pods:jD s.pods=0
 places:jA s.nodes s.pods=0
 rooms:jM s.pods s.nodes=0
 tot:(Jr s.nodes []).1=0
theorem jb2 {s:Clu} (h:zK s=0):XZ s:=by
 have h0:or3 (jI s.nodes) (jD s.pods) (jH s.buds)=0:=Decidable.byContradiction fun g=>g ((jab (nl:=s.nodes) (pl:=s.pods) (bl:=s.buds) rfl g).symm.trans h);have h1:jA s.nodes s.pods=0:=Decidable.byContradiction fun g=>g ((jbp (nl:=s.nodes) (pl:=s.pods) (bl:=s.buds) h0 rfl g).symm.trans h);have h2:jM s.pods s.nodes=0:=Decidable.byContradiction fun g=>g ((XV (nl:=s.nodes) (pl:=s.pods) (bl:=s.buds) h0 h1 rfl g).symm.trans h);have h3:(Jr s.nodes []).1=0:=(jaw (nl:=s.nodes) (pl:=s.pods) (bl:=s.buds) h0 h1 h2).symm.trans h;have ho:jI s.nodes=0∧jD s.pods=0:=by
  unfold or3 at h0;split at h0
  · rename_i h1;exact absurd h0 h1
  · rename_i g1;split at h0
    · rename_i g2;exact absurd h0 g2
    · rename_i g2;exact⟨Decidable.of_not_not g1,Decidable.of_not_not g2⟩
 exact⟨ho.1,ho.2,h1,h2,h3⟩
theorem jcY {pods:List Pd}:∀{l:List Nod},jM pods l=0→∀n ∈ l,∃u,jJ n.name pods []=(0,u)∧Vec.jB n.cap u=true
 | m::t,h,n,hn=>by
  obtain⟨c,u,hu⟩:∃c u,jJ m.name pods []=(c,u):=⟨_,_,rfl⟩
  by_cases hc:c=0
  · subst hc
    cases hf:Vec.jB m.cap u with
    | false=>rw[qE hu hf] at h;cases h
    | true =>
     rw[Xv hu hf] at h;rcases List.mem_cons.1 hn with rfl | hn
     · exact⟨u,hu,hf⟩
     · exact jcY h n hn
  · rw[jbr hu hc] at h;exact absurd h hc
def jn2 (l:List Nod):Prop:=l.Pairwise fun x y=>ltS x.name y.name=true
theorem Xm:∀{prev:Option ByteArray} {l:List Nod},j7 prev l=0→(∀q,prev=some q→∀x ∈ l,ltS q x.name=true)∧jn2 l∧∀n ∈ l,zk n=0
 | _,[],_=>⟨fun q _ x h=>absurd h (by simp),.nil,fun n h=>absurd h (by simp)⟩
 | prev,n::t,h=>by
  by_cases z:zk n=0
  · by_cases y:Vec.jK prev n.name=true
    · rw[jas z y] at h;cases h
    · have y:Vec.jK prev n.name=false:=by simpa using y
      rw[Xp z y] at h;obtain⟨h2,h3,h4⟩:=Xm h;refine⟨fun q hq x hx=>?_,List.pairwise_cons.2 ⟨fun x hx=>h2 _ rfl x hx,h3⟩,fun m hm=>?_⟩
      · subst hq;have hlt:ltS q n.name=true:=Vec.X7 y;rcases List.mem_cons.1 hx with rfl | hx
        · exact hlt
        · exact Vec.Jb hlt (h2 _ rfl x hx)
      · rcases List.mem_cons.1 hm with rfl | hm
        · exact z
        · exact h4 m hm
  · rw[jb4 z] at h;exact absurd h z
theorem jd9:∀{l:List Nod} {p:Nod},jn2 l→p ∈ l→jl l p.name=some p
 | [],_,_,h=>by cases h
 | x::t,p,h,hp=>by
  unfold jl;rcases List.mem_cons.1 hp with hp | hp
  · subst hp;exact List.find?_cons_of_pos (p:=fun n:Nod=>eqS n.name p.name) (zh _)
  · have hlt:=(List.pairwise_cons.1 h).1 p hp;exact(List.find?_cons_of_neg (p:=fun n:Nod=>eqS n.name p.name) (fun e=>Vec.Yc hlt (jR.1 e))).trans (jd9 (List.pairwise_cons.1 h).2 hp)
theorem XZ.jl {s:Clu} (h:XZ s) {n:Nod} (hn:n ∈ s.nodes):jl s.nodes n.name=some n:=by
 have ho:=h.nodes;unfold jI at ho;split at ho
 · cases ho
 · exact jd9 (Xm ho).2.1 hn
theorem XZ.cap0 {s:Clu} (h:XZ s) {n:Nod} (hn:n ∈ s.nodes):Vec.jv n.cap=0:=by
 have ho:=h.nodes;unfold jI at ho;split at ho
 · cases ho
 · have hc:=(Xm ho).2.2 n hn;unfold zk at hc;split at hc
   · cases hc
   · split at hc
     · rename_i g;exact absurd hc g
     · rename_i g;exact Decidable.of_not_not g
theorem jbz:∀{prev:Option ByteArray} {l:List Pd},jW prev l=0→∀n ∈ l,zG n=0
 | prev,m::t,h,n,hn=>by
  by_cases z:zG m=0
  · by_cases y:Vec.jK prev m.name=true
    · rw[XB z y] at h;cases h
    · have y:Vec.jK prev m.name=false:=by simpa using y
      rw[Z3 z y] at h;rcases List.mem_cons.1 hn with rfl | hn
      · exact z
      · exact jbz h n hn
  · rw[jax z] at h;exact absurd h z
theorem jcm:∀{l:List Int},orL l=0→∀c ∈ l,c=0
 | x::t,h,c,hc=>by
  unfold orL at h;split at h
  · rename_i g;exact absurd h g
  · rename_i g;rcases List.mem_cons.1 hc with rfl | hc
    · exact Decidable.of_not_not g
    · exact jcm h c hc
theorem XZ.need0 {s:Clu} (h:XZ s) {n:Pd} (hn:n ∈ s.pods):Vec.jv n.need=0:=by
 have ho:=h.pods;unfold jD at ho;split at ho
 · cases ho
 · exact jcm (jbz ho n hn) _ (by simp[qB])
structure Sound (s:Clu):Prop where
 parts:XZ s
 asc:Asc s.pods
 need:∀p ∈ s.pods,zM p.need
 cap:∀n ∈ s.nodes,zM n.cap
theorem jgt {s:Clu} {w:World} {v:Value} (h:ZU s=true) (hr:jC w v s):Sound s:=by
 have hp:=jb2 (XH h);obtain⟨v1,v2,v3,rfl,⟨a,cap,rfl,-,-,h1⟩,⟨b,cp,rfl,-,-,h2⟩,-⟩:=hr;refine⟨hp,jgq h,fun p hm=>jhM (hp.need0 hm) ?_,fun n hm=>jhM (hp.cap0 hm) ?_⟩
 · obtain⟨k,hk,rfl⟩:=List.mem_iff_getElem.1 hm;rcases h2.2.2 with h0 | ⟨b,off,-,-,hc⟩
   · omega
   · obtain⟨v1,v2,v3,v4,-,-,-,-,-,-,-,-,-,-,-,hat⟩:=hc k _ (List.getElem?_eq_getElem hk);obtain⟨a9,c9,-,-,-,g⟩:=hat.need;exact g.2.2.1
 · obtain⟨k,hk,rfl⟩:=List.mem_iff_getElem.1 hm;rcases h1.2.2 with h0 | ⟨b,off,-,-,hc⟩
   · omega
   · obtain⟨a1,m1,c1,a2,m2,c2,a3,m3,c3,-,-,-,-,-,hat⟩:=hc k _ (List.getElem?_eq_getElem hk);obtain⟨a9,c9,-,-,-,g⟩:=hat.cap;exact g.2.2.1
theorem jnm {s:Clu} (h:Sound s) {n:Nod} (hn:n ∈ s.nodes):JU s n.name=jJ n.name s.pods []:=jaV (h.parts.jl hn)
theorem jnc {s:Clu} (h:Sound s) {n:Nod} (hn:n ∈ s.nodes):∃u f,JU s n.name=(0,u)∧Z4 s n.name=(0,f)∧Vec.jj Vec.jG u f=(0,n.cap)∧zM u∧zM f∧Vec.Made (Jh n.name s.pods) u∧(∀m,Vec.jh f m=Vec.jh n.cap m-Vec.jh u m)∧∀m,Vec.jh u m≤Vec.jh n.cap m:=by
 obtain⟨u,hu,hf⟩:=jcY h.parts.rooms n hn;obtain⟨hm,hl⟩:=(jco h.need).1 hu;have hc:=h.cap n hn;have hle:=(Vec.Y8 hm.1 hc.1).1 hf;obtain⟨f,hs,hmf,hlf⟩:=Vec.jcr hc.1 hm.1 hc.2 hl hle;have hget:∀m,Vec.jh f m=Vec.jh n.cap m-Vec.jh u m:=fun m=>hmf.2 m;refine⟨u,f,(jnm h hn).trans hu,?_,?_,⟨hm.1,hl⟩,⟨hmf.1,hlf⟩,hm,hget,hle⟩
 · unfold Z4;rw[h.parts.jl hn];dsimp only;rw[hu,if_pos rfl];exact hs
 · refine Vec.jlG hm.1 hmf.1 hl hlf (fun m=>?_) ⟨hc.1,fun m=>?_⟩ hc.2
   · have:=(Vec.JA m hc.1).2;rw[hget];omega
   · show _=Vec.jh u m+Vec.jh f m;rw[hget];omega
def Xs (g:ByteArray→Int):Vec.V→Vec.V
 | []=>[]
 | x::t=>if g x.1=0 then Xs g t else (x.1,g x.1)::Xs g t
theorem XI {g:ByteArray→Int}:∀{l:Vec.V} {y:ByteArray×Int},y ∈ Xs g l→∃x ∈ l,y=(x.1,g x.1)∧g x.1≠0
 | x::t,y,h=>by
  rw[Xs] at h;split at h
  · obtain⟨z,hz,e⟩:=XI h;exact⟨z,by simp[hz],e⟩
  · rename_i hg;rcases List.mem_cons.1 h with rfl | h
    · exact⟨x,by simp,rfl,hg⟩
    · obtain⟨z,hz,e⟩:=XI h;exact⟨z,by simp[hz],e⟩
theorem jfD (g:ByteArray→Int):∀l:Vec.V,(Xs g l).length≤l.length
 | []=>Nat.le_refl _
 | x::t=>by
  have:=jfD g t;rw[Xs];split<;>simp only[List.length_cons]<;>omega
theorem jhW {g:ByteArray→Int}:∀{l:Vec.V},Vec.Gd l→(∀x ∈ l,0≤g x.1∧g x.1≤9223372036854775807)→Vec.Gd (Xs g l)
 | [],_,_=>Vec.Gd.nil
 | x::t,h,hb=>by
  obtain⟨h1,h2,h3⟩:=Vec.Gd.cons.1 h;have ih:=jhW h3 fun y hy=>hb y (by simp[hy]);rw[Xs];split
  · exact ih
  · rename_i hg;have:=hb x (by simp);refine Vec.Gd.cons.2 ⟨⟨h1.1,by dsimp only;omega,this.2⟩,fun y hy=>?_,ih⟩;obtain⟨z,hz,rfl,_⟩:=XI hy;exact h2 z hz
theorem jcc {g:ByteArray→Int} {n:ByteArray}:∀{l:Vec.V},Vec.Gd l→(∃x ∈ l,x.1=n)→Vec.jh (Xs g l) n=g n
 | [],_,h=>by obtain⟨x,hx,_⟩:=h;cases hx
 | y::t,h,he=>by
  obtain⟨h1,h2,h3⟩:=Vec.Gd.cons.1 h;by_cases e:y.1=n
  · rw[Xs];split
    · rename_i hg;rw[←e,hg];refine Vec.XO fun z hz=>?_;obtain⟨q,hq,rfl,_⟩:=XI hz;exact fun e2=>Vec.Yc (h2 q hq) e2.symm
    · rw[←e];exact Vec.Jt _ _
  · have ht:∃x ∈ t,x.1=n:=by
     obtain⟨x,hx,e2⟩:=he;rcases List.mem_cons.1 hx with rfl | hx
     · exact absurd e2 e
     · exact⟨x,hx,e2⟩
    rw[Xs];split
    · exact jcc h3 ht
    · rw[Vec.Jy _ (by exact e)];exact jcc h3 ht
theorem jl1 {g:ByteArray→Int} {u:Vec.V} (hu:zM u) (h0:∀n,0≤g n) (h1:∀n,g n≤Vec.jh u n):∃r,Vec.Made g r∧r.length≤8:=by
 refine⟨Xs g u,⟨jhW hu.1 fun x hx=>⟨h0 _,Int.le_trans (h1 _) (Vec.JA _ hu.1).2⟩,fun n=>?_⟩,Nat.le_trans (jfD g u) hu.2⟩;by_cases e:∃x ∈ u,x.1=n
 · exact jcc hu.1 e
 · have hz:Vec.jh u n=0:=Vec.XO fun y hy e2=>e ⟨y,hy,e2⟩;have h2:=h0 n;have h3:=h1 n;rw[show g n=0 by omega];refine Vec.XO fun y hy e2=>?_;obtain⟨x,hx,rfl,_⟩:=XI hy;exact e ⟨x,hx,e2⟩
theorem jkw {x:ByteArray} {cap:Vec.V} {l:List Pd} (hc:zM cap) (hp:∀p ∈ l,zM p.need) (hs:∀m,Jh x l m≤Vec.jh cap m):∃u,jJ x l []=(0,u)∧zM u∧(∀m,Vec.jh u m=Jh x l m)∧Vec.jB cap u=true:=by
 obtain⟨u,hu,hu8⟩:=jl1 hc (jcs hp) hs;exact⟨u,(jco hp).2 ⟨hu,hu8⟩,⟨hu.1,hu8⟩,hu.2,(Vec.Y8 hu.1 hc.1).2 fun m=>by rw[hu.2 m];exact hs m⟩
theorem jhE {s:Clu} {n:Nod} (hf:jl s.nodes n.name=some n) (hc:zM n.cap) (hp:∀p ∈ s.pods,zM p.need) (hs:∀m,Jh n.name s.pods m≤Vec.jh n.cap m):∃b,Z4 s n.name=(0,b)∧zM b∧∀m,Vec.jh b m=Vec.jh n.cap m-Jh n.name s.pods m:=by
 obtain⟨u,h1,h2,h3,h4⟩:=jkw hc hp hs;obtain⟨b,hb,hmb,hlb⟩:=Vec.jcr hc.1 h2.1 hc.2 h2.2 fun m=>by rw[h3 m];exact hs m
 refine⟨b,?_,⟨hmb.1,hlb⟩,fun m=>by
  have h9:Vec.jh b m=Vec.jh n.cap m-Vec.jh u m:=hmb.2 m;rw[h9,h3 m]⟩
 unfold Z4;rw[hf];dsimp only;rw[h1,if_pos rfl];exact hb
theorem jlz {s:Clu} {n:Nod} (hf:jl s.nodes n.name=some n) (hc:zM n.cap) (hp:∀p ∈ s.pods,zM p.need) (h:(Z4 s n.name).1=0):∀m,Jh n.name s.pods m≤Vec.jh n.cap m:=by
 unfold Z4 at h;rw[hf] at h;dsimp only at h;obtain⟨c,u,hu⟩:∃c u,jJ n.name s.pods []=(c,u):=⟨_,_,rfl⟩
 rw[hu] at h;by_cases hz:c=0
 · subst hz;rw[if_pos rfl] at h;obtain⟨hm,h8⟩:=(jco hp).1 hu;have:=(Vec.Y8 hm.1 hc.1).1 ((Vec.jlL hc.1 hm.1 hc.2 h8).1 h);intro m;rw[←hm.2 m];exact this m
 · rw[if_neg hz] at h;exact absurd h hz
theorem jlB {s:Clu} {p:Pd} {n:Nod} (hf:jl s.nodes n.name=some n) (hc:zM n.cap) (hp:∀p ∈ s.pods,zM p.need) (hq:zM p.need):YN s p n.name=true↔∀m,Jh n.name s.pods m+Vec.jh p.need m≤Vec.jh n.cap m:=by
 unfold YN;rw[Bool.and_eq_true,decide_eq_true_iff];constructor
 · rintro ⟨h1,h2⟩ m;have hs:=jlz hf hc hp h1;obtain⟨b,hb,fb,gb⟩:=jhE hf hc hp hs;rw[hb] at h2;have:=(Vec.Y8 hq.1 fb.1).1 h2 m;rw[gb] at this;omega
 · intro h;obtain⟨b,hb,fb,gb⟩:=jhE hf hc hp fun m=>by have:=h m;have:=(Vec.JA m hq.1).1;omega
   rw[hb];refine⟨rfl,(Vec.Y8 hq.1 fb.1).2 fun m=>?_⟩;rw[gb];have:=h m;omega
theorem jma {x y:ByteArray} (l:List Pd) (hl:∀p ∈ l,zM p.need) (m:ByteArray):Jh x (zc y l) m≤Jh x l m:=by
 cases h:JP l y with
 | none=>rw[je2 (jj2.1 h)];exact Int.le_refl _
 | some p =>
  have h1:=jdV (x:=x) h m;have h2:=jfE (x:=x) (hl p (jm5 h).1) m;omega
theorem Sound.sum {s:Clu} (h:Sound s) {n:Nod} (hn:n ∈ s.nodes) (m:ByteArray):Jh n.name s.pods m≤Vec.jh n.cap m:=by
 obtain⟨u,f,-,-,-,-,-,hm,-,hle⟩:=jnc h hn;rw[←hm.2 m];exact hle m
theorem jjH {s:Clu} (h:∀p ∈ s.pods,zM p.need) (x:ByteArray):∀p ∈ (zC s x).pods,zM p.need:=fun p hp=>h p (Zl hp)
theorem jdX {nodes:List Nod}:∀{l:List Pd},jA nodes l=0→∀p ∈ l,zo p.node=false→(jl nodes p.node).isSome=true
 | q::t,h,p,hp,hn=>by
  by_cases g:zo q.node=false∧(jl nodes q.node).isSome=false
  · rw[qI g.1 g.2] at h;cases h
  · have h2:jA nodes t=0:=by rw[jA,if_neg g] at h;exact h
    rcases List.mem_cons.1 hp with rfl | hp
    · cases e:(jl nodes p.node).isSome with
      | false=>exact absurd ⟨hn,e⟩ g
      | true=>rfl
    · exact jdX h2 p hp hn
theorem jfS {x:ByteArray} {p:Pd}:∀(l:List Pd) (m:ByteArray),Jh x (JZ p l) m=Zk x p m+Jh x l m
 | [],m=>rfl
 | q::t,m=>by
  rw[JZ];split
  · rfl
  · show Zk x q m+Jh x (JZ p t) m=Zk x p m+(Zk x q m+Jh x t m);rw[jfS t m];omega
theorem jhy:∀{prev:Option ByteArray} {l:List Pd},Asc l→(∀p ∈ l,zG p=0)→(∀q,prev=some q→∀x ∈ l,ltS q x.name=true)→jW prev l=0
 | _,[],_,_,_=>rfl
 | prev,n::t,h,hc,hb=>by
  obtain⟨h1,h2⟩:=List.pairwise_cons.1 h;have b:Vec.jK prev n.name=false:=by
   cases prev with
   | none=>rfl
   | some q=>exact Vec.jba (hb q rfl n (by simp))
  rw[Z3 (hc n (by simp)) b];exact jhy h2 (fun p hp=>hc p (by simp[hp])) fun q hq x hx=>by cases hq;exact h1 x hx
theorem jeh {nodes:List Nod}:∀{l:List Pd},(∀p ∈ l,zo p.node=false→(jl nodes p.node).isSome=true)→jA nodes l=0
 | [],_=>rfl
 | q::t,h=>by
  rw[jA,if_neg fun g=>by have:=h q (by simp) g.1;rw[g.2] at this;cases this];exact jeh fun p hp=>h p (by simp[hp])
theorem jfk {pods:List Pd}:∀{l:List Nod},(∀n ∈ l,∃u,jJ n.name pods []=(0,u)∧Vec.jB n.cap u=true)→jM pods l=0
 | [],_=>rfl
 | n::t,h=>by
  obtain⟨u,h1,h2⟩:=h n (by simp);rw[Xv h1 h2];exact jfk fun m hm=>h m (by simp[hm])
theorem jj9:∀{l:List Int},(∀c ∈ l,c=0)→orL l=0
 | [],_=>rfl
 | x::t,h=>by rw[orL,if_neg (by rw[h x (by simp)];decide)];exact jj9 fun c hc=>h c (by simp[hc])
theorem jdR {n:Nod} (h:zk n=0):isName n.name=true:=by
 unfold zk at h;split at h
 · cases h
 · rename_i h1;simpa using h1
theorem jjs {p:Pd} {x:ByteArray} (h:zG p=0) (hx:isName x=true):zG { p with node:=x }=0:=by
 have hz:=jcm (l:=qB p) h;unfold zG;refine jj9 fun c hc=>?_;unfold qB at hc hz;simp only[List.mem_cons,List.not_mem_nil,or_false] at hc hz;rcases hc with rfl | rfl | rfl | rfl | rfl | rfl | rfl | rfl
 · exact hz _ (.inl rfl)
 · exact hz _ (.inr (.inl rfl))
 · exact hz _ (.inr (.inr (.inl rfl)))
 · exact hz _ (.inr (.inr (.inr (.inl rfl))))
 · exact hz _ (.inr (.inr (.inr (.inr (.inl rfl)))))
 · exact hz _ (.inr (.inr (.inr (.inr (.inr (.inl rfl))))))
 · exact hz _ (.inr (.inr (.inr (.inr (.inr (.inr (.inl rfl)))))))
 · unfold Yb ZD;rw[hx];simp
theorem jig {s:Clu} {p:Pd} {x:ByteArray} (hg:zK s=0) (hs:Sound s) (hp:zG p=0) (hq:zM p.need) (hl:(zC s p.name).pods.length<128) (h:qj s p x=0):zK (Jw s { p with node:=x })=0:=by
 obtain⟨n,hf,hz⟩:=jgC h;obtain⟨-,-,-,h4⟩:=jfn hz;obtain⟨hm,rfl⟩:=jec hf;have h5:=(jlB (s:=zC s p.name) hf (hs.cap n hm) (jjH hs.need p.name) hq).1 h4;have h0:or3 (jI s.nodes) (jD s.pods) (jH s.buds)=0:=Decidable.byContradiction fun g=>g ((jab (nl:=s.nodes) (pl:=s.pods) (bl:=s.buds) rfl g).symm.trans hg);have hN:=hs.parts.nodes;have hP:=hs.parts.pods;have hB:jH s.buds=0:=by
  unfold or3 at h0;rw[if_neg (by rw[hN];decide),if_neg (by rw[hP];decide)] at h0;exact h0
 have hnodes:∀m ∈ s.nodes,zk m=0:=by
  unfold jI at hN;split at hN
  · cases hN
  · exact(Xm hN).2.2
 have hpods:∀q ∈ s.pods,zG q=0:=by
  unfold jD at hP;split at hP
  · cases hP
  · exact jbz hP
 have hp':zG { p with node:=n.name }=0:=jjs hp (jdR (hnodes n hm));have hP':jD (Jw s { p with node:=n.name }).pods=0:=by
  have e1:=jdp (s:=s) { p with node:=n.name };have e2:=qg s p.name;unfold jD;rw[if_neg (by
   have e3:(Jw s { p with node:=n.name }).pods.length=(zC s p.name).pods.length+1:=e1;omega)]
  refine jhy (jhm hs.asc _) (fun q hq=>?_) fun q hq=>by cases hq
  rcases ins_mem hq with rfl | hq
  · exact hp'
  · exact hpods q (Zl hq)
 have hpl:jA s.nodes (Jw s { p with node:=n.name }).pods=0:=jeh fun q hq hn=>by
  rcases ins_mem hq with rfl | hq
  · show (jl s.nodes n.name).isSome=true;have:jl s.nodes n.name=some n:=hf;rw[this];rfl
  · exact jdX hs.parts.places q (Zl hq) hn
 have hneed:∀q ∈ (Jw s { p with node:=n.name }).pods,zM q.need:=fun q hq9=>by
  rcases ins_mem hq9 with rfl | hq9
  · exact hq
  · exact hs.need q (Zl hq9)
 have hro:jM (Jw s { p with node:=n.name }).pods s.nodes=0:=jfk fun k hk=>by
  obtain⟨u,h1,-,-,h2⟩:=jkw (x:=k.name) (l:=(Jw s { p with node:=n.name }).pods) (hs.cap k hk) hneed fun m=>by
   show Jh k.name (JZ { p with node:=n.name } (zc p.name s.pods)) m≤_;rw[jfS];by_cases e:k.name=n.name
   · have hkn:k=n:=by
      have e1:=hs.parts.jl hk;rw[e] at e1;have e2:jl s.nodes n.name=some n:=hf;rw[e2] at e1;exact(Option.some.inj e1).symm
     subst hkn;have e3:Zk k.name { p with node:=k.name } m=Vec.jh p.need m:=by unfold Zk;rw[if_pos (zh _)]
     have:=h5 m;have h6:Jh k.name (zc p.name s.pods) m+Vec.jh p.need m≤Vec.jh k.cap m:=this;omega
   · have e3:Zk k.name { p with node:=n.name } m=0:=by unfold Zk;rw[if_neg fun g=>e (jR.1 g).symm]
     have h7:=hs.sum hk m;have h8:=jma (x:=k.name) (y:=p.name) s.pods hs.need m;omega
  exact⟨u,h1,h2⟩
 have ho:or3 (jI s.nodes) (jD (Jw s { p with node:=n.name }).pods) (jH s.buds)=0:=by rw[hN,hP',hB];rfl
 exact(jaw (nl:=s.nodes) (pl:=(Jw s { p with node:=n.name }).pods) (bl:=s.buds) ho hpl hro).trans hs.parts.tot
def jfq (s:Clu) (w:World) (e:Ending) (w':World):Prop:=∃y,e=.returned y∧jC w' y s∧Kept w w'
theorem jnE {v u:Value} {s:Clu} {p:Pd} {w:World} (h:jC w v s) (g:jbh w u p) (hl:jE s) (hp:JN p):Calls Tryz.prog 264 #[v,u] w (jfq (Jw s p) w):=by
 obtain⟨v1,v2,v3,rfl,⟨a,cap,rfl,l1,m1,h1⟩,⟨b,cp,rfl,l2,m2,h2⟩,⟨d,cb,rfl,l3,m3,h3⟩⟩:=h;obtain⟨u1,u2,u3,u4,rfl,hat⟩:=g;have g1:=hat.need;have g2:=hat.labels;have g3:=hat.sel;have g4:=hat.tols;obtain⟨b1,d1,rfl,-,-,-⟩:=g1;obtain⟨b2,d2,rfl,-,-,-⟩:=g2;obtain⟨b3,d3,rfl,-,-,-⟩:=g3;obtain⟨b4,d4,rfl,-,-,-⟩:=g4;refine(jjA a b d _ cap _ cp _ cb s.nodes s.pods s.buds p b1 b2 b3 b4 _ d1 _ d2 _ d3 _ d4 w h1 h2 h3 l1 m1 l2 m2 l3 m3 hl hat hp).mono ?_;rintro e w' ⟨_,_,_,_,_,_,_,_,_,rfl,ho,kk⟩;exact⟨_,rfl,ho.toR,kk⟩
theorem jmW {v:Value} {s:Clu} {w:World} (h:jC w v s) (x:ByteArray) (hl:jE s):Calls Tryz.prog 56 #[v,.string x] w (jfq (zC s x) w):=by
 obtain⟨v1,v2,v3,rfl,⟨a,cap,rfl,l1,m1,h1⟩,⟨b,cp,rfl,l2,m2,h2⟩,⟨d,cb,rfl,l3,m3,h3⟩⟩:=h;refine(jcC a b d _ cap _ cp _ cb s.nodes s.pods s.buds x w h1 h2 h3 l1 m1 l2 m2 l3 m3 hl).mono ?_;rintro e w' ⟨_,_,_,_,_,_,_,_,_,rfl,ho,kk⟩;exact⟨_,rfl,ho.toR,kk⟩
theorem jlH {a:Option Addr} {n c:Nat} {l:List Pd} {w:World} (h:Jn w (.slice a n c) l):jy w a n l:=by
 obtain⟨a',cap',e,_,_,h⟩:=h
 cases e
 exact h
theorem jmU {s:Clu} {p:Pd} (h:jE s) (hp:JN p) (hn:s.pods.length≤1000):jE (Jw s p) :=
 ⟨h.nodes,fun q hq=>by rcases ins_mem hq with rfl | hq;exact hp;exact h.pods q (Zl hq),h.buds,h.nodesN,by
  have h1:=jdp (s:=s) p;have h2:=qg s p.name;omega,h.budsN⟩
theorem je4 {s:Clu} (h:jE s) (x:ByteArray):jE (zC s x) :=
 ⟨h.nodes,fun q hq=>h.pods q (Zl hq),h.buds,h.nodesN,by
  have h2:=qg s x;have:=h.podsN;omega,h.budsN⟩
open Go.RowKit Go.Sort
def jS (p:Pd):Bool:=zo p.node&&!p.hold
def zy (p q:Pd):Bool:=decide (Xf p q<0)
def Xz (l m:List Pd):Prop:=m.Perm (l.filter jS)∧m.Pairwise fun a b=>zy b a=false
theorem jcZ {p q:Pd}:zy p q=true↔(q.prio<p.prio∨(q.prio=p.prio∧ltS p.name q.name=true)):=by
 unfold zy;rw[decide_eq_true_iff,jc2]
theorem jad {p q:Pd}:zy p q=false↔¬(q.prio<p.prio∨(q.prio=p.prio∧ltS p.name q.name=true)):=by
 rw[←Bool.not_eq_true,jcZ]
theorem jaP {p q:Pd} (h:zy p q=false) (g:zy q p=false):p.name=q.name:=by
 rw[jad] at h g;have e:p.prio=q.prio:=by omega
 refine Vec.Xa ?_ ?_
 · cases k:ltS p.name q.name with
   | false=>rfl
   | true=>exact absurd (.inr ⟨e.symm,k⟩) h
 · cases k:ltS q.name p.name with
   | false=>rfl
   | true=>exact absurd (.inr ⟨e,k⟩) g
theorem XJ {x y z:Pd} (h1:zy x y=true) (h2:zy y z=true):zy x z=true:=by
 unfold zy at *;rw[decide_eq_true_iff] at *;exact jeZ h1 h2
theorem jaF {x y z:Pd} (h1:zy x y=false) (h2:zy y z=false):zy x z=false:=by
 cases e:zy x z with
 | false=>rfl
 | true =>
  cases q:zy y x with
  | true=>rw[XJ q e] at h2;cases h2
  | false =>
   have hn:=jaP h1 q;rw[jad] at h1 q h2;rw[jcZ] at e;rcases e with e | ⟨e1,e2⟩
   · exact absurd (.inl (by omega)) h2
   · exact absurd (.inr ⟨by omega,by rw[←hn];exact e2⟩) h2
theorem jaG (x:Pd):zy x x=false:=by
 rw[jad,Vec.YO];rintro (h | ⟨-,h⟩)
 · omega
 · cases h
theorem qK {l:List Pd} (h:Asc l) {p q:Pd} (hp:p ∈ l) (hq:q ∈ l) (e:p.name=q.name):p=q:=by
 have h1:=qU h hp;have h2:=qU h hq;rw[e,h2] at h1;exact(Option.some.inj h1).symm
theorem Xz.unique {l m k:List Pd} (ha:Asc l) (h:Xz l m) (g:Xz l k):m=k :=
 List.Perm.eq_of_pairwise (fun a b h1 h2 e1 e2=>qK ha (List.mem_filter.1 (h.1.mem_iff.1 h1)).1 (List.mem_filter.1 (g.1.mem_iff.1 h2)).1 (jaP e2 e1)) h.2 g.2 (h.1.trans g.1.symm)
def zD (l:List Pd):List Pd:=(l.filter jS).mergeSort fun a b=>!zy b a
theorem jcf (l:List Pd):Xz l (zD l):=by
 refine⟨List.mergeSort_perm _ _,?_⟩;have h:=List.pairwise_mergeSort (le:=fun a b=>!zy b a) (fun a b c h1 h2=>by
  simp only[Bool.not_eq_true'] at *;exact jaF h2 h1) (fun a b=>by
  cases e:zy b a with
  | false=>rfl
  | true =>
   cases q:zy a b with
   | false=>rfl
   | true=>have:=XJ e q;rw[jaG b] at this;cases this) (l.filter jS)
 exact h.imp fun {a b} g=>by simpa using g
theorem qX {l m:List Pd} (ha:Asc l) (h:Xz l m):m=zD l:=h.unique ha (jcf l)
theorem jek {l:List Pd} {p:Pd}:p ∈ zD l↔p ∈ l∧jS p=true:=by rw[(jcf l).1.mem_iff,List.mem_filter]
theorem jaR (l:List Pd):(zD l).length=(l.filter jS).length:=(jcf l).1.length_eq
theorem qJ (l:List Pd):(zD l).length≤l.length:=by rw[jaR];exact List.length_filter_le _ _
def jaQ (s:Clu) (p:Pd) (pack:Bool):Option ByteArray:=((zO s p s.nodes).mergeSort fun a b=>!YM s p pack b a).head?
theorem jbv (s:Clu) (p:Pd) (pack:Bool):qo s p pack ((zO s p s.nodes).mergeSort fun a b=>!YM s p pack b a):=by
 refine⟨List.mergeSort_perm _ _,?_⟩;have h:=List.pairwise_mergeSort (le:=fun a b=>!YM s p pack b a) (fun a b c h1 h2=>by
  simp only[Bool.not_eq_true'] at *;exact jaz h2 h1) (fun a b=>by
  cases e:YM s p pack b a with
  | false=>rfl
  | true =>
   cases q:YM s p pack a b with
   | false=>rfl
   | true=>have:=XM e q;rw[jaA] at this;cases this) (zO s p s.nodes)
 exact h.imp fun {a b} g=>by simpa using g
theorem jkr {s:Clu} {p:Pd} {pack:Bool} {l:List ByteArray} (h:qo s p pack l):l.head?=jaQ s p pack:=by
 unfold jaQ;rw[h.unique (jbv s p pack)]
theorem jfv {s:Clu} {p:Pd} {pack:Bool}:jaQ s p pack=none↔zO s p s.nodes=[]:=by
 unfold jaQ;rw[List.head?_eq_none_iff];constructor
 · intro h;have:=(jbv s p pack).1;rw[h] at this;exact List.Perm.eq_nil this.symm
 · intro h;have:=(jbv s p pack).1;rw[h] at this;rw[h];exact List.Perm.eq_nil this
theorem jnr {s:Clu} {p:Pd} {pack:Bool} {x:ByteArray} (h:jaQ s p pack=some x):x ∈ zO s p s.nodes :=
 (jbv s p pack).1.mem_iff.1 (List.mem_of_head? h)
def Yh (s:Clu) (pack:Bool):List Pd→Option (ByteArray×ByteArray)
 | []=>none
 | p::t=>match jaQ s p pack with
  | some x=>some (p.name,x)
  | none=>Yh s pack t
def nextS (s:Clu) (pack:Bool):Option (ByteArray×ByteArray):=Yh s pack (zD s.pods)
theorem jfC {s:Clu} {pack:Bool} {x t:ByteArray}:∀{l:List Pd},Yh s pack l=some (x,t)→∃p ∈ l,p.name=x∧jaQ s p pack=some t
 | [],h=>by cases h
 | p::l,h=>by
  rw[Yh] at h;split at h
  · rename_i y e;obtain⟨rfl,rfl⟩:=Prod.mk.inj (Option.some.inj h);exact⟨p,by simp,rfl,e⟩
  · obtain⟨q,hq,e⟩:=jfC h;exact⟨q,by simp[hq],e⟩
theorem XX {s:Clu} {pack:Bool} {x t:ByteArray} (h:nextS s pack=some (x,t)):∃p ∈ s.pods,jS p=true∧p.name=x∧t ∈ zO s p s.nodes:=by
 obtain⟨p,hp,e,c⟩:=jfC h;obtain⟨h1,h2⟩:=jek.1 hp;exact⟨p,h1,h2,e,jnr c⟩
theorem je6 {p:Pd} {y:ByteArray}:∀{l:List Pd},Asc l→p ∈ l→Jo p.name y l=JZ { p with node:=y } (zc p.name l)
 | [],_,h=>by cases h
 | q::r,ha,h=>by
  obtain⟨h1,h2⟩:=List.pairwise_cons.1 ha;rw[Jo,zc];by_cases e:eqS q.name p.name=true
  · rw[if_pos e,if_pos e];have hq:q=p:=qK ha (by simp) h (jR.1 e);subst hq
    cases r with
    | nil=>rfl
    | cons z r=>rw[JZ,if_pos (by exact h1 z (by simp))]
  · rw[if_neg e,if_neg e];have hp:p ∈ r:=(List.mem_cons.1 h).resolve_left fun g=>e (by rw[g];exact zh _);have hlt:¬ltS p.name q.name=true:=fun g'=>absurd (Vec.Jb (h1 p hp) g') (by rw[Vec.YO];decide);rw[JZ,if_neg (by exact hlt),je6 h2 hp]
theorem jaT {p:Pd} {y:ByteArray} (hr:jS p=true) (hy:zo y=false):∀{l:List Pd},Asc l→p ∈ l→((Jo p.name y l).filter jS).length+1=(l.filter jS).length
 | [],_,h=>by cases h
 | q::r,ha,h=>by
  obtain⟨h1,h2⟩:=List.pairwise_cons.1 ha;rw[Jo];by_cases e:eqS q.name p.name=true
  · rw[if_pos e];have hq:q=p:=qK ha (by simp) h (jR.1 e);subst hq;rw[List.filter_cons_of_neg (by unfold jS;show ¬((zo y&&!q.hold)=true);rw[hy];simp),List.filter_cons_of_pos hr];rfl
  · rw[if_neg e];have hp:p ∈ r:=(List.mem_cons.1 h).resolve_left fun g=>e (by rw[g];exact zh _);by_cases g:jS q=true
    · rw[List.filter_cons_of_pos g,List.filter_cons_of_pos g,List.length_cons,List.length_cons,jaT hr hy h2 hp]
    · rw[List.filter_cons_of_neg g,List.filter_cons_of_neg g,jaT hr hy h2 hp]
theorem X3 (x y:ByteArray):∀l:List Pd,(Jo x y l).length=l.length
 | []=>rfl
 | q::r=>by
  rw[Jo];split
  · rfl
  · rw[List.length_cons,List.length_cons,X3 x y r]
structure Jf (s:Clu):Prop where
 chk:zK s=0
 sound:Sound s
 low:jE s
 few:s.pods.length≤128
theorem Jf.asc {s:Clu} (h:Jf s):Asc s.pods:=h.sound.asc
theorem Jf.pods {s:Clu} (h:Jf s):∀q ∈ s.pods,zG q=0:=by
 have hP:=h.sound.parts.pods;unfold jD at hP;split at hP
 · cases hP
 · exact jbz hP
theorem Jf.nodes {s:Clu} (h:Jf s):∀m ∈ s.nodes,zk m=0:=by
 have hN:=h.sound.parts.nodes;unfold jI at hN;split at hN
 · cases hN
 · exact(Xm hN).2.2
theorem jkJ {x:ByteArray} (h:isName x=true):zo x=false:=by
 cases e:zo x with
 | false=>rfl
 | true =>
  have:=jR.1 (show eqS x ByteArray.empty=true from e);subst this;exact absurd h (by decide)
theorem Jf.to {s:Clu} (h:Jf s) {pack:Bool} {x t:ByteArray} (hn:nextS s pack=some (x,t)):zo t=false:=by
 obtain⟨p,-,-,-,ht⟩:=XX hn;obtain⟨-,n,hnn,rfl⟩:=jbc ht;exact jkJ (jdR (h.nodes n hnn))
theorem Jf.bind {s:Clu} (h:Jf s) {pack:Bool} {x t:ByteArray} (hn:nextS s pack=some (x,t)):Jf (zZ s x t):=by
 obtain⟨p,hp,-,rfl,ht⟩:=XX hn;obtain⟨hf,-⟩:=jbc ht;have e:zZ s p.name t=Jw s { p with node:=t }:=by unfold zZ Jw;rw[je6 h.asc hp]
 have hd:(zC s p.name).pods.length+1=s.pods.length:=by
  have:=qg s p.name;rw[qU h.asc hp] at this;simpa using this
 have hc:zK (Jw s { p with node:=t })=0:=jig h.chk h.sound (h.pods p hp) (h.sound.need p hp) (by have:=h.few;omega) hf;rw[e];have hlow:=h.low.pods p hp;refine⟨hc,⟨jb2 hc,jhm h.asc _,fun q hq=>?_,h.sound.cap⟩,jmU h.low ⟨hlow.need,hlow.labels,hlow.sel,hlow.tols⟩ (by have:=h.few;omega),?_⟩
 · rcases ins_mem hq with rfl | hq
   · exact h.sound.need p hp
   · exact h.sound.need q (Zl hq)
 · have:=jdp (s:=s) { p with node:=t };have e3:(Jw s { p with node:=t }).pods.length=(zC s p.name).pods.length+1:=this;have:=h.few;omega
theorem Jf.fewer {s:Clu} (h:Jf s) {pack:Bool} {x t:ByteArray} (hn:nextS s pack=some (x,t)):(zD (zZ s x t).pods).length+1=(zD s.pods).length:=by
 have ht:=h.to hn;obtain⟨p,hp,hr,rfl,-⟩:=XX hn;rw[jaR,jaR];exact jaT hr ht h.asc hp
def Jp (pack:Bool):Nat→Clu→List (ByteArray×ByteArray)
 | 0,_=>[]
 | n+1,s=>match nextS s pack with
  | none=>[]
  | some b=>b::Jp pack n (zZ s b.1 b.2)
def goS (l:List (ByteArray×ByteArray)) (s:Clu):Clu:=l.foldl (fun s b=>zZ s b.1 b.2) s
def JG (s:Clu) (pack:Bool):List (ByteArray×ByteArray):=Jp pack (zD s.pods).length s
theorem jlm (l:List (ByteArray×ByteArray)) (b:ByteArray×ByteArray) (s:Clu):goS (l++[b]) s=zZ (goS l s) b.1 b.2:=by unfold goS;rw[List.foldl_append];rfl
theorem jam (pack:Bool):∀(n:Nat) (s:Clu),(Jp pack n s).length≤n
 | 0,_=>Nat.le_refl _
 | n+1,s=>by
  rw[Jp];split
  · exact Nat.zero_le _
  · rw[List.length_cons];exact Nat.succ_le_succ (jam pack n _)
theorem jan (pack:Bool):∀{n:Nat} {s:Clu} {k:Nat},Jf s→k≤(Jp pack n s).length→Jf (goS ((Jp pack n s).take k) s)∧(k<n→nextS (goS ((Jp pack n s).take k) s) pack=(Jp pack n s)[k]?)∧(zD (goS ((Jp pack n s).take k) s).pods).length+k=(zD s.pods).length
 | 0,s,k,h,hk=>by
  have e:k=0:=by rw[Jp] at hk;simpa using hk
  subst e;exact⟨by simpa [goS] using h,fun h=>absurd h (by omega),rfl⟩
 | n+1,s,0,h,hk=>by
  refine⟨by simpa [goS] using h,fun _=>?_,rfl⟩;show nextS s pack=_;rw[Jp]
  cases nextS s pack<;>rfl
 | n+1,s,k+1,h,hk=>by
  rw[Jp] at hk ⊢
  cases e:nextS s pack with
  | none=>rw[e] at hk;simp at hk
  | some b =>
   rw[e] at hk;obtain⟨x,t⟩:=b;have ih:=jan pack (n:=n) (k:=k) (h.bind e) (by simpa using hk);have hf:=h.fewer e;simp only[List.take_succ_cons,List.getElem?_cons_succ];have eg:∀l,goS ((x,t)::l) s=goS l (zZ s x t):=fun l=>rfl;rw[eg];exact⟨ih.1,fun hk=>ih.2.1 (by omega),by have:=ih.2.2;omega⟩
theorem jkZ {s:Clu} {pack:Bool} (h:(zD s.pods).length=0):nextS s pack=none:=by
 unfold nextS;rw[List.length_eq_zero_iff.1 h];rfl
theorem jcl {s:Clu} (h:Jf s) (pack:Bool) {k:Nat} (hk:k≤(JG s pack).length):nextS (goS ((JG s pack).take k) s) pack=(JG s pack)[k]?:=by
 have hl:=jam pack (zD s.pods).length s;obtain⟨h1,h2,h3⟩:=jan pack h hk;by_cases e:k<(zD s.pods).length
 · exact h2 e
 · have e2:k=(zD s.pods).length:=by unfold JG at hk;omega
   rw[List.getElem?_eq_none (by unfold JG;omega)];exact jkZ (by unfold JG;omega)
theorem XT {s:Clu} (h:Jf s) (pack:Bool) {k:Nat} (hk:k≤(JG s pack).length):Jf (goS ((JG s pack).take k) s):=(jan pack h hk).1
theorem jk8 {s:Clu} (h:Jf s) (pack:Bool):(zD (goS (JG s pack) s).pods).length+(JG s pack).length=(zD s.pods).length:=by
 have:=(jan pack (n:=(zD s.pods).length) h (Nat.le_refl _)).2.2;rwa [List.take_of_length_le (Nat.le_refl _)] at this
theorem jck {l:List (ByteArray×ByteArray)} {s:Clu} {k:Nat} {b:ByteArray×ByteArray} (h:l[k]?=some b):goS (l.take (k+1)) s=zZ (goS (l.take k) s) b.1 b.2:=by
 rw[List.take_add_one,h];exact jlm _ _ _
theorem jmM (l:List (ByteArray×ByteArray)) (s:Clu):(goS l s).pods.length=s.pods.length:=by
 unfold goS
 induction l generalizing s with
 | nil=>rfl
 | cons b l ih=>rw[List.foldl_cons,ih];exact X3 _ _ _
def joP (o:Option Nod) (w:World) (e:Ending) (w':World):Prop:=(∀n,o=some n→∃b1 k1 d1 b2 k2 d2 b3 k3 d3,e=.returned (zj n (.slice b1 k1 d1) (.slice b2 k2 d2) (.slice b3 k3 d3))∧zp w' (.slice b1 k1 d1) (.slice b2 k2 d2) (.slice b3 k3 d3) n)∧(o=none→e=.panicked [zw 3])∧Kept w w'
theorem X8 (c:Int) (w:World):Calls Tryz.prog 153 #[.bool false,.int .i64 c] w fun e w'=>e=.returned (.tuple #[])∧w=w':=by
 go_enter Tryz.func153,Tryz.ntmps153;go_wp2;refine⟨rfl,.tuple #[],by simp[results,Tryz.results153,go_sem],?_⟩;exact⟨rfl,rfl⟩
theorem Xu (c:Int) (w:World):Calls Tryz.prog 153 #[.bool true,.int .i64 c] w fun e w'=>e=.panicked [zw c]∧w=w':=by
 go_enter Tryz.func153,Tryz.ntmps153;go_wp2;exact⟨rfl,rfl,rfl⟩
theorem jgT (s1 s2 s3:Option Addr) (n1 e1 n2 e2 n3 e3:Nat) (nodes:List Nod) (name:ByteArray) (w:World) (hn:jo w s1 n1 nodes) (hb1:n1≤100000) :
 Calls Tryz.prog 152 #[.agg #[.slice s1 n1 e1,.slice s2 n2 e2,.slice s3 n3 e3],.string name] w (joP (jl nodes name) w):=by
 obtain⟨Z,hZ⟩:=eX ((w.alloc (.cells #[.slice s1 n1 e1,.slice s2 n2 e2,.slice s3 n3 e3] 26)).alloc (.cells #[.string ⟨#[]⟩,.slice none 0 0,.slice none 0 0,.slice none 0 0,.bool false] 78))
 have hkz:Kept w Z:=by rw[←hZ];exact jn _ _ _
 have Vw:=lH (jc w (.slice s1 n1 e1) [.slice s2 n2 e2,.slice s3 n3 e3] 26 Z (by rw[←hZ];exact ja _ _));have hyb:jf (w.heap.size+1) [.string ⟨#[]⟩,.slice none 0 0,.slice none 0 0,.slice none 0 0,.bool false] Z:=by
  have dd:=jc (w.alloc (.cells #[.slice s1 n1 e1,.slice s2 n2 e2,.slice s3 n3 e3] 26)) (.string ⟨#[]⟩) [.slice none 0 0,.slice none 0 0,.slice none 0 0,.bool false] 78 Z (by rw[hZ];exact Kept.refl _);rw[World.size_alloc] at dd;exact dd
 obtain⟨T0,HN,VR,Vc⟩:=lH4 hyb hn hn.1 hkz;clear hn hkz hyb;go_enter Tryz.func152,Tryz.ntmps152;have y0:=Vw.out.at_ 0 _ rfl;go_upto_region 1 with fail
 try rw[hZ]
 clear hZ;go_wp2;clear y0;go_loopw [10] (fun i wr=>∃k:Nat,k≤n1∧i=.int .i64 k∧jl (nodes.drop k) name=jl nodes name∧Kept Z wr) (fun i _=>n1-(intOf i).toNat)
 case atStart=>exact⟨0,Nat.zero_le _,rfl,rfl,Kept.refl _⟩
 case round =>
  obtain⟨k,hk,rfl,hR,hK⟩:=hrel;obtain⟨HR,HK,Uo⟩:=lH3 hR (Vc.out.trans hK) hK;by_cases hlt:k<n1
  · obtain⟨g,off,rfl⟩:=HN.out.form.resolve_left (by omega);obtain⟨n,b1,k1,d1,b2,k2,d2,b3,k3,d3,hn,hd,hb,u0,u1,u2,u3,u4,hat⟩:=HN.out.at_ hlt;have VH:=lH hat;have HD:=lH hd;have u0:=cell_later HK.out u0;have u1:=cell_later HK.out u1;have u2:=cell_later HK.out u2;have u3:=cell_later HK.out u3;have u4:=cell_later HK.out u4;have hkk:(k:Int)<(n1:Int):=by omega
    have hk0:¬(k:Int)<0:=by omega
    obtain⟨wx,hwx⟩:=eX (wr.alloc (.cells #[.string n.name,.slice b1 k1 d1,.slice b2 k2 d2,.slice b3 k3 d3,.bool n.cordon] 78))
    have hkx:Kept wr wx:=by rw[←hwx];exact ja _ _
    have Vt:=lH (jc wr (.string n.name) [.slice b1 k1 d1,.slice b2 k2 d2,.slice b3 k3 d3,.bool n.cordon] 78 wx (by rw[hwx];exact Kept.refl _));obtain⟨bq,hbq⟩:=eX (wr.heap.size)
    rw[hbq] at Vt;have KX:=lH hkx;go_upto_region 4 with fail
    try rw[hwx]
    try rw[hbq]
    clear hwx hbq hd hb hn hR hK hkx hk0 hkk hat u0 u1 u2 u3 u4;obtain⟨t0,t1,t2,t3,t4⟩:=Vt.out.at5;obtain⟨t,ht⟩:=eX ((n.name.toList==name.toList))
    have HT:=lH (show eqS n.name name=t from ht)
    cases t with
    | false =>
     have HX:=lH (show jl (nodes.drop (k+1)) name=jl nodes name by rw[←HR.out,HD.out];unfold jl;rw[List.find?_cons,HT.out]);go_wp2;go_roundw
     case rel=>exact⟨k+1,by omega,by go_num,HX.out,Uo.out.trans KX.out⟩
     case measure=>simp[intOf];omega
    | true =>
     have HX:=lH (show jl nodes name=some n by rw[←HR.out,HD.out];unfold jl;rw[List.find?_cons,HT.out]);have VW:=lH (T0.out.kept (Uo.out.trans KX.out));obtain⟨z0,z1,z2,z3,z4⟩:=VW.out.at5;have f0:=VW.out.free 0;have f1:=VW.out.free 1;have f2:=VW.out.free 2;have f3:=VW.out.free 3;have f4:=VW.out.free 4;have P:=lH (ZC ⟨z0,z1,z2,z3,z4⟩ n.name b1 b2 b3 k1 d1 k2 d2 k3 d3 n.cordon);go_wp2;obtain⟨WE,hWE⟩:=eX ((((((wx.setCell ⟨w.heap.size+1,0,none⟩ (.string n.name)).setCell ⟨w.heap.size+1,1,none⟩ (.slice b1 k1 d1)).setCell ⟨w.heap.size+1,2,none⟩ (.slice b2 k2 d2)).setCell ⟨w.heap.size+1,3,none⟩ (.slice b3 k3 d3)).setCell ⟨w.heap.size+1,4,none⟩ (.bool n.cordon)))
     rw[hWE] at P ⊢;clear hWE z0 z1 z2 z3 z4 t0 t1 t2 t3 t4 f0 f1 f2 f3 f4;obtain⟨⟨d0,d1,d2,d3,d4⟩,hsz,hbl,hkp⟩:=P.out;refine bodyPost_ret (by simp[results,Tryz.results152,go_sem,d0,d1,d2,d3,d4];try rfl) rfl ?_;have KE:=hkp _ _ (Nat.le_succ _) (HK.out.trans KX.out);refine⟨fun m e=>?_,fun e=>?_,KE⟩
     · rw[HX.out] at e;cases e;exact⟨_,_,_,_,_,_,_,_,_,rfl,VH.out.kept KE⟩
     · rw[HX.out] at e;cases e
  · have hge:¬(k:Int)<(n1:Int):=by omega
    have HO:=lH (show jl nodes name=none by rw[←HR.out,List.drop_of_length_le (by rw[VR.out];omega)];rfl);clear hR hK;go_wp2;exact⟨rfl,(fun m e=>by rw[HO.out] at e;cases e),(fun _=>rfl),HK.out⟩
theorem jea {r:Int×Vec.V} {w w':World} {e:Ending} (h:Vec.Y2 r w e w'):Xd r w e w':=by
 obtain⟨v,e,h,k⟩:=h;exact⟨v,e,h.at_,k⟩
theorem jof {v:Value} {s:Clu} {w:World} (h:jC w v s) (x:ByteArray) (hl:jE s):Calls Tryz.prog 295 #[v,.string x] w (Xd (JU s x) w):=by
 obtain⟨v1,v2,v3,rfl,⟨a,cap,rfl,l1,m1,h1⟩,⟨b,cp,rfl,l2,m2,h2⟩,⟨d,cb,rfl,l3,m3,h3⟩⟩:=h;exact(jkQ a b d _ cap _ cp _ cb s.nodes s.pods x w h1 h2 hl.nodes).mono fun _ _ h=>jea h
theorem joc {v:Value} {s:Clu} {w:World} (h:jC w v s) (x:ByteArray) (hl:jE s):Calls Tryz.prog 195 #[v,.string x] w (Xd (Z4 s x) w):=by
 obtain⟨v1,v2,v3,rfl,⟨a,cap,rfl,l1,m1,h1⟩,⟨b,cp,rfl,l2,m2,h2⟩,⟨d,cb,rfl,l3,m3,h3⟩⟩:=h;exact(jkp a b d _ cap _ cp _ cb s.nodes s.pods x w h1 h2 hl.nodes).mono fun _ _ h=>jea h
theorem onR {v:Value} {s:Clu} {w:World} (h:jC w v s) (x:ByteArray) (hl:jE s):Calls Tryz.prog 282 #[v,.string x] w fun e w'=>∃y,e=.returned y∧Jn w' y (onP x s.pods)∧Kept w w':=by
 obtain⟨v1,v2,v3,rfl,⟨a,cap,rfl,l1,m1,h1⟩,⟨b,cp,rfl,l2,m2,h2⟩,⟨d,cb,rfl,l3,m3,h3⟩⟩:=h;exact jlQ b a d _ cp _ cap _ cb s.pods x w h2 hl.pods hl.podsN
theorem jC.nAt {w:World} {v2 v3:Value} {b:Option Addr} {m cp:Nat} {s:Clu} (h:jC w (Jk (.slice b m cp) v2 v3) s):jo w b m s.nodes∧m=s.nodes.length:=by
 obtain⟨_,_,_,e,g0⟩:=h
 cases e
 obtain⟨a',cap',e,_,_,h⟩:=g0.nodes
 cases e
 exact⟨h,rfl⟩
theorem jC.pAt {w:World} {v1 v3:Value} {b:Option Addr} {m cp:Nat} {s:Clu} (h:jC w (Jk v1 (.slice b m cp) v3) s):jy w b m s.pods∧m=s.pods.length:=by
 obtain⟨_,_,_,e,g0⟩:=h
 cases e
 obtain⟨a',cap',e,_,_,h⟩:=g0.pods
 cases e
 exact⟨h,rfl⟩
theorem jeY (p:Pd) (n:Nod) (a1 a2 a3 a4:Option Addr) (m1 c1 m2 c2 m3 c3 m4 c4:Nat) (b1 b2 b3:Option Addr) (k1 d1 k2 d2 k3 d3:Nat) (w:World) (hp:ji w (.slice a1 m1 c1) (.slice a2 m2 c2) (.slice a3 m3 c3) (.slice a4 m4 c4) p) (hn:zp w (.slice b1 k1 d1) (.slice b2 k2 d2) (.slice b3 k3 d3) n):Calls Tryz.prog 154 #[jx p (.slice a1 m1 c1) (.slice a2 m2 c2) (.slice a3 m3 c3) (.slice a4 m4 c4),zj n (.slice b1 k1 d1) (.slice b2 k2 d2) (.slice b3 k3 d3)] w (Say (.bool (Za p n)) w):=by
 obtain⟨t,ht⟩:=eX (ZT p.sel n.labels)
 have Uw:=lH (fun (W:World) (k:Kept w W)=>jny (hp.sel.kept k) (hn.labels.kept k) ht);obtain⟨cd,hcd⟩:=eX (n.cordon)
 have HV:=lH (show Za p n=(!cd&&t) by unfold Za;rw[ht,hcd]);clear ht;obtain⟨Z,hZ⟩:=eX ((w.alloc (.cells #[.string p.name,.string p.owner,.int .i64 p.prio,.slice a1 m1 c1,.slice a2 m2 c2,.slice a3 m3 c3,.slice a4 m4 c4,.string p.key,.int .i64 p.most,.string p.node,.bool p.hold] 52)).alloc (.cells #[.string n.name,.slice b1 k1 d1,.slice b2 k2 d2,.slice b3 k3 d3,.bool cd] 78))
 have hkz:Kept w Z:=by rw[←hZ];exact jn _ _ _
 have Vj:=lH (jc w (.string p.name) [.string p.owner,.int .i64 p.prio,.slice a1 m1 c1,.slice a2 m2 c2,.slice a3 m3 c3,.slice a4 m4 c4,.string p.key,.int .i64 p.most,.string p.node,.bool p.hold] 52 Z (by rw[←hZ];exact ja _ _));have Vg:=lH (show jf (w.heap.size+1) [.string n.name,.slice b1 k1 d1,.slice b2 k2 d2,.slice b3 k3 d3,.bool cd] Z by
  have dd:=jc (w.alloc (.cells #[.string p.name,.string p.owner,.int .i64 p.prio,.slice a1 m1 c1,.slice a2 m2 c2,.slice a3 m3 c3,.slice a4 m4 c4,.string p.key,.int .i64 p.most,.string p.node,.bool p.hold] 52)) (.string n.name) [.slice b1 k1 d1,.slice b2 k2 d2,.slice b3 k3 d3,.bool cd] 78 Z (by rw[hZ];exact Kept.refl _);rw[World.size_alloc] at dd;exact dd)
 have K:=lH hkz;have HM:=lH (Uw.out Z hkz);clear Uw hp hn hkz;have r5:=Vj.out.at_ 5 _ rfl;have q2:=Vg.out.at_ 2 _ rfl;have q4:=Vg.out.at_ 4 _ rfl;unfold jx zj;rw[hcd];clear hcd;go_enter Tryz.func154,Tryz.ntmps154
 cases cd with
 | true =>
  go_wp2;try rw[hZ]
  go_ret;exact⟨jd (by rw[HV.out];rfl),by first | exact K.out | (rw[hZ];exact K.out)⟩
 | false =>
  go_wp2_with fail
  try rw[hZ]
  refine HM.out.mono ?_;rintro e w1 ⟨rfl,kk⟩;have K:=lH (K.out.trans kk);clear kk hZ;go_wp2;go_ret;exact⟨jd (by rw[HV.out];rfl),K.out⟩
theorem jg9 (p:Pd) (n:Nod) (a1 a2 a3 a4:Option Addr) (m1 c1 m2 c2 m3 c3 m4 c4:Nat) (b1 b2 b3:Option Addr) (k1 d1 k2 d2 k3 d3:Nat) (w:World) (hp:ji w (.slice a1 m1 c1) (.slice a2 m2 c2) (.slice a3 m3 c3) (.slice a4 m4 c4) p) (hn:zp w (.slice b1 k1 d1) (.slice b2 k2 d2) (.slice b3 k3 d3) n):Calls Tryz.prog 155 #[jx p (.slice a1 m1 c1) (.slice a2 m2 c2) (.slice a3 m3 c3) (.slice a4 m4 c4),zj n (.slice b1 k1 d1) (.slice b2 k2 d2) (.slice b3 k3 d3)] w (Say (.bool (ZR p n)) w):=by
 obtain⟨t,ht⟩:=eX ((Jl p.tols n.taints).isSome)
 obtain⟨⟨x,y,mm⟩,hx⟩:∃x,wT (Jl p.tols n.taints)=x:=⟨_,rfl⟩
 have Uw:=lH (fun (W:World) (k:Kept w W)=>jnY (hp.tols.kept k) (hn.taints.kept k) hx ht);have HV:=lH (show ZR p n=(!t) by unfold ZR;rw[ht]);clear ht hx;obtain⟨Z,hZ⟩:=eX ((w.alloc (.cells #[.string p.name,.string p.owner,.int .i64 p.prio,.slice a1 m1 c1,.slice a2 m2 c2,.slice a3 m3 c3,.slice a4 m4 c4,.string p.key,.int .i64 p.most,.string p.node,.bool p.hold] 52)).alloc (.cells #[.string n.name,.slice b1 k1 d1,.slice b2 k2 d2,.slice b3 k3 d3,.bool n.cordon] 78))
 have hkz:Kept w Z:=by rw[←hZ];exact jn _ _ _
 have Vj:=lH (jc w (.string p.name) [.string p.owner,.int .i64 p.prio,.slice a1 m1 c1,.slice a2 m2 c2,.slice a3 m3 c3,.slice a4 m4 c4,.string p.key,.int .i64 p.most,.string p.node,.bool p.hold] 52 Z (by rw[←hZ];exact ja _ _));have Vg:=lH (show jf (w.heap.size+1) [.string n.name,.slice b1 k1 d1,.slice b2 k2 d2,.slice b3 k3 d3,.bool n.cordon] Z by
  have dd:=jc (w.alloc (.cells #[.string p.name,.string p.owner,.int .i64 p.prio,.slice a1 m1 c1,.slice a2 m2 c2,.slice a3 m3 c3,.slice a4 m4 c4,.string p.key,.int .i64 p.most,.string p.node,.bool p.hold] 52)) (.string n.name) [.slice b1 k1 d1,.slice b2 k2 d2,.slice b3 k3 d3,.bool n.cordon] 78 Z (by rw[hZ];exact Kept.refl _);rw[World.size_alloc] at dd;exact dd)
 have K:=lH hkz;have HM:=lH (Uw.out Z hkz);clear Uw hp hn hkz;have r6:=Vj.out.at_ 6 _ rfl;have q3:=Vg.out.at_ 3 _ rfl;unfold jx zj;go_enter Tryz.func155,Tryz.ntmps155;go_wp2_with fail
 try rw[hZ]
 refine HM.out.mono ?_;rintro e w1 ⟨rfl,kk⟩;have K:=lH (K.out.trans kk);clear kk hZ;go_wp2;go_ret;exact⟨jd (by rw[HV.out]),K.out.trans (ja _ _)⟩
theorem jeB (s1 s2 s3:Option Addr) (n1 e1 n2 e2 n3 e3:Nat) (a1 a2 a3 a4:Option Addr) (m1 c1 m2 c2 m3 c3 m4 c4:Nat) (p:Pd) (s:Clu) (name:ByteArray) (w:World) (hs:jC w (Jk (.slice s1 n1 e1) (.slice s2 n2 e2) (.slice s3 n3 e3)) s) (hl:jE s):Calls Tryz.prog 156 #[.agg #[.slice s1 n1 e1,.slice s2 n2 e2,.slice s3 n3 e3],jx p (.slice a1 m1 c1) (.slice a2 m2 c2) (.slice a3 m3 c3) (.slice a4 m4 c4),.string name] w (Say (.bool (ZE s p name)) w):=by
 have hn1:=hs.nAt.2;have hn2:=hs.pAt.2;have g1:=hl.nodesN;have g2:=hl.podsN;obtain⟨Z,hZ⟩:=eX ((w.alloc (.cells #[.slice s1 n1 e1,.slice s2 n2 e2,.slice s3 n3 e3] 26)).alloc (.cells #[.string p.name,.string p.owner,.int .i64 p.prio,.slice a1 m1 c1,.slice a2 m2 c2,.slice a3 m3 c3,.slice a4 m4 c4,.string p.key,.int .i64 p.most,.string p.node,.bool p.hold] 52))
 have hkz:Kept w Z:=by rw[←hZ];exact jn _ _ _
 have Vj:=lH (jc w (.slice s1 n1 e1) [.slice s2 n2 e2,.slice s3 n3 e3] 26 Z (by rw[←hZ];exact ja _ _));have Vg:=lH (show jf (w.heap.size+1) [.string p.name,.string p.owner,.int .i64 p.prio,.slice a1 m1 c1,.slice a2 m2 c2,.slice a3 m3 c3,.slice a4 m4 c4,.string p.key,.int .i64 p.most,.string p.node,.bool p.hold] Z by
  have dd:=jc (w.alloc (.cells #[.slice s1 n1 e1,.slice s2 n2 e2,.slice s3 n3 e3] 26)) (.string p.name) [.string p.owner,.int .i64 p.prio,.slice a1 m1 c1,.slice a2 m2 c2,.slice a3 m3 c3,.slice a4 m4 c4,.string p.key,.int .i64 p.most,.string p.node,.bool p.hold] 52 Z (by rw[hZ];exact Kept.refl _);rw[World.size_alloc] at dd;exact dd)
 have K:=lH hkz;have HS:=lH (jl0 s1 s2 s3 a1 a2 a3 a4 n1 e1 n2 e2 n3 e3 m1 c1 m2 c2 m3 c3 m4 c4 p s name Z (hs.nAt.1.kept hkz) (hs.pAt.1.kept hkz) (by omega) (by omega));clear hs hkz hl hn1 hn2 g1 g2;obtain⟨t7,h7⟩:=eX ((p.key.toList==([]:List UInt8)))
 have H7:=lH (show zo p.key=t7 by rw[JY,h7]);obtain⟨y0,y1,y2⟩:=Vj.out.at3;obtain⟨r0,r1,r2,r3,r4,r5,r6,r7,r8,r9,r10⟩:=Vg.out.at11;unfold jx at HS ⊢;go_enter Tryz.func156,Tryz.ntmps156
 cases t7 with
 | true =>
  have HV:=lH (show ZE s p name=false by unfold ZE;rw[if_pos H7.out]);go_wp2;try rw[hZ]
  go_ret;exact⟨jd HV.out.symm,by first | exact K.out | (rw[hZ];exact K.out)⟩
 | false =>
  have HV:=lH (show ZE s p name=(!(ZP p s name).2||decide (p.most<(ZP p s name).1)) by unfold ZE;rw[if_neg (by rw[H7.out];decide)]);obtain⟨z,hz⟩:=eX ((ZP p s name).1)
  obtain⟨b,hb⟩:=eX ((ZP p s name).2)
  rw[hz,hb] at HS HV;clear hz hb;go_upto_region 3 with fail
  try rw[hZ]
  clear hZ;go_wp2_with fail
  refine HS.out.mono ?_;rintro e w1 ⟨rfl,kk⟩;have K:=lH (K.out.trans kk);have r8:=(Vg.out.kept kk).at_ 8 _ rfl;clear kk y0 y1 y2 r0 r1 r2 r3 r4 r5 r6 r7 r9 r10
  cases b with
  | false =>
   go_wp2;go_ret;exact⟨jd (by rw[HV.out];rfl),K.out⟩
  | true =>
   by_cases hlt:p.most<z
   · have Rq:=lH hlt;go_wp2;go_ret;exact⟨jd (by rw[HV.out,decide_eq_true Rq.out];rfl),K.out⟩
   · have Rq:=lH hlt;have hle:z≤p.most:=by omega
     clear hlt;go_wp2;go_ret;exact⟨jd (by rw[HV.out,decide_eq_false (by have:=Rq.out;omega)];rfl),K.out⟩
theorem jgW (s1 s2 s3:Option Addr) (n1 e1 n2 e2 n3 e3:Nat) (a1 a2 a3 a4:Option Addr) (m1 c1 m2 c2 m3 c3 m4 c4:Nat) (p:Pd) (s:Clu) (name:ByteArray) (w:World) (hs:jC w (Jk (.slice s1 n1 e1) (.slice s2 n2 e2) (.slice s3 n3 e3)) s) (hl:jE s) (hp:ji w (.slice a1 m1 c1) (.slice a2 m2 c2) (.slice a3 m3 c3) (.slice a4 m4 c4) p):Calls Tryz.prog 157 #[.agg #[.slice s1 n1 e1,.slice s2 n2 e2,.slice s3 n3 e3],jx p (.slice a1 m1 c1) (.slice a2 m2 c2) (.slice a3 m3 c3) (.slice a4 m4 c4),.string name] w (Say (.bool (YN s p name)) w):=by
 obtain⟨Z,hZ⟩:=eX ((w.alloc (.cells #[.slice s1 n1 e1,.slice s2 n2 e2,.slice s3 n3 e3] 26)).alloc (.cells #[.string p.name,.string p.owner,.int .i64 p.prio,.slice a1 m1 c1,.slice a2 m2 c2,.slice a3 m3 c3,.slice a4 m4 c4,.string p.key,.int .i64 p.most,.string p.node,.bool p.hold] 52))
 have hkz:Kept w Z:=by rw[←hZ];exact jn _ _ _
 have Vj:=lH (jc w (.slice s1 n1 e1) [.slice s2 n2 e2,.slice s3 n3 e3] 26 Z (by rw[←hZ];exact ja _ _));have Vg:=lH (show jf (w.heap.size+1) [.string p.name,.string p.owner,.int .i64 p.prio,.slice a1 m1 c1,.slice a2 m2 c2,.slice a3 m3 c3,.slice a4 m4 c4,.string p.key,.int .i64 p.most,.string p.node,.bool p.hold] Z by
  have dd:=jc (w.alloc (.cells #[.slice s1 n1 e1,.slice s2 n2 e2,.slice s3 n3 e3] 26)) (.string p.name) [.string p.owner,.int .i64 p.prio,.slice a1 m1 c1,.slice a2 m2 c2,.slice a3 m3 c3,.slice a4 m4 c4,.string p.key,.int .i64 p.most,.string p.node,.bool p.hold] 52 Z (by rw[hZ];exact Kept.refl _);rw[World.size_alloc] at dd;exact dd)
 have K:=lH hkz;have HF:=lH (joc (hs.kept hkz) name hl);unfold Jk at HF;have HP:=lH (hp.need.kept hkz);clear hs hkz hl hp;obtain⟨y0,y1,y2⟩:=Vj.out.at3;unfold jx;obtain⟨c,hc⟩:=eX ((Z4 s name).1)
 obtain⟨fl,hfl⟩:=eX ((Z4 s name).2)
 obtain⟨q,hq⟩:=eX (Vec.jB fl p.need)
 have HV:=lH (show YN s p name=(decide (c=0)&&q) by unfold YN;rw[hc,hfl,hq]);have HQ:=lH hq;go_enter Tryz.func157,Tryz.ntmps157;go_wp2_with fail
 try rw[hZ]
 refine HF.out.mono ?_;rintro e w1 ⟨y,rfl,hy,kk⟩;rw[hc];rw[hfl] at hy;obtain⟨HY,K,HP⟩:=lH3 hy (K.out.trans kk) (HP.out.kept kk);have r3:=(Vg.out.kept kk).at_ 3 _ rfl;clear kk hZ hc hfl hq hy HF y0 y1 y2;by_cases h0:c=0
 · subst h0;go_wp2_with fail
   refine(Vec.jh6 HP.out HY.out HQ.out).mono ?_;rintro e w2 ⟨rfl,kk⟩;have K:=lH (K.out.trans kk);clear kk;go_wp2;go_ret;exact⟨jd (by rw[HV.out];rfl),K.out⟩
 · have h0b:(c==0)=false:=by simpa using h0
   have H0:=lH h0;clear h0;go_wp2;go_ret;exact⟨jd (by rw[HV.out,decide_eq_false H0.out];rfl),K.out⟩
def XS (c:Int) (w:World) (e:Ending) (w':World):Prop:=(c=0→∃x i1 j1 l1 i2 j2 l2 i3 j3 l3 b,e=.returned (.agg #[.string x,.slice i1 j1 l1,.slice i2 j2 l2,.slice i3 j3 l3,.bool b]))∧(c≠0→e=.panicked [zw c])∧Kept w w'
theorem XS.bad {c d:Int} {w w':World} (h:d=c) (hc:c≠0) (k:Kept w w'):XS d w (.panicked [zw c]) w':=⟨fun g=>absurd (h.symm.trans g) hc,fun _=>by rw[h],k⟩
theorem jgY (s1 s2 s3:Option Addr) (n1 e1 n2 e2 n3 e3:Nat) (a1 a2 a3 a4:Option Addr) (m1 c1 m2 c2 m3 c3 m4 c4:Nat) (p:Pd) (s:Clu) (name:ByteArray) (w:World) (hs:jC w (Jk (.slice s1 n1 e1) (.slice s2 n2 e2) (.slice s3 n3 e3)) s) (hl:jE s) (hp:ji w (.slice a1 m1 c1) (.slice a2 m2 c2) (.slice a3 m3 c3) (.slice a4 m4 c4) p):Calls Tryz.prog 105 #[.agg #[.slice s1 n1 e1,.slice s2 n2 e2,.slice s3 n3 e3],jx p (.slice a1 m1 c1) (.slice a2 m2 c2) (.slice a3 m3 c3) (.slice a4 m4 c4),.string name] w (XS (zW s p name) w):=by
 obtain⟨Y,hY⟩:=eX ((w.alloc (.cells #[.slice s1 n1 e1,.slice s2 n2 e2,.slice s3 n3 e3] 26)).alloc (.cells #[.string p.name,.string p.owner,.int .i64 p.prio,.slice a1 m1 c1,.slice a2 m2 c2,.slice a3 m3 c3,.slice a4 m4 c4,.string p.key,.int .i64 p.most,.string p.node,.bool p.hold] 52))
 have hky:Kept w Y:=by rw[←hY];exact jn _ _ _
 have hys:Y.heap.size=w.heap.size+2:=by rw[←hY];simp
 have hsb:=jc w (.slice s1 n1 e1) [.slice s2 n2 e2,.slice s3 n3 e3] 26 Y (by rw[←hY];exact ja _ _);have hpb:jf (w.heap.size+1) [.string p.name,.string p.owner,.int .i64 p.prio,.slice a1 m1 c1,.slice a2 m2 c2,.slice a3 m3 c3,.slice a4 m4 c4,.string p.key,.int .i64 p.most,.string p.node,.bool p.hold] Y:=by
  have dd:=jc (w.alloc (.cells #[.slice s1 n1 e1,.slice s2 n2 e2,.slice s3 n3 e3] 26)) (.string p.name) [.string p.owner,.int .i64 p.prio,.slice a1 m1 c1,.slice a2 m2 c2,.slice a3 m3 c3,.slice a4 m4 c4,.string p.key,.int .i64 p.most,.string p.node,.bool p.hold] 52 Y (by rw[hY];exact Kept.refl _);rw[World.size_alloc] at dd;exact dd
 obtain⟨Z,hZ⟩:=eX (Y.alloc (.cells #[.string ⟨#[]⟩,.slice none 0 0,.slice none 0 0,.slice none 0 0,.bool false] 78))
 have hkz:Kept Y Z:=by rw[←hZ];exact ja _ _
 have hnb:jf (w.heap.size+2) [.string ⟨#[]⟩,.slice none 0 0,.slice none 0 0,.slice none 0 0,.bool false] Z:=by
  have dd:=jc Y (.string ⟨#[]⟩) [.slice none 0 0,.slice none 0 0,.slice none 0 0,.bool false] 78 Z (by rw[hZ];exact Kept.refl _);rw[hys] at dd;exact dd
 have hYZ:((w.alloc (.cells #[.slice s1 n1 e1,.slice s2 n2 e2,.slice s3 n3 e3] 26)).alloc (.cells #[.string p.name,.string p.owner,.int .i64 p.prio,.slice a1 m1 c1,.slice a2 m2 c2,.slice a3 m3 c3,.slice a4 m4 c4,.string p.key,.int .i64 p.most,.string p.node,.bool p.hold] 52)).alloc (.cells #[.string ⟨#[]⟩,.slice none 0 0,.slice none 0 0,.slice none 0 0,.bool false] 78)=Z:=by rw[hY];exact hZ
 obtain⟨Vw,Vz,Vv,K,Ug,VY,HL,Ua⟩:=lH8 (hsb.kept hkz) (hpb.kept hkz) hnb (hky.trans hkz) (hs.kept (hky.trans hkz)) (hp.kept (hky.trans hkz)) hl (jgT s1 s2 s3 n1 e1 n2 e2 n3 e3 s.nodes name Z ((hs.kept (hky.trans hkz)).nAt.1) (by have:=hl.nodesN;have:=hs.nAt.2;omega));clear hs hp hl hky hkz hys hsb hpb hnb hY hZ;unfold jx;obtain⟨y0,y1,y2⟩:=Vw.out.at3;go_enter Tryz.func105,Tryz.ntmps105;go_wp2_with fail
 try rw[hYZ]
 clear hYZ;refine Ua.out.mono ?_;rintro e w1 ⟨h1,h2,kk⟩;obtain⟨K,Vw,Vz,Vv,Ug,VY⟩:=lH6 (K.out.trans kk) (Vw.out.kept kk) (Vz.out.kept kk) (Vv.out.kept kk) (Ug.out.kept kk) (VY.out.kept kk);clear Ua y0 y1 y2
 cases ho:jl s.nodes name with
 | none =>
  obtain rfl:=h2 ho;have HE:=lH (show zW s p name=3 from jbN ho);clear h1 h2 ho kk;go_wp2;exact⟨rfl,XS.bad HE.out (by decide) K.out⟩
 | some n =>
  obtain⟨b1,k1,d1,b2,k2,d2,b3,k3,d3,rfl,hn⟩:=h1 n ho;have HE:=lH (show zW s p name=zX s p n name from jbP ho);clear h1 h2 ho;obtain⟨w2,hw2⟩:=eX (w1.alloc (.cells #[.string n.name,.slice b1 k1 d1,.slice b2 k2 d2,.slice b3 k3 d3,.bool n.cordon] 78))
  have kx:Kept w1 w2:=by rw[←hw2];exact ja _ _
  obtain⟨V6,V2,K,Vw,Vz,Vv,Ug,VY⟩:=lH8 (jc w1 (.string n.name) [.slice b1 k1 d1,.slice b2 k2 d2,.slice b3 k3 d3,.bool n.cordon] 78 w2 (by rw[hw2];exact Kept.refl _)) (hn.kept kx) (K.out.trans kx) (Vw.out.kept kx) (Vz.out.kept kx) (Vv.out.kept kx) (Ug.out.kept kx) (VY.out.kept kx);obtain⟨gn,hgn⟩:=eX (w1.heap.size)
  rw[hgn] at V6;clear hn kk kx;unfold zj;go_upto_region 2 with fail
  try rw[hw2]
  try rw[hgn]
  clear hw2 hgn;obtain⟨r0,r1,r2,r3,r4,r5,r6,r7,r8,r9,r10⟩:=Vz.out.at11;obtain⟨t0,t1,t2,t3,t4⟩:=V6.out.at5;obtain⟨bb,hbb⟩:=eX (Za p n)
  have HC:=lH (jeY p n a1 a2 a3 a4 m1 c1 m2 c2 m3 c3 m4 c4 b1 b2 b3 k1 d1 k2 d2 k3 d3 _ VY.out V2.out);unfold jx at HC;unfold zj at HC;rw[hbb] at HC;go_wp2_with fail
  refine HC.out.mono ?_;rintro e w3 ⟨rfl,kk⟩;obtain⟨Vh,Vw,Vz,Vv,Ug,VY,V6,V2⟩:=lH8 hbb (Vw.out.kept kk) (Vz.out.kept kk) (Vv.out.kept kk) (Ug.out.kept kk) (VY.out.kept kk) (V6.out.kept kk) (V2.out.kept kk);have K:=lH (K.out.trans kk);clear kk;clear hbb HC r0 r1 r2 r3 r4 r5 r6 r7 r8 r9 r10 t0 t1 t2 t3 t4
  cases bb with
  | false =>
   go_wp2_with fail
   refine(Xu 8 _).mono ?_;rintro e w4 ⟨rfl,rfl⟩;go_wp2;exact⟨rfl,XS.bad (HE.out.trans (jbU Vh.out)) (by decide) K.out⟩
  | true =>
   have Vj:=Vh;clear Vh;go_wp2_with fail
   refine(X8 8 _).mono ?_;rintro e w4 ⟨rfl,rfl⟩;obtain⟨r0,r1,r2,r3,r4,r5,r6,r7,r8,r9,r10⟩:=Vz.out.at11;obtain⟨t0,t1,t2,t3,t4⟩:=V6.out.at5;obtain⟨bb,hbb⟩:=eX (ZR p n)
   have HC:=lH (jg9 p n a1 a2 a3 a4 m1 c1 m2 c2 m3 c3 m4 c4 b1 b2 b3 k1 d1 k2 d2 k3 d3 _ VY.out V2.out);unfold jx at HC;unfold zj at HC;rw[hbb] at HC;go_wp2_with fail
   refine HC.out.mono ?_;rintro e w3 ⟨rfl,kk⟩;obtain⟨Vh,Vw,Vz,Vv,Ug,VY,V6,V2⟩:=lH8 hbb (Vw.out.kept kk) (Vz.out.kept kk) (Vv.out.kept kk) (Ug.out.kept kk) (VY.out.kept kk) (V6.out.kept kk) (V2.out.kept kk);have K:=lH (K.out.trans kk);clear kk;clear hbb HC r0 r1 r2 r3 r4 r5 r6 r7 r8 r9 r10 t0 t1 t2 t3 t4
   cases bb with
   | false =>
    go_wp2_with fail
    refine(Xu 9 _).mono ?_;rintro e w4 ⟨rfl,rfl⟩;go_wp2;exact⟨rfl,XS.bad (HE.out.trans (jaD Vj.out Vh.out)) (by decide) K.out⟩
   | true =>
    have Vg:=Vh;clear Vh;go_wp2_with fail
    refine(X8 9 _).mono ?_;rintro e w4 ⟨rfl,rfl⟩;obtain⟨y0,y1,y2⟩:=Vw.out.at3;obtain⟨r0,r1,r2,r3,r4,r5,r6,r7,r8,r9,r10⟩:=Vz.out.at11;obtain⟨bb,hbb⟩:=eX (ZE s p name)
    have HC:=lH (jeB s1 s2 s3 n1 e1 n2 e2 n3 e3 a1 a2 a3 a4 m1 c1 m2 c2 m3 c3 m4 c4 p s name _ Ug.out HL.out);unfold jx at HC;rw[hbb] at HC;go_wp2_with fail
    refine HC.out.mono ?_;rintro e w3 ⟨rfl,kk⟩;obtain⟨Vh,Vw,Vz,Vv,Ug,VY,V6,V2⟩:=lH8 hbb (Vw.out.kept kk) (Vz.out.kept kk) (Vv.out.kept kk) (Ug.out.kept kk) (VY.out.kept kk) (V6.out.kept kk) (V2.out.kept kk);have K:=lH (K.out.trans kk);clear kk;clear hbb HC y0 y1 y2 r0 r1 r2 r3 r4 r5 r6 r7 r8 r9 r10
    cases bb with
    | true =>
     go_wp2_with fail
     refine(Xu 10 _).mono ?_;rintro e w4 ⟨rfl,rfl⟩;go_wp2;exact⟨rfl,XS.bad (HE.out.trans (jaU Vj.out Vg.out Vh.out)) (by decide) K.out⟩
    | false =>
     have TP:=Vh;clear Vh;go_wp2_with fail
     refine(X8 10 _).mono ?_;rintro e w4 ⟨rfl,rfl⟩;obtain⟨y0,y1,y2⟩:=Vw.out.at3;obtain⟨r0,r1,r2,r3,r4,r5,r6,r7,r8,r9,r10⟩:=Vz.out.at11;obtain⟨bb,hbb⟩:=eX (YN s p name)
     have HC:=lH (jgW s1 s2 s3 n1 e1 n2 e2 n3 e3 a1 a2 a3 a4 m1 c1 m2 c2 m3 c3 m4 c4 p s name _ Ug.out HL.out VY.out);unfold jx at HC;rw[hbb] at HC;go_wp2_with fail
     refine HC.out.mono ?_;rintro e w3 ⟨rfl,kk⟩;obtain⟨Vh,Vw,Vz,Vv,Ug,VY,V6,V2⟩:=lH8 hbb (Vw.out.kept kk) (Vz.out.kept kk) (Vv.out.kept kk) (Ug.out.kept kk) (VY.out.kept kk) (V6.out.kept kk) (V2.out.kept kk);have K:=lH (K.out.trans kk);clear kk;clear hbb HC y0 y1 y2 r0 r1 r2 r3 r4 r5 r6 r7 r8 r9 r10
     cases bb with
     | false =>
      go_wp2_with fail
      refine(Xu 7 _).mono ?_;rintro e w4 ⟨rfl,rfl⟩;go_wp2;exact⟨rfl,XS.bad (HE.out.trans (ja5 Vj.out Vg.out TP.out Vh.out)) (by decide) K.out⟩
     | true =>
      go_wp2_with fail
      refine(X8 7 _).mono ?_;rintro e w4 ⟨rfl,rfl⟩;obtain⟨t0,t1,t2,t3,t4⟩:=V6.out.at5;obtain⟨z0,z1,z2,z3,z4⟩:=Vv.out.at5;have f0:=Vv.out.free 0;have f1:=Vv.out.free 1;have f2:=Vv.out.free 2;have f3:=Vv.out.free 3;have f4:=Vv.out.free 4;have P:=lH (ZC ⟨z0,z1,z2,z3,z4⟩ n.name b1 b2 b3 k1 d1 k2 d2 k3 d3 n.cordon);obtain⟨x9,hx9⟩:=eX (n.name)
      obtain⟨c9,hc9⟩:=eX (n.cordon)
      rw[hx9] at t0;rw[hc9] at t4;rw[hx9,hc9] at P;have NI:=lH (HE.out.trans (jim Vj.out Vg.out TP.out Vh.out));clear hx9 hc9 HE V6 V2 Ug VY;go_wp2;obtain⟨WE,hWE⟩:=eX ((((((w3.setCell ⟨w.heap.size+2,0,none⟩ (.string x9)).setCell ⟨w.heap.size+2,1,none⟩ (.slice b1 k1 d1)).setCell ⟨w.heap.size+2,2,none⟩ (.slice b2 k2 d2)).setCell ⟨w.heap.size+2,3,none⟩ (.slice b3 k3 d3)).setCell ⟨w.heap.size+2,4,none⟩ (.bool c9)))
      rw[hWE] at P ⊢;clear hWE z0 z1 z2 z3 z4 t0 t1 t2 t3 t4 f0 f1 f2 f3 f4;obtain⟨⟨q0,q1,q2,q3,q4⟩,hsz,hbl,hkp⟩:=P.out;refine bodyPost_ret (by simp[results,Tryz.results105,go_sem,q0,q1,q2,q3,q4];try rfl) rfl ?_;have KE:=hkp _ _ (by omega) K.out;exact⟨fun _=>⟨_,_,_,_,_,_,_,_,_,_,_,rfl⟩,fun g=>absurd NI.out g,KE⟩
end Go.Proofs.YtibepooajeakfaaGreat
