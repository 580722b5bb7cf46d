/- C. -/
import Derived.Test.YtibepooajeakfaaGreatG1
import Derived.Test.YtibepooajeakfaaGreatG2
import Derived.Test.YtibepooajeakfaaGreatG4
import Derived.Test.YtibepooajeakfaaGreatG5
import Derived.Test.YtibepooajeakfaaGreatG6
import Derived.Test.YtibepooajeakfaaGreatG8
import Derived.Test.YtibepooajeakfaaGreatG11
set_option linter.unusedVariables false
set_option maxRecDepth 100000
set_option maxHeartbeats 25600000
namespace Go.Proofs.YtibepooajeakfaaGreat
open Go.RowKit
theorem jfV {x:ByteArray} {p:Pd}:∀(l:List Pd) (m:ByteArray),Jj x (JY p l) m=Zi x p m+Jj x l m
 | [],m=>rfl
 | q::t,m=>by
  rw[JY];split
  · rfl
  · show Zi x q m+Jj x (JY p t) m=Zi x p m+(Zi x q m+Jj x t m);rw[jfV t m];omega
theorem jhX:∀{prev:Option ByteArray} {l:List Pd},Asc l→(∀p ∈ l,zD p=0)→(∀q,prev=some q→∀x ∈ l,ltS q x.name=true)→jX prev l=0
 | _,[],_,_,_=>rfl
 | prev,n::t,h,hc,hb=>by
  obtain⟨h1,h2⟩:=List.pairwise_cons.1 h;have b:Vec.jK prev n.name=false:=by
   cases prev with
   | none=>rfl
   | some q=>exact Vec.jbi (hb q rfl n (by simp))
  rw[Z7 (hc n (by simp)) b];exact jhX h2 (fun p hp=>hc p (by simp[hp])) fun q hq x hx=>by cases hq;exact h1 x hx
theorem jd7 {nodes:List Nod}:∀{l:List Pd},(∀p ∈ l,zo p.node=false→(jl nodes p.node).isSome=true)→jA nodes l=0
 | [],_=>rfl
 | q::t,h=>by
  rw[jA,if_neg fun g=>by have:=h q (by simp) g.1;rw[g.2] at this;cases this];exact jd7 fun p hp=>h p (by simp[hp])
theorem jf6 {pods:List Pd}:∀{l:List Nod},(∀n ∈ l,∃u,jJ n.name pods []=(0,u)∧Vec.jB n.cap u=true)→jM pods l=0
 | [],_=>rfl
 | n::t,h=>by
  obtain⟨u,h1,h2⟩:=h n (by simp);rw[Xv h1 h2];exact jf6 fun m hm=>h m (by simp[hm])
theorem jj0:∀{l:List Int},(∀c ∈ l,c=0)→orL l=0
 | [],_=>rfl
 | x::t,h=>by rw[orL,if_neg (by rw[h x (by simp)];decide)];exact jj0 fun c hc=>h c (by simp[hc])
theorem jd5 {n:Nod} (h:zk n=0):isName n.name=true:=by
 unfold zk at h;split at h
 · cases h
 · rename_i h1;simpa using h1
theorem jjJ {p:Pd} {x:ByteArray} (h:zD p=0) (hx:isName x=true):zD { p with node:=x }=0:=by
 have hz:=jck (l:=qv p) h;unfold zD;refine jj0 fun c hc=>?_;unfold qv at hc hz;simp only[List.mem_cons,List.not_mem_nil,or_false] at hc hz;rcases hc with rfl | rfl | rfl | rfl | rfl | rfl | rfl | rfl
 · exact hz _ (.inl rfl)
 · exact hz _ (.inr (.inl rfl))
 · exact hz _ (.inr (.inr (.inl rfl)))
 · exact hz _ (.inr (.inr (.inr (.inl rfl))))
 · exact hz _ (.inr (.inr (.inr (.inr (.inl rfl)))))
 · exact hz _ (.inr (.inr (.inr (.inr (.inr (.inl rfl))))))
 · exact hz _ (.inr (.inr (.inr (.inr (.inr (.inr (.inl rfl)))))))
 · unfold Yd ZB;rw[hx];simp
theorem jiG {s:Clu} {p:Pd} {x:ByteArray} (hg:zL s=0) (hs:Sound s) (hp:zD p=0) (hq:zK p.need) (hl:(zC s p.name).pods.length<128) (h:ql s p x=0):zL (Ju s { p with node:=x })=0:=by
 obtain⟨n,hf,hz⟩:=jgR h;obtain⟨-,-,-,h4⟩:=jfT hz;obtain⟨hm,rfl⟩:=jej hf;have h5:=(jmo (s:=zC s p.name) hf (hs.cap n hm) (jks hs.need p.name) hq).1 h4;have h0:or3 (jI s.nodes) (jD s.pods) (jH s.buds)=0:=Decidable.byContradiction fun g=>g ((jab (nl:=s.nodes) (pl:=s.pods) (bl:=s.buds) rfl g).symm.trans hg);have hN:=hs.parts.nodes;have hP:=hs.parts.pods;have hB:jH s.buds=0:=by
  unfold or3 at h0;rw[if_neg (by rw[hN];decide),if_neg (by rw[hP];decide)] at h0;exact h0
 have hnodes:∀m ∈ s.nodes,zk m=0:=by
  unfold jI at hN;split at hN
  · cases hN
  · exact(Xn hN).2.2
 have hpods:∀q ∈ s.pods,zD q=0:=by
  unfold jD at hP;split at hP
  · cases hP
  · exact jbs hP
 have hp':zD { p with node:=n.name }=0:=jjJ hp (jd5 (hnodes n hm));have hP':jD (Ju s { p with node:=n.name }).pods=0:=by
  have e1:=jdI (s:=s) { p with node:=n.name };have e2:=X9 s p.name;unfold jD;rw[if_neg (by
   have e3:(Ju s { p with node:=n.name }).pods.length=(zC s p.name).pods.length+1:=e1;omega)]
  refine jhX (jhs hs.asc _) (fun q hq=>?_) fun q hq=>by cases hq
  rcases ins_mem hq with rfl | hq
  · exact hp'
  · exact hpods q (Zj hq)
 have hpl:jA s.nodes (Ju s { p with node:=n.name }).pods=0:=jd7 fun q hq hn=>by
  rcases ins_mem hq with rfl | hq
  · show (jl s.nodes n.name).isSome=true;have:jl s.nodes n.name=some n:=hf;rw[this];rfl
  · exact jeo hs.parts.places q (Zj hq) hn
 have hneed:∀q ∈ (Ju s { p with node:=n.name }).pods,zK q.need:=fun q hq9=>by
  rcases ins_mem hq9 with rfl | hq9
  · exact hq
  · exact hs.need q (Zj hq9)
 have hro:jM (Ju s { p with node:=n.name }).pods s.nodes=0:=jf6 fun k hk=>by
  obtain⟨u,h1,-,-,h2⟩:=jk4 (x:=k.name) (l:=(Ju s { p with node:=n.name }).pods) (hs.cap k hk) hneed fun m=>by
   show Jj k.name (JY { p with node:=n.name } (zc p.name s.pods)) m≤_;rw[jfV];by_cases e:k.name=n.name
   · have hkn:k=n:=by
      have e1:=hs.parts.jl hk;rw[e] at e1;have e2:jl s.nodes n.name=some n:=hf;rw[e2] at e1;exact(Option.some.inj e1).symm
     subst hkn;have e3:Zi k.name { p with node:=k.name } m=Vec.jh p.need m:=by unfold Zi;rw[if_pos (zh _)]
     have:=h5 m;have h6:Jj k.name (zc p.name s.pods) m+Vec.jh p.need m≤Vec.jh k.cap m:=this;omega
   · have e3:Zi k.name { p with node:=n.name } m=0:=by unfold Zi;rw[if_neg fun g=>e (jR.1 g).symm]
     have h7:=hs.sum hk m;have h8:=jme (x:=k.name) (y:=p.name) s.pods hs.need m;omega
  exact⟨u,h1,h2⟩
 have ho:or3 (jI s.nodes) (jD (Ju s { p with node:=n.name }).pods) (jH s.buds)=0:=by rw[hN,hP',hB];rfl
 exact(qM (nl:=s.nodes) (pl:=(Ju s { p with node:=n.name }).pods) (bl:=s.buds) ho hpl hro).trans hs.parts.tot
def jeY (s:Clu) (w:World) (e:Ending) (w':World):Prop:=∃y,e=.returned y∧jC w' y s∧Kept w w'
theorem jnE {v u:Value} {s:Clu} {p:Pd} {w:World} (h:jC w v s) (g:ja7 w u p) (hl:jE s) (hp:JP p):Calls Tryz.prog 264 #[v,u] w (jeY (Ju s p) w):=by
 obtain⟨v1,v2,v3,rfl,⟨a,cap,rfl,l1,m1,h1⟩,⟨b,cp,rfl,l2,m2,h2⟩,⟨d,cb,rfl,l3,m3,h3⟩⟩:=h;obtain⟨u1,u2,u3,u4,rfl,hat⟩:=g;have g1:=hat.need;have g2:=hat.labels;have g3:=hat.sel;have g4:=hat.tols;obtain⟨b1,d1,rfl,-,-,-⟩:=g1;obtain⟨b2,d2,rfl,-,-,-⟩:=g2;obtain⟨b3,d3,rfl,-,-,-⟩:=g3;obtain⟨b4,d4,rfl,-,-,-⟩:=g4;refine(jk1 a b d _ cap _ cp _ cb s.nodes s.pods s.buds p b1 b2 b3 b4 _ d1 _ d2 _ d3 _ d4 w h1 h2 h3 l1 m1 l2 m2 l3 m3 hl hat hp).mono ?_;rintro e w' ⟨_,_,_,_,_,_,_,_,_,rfl,ho,kk⟩;exact⟨_,rfl,ho.toR,kk⟩
theorem jnk {v:Value} {s:Clu} {w:World} (h:jC w v s) (x:ByteArray) (hl:jE s):Calls Tryz.prog 56 #[v,.string x] w (jeY (zC s x) w):=by
 obtain⟨v1,v2,v3,rfl,⟨a,cap,rfl,l1,m1,h1⟩,⟨b,cp,rfl,l2,m2,h2⟩,⟨d,cb,rfl,l3,m3,h3⟩⟩:=h;refine(jcG a b d _ cap _ cp _ cb s.nodes s.pods s.buds x w h1 h2 h3 l1 m1 l2 m2 l3 m3 hl).mono ?_;rintro e w' ⟨_,_,_,_,_,_,_,_,_,rfl,ho,kk⟩;exact⟨_,rfl,ho.toR,kk⟩
theorem jmi {a:Option Addr} {n c:Nat} {l:List Pd} {w:World} (h:Jo w (.slice a n c) l):jy w a n l:=by
 obtain⟨a',cap',e,_,_,h⟩:=h
 cases e
 exact h
theorem jmF {s:Clu} {p:Pd} (h:jE s) (hp:JP p) (hn:s.pods.length≤1000):jE (Ju s p) :=
 ⟨h.nodes,fun q hq=>by rcases ins_mem hq with rfl | hq;exact hp;exact h.pods q (Zj hq),h.buds,h.nodesN,by
  have h1:=jdI (s:=s) p;have h2:=X9 s p.name;omega,h.budsN⟩
theorem jfr {s:Clu} (h:jE s) (x:ByteArray):jE (zC s x) :=
 ⟨h.nodes,fun q hq=>h.pods q (Zj hq),h.buds,h.nodesN,by
  have h2:=X9 s x;have:=h.podsN;omega,h.budsN⟩
open Go.RowKit Go.Sort
def jS (p:Pd):Bool:=zo p.node&&!p.hold
def zy (p q:Pd):Bool:=decide (Xf p q<0)
def Xw (l m:List Pd):Prop:=m.Perm (l.filter jS)∧m.Pairwise fun a b=>zy b a=false
theorem jdb {p q:Pd}:zy p q=true↔(q.prio<p.prio∨(q.prio=p.prio∧ltS p.name q.name=true)):=by
 unfold zy;rw[decide_eq_true_iff,jcv]
theorem jax {p q:Pd}:zy p q=false↔¬(q.prio<p.prio∨(q.prio=p.prio∧ltS p.name q.name=true)):=by
 rw[←Bool.not_eq_true,jdb]
theorem jbf {p q:Pd} (h:zy p q=false) (g:zy q p=false):p.name=q.name:=by
 rw[jax] at h g;have e:p.prio=q.prio:=by omega
 refine Vec.Y0 ?_ ?_
 · cases k:ltS p.name q.name with
   | false=>rfl
   | true=>exact absurd (.inr ⟨e.symm,k⟩) h
 · cases k:ltS q.name p.name with
   | false=>rfl
   | true=>exact absurd (.inr ⟨e,k⟩) g
theorem XT {x y z:Pd} (h1:zy x y=true) (h2:zy y z=true):zy x z=true:=by
 unfold zy at *;rw[decide_eq_true_iff] at *;exact jf8 h1 h2
theorem jaA {x y z:Pd} (h1:zy x y=false) (h2:zy y z=false):zy x z=false:=by
 cases e:zy x z with
 | false=>rfl
 | true =>
  cases q:zy y x with
  | true=>rw[XT q e] at h2;cases h2
  | false =>
   have hn:=jbf h1 q;rw[jax] at h1 q h2;rw[jdb] at e;rcases e with e | ⟨e1,e2⟩
   · exact absurd (.inl (by omega)) h2
   · exact absurd (.inr ⟨by omega,by rw[←hn];exact e2⟩) h2
theorem jaE (x:Pd):zy x x=false:=by
 rw[jax,Vec.YY];rintro (h | ⟨-,h⟩)
 · omega
 · cases h
theorem qE {l:List Pd} (h:Asc l) {p q:Pd} (hp:p ∈ l) (hq:q ∈ l) (e:p.name=q.name):p=q:=by
 have h1:=jaa h hp;have h2:=jaa h hq;rw[e,h2] at h1;exact(Option.some.inj h1).symm
theorem Xw.unique {l m k:List Pd} (ha:Asc l) (h:Xw l m) (g:Xw l k):m=k :=
 List.Perm.eq_of_pairwise (fun a b h1 h2 e1 e2=>qE ha (List.mem_filter.1 (h.1.mem_iff.1 h1)).1 (List.mem_filter.1 (g.1.mem_iff.1 h2)).1 (jbf e2 e1)) h.2 g.2 (h.1.trans g.1.symm)
def zF (l:List Pd):List Pd:=(l.filter jS).mergeSort fun a b=>!zy b a
theorem jb3 (l:List Pd):Xw l (zF l):=by
 refine⟨List.mergeSort_perm _ _,?_⟩;have h:=List.pairwise_mergeSort (le:=fun a b=>!zy b a) (fun a b c h1 h2=>by
  simp only[Bool.not_eq_true'] at *;exact jaA h2 h1) (fun a b=>by
  cases e:zy b a with
  | false=>rfl
  | true =>
   cases q:zy a b with
   | false=>rfl
   | true=>have:=XT e q;rw[jaE b] at this;cases this) (l.filter jS)
 exact h.imp fun {a b} g=>by simpa using g
theorem jau {l m:List Pd} (ha:Asc l) (h:Xw l m):m=zF l:=h.unique ha (jb3 l)
theorem jed {l:List Pd} {p:Pd}:p ∈ zF l↔p ∈ l∧jS p=true:=by rw[(jb3 l).1.mem_iff,List.mem_filter]
theorem jbl (l:List Pd):(zF l).length=(l.filter jS).length:=(jb3 l).1.length_eq
theorem qG (l:List Pd):(zF l).length≤l.length:=by rw[jbl];exact List.length_filter_le _ _
def ja4 (s:Clu) (p:Pd) (pack:Bool):Option ByteArray:=((zO s p s.nodes).mergeSort fun a b=>!YT s p pack b a).head?
theorem jbz (s:Clu) (p:Pd) (pack:Bool):qh s p pack ((zO s p s.nodes).mergeSort fun a b=>!YT s p pack b a):=by
 refine⟨List.mergeSort_perm _ _,?_⟩;have h:=List.pairwise_mergeSort (le:=fun a b=>!YT s p pack b a) (fun a b c h1 h2=>by
  simp only[Bool.not_eq_true'] at *;exact jaz h2 h1) (fun a b=>by
  cases e:YT s p pack b a with
  | false=>rfl
  | true =>
   cases q:YT s p pack a b with
   | false=>rfl
   | true=>have:=XP e q;rw[jaD] at this;cases this) (zO s p s.nodes)
 exact h.imp fun {a b} g=>by simpa using g
theorem jjZ {s:Clu} {p:Pd} {pack:Bool} {l:List ByteArray} (h:qh s p pack l):l.head?=ja4 s p pack:=by
 unfold ja4;rw[h.unique (jbz s p pack)]
theorem jfH {s:Clu} {p:Pd} {pack:Bool}:ja4 s p pack=none↔zO s p s.nodes=[]:=by
 unfold ja4;rw[List.head?_eq_none_iff];constructor
 · intro h;have:=(jbz s p pack).1;rw[h] at this;exact List.Perm.eq_nil this.symm
 · intro h;have:=(jbz s p pack).1;rw[h] at this;rw[h];exact List.Perm.eq_nil this
theorem jmH {s:Clu} {p:Pd} {pack:Bool} {x:ByteArray} (h:ja4 s p pack=some x):x ∈ zO s p s.nodes :=
 (jbz s p pack).1.mem_iff.1 (List.mem_of_head? h)
def Yf (s:Clu) (pack:Bool):List Pd→Option (ByteArray×ByteArray)
 | []=>none
 | p::t=>match ja4 s p pack with
  | some x=>some (p.name,x)
  | none=>Yf s pack t
def nextS (s:Clu) (pack:Bool):Option (ByteArray×ByteArray):=Yf s pack (zF s.pods)
theorem jga {s:Clu} {pack:Bool} {x t:ByteArray}:∀{l:List Pd},Yf s pack l=some (x,t)→∃p ∈ l,p.name=x∧ja4 s p pack=some t
 | [],h=>by cases h
 | p::l,h=>by
  rw[Yf] at h;split at h
  · rename_i y e;obtain⟨rfl,rfl⟩:=Prod.mk.inj (Option.some.inj h);exact⟨p,by simp,rfl,e⟩
  · obtain⟨q,hq,e⟩:=jga h;exact⟨q,by simp[hq],e⟩
theorem XN {s:Clu} {pack:Bool} {x t:ByteArray} (h:nextS s pack=some (x,t)):∃p ∈ s.pods,jS p=true∧p.name=x∧t ∈ zO s p s.nodes:=by
 obtain⟨p,hp,e,c⟩:=jga h;obtain⟨h1,h2⟩:=jed.1 hp;exact⟨p,h1,h2,e,jmH c⟩
theorem jf9 {p:Pd} {y:ByteArray}:∀{l:List Pd},Asc l→p ∈ l→Jn p.name y l=JY { p with node:=y } (zc p.name l)
 | [],_,h=>by cases h
 | q::r,ha,h=>by
  obtain⟨h1,h2⟩:=List.pairwise_cons.1 ha;rw[Jn,zc];by_cases e:eqS q.name p.name=true
  · rw[if_pos e,if_pos e];have hq:q=p:=qE ha (by simp) h (jR.1 e);subst hq
    cases r with
    | nil=>rfl
    | cons z r=>rw[JY,if_pos (by exact h1 z (by simp))]
  · rw[if_neg e,if_neg e];have hp:p ∈ r:=(List.mem_cons.1 h).resolve_left fun g=>e (by rw[g];exact zh _);have hlt:¬ltS p.name q.name=true:=fun g'=>absurd (Vec.Ja (h1 p hp) g') (by rw[Vec.YY];decide);rw[JY,if_neg (by exact hlt),jf9 h2 hp]
theorem jaN {p:Pd} {y:ByteArray} (hr:jS p=true) (hy:zo y=false):∀{l:List Pd},Asc l→p ∈ l→((Jn p.name y l).filter jS).length+1=(l.filter jS).length
 | [],_,h=>by cases h
 | q::r,ha,h=>by
  obtain⟨h1,h2⟩:=List.pairwise_cons.1 ha;rw[Jn];by_cases e:eqS q.name p.name=true
  · rw[if_pos e];have hq:q=p:=qE ha (by simp) h (jR.1 e);subst hq;rw[List.filter_cons_of_neg (by unfold jS;show ¬((zo y&&!q.hold)=true);rw[hy];simp),List.filter_cons_of_pos hr];rfl
  · rw[if_neg e];have hp:p ∈ r:=(List.mem_cons.1 h).resolve_left fun g=>e (by rw[g];exact zh _);by_cases g:jS q=true
    · rw[List.filter_cons_of_pos g,List.filter_cons_of_pos g,List.length_cons,List.length_cons,jaN hr hy h2 hp]
    · rw[List.filter_cons_of_neg g,List.filter_cons_of_neg g,jaN hr hy h2 hp]
theorem X5 (x y:ByteArray):∀l:List Pd,(Jn x y l).length=l.length
 | []=>rfl
 | q::r=>by
  rw[Jn];split
  · rfl
  · rw[List.length_cons,List.length_cons,X5 x y r]
structure Je (s:Clu):Prop where
 chk:zL s=0
 sound:Sound s
 low:jE s
 few:s.pods.length≤128
theorem Je.asc {s:Clu} (h:Je s):Asc s.pods:=h.sound.asc
theorem Je.pods {s:Clu} (h:Je s):∀q ∈ s.pods,zD q=0:=by
 have hP:=h.sound.parts.pods;unfold jD at hP;split at hP
 · cases hP
 · exact jbs hP
theorem Je.nodes {s:Clu} (h:Je s):∀m ∈ s.nodes,zk m=0:=by
 have hN:=h.sound.parts.nodes;unfold jI at hN;split at hN
 · cases hN
 · exact(Xn hN).2.2
theorem jjY {x:ByteArray} (h:isName x=true):zo x=false:=by
 cases e:zo x with
 | false=>rfl
 | true =>
  have:=jR.1 (show eqS x ByteArray.empty=true from e);subst this;exact absurd h (by decide)
theorem Je.to {s:Clu} (h:Je s) {pack:Bool} {x t:ByteArray} (hn:nextS s pack=some (x,t)):zo t=false:=by
 obtain⟨p,-,-,-,ht⟩:=XN hn;obtain⟨-,n,hnn,rfl⟩:=jbd ht;exact jjY (jd5 (h.nodes n hnn))
theorem Je.bind {s:Clu} (h:Je s) {pack:Bool} {x t:ByteArray} (hn:nextS s pack=some (x,t)):Je (zY s x t):=by
 obtain⟨p,hp,-,rfl,ht⟩:=XN hn;obtain⟨hf,-⟩:=jbd ht;have e:zY s p.name t=Ju s { p with node:=t }:=by unfold zY Ju;rw[jf9 h.asc hp]
 have hd:(zC s p.name).pods.length+1=s.pods.length:=by
  have:=X9 s p.name;rw[jaa h.asc hp] at this;simpa using this
 have hc:zL (Ju s { p with node:=t })=0:=jiG h.chk h.sound (h.pods p hp) (h.sound.need p hp) (by have:=h.few;omega) hf;rw[e];have hlow:=h.low.pods p hp;refine⟨hc,⟨jcn hc,jhs h.asc _,fun q hq=>?_,h.sound.cap⟩,jmF h.low ⟨hlow.need,hlow.labels,hlow.sel,hlow.tols⟩ (by have:=h.few;omega),?_⟩
 · rcases ins_mem hq with rfl | hq
   · exact h.sound.need p hp
   · exact h.sound.need q (Zj hq)
 · have:=jdI (s:=s) { p with node:=t };have e3:(Ju s { p with node:=t }).pods.length=(zC s p.name).pods.length+1:=this;have:=h.few;omega
theorem Je.fewer {s:Clu} (h:Je s) {pack:Bool} {x t:ByteArray} (hn:nextS s pack=some (x,t)):(zF (zY s x t).pods).length+1=(zF s.pods).length:=by
 have ht:=h.to hn;obtain⟨p,hp,hr,rfl,-⟩:=XN hn;rw[jbl,jbl];exact jaN hr ht h.asc hp
def Jp (pack:Bool):Nat→Clu→List (ByteArray×ByteArray)
 | 0,_=>[]
 | n+1,s=>match nextS s pack with
  | none=>[]
  | some b=>b::Jp pack n (zY s b.1 b.2)
def goS (l:List (ByteArray×ByteArray)) (s:Clu):Clu:=l.foldl (fun s b=>zY s b.1 b.2) s
def JG (s:Clu) (pack:Bool):List (ByteArray×ByteArray):=Jp pack (zF s.pods).length s
theorem jlC (l:List (ByteArray×ByteArray)) (b:ByteArray×ByteArray) (s:Clu):goS (l++[b]) s=zY (goS l s) b.1 b.2:=by unfold goS;rw[List.foldl_append];rfl
theorem jaf (pack:Bool):∀(n:Nat) (s:Clu),(Jp pack n s).length≤n
 | 0,_=>Nat.le_refl _
 | n+1,s=>by
  rw[Jp];split
  · exact Nat.zero_le _
  · rw[List.length_cons];exact Nat.succ_le_succ (jaf pack n _)
theorem jan (pack:Bool):∀{n:Nat} {s:Clu} {k:Nat},Je s→k≤(Jp pack n s).length→Je (goS ((Jp pack n s).take k) s)∧(k<n→nextS (goS ((Jp pack n s).take k) s) pack=(Jp pack n s)[k]?)∧(zF (goS ((Jp pack n s).take k) s).pods).length+k=(zF s.pods).length
 | 0,s,k,h,hk=>by
  have e:k=0:=by rw[Jp] at hk;simpa using hk
  subst e;exact⟨by simpa [goS] using h,fun h=>absurd h (by omega),rfl⟩
 | n+1,s,0,h,hk=>by
  refine⟨by simpa [goS] using h,fun _=>?_,rfl⟩;show nextS s pack=_;rw[Jp]
  cases nextS s pack<;>rfl
 | n+1,s,k+1,h,hk=>by
  rw[Jp] at hk ⊢
  cases e:nextS s pack with
  | none=>rw[e] at hk;simp at hk
  | some b =>
   rw[e] at hk;obtain⟨x,t⟩:=b;have ih:=jan pack (n:=n) (k:=k) (h.bind e) (by simpa using hk);have hf:=h.fewer e;simp only[List.take_succ_cons,List.getElem?_cons_succ];have eg:∀l,goS ((x,t)::l) s=goS l (zY s x t):=fun l=>rfl;rw[eg];exact⟨ih.1,fun hk=>ih.2.1 (by omega),by have:=ih.2.2;omega⟩
theorem jkj {s:Clu} {pack:Bool} (h:(zF s.pods).length=0):nextS s pack=none:=by
 unfold nextS;rw[List.length_eq_zero_iff.1 h];rfl
theorem jb8 {s:Clu} (h:Je s) (pack:Bool) {k:Nat} (hk:k≤(JG s pack).length):nextS (goS ((JG s pack).take k) s) pack=(JG s pack)[k]?:=by
 have hl:=jaf pack (zF s.pods).length s;obtain⟨h1,h2,h3⟩:=jan pack h hk;by_cases e:k<(zF s.pods).length
 · exact h2 e
 · have e2:k=(zF s.pods).length:=by unfold JG at hk;omega
   rw[List.getElem?_eq_none (by unfold JG;omega)];exact jkj (by unfold JG;omega)
theorem XL {s:Clu} (h:Je s) (pack:Bool) {k:Nat} (hk:k≤(JG s pack).length):Je (goS ((JG s pack).take k) s):=(jan pack h hk).1
theorem jma {s:Clu} (h:Je s) (pack:Bool):(zF (goS (JG s pack) s).pods).length+(JG s pack).length=(zF s.pods).length:=by
 have:=(jan pack (n:=(zF s.pods).length) h (Nat.le_refl _)).2.2;rwa [List.take_of_length_le (Nat.le_refl _)] at this
theorem jb9 {l:List (ByteArray×ByteArray)} {s:Clu} {k:Nat} {b:ByteArray×ByteArray} (h:l[k]?=some b):goS (l.take (k+1)) s=zY (goS (l.take k) s) b.1 b.2:=by
 rw[List.take_add_one,h];exact jlC _ _ _
theorem jmK (l:List (ByteArray×ByteArray)) (s:Clu):(goS l s).pods.length=s.pods.length:=by
 unfold goS
 induction l generalizing s with
 | nil=>rfl
 | cons b l ih=>rw[List.foldl_cons,ih];exact X5 _ _ _
def joG (o:Option Nod) (w:World) (e:Ending) (w':World):Prop:=(∀n,o=some n→∃b1 k1 d1 b2 k2 d2 b3 k3 d3,e=.returned (zi n (.slice b1 k1 d1) (.slice b2 k2 d2) (.slice b3 k3 d3))∧zr w' (.slice b1 k1 d1) (.slice b2 k2 d2) (.slice b3 k3 d3) n)∧(o=none→e=.panicked [zw 3])∧Kept w w'
theorem X4 (c:Int) (w:World):Calls Tryz.prog 153 #[.bool false,.int .i64 c] w fun e w'=>e=.returned (.tuple #[])∧w=w':=by
 go_enter Tryz.func153,Tryz.ntmps153;go_wp2;refine⟨rfl,.tuple #[],by simp[results,Tryz.results153,go_sem],?_⟩;exact⟨rfl,rfl⟩
theorem XA (c:Int) (w:World):Calls Tryz.prog 153 #[.bool true,.int .i64 c] w fun e w'=>e=.panicked [zw c]∧w=w':=by
 go_enter Tryz.func153,Tryz.ntmps153;go_wp2;exact⟨rfl,rfl,rfl⟩
theorem jgZ (s1 s2 s3:Option Addr) (n1 e1 n2 e2 n3 e3:Nat) (nodes:List Nod) (name:ByteArray) (w:World) (hn:jo w s1 n1 nodes) (hb1:n1≤100000) :
 Calls Tryz.prog 152 #[.agg #[.slice s1 n1 e1,.slice s2 n2 e2,.slice s3 n3 e3],.string name] w (joG (jl nodes name) w):=by
 obtain⟨Z,hZ⟩:=eX ((w.alloc (.cells #[.slice s1 n1 e1,.slice s2 n2 e2,.slice s3 n3 e3] 26)).alloc (.cells #[.string ⟨#[]⟩,.slice none 0 0,.slice none 0 0,.slice none 0 0,.bool false] 78))
 have hkz:Kept w Z:=by rw[←hZ];exact jn _ _ _
 have Vw:=lH (jc w (.slice s1 n1 e1) [.slice s2 n2 e2,.slice s3 n3 e3] 26 Z (by rw[←hZ];exact ja _ _));have hyb:jf (w.heap.size+1) [.string ⟨#[]⟩,.slice none 0 0,.slice none 0 0,.slice none 0 0,.bool false] Z:=by
  have dd:=jc (w.alloc (.cells #[.slice s1 n1 e1,.slice s2 n2 e2,.slice s3 n3 e3] 26)) (.string ⟨#[]⟩) [.slice none 0 0,.slice none 0 0,.slice none 0 0,.bool false] 78 Z (by rw[hZ];exact Kept.refl _);rw[World.size_alloc] at dd;exact dd
 obtain⟨T0,HN,VR,Vc⟩:=lH4 hyb hn hn.1 hkz;clear hn hkz hyb;go_enter Tryz.func152,Tryz.ntmps152;have y0:=Vw.out.at_ 0 _ rfl;go_upto_region 1 with fail
 try rw[hZ]
 clear hZ;go_wp2;clear y0;go_loopw [10] (fun i wr=>∃k:Nat,k≤n1∧i=.int .i64 k∧jl (nodes.drop k) name=jl nodes name∧Kept Z wr) (fun i _=>n1-(intOf i).toNat)
 case atStart=>exact⟨0,Nat.zero_le _,rfl,rfl,Kept.refl _⟩
 case round =>
  obtain⟨k,hk,rfl,hR,hK⟩:=hrel;obtain⟨HR,HK,Uo⟩:=lH3 hR (Vc.out.trans hK) hK;by_cases hlt:k<n1
  · obtain⟨g,off,rfl⟩:=HN.out.form.resolve_left (by omega);obtain⟨n,b1,k1,d1,b2,k2,d2,b3,k3,d3,hn,hd,hb,u0,u1,u2,u3,u4,hat⟩:=HN.out.at_ hlt;have VH:=lH hat;have HD:=lH hd;have u0:=cell_later HK.out u0;have u1:=cell_later HK.out u1;have u2:=cell_later HK.out u2;have u3:=cell_later HK.out u3;have u4:=cell_later HK.out u4;have hkk:(k:Int)<(n1:Int):=by omega
    have hk0:¬(k:Int)<0:=by omega
    obtain⟨wx,hwx⟩:=eX (wr.alloc (.cells #[.string n.name,.slice b1 k1 d1,.slice b2 k2 d2,.slice b3 k3 d3,.bool n.cordon] 78))
    have hkx:Kept wr wx:=by rw[←hwx];exact ja _ _
    have Vt:=lH (jc wr (.string n.name) [.slice b1 k1 d1,.slice b2 k2 d2,.slice b3 k3 d3,.bool n.cordon] 78 wx (by rw[hwx];exact Kept.refl _));obtain⟨bq,hbq⟩:=eX (wr.heap.size)
    rw[hbq] at Vt;have KX:=lH hkx;go_upto_region 4 with fail
    try rw[hwx]
    try rw[hbq]
    clear hwx hbq hd hb hn hR hK hkx hk0 hkk hat u0 u1 u2 u3 u4;obtain⟨t0,t1,t2,t3,t4⟩:=Vt.out.at5;obtain⟨t,ht⟩:=eX ((n.name.toList==name.toList))
    have HT:=lH (show eqS n.name name=t from ht)
    cases t with
    | false =>
     have HX:=lH (show jl (nodes.drop (k+1)) name=jl nodes name by rw[←HR.out,HD.out];unfold jl;rw[List.find?_cons,HT.out]);go_wp2;go_roundw
     case rel=>exact⟨k+1,by omega,by go_num,HX.out,Uo.out.trans KX.out⟩
     case measure=>simp[intOf];omega
    | true =>
     have HX:=lH (show jl nodes name=some n by rw[←HR.out,HD.out];unfold jl;rw[List.find?_cons,HT.out]);have VW:=lH (T0.out.kept (Uo.out.trans KX.out));obtain⟨z0,z1,z2,z3,z4⟩:=VW.out.at5;have f0:=VW.out.free 0;have f1:=VW.out.free 1;have f2:=VW.out.free 2;have f3:=VW.out.free 3;have f4:=VW.out.free 4;have P:=lH (ZD ⟨z0,z1,z2,z3,z4⟩ n.name b1 b2 b3 k1 d1 k2 d2 k3 d3 n.cordon);go_wp2;obtain⟨WE,hWE⟩:=eX ((((((wx.setCell ⟨w.heap.size+1,0,none⟩ (.string n.name)).setCell ⟨w.heap.size+1,1,none⟩ (.slice b1 k1 d1)).setCell ⟨w.heap.size+1,2,none⟩ (.slice b2 k2 d2)).setCell ⟨w.heap.size+1,3,none⟩ (.slice b3 k3 d3)).setCell ⟨w.heap.size+1,4,none⟩ (.bool n.cordon)))
     rw[hWE] at P ⊢;clear hWE z0 z1 z2 z3 z4 t0 t1 t2 t3 t4 f0 f1 f2 f3 f4;obtain⟨⟨d0,d1,d2,d3,d4⟩,hsz,hbl,hkp⟩:=P.out;refine bodyPost_ret (by simp[results,Tryz.results152,go_sem,d0,d1,d2,d3,d4];try rfl) rfl ?_;have KE:=hkp _ _ (Nat.le_succ _) (HK.out.trans KX.out);refine⟨fun m e=>?_,fun e=>?_,KE⟩
     · rw[HX.out] at e;cases e;exact⟨_,_,_,_,_,_,_,_,_,rfl,VH.out.kept KE⟩
     · rw[HX.out] at e;cases e
  · have hge:¬(k:Int)<(n1:Int):=by omega
    have HO:=lH (show jl nodes name=none by rw[←HR.out,List.drop_of_length_le (by rw[VR.out];omega)];rfl);clear hR hK;go_wp2;exact⟨rfl,(fun m e=>by rw[HO.out] at e;cases e),(fun _=>rfl),HK.out⟩
theorem jd3 {r:Int×Vec.V} {w w':World} {e:Ending} (h:Vec.Xb r w e w'):Y6 r w e w':=by
 obtain⟨v,e,h,k⟩:=h;exact⟨v,e,h.at_,k⟩
theorem jof {v:Value} {s:Clu} {w:World} (h:jC w v s) (x:ByteArray) (hl:jE s):Calls Tryz.prog 295 #[v,.string x] w (Y6 (JU s x) w):=by
 obtain⟨v1,v2,v3,rfl,⟨a,cap,rfl,l1,m1,h1⟩,⟨b,cp,rfl,l2,m2,h2⟩,⟨d,cb,rfl,l3,m3,h3⟩⟩:=h;exact(jkZ a b d _ cap _ cp _ cb s.nodes s.pods x w h1 h2 hl.nodes).mono fun _ _ h=>jd3 h
theorem jon {v:Value} {s:Clu} {w:World} (h:jC w v s) (x:ByteArray) (hl:jE s):Calls Tryz.prog 195 #[v,.string x] w (Y6 (ZQ s x) w):=by
 obtain⟨v1,v2,v3,rfl,⟨a,cap,rfl,l1,m1,h1⟩,⟨b,cp,rfl,l2,m2,h2⟩,⟨d,cb,rfl,l3,m3,h3⟩⟩:=h;exact(jkN a b d _ cap _ cp _ cb s.nodes s.pods x w h1 h2 hl.nodes).mono fun _ _ h=>jd3 h
theorem onR {v:Value} {s:Clu} {w:World} (h:jC w v s) (x:ByteArray) (hl:jE s):Calls Tryz.prog 282 #[v,.string x] w fun e w'=>∃y,e=.returned y∧Jo w' y (onP x s.pods)∧Kept w w':=by
 obtain⟨v1,v2,v3,rfl,⟨a,cap,rfl,l1,m1,h1⟩,⟨b,cp,rfl,l2,m2,h2⟩,⟨d,cb,rfl,l3,m3,h3⟩⟩:=h;exact jlV b a d _ cp _ cap _ cb s.pods x w h2 hl.pods hl.podsN
theorem jC.nAt {w:World} {v2 v3:Value} {b:Option Addr} {m cp:Nat} {s:Clu} (h:jC w (Jk (.slice b m cp) v2 v3) s):jo w b m s.nodes∧m=s.nodes.length:=by
 obtain⟨_,_,_,e,g0⟩:=h
 cases e
 obtain⟨a',cap',e,_,_,h⟩:=g0.nodes
 cases e
 exact⟨h,rfl⟩
theorem jC.pAt {w:World} {v1 v3:Value} {b:Option Addr} {m cp:Nat} {s:Clu} (h:jC w (Jk v1 (.slice b m cp) v3) s):jy w b m s.pods∧m=s.pods.length:=by
 obtain⟨_,_,_,e,g0⟩:=h
 cases e
 obtain⟨a',cap',e,_,_,h⟩:=g0.pods
 cases e
 exact⟨h,rfl⟩
theorem je3 (p:Pd) (n:Nod) (a1 a2 a3 a4:Option Addr) (m1 c1 m2 c2 m3 c3 m4 c4:Nat) (b1 b2 b3:Option Addr) (k1 d1 k2 d2 k3 d3:Nat) (w:World) (hp:ji w (.slice a1 m1 c1) (.slice a2 m2 c2) (.slice a3 m3 c3) (.slice a4 m4 c4) p) (hn:zr w (.slice b1 k1 d1) (.slice b2 k2 d2) (.slice b3 k3 d3) n):Calls Tryz.prog 154 #[jx p (.slice a1 m1 c1) (.slice a2 m2 c2) (.slice a3 m3 c3) (.slice a4 m4 c4),zi n (.slice b1 k1 d1) (.slice b2 k2 d2) (.slice b3 k3 d3)] w (Say (.bool (Za p n)) w):=by
 obtain⟨t,ht⟩:=eX (ZU p.sel n.labels)
 have Uw:=lH (fun (W:World) (k:Kept w W)=>jnW (hp.sel.kept k) (hn.labels.kept k) ht);obtain⟨cd,hcd⟩:=eX (n.cordon)
 have HV:=lH (show Za p n=(!cd&&t) by unfold Za;rw[ht,hcd]);clear ht;obtain⟨Z,hZ⟩:=eX ((w.alloc (.cells #[.string p.name,.string p.owner,.int .i64 p.prio,.slice a1 m1 c1,.slice a2 m2 c2,.slice a3 m3 c3,.slice a4 m4 c4,.string p.key,.int .i64 p.most,.string p.node,.bool p.hold] 52)).alloc (.cells #[.string n.name,.slice b1 k1 d1,.slice b2 k2 d2,.slice b3 k3 d3,.bool cd] 78))
 have hkz:Kept w Z:=by rw[←hZ];exact jn _ _ _
 have Vj:=lH (jc w (.string p.name) [.string p.owner,.int .i64 p.prio,.slice a1 m1 c1,.slice a2 m2 c2,.slice a3 m3 c3,.slice a4 m4 c4,.string p.key,.int .i64 p.most,.string p.node,.bool p.hold] 52 Z (by rw[←hZ];exact ja _ _));have Vg:=lH (show jf (w.heap.size+1) [.string n.name,.slice b1 k1 d1,.slice b2 k2 d2,.slice b3 k3 d3,.bool cd] Z by
  have dd:=jc (w.alloc (.cells #[.string p.name,.string p.owner,.int .i64 p.prio,.slice a1 m1 c1,.slice a2 m2 c2,.slice a3 m3 c3,.slice a4 m4 c4,.string p.key,.int .i64 p.most,.string p.node,.bool p.hold] 52)) (.string n.name) [.slice b1 k1 d1,.slice b2 k2 d2,.slice b3 k3 d3,.bool cd] 78 Z (by rw[hZ];exact Kept.refl _);rw[World.size_alloc] at dd;exact dd)
 have K:=lH hkz;have HM:=lH (Uw.out Z hkz);clear Uw hp hn hkz;have r5:=Vj.out.at_ 5 _ rfl;have q2:=Vg.out.at_ 2 _ rfl;have q4:=Vg.out.at_ 4 _ rfl;unfold jx zi;rw[hcd];clear hcd;go_enter Tryz.func154,Tryz.ntmps154
 cases cd with
 | true =>
  go_wp2;try rw[hZ]
  go_ret;exact⟨jd (by rw[HV.out];rfl),by first | exact K.out | (rw[hZ];exact K.out)⟩
 | false =>
  go_wp2_with fail
  try rw[hZ]
  refine HM.out.mono ?_;rintro e w1 ⟨rfl,kk⟩;have K:=lH (K.out.trans kk);clear kk hZ;go_wp2;go_ret;exact⟨jd (by rw[HV.out];rfl),K.out⟩
theorem jgS (p:Pd) (n:Nod) (a1 a2 a3 a4:Option Addr) (m1 c1 m2 c2 m3 c3 m4 c4:Nat) (b1 b2 b3:Option Addr) (k1 d1 k2 d2 k3 d3:Nat) (w:World) (hp:ji w (.slice a1 m1 c1) (.slice a2 m2 c2) (.slice a3 m3 c3) (.slice a4 m4 c4) p) (hn:zr w (.slice b1 k1 d1) (.slice b2 k2 d2) (.slice b3 k3 d3) n):Calls Tryz.prog 155 #[jx p (.slice a1 m1 c1) (.slice a2 m2 c2) (.slice a3 m3 c3) (.slice a4 m4 c4),zi n (.slice b1 k1 d1) (.slice b2 k2 d2) (.slice b3 k3 d3)] w (Say (.bool (ZZ p n)) w):=by
 obtain⟨t,ht⟩:=eX ((Jh p.tols n.taints).isSome)
 obtain⟨⟨x,y,mm⟩,hx⟩:∃x,wT (Jh p.tols n.taints)=x:=⟨_,rfl⟩
 have Uw:=lH (fun (W:World) (k:Kept w W)=>jnZ (hp.tols.kept k) (hn.taints.kept k) hx ht);have HV:=lH (show ZZ p n=(!t) by unfold ZZ;rw[ht]);clear ht hx;obtain⟨Z,hZ⟩:=eX ((w.alloc (.cells #[.string p.name,.string p.owner,.int .i64 p.prio,.slice a1 m1 c1,.slice a2 m2 c2,.slice a3 m3 c3,.slice a4 m4 c4,.string p.key,.int .i64 p.most,.string p.node,.bool p.hold] 52)).alloc (.cells #[.string n.name,.slice b1 k1 d1,.slice b2 k2 d2,.slice b3 k3 d3,.bool n.cordon] 78))
 have hkz:Kept w Z:=by rw[←hZ];exact jn _ _ _
 have Vj:=lH (jc w (.string p.name) [.string p.owner,.int .i64 p.prio,.slice a1 m1 c1,.slice a2 m2 c2,.slice a3 m3 c3,.slice a4 m4 c4,.string p.key,.int .i64 p.most,.string p.node,.bool p.hold] 52 Z (by rw[←hZ];exact ja _ _));have Vg:=lH (show jf (w.heap.size+1) [.string n.name,.slice b1 k1 d1,.slice b2 k2 d2,.slice b3 k3 d3,.bool n.cordon] Z by
  have dd:=jc (w.alloc (.cells #[.string p.name,.string p.owner,.int .i64 p.prio,.slice a1 m1 c1,.slice a2 m2 c2,.slice a3 m3 c3,.slice a4 m4 c4,.string p.key,.int .i64 p.most,.string p.node,.bool p.hold] 52)) (.string n.name) [.slice b1 k1 d1,.slice b2 k2 d2,.slice b3 k3 d3,.bool n.cordon] 78 Z (by rw[hZ];exact Kept.refl _);rw[World.size_alloc] at dd;exact dd)
 have K:=lH hkz;have HM:=lH (Uw.out Z hkz);clear Uw hp hn hkz;have r6:=Vj.out.at_ 6 _ rfl;have q3:=Vg.out.at_ 3 _ rfl;unfold jx zi;go_enter Tryz.func155,Tryz.ntmps155;go_wp2_with fail
 try rw[hZ]
 refine HM.out.mono ?_;rintro e w1 ⟨rfl,kk⟩;have K:=lH (K.out.trans kk);clear kk hZ;go_wp2;go_ret;exact⟨jd (by rw[HV.out]),K.out.trans (ja _ _)⟩
theorem jeL (s1 s2 s3:Option Addr) (n1 e1 n2 e2 n3 e3:Nat) (a1 a2 a3 a4:Option Addr) (m1 c1 m2 c2 m3 c3 m4 c4:Nat) (p:Pd) (s:Clu) (name:ByteArray) (w:World) (hs:jC w (Jk (.slice s1 n1 e1) (.slice s2 n2 e2) (.slice s3 n3 e3)) s) (hl:jE s):Calls Tryz.prog 156 #[.agg #[.slice s1 n1 e1,.slice s2 n2 e2,.slice s3 n3 e3],jx p (.slice a1 m1 c1) (.slice a2 m2 c2) (.slice a3 m3 c3) (.slice a4 m4 c4),.string name] w (Say (.bool (ZE s p name)) w):=by
 have hn1:=hs.nAt.2;have hn2:=hs.pAt.2;have g1:=hl.nodesN;have g2:=hl.podsN;obtain⟨Z,hZ⟩:=eX ((w.alloc (.cells #[.slice s1 n1 e1,.slice s2 n2 e2,.slice s3 n3 e3] 26)).alloc (.cells #[.string p.name,.string p.owner,.int .i64 p.prio,.slice a1 m1 c1,.slice a2 m2 c2,.slice a3 m3 c3,.slice a4 m4 c4,.string p.key,.int .i64 p.most,.string p.node,.bool p.hold] 52))
 have hkz:Kept w Z:=by rw[←hZ];exact jn _ _ _
 have Vj:=lH (jc w (.slice s1 n1 e1) [.slice s2 n2 e2,.slice s3 n3 e3] 26 Z (by rw[←hZ];exact ja _ _));have Vg:=lH (show jf (w.heap.size+1) [.string p.name,.string p.owner,.int .i64 p.prio,.slice a1 m1 c1,.slice a2 m2 c2,.slice a3 m3 c3,.slice a4 m4 c4,.string p.key,.int .i64 p.most,.string p.node,.bool p.hold] Z by
  have dd:=jc (w.alloc (.cells #[.slice s1 n1 e1,.slice s2 n2 e2,.slice s3 n3 e3] 26)) (.string p.name) [.string p.owner,.int .i64 p.prio,.slice a1 m1 c1,.slice a2 m2 c2,.slice a3 m3 c3,.slice a4 m4 c4,.string p.key,.int .i64 p.most,.string p.node,.bool p.hold] 52 Z (by rw[hZ];exact Kept.refl _);rw[World.size_alloc] at dd;exact dd)
 have K:=lH hkz;have HS:=lH (jl7 s1 s2 s3 a1 a2 a3 a4 n1 e1 n2 e2 n3 e3 m1 c1 m2 c2 m3 c3 m4 c4 p s name Z (hs.nAt.1.kept hkz) (hs.pAt.1.kept hkz) (by omega) (by omega));clear hs hkz hl hn1 hn2 g1 g2;obtain⟨t7,h7⟩:=eX ((p.key.toList==([]:List UInt8)))
 have H7:=lH (show zo p.key=t7 by rw[JW,h7]);obtain⟨y0,y1,y2⟩:=Vj.out.at3;obtain⟨r0,r1,r2,r3,r4,r5,r6,r7,r8,r9,r10⟩:=Vg.out.at11;unfold jx at HS ⊢;go_enter Tryz.func156,Tryz.ntmps156
 cases t7 with
 | true =>
  have HV:=lH (show ZE s p name=false by unfold ZE;rw[if_pos H7.out]);go_wp2;try rw[hZ]
  go_ret;exact⟨jd HV.out.symm,by first | exact K.out | (rw[hZ];exact K.out)⟩
 | false =>
  have HV:=lH (show ZE s p name=(!(ZM p s name).2||decide (p.most<(ZM p s name).1)) by unfold ZE;rw[if_neg (by rw[H7.out];decide)]);obtain⟨z,hz⟩:=eX ((ZM p s name).1)
  obtain⟨b,hb⟩:=eX ((ZM p s name).2)
  rw[hz,hb] at HS HV;clear hz hb;go_upto_region 3 with fail
  try rw[hZ]
  clear hZ;go_wp2_with fail
  refine HS.out.mono ?_;rintro e w1 ⟨rfl,kk⟩;have K:=lH (K.out.trans kk);have r8:=(Vg.out.kept kk).at_ 8 _ rfl;clear kk y0 y1 y2 r0 r1 r2 r3 r4 r5 r6 r7 r9 r10
  cases b with
  | false =>
   go_wp2;go_ret;exact⟨jd (by rw[HV.out];rfl),K.out⟩
  | true =>
   by_cases hlt:p.most<z
   · have Rq:=lH hlt;go_wp2;go_ret;exact⟨jd (by rw[HV.out,decide_eq_true Rq.out];rfl),K.out⟩
   · have Rq:=lH hlt;have hle:z≤p.most:=by omega
     clear hlt;go_wp2;go_ret;exact⟨jd (by rw[HV.out,decide_eq_false (by have:=Rq.out;omega)];rfl),K.out⟩
theorem jgE (s1 s2 s3:Option Addr) (n1 e1 n2 e2 n3 e3:Nat) (a1 a2 a3 a4:Option Addr) (m1 c1 m2 c2 m3 c3 m4 c4:Nat) (p:Pd) (s:Clu) (name:ByteArray) (w:World) (hs:jC w (Jk (.slice s1 n1 e1) (.slice s2 n2 e2) (.slice s3 n3 e3)) s) (hl:jE s) (hp:ji w (.slice a1 m1 c1) (.slice a2 m2 c2) (.slice a3 m3 c3) (.slice a4 m4 c4) p):Calls Tryz.prog 157 #[.agg #[.slice s1 n1 e1,.slice s2 n2 e2,.slice s3 n3 e3],jx p (.slice a1 m1 c1) (.slice a2 m2 c2) (.slice a3 m3 c3) (.slice a4 m4 c4),.string name] w (Say (.bool (YZ s p name)) w):=by
 obtain⟨Z,hZ⟩:=eX ((w.alloc (.cells #[.slice s1 n1 e1,.slice s2 n2 e2,.slice s3 n3 e3] 26)).alloc (.cells #[.string p.name,.string p.owner,.int .i64 p.prio,.slice a1 m1 c1,.slice a2 m2 c2,.slice a3 m3 c3,.slice a4 m4 c4,.string p.key,.int .i64 p.most,.string p.node,.bool p.hold] 52))
 have hkz:Kept w Z:=by rw[←hZ];exact jn _ _ _
 have Vj:=lH (jc w (.slice s1 n1 e1) [.slice s2 n2 e2,.slice s3 n3 e3] 26 Z (by rw[←hZ];exact ja _ _));have Vg:=lH (show jf (w.heap.size+1) [.string p.name,.string p.owner,.int .i64 p.prio,.slice a1 m1 c1,.slice a2 m2 c2,.slice a3 m3 c3,.slice a4 m4 c4,.string p.key,.int .i64 p.most,.string p.node,.bool p.hold] Z by
  have dd:=jc (w.alloc (.cells #[.slice s1 n1 e1,.slice s2 n2 e2,.slice s3 n3 e3] 26)) (.string p.name) [.string p.owner,.int .i64 p.prio,.slice a1 m1 c1,.slice a2 m2 c2,.slice a3 m3 c3,.slice a4 m4 c4,.string p.key,.int .i64 p.most,.string p.node,.bool p.hold] 52 Z (by rw[hZ];exact Kept.refl _);rw[World.size_alloc] at dd;exact dd)
 have K:=lH hkz;have HF:=lH (jon (hs.kept hkz) name hl);unfold Jk at HF;have HP:=lH (hp.need.kept hkz);clear hs hkz hl hp;obtain⟨y0,y1,y2⟩:=Vj.out.at3;unfold jx;obtain⟨c,hc⟩:=eX ((ZQ s name).1)
 obtain⟨fl,hfl⟩:=eX ((ZQ s name).2)
 obtain⟨q,hq⟩:=eX (Vec.jB fl p.need)
 have HV:=lH (show YZ s p name=(decide (c=0)&&q) by unfold YZ;rw[hc,hfl,hq]);have HQ:=lH hq;go_enter Tryz.func157,Tryz.ntmps157;go_wp2_with fail
 try rw[hZ]
 refine HF.out.mono ?_;rintro e w1 ⟨y,rfl,hy,kk⟩;rw[hc];rw[hfl] at hy;obtain⟨HY,K,HP⟩:=lH3 hy (K.out.trans kk) (HP.out.kept kk);have r3:=(Vg.out.kept kk).at_ 3 _ rfl;clear kk hZ hc hfl hq hy HF y0 y1 y2;by_cases h0:c=0
 · subst h0;go_wp2_with fail
   refine(Vec.jil HP.out HY.out HQ.out).mono ?_;rintro e w2 ⟨rfl,kk⟩;have K:=lH (K.out.trans kk);clear kk;go_wp2;go_ret;exact⟨jd (by rw[HV.out];rfl),K.out⟩
 · have h0b:(c==0)=false:=by simpa using h0
   have H0:=lH h0;clear h0;go_wp2;go_ret;exact⟨jd (by rw[HV.out,decide_eq_false H0.out];rfl),K.out⟩
def XO (c:Int) (w:World) (e:Ending) (w':World):Prop:=(c=0→∃x i1 j1 l1 i2 j2 l2 i3 j3 l3 b,e=.returned (.agg #[.string x,.slice i1 j1 l1,.slice i2 j2 l2,.slice i3 j3 l3,.bool b]))∧(c≠0→e=.panicked [zw c])∧Kept w w'
theorem XO.bad {c d:Int} {w w':World} (h:d=c) (hc:c≠0) (k:Kept w w'):XO d w (.panicked [zw c]) w':=⟨fun g=>absurd (h.symm.trans g) hc,fun _=>by rw[h],k⟩
theorem jg7 (s1 s2 s3:Option Addr) (n1 e1 n2 e2 n3 e3:Nat) (a1 a2 a3 a4:Option Addr) (m1 c1 m2 c2 m3 c3 m4 c4:Nat) (p:Pd) (s:Clu) (name:ByteArray) (w:World) (hs:jC w (Jk (.slice s1 n1 e1) (.slice s2 n2 e2) (.slice s3 n3 e3)) s) (hl:jE s) (hp:ji w (.slice a1 m1 c1) (.slice a2 m2 c2) (.slice a3 m3 c3) (.slice a4 m4 c4) p):Calls Tryz.prog 105 #[.agg #[.slice s1 n1 e1,.slice s2 n2 e2,.slice s3 n3 e3],jx p (.slice a1 m1 c1) (.slice a2 m2 c2) (.slice a3 m3 c3) (.slice a4 m4 c4),.string name] w (XO (zW s p name) w):=by
 obtain⟨Y,hY⟩:=eX ((w.alloc (.cells #[.slice s1 n1 e1,.slice s2 n2 e2,.slice s3 n3 e3] 26)).alloc (.cells #[.string p.name,.string p.owner,.int .i64 p.prio,.slice a1 m1 c1,.slice a2 m2 c2,.slice a3 m3 c3,.slice a4 m4 c4,.string p.key,.int .i64 p.most,.string p.node,.bool p.hold] 52))
 have hky:Kept w Y:=by rw[←hY];exact jn _ _ _
 have hys:Y.heap.size=w.heap.size+2:=by rw[←hY];simp
 have hsb:=jc w (.slice s1 n1 e1) [.slice s2 n2 e2,.slice s3 n3 e3] 26 Y (by rw[←hY];exact ja _ _);have hpb:jf (w.heap.size+1) [.string p.name,.string p.owner,.int .i64 p.prio,.slice a1 m1 c1,.slice a2 m2 c2,.slice a3 m3 c3,.slice a4 m4 c4,.string p.key,.int .i64 p.most,.string p.node,.bool p.hold] Y:=by
  have dd:=jc (w.alloc (.cells #[.slice s1 n1 e1,.slice s2 n2 e2,.slice s3 n3 e3] 26)) (.string p.name) [.string p.owner,.int .i64 p.prio,.slice a1 m1 c1,.slice a2 m2 c2,.slice a3 m3 c3,.slice a4 m4 c4,.string p.key,.int .i64 p.most,.string p.node,.bool p.hold] 52 Y (by rw[hY];exact Kept.refl _);rw[World.size_alloc] at dd;exact dd
 obtain⟨Z,hZ⟩:=eX (Y.alloc (.cells #[.string ⟨#[]⟩,.slice none 0 0,.slice none 0 0,.slice none 0 0,.bool false] 78))
 have hkz:Kept Y Z:=by rw[←hZ];exact ja _ _
 have hnb:jf (w.heap.size+2) [.string ⟨#[]⟩,.slice none 0 0,.slice none 0 0,.slice none 0 0,.bool false] Z:=by
  have dd:=jc Y (.string ⟨#[]⟩) [.slice none 0 0,.slice none 0 0,.slice none 0 0,.bool false] 78 Z (by rw[hZ];exact Kept.refl _);rw[hys] at dd;exact dd
 have hYZ:((w.alloc (.cells #[.slice s1 n1 e1,.slice s2 n2 e2,.slice s3 n3 e3] 26)).alloc (.cells #[.string p.name,.string p.owner,.int .i64 p.prio,.slice a1 m1 c1,.slice a2 m2 c2,.slice a3 m3 c3,.slice a4 m4 c4,.string p.key,.int .i64 p.most,.string p.node,.bool p.hold] 52)).alloc (.cells #[.string ⟨#[]⟩,.slice none 0 0,.slice none 0 0,.slice none 0 0,.bool false] 78)=Z:=by rw[hY];exact hZ
 obtain⟨Vw,Vz,Vv,K,Ug,VY,HL,Ua⟩:=lH8 (hsb.kept hkz) (hpb.kept hkz) hnb (hky.trans hkz) (hs.kept (hky.trans hkz)) (hp.kept (hky.trans hkz)) hl (jgZ s1 s2 s3 n1 e1 n2 e2 n3 e3 s.nodes name Z ((hs.kept (hky.trans hkz)).nAt.1) (by have:=hl.nodesN;have:=hs.nAt.2;omega));clear hs hp hl hky hkz hys hsb hpb hnb hY hZ;unfold jx;obtain⟨y0,y1,y2⟩:=Vw.out.at3;go_enter Tryz.func105,Tryz.ntmps105;go_wp2_with fail
 try rw[hYZ]
 clear hYZ;refine Ua.out.mono ?_;rintro e w1 ⟨h1,h2,kk⟩;obtain⟨K,Vw,Vz,Vv,Ug,VY⟩:=lH6 (K.out.trans kk) (Vw.out.kept kk) (Vz.out.kept kk) (Vv.out.kept kk) (Ug.out.kept kk) (VY.out.kept kk);clear Ua y0 y1 y2
 cases ho:jl s.nodes name with
 | none =>
  obtain rfl:=h2 ho;have HE:=lH (show zW s p name=3 from jbY ho);clear h1 h2 ho kk;go_wp2;exact⟨rfl,XO.bad HE.out (by decide) K.out⟩
 | some n =>
  obtain⟨b1,k1,d1,b2,k2,d2,b3,k3,d3,rfl,hn⟩:=h1 n ho;have HE:=lH (show zW s p name=zX s p n name from jbX ho);clear h1 h2 ho;obtain⟨w2,hw2⟩:=eX (w1.alloc (.cells #[.string n.name,.slice b1 k1 d1,.slice b2 k2 d2,.slice b3 k3 d3,.bool n.cordon] 78))
  have kx:Kept w1 w2:=by rw[←hw2];exact ja _ _
  obtain⟨V6,V2,K,Vw,Vz,Vv,Ug,VY⟩:=lH8 (jc w1 (.string n.name) [.slice b1 k1 d1,.slice b2 k2 d2,.slice b3 k3 d3,.bool n.cordon] 78 w2 (by rw[hw2];exact Kept.refl _)) (hn.kept kx) (K.out.trans kx) (Vw.out.kept kx) (Vz.out.kept kx) (Vv.out.kept kx) (Ug.out.kept kx) (VY.out.kept kx);obtain⟨gn,hgn⟩:=eX (w1.heap.size)
  rw[hgn] at V6;clear hn kk kx;unfold zi;go_upto_region 2 with fail
  try rw[hw2]
  try rw[hgn]
  clear hw2 hgn;obtain⟨r0,r1,r2,r3,r4,r5,r6,r7,r8,r9,r10⟩:=Vz.out.at11;obtain⟨t0,t1,t2,t3,t4⟩:=V6.out.at5;obtain⟨bb,hbb⟩:=eX (Za p n)
  have HC:=lH (je3 p n a1 a2 a3 a4 m1 c1 m2 c2 m3 c3 m4 c4 b1 b2 b3 k1 d1 k2 d2 k3 d3 _ VY.out V2.out);unfold jx at HC;unfold zi at HC;rw[hbb] at HC;go_wp2_with fail
  refine HC.out.mono ?_;rintro e w3 ⟨rfl,kk⟩;obtain⟨Vh,Vw,Vz,Vv,Ug,VY,V6,V2⟩:=lH8 hbb (Vw.out.kept kk) (Vz.out.kept kk) (Vv.out.kept kk) (Ug.out.kept kk) (VY.out.kept kk) (V6.out.kept kk) (V2.out.kept kk);have K:=lH (K.out.trans kk);clear kk;clear hbb HC r0 r1 r2 r3 r4 r5 r6 r7 r8 r9 r10 t0 t1 t2 t3 t4
  cases bb with
  | false =>
   go_wp2_with fail
   refine(XA 8 _).mono ?_;rintro e w4 ⟨rfl,rfl⟩;go_wp2;exact⟨rfl,XO.bad (HE.out.trans (jb0 Vh.out)) (by decide) K.out⟩
  | true =>
   have Vj:=Vh;clear Vh;go_wp2_with fail
   refine(X4 8 _).mono ?_;rintro e w4 ⟨rfl,rfl⟩;obtain⟨r0,r1,r2,r3,r4,r5,r6,r7,r8,r9,r10⟩:=Vz.out.at11;obtain⟨t0,t1,t2,t3,t4⟩:=V6.out.at5;obtain⟨bb,hbb⟩:=eX (ZZ p n)
   have HC:=lH (jgS p n a1 a2 a3 a4 m1 c1 m2 c2 m3 c3 m4 c4 b1 b2 b3 k1 d1 k2 d2 k3 d3 _ VY.out V2.out);unfold jx at HC;unfold zi at HC;rw[hbb] at HC;go_wp2_with fail
   refine HC.out.mono ?_;rintro e w3 ⟨rfl,kk⟩;obtain⟨Vh,Vw,Vz,Vv,Ug,VY,V6,V2⟩:=lH8 hbb (Vw.out.kept kk) (Vz.out.kept kk) (Vv.out.kept kk) (Ug.out.kept kk) (VY.out.kept kk) (V6.out.kept kk) (V2.out.kept kk);have K:=lH (K.out.trans kk);clear kk;clear hbb HC r0 r1 r2 r3 r4 r5 r6 r7 r8 r9 r10 t0 t1 t2 t3 t4
   cases bb with
   | false =>
    go_wp2_with fail
    refine(XA 9 _).mono ?_;rintro e w4 ⟨rfl,rfl⟩;go_wp2;exact⟨rfl,XO.bad (HE.out.trans (jaH Vj.out Vh.out)) (by decide) K.out⟩
   | true =>
    have Vg:=Vh;clear Vh;go_wp2_with fail
    refine(X4 9 _).mono ?_;rintro e w4 ⟨rfl,rfl⟩;obtain⟨y0,y1,y2⟩:=Vw.out.at3;obtain⟨r0,r1,r2,r3,r4,r5,r6,r7,r8,r9,r10⟩:=Vz.out.at11;obtain⟨bb,hbb⟩:=eX (ZE s p name)
    have HC:=lH (jeL s1 s2 s3 n1 e1 n2 e2 n3 e3 a1 a2 a3 a4 m1 c1 m2 c2 m3 c3 m4 c4 p s name _ Ug.out HL.out);unfold jx at HC;rw[hbb] at HC;go_wp2_with fail
    refine HC.out.mono ?_;rintro e w3 ⟨rfl,kk⟩;obtain⟨Vh,Vw,Vz,Vv,Ug,VY,V6,V2⟩:=lH8 hbb (Vw.out.kept kk) (Vz.out.kept kk) (Vv.out.kept kk) (Ug.out.kept kk) (VY.out.kept kk) (V6.out.kept kk) (V2.out.kept kk);have K:=lH (K.out.trans kk);clear kk;clear hbb HC y0 y1 y2 r0 r1 r2 r3 r4 r5 r6 r7 r8 r9 r10
    cases bb with
    | true =>
     go_wp2_with fail
     refine(XA 10 _).mono ?_;rintro e w4 ⟨rfl,rfl⟩;go_wp2;exact⟨rfl,XO.bad (HE.out.trans (ja1 Vj.out Vg.out Vh.out)) (by decide) K.out⟩
    | false =>
     have TP:=Vh;clear Vh;go_wp2_with fail
     refine(X4 10 _).mono ?_;rintro e w4 ⟨rfl,rfl⟩;obtain⟨y0,y1,y2⟩:=Vw.out.at3;obtain⟨r0,r1,r2,r3,r4,r5,r6,r7,r8,r9,r10⟩:=Vz.out.at11;obtain⟨bb,hbb⟩:=eX (YZ s p name)
     have HC:=lH (jgE s1 s2 s3 n1 e1 n2 e2 n3 e3 a1 a2 a3 a4 m1 c1 m2 c2 m3 c3 m4 c4 p s name _ Ug.out HL.out VY.out);unfold jx at HC;rw[hbb] at HC;go_wp2_with fail
     refine HC.out.mono ?_;rintro e w3 ⟨rfl,kk⟩;obtain⟨Vh,Vw,Vz,Vv,Ug,VY,V6,V2⟩:=lH8 hbb (Vw.out.kept kk) (Vz.out.kept kk) (Vv.out.kept kk) (Ug.out.kept kk) (VY.out.kept kk) (V6.out.kept kk) (V2.out.kept kk);have K:=lH (K.out.trans kk);clear kk;clear hbb HC y0 y1 y2 r0 r1 r2 r3 r4 r5 r6 r7 r8 r9 r10
     cases bb with
     | false =>
      go_wp2_with fail
      refine(XA 7 _).mono ?_;rintro e w4 ⟨rfl,rfl⟩;go_wp2;exact⟨rfl,XO.bad (HE.out.trans (jaO Vj.out Vg.out TP.out Vh.out)) (by decide) K.out⟩
     | true =>
      go_wp2_with fail
      refine(X4 7 _).mono ?_;rintro e w4 ⟨rfl,rfl⟩;obtain⟨t0,t1,t2,t3,t4⟩:=V6.out.at5;obtain⟨z0,z1,z2,z3,z4⟩:=Vv.out.at5;have f0:=Vv.out.free 0;have f1:=Vv.out.free 1;have f2:=Vv.out.free 2;have f3:=Vv.out.free 3;have f4:=Vv.out.free 4;have P:=lH (ZD ⟨z0,z1,z2,z3,z4⟩ n.name b1 b2 b3 k1 d1 k2 d2 k3 d3 n.cordon);obtain⟨x9,hx9⟩:=eX (n.name)
      obtain⟨c9,hc9⟩:=eX (n.cordon)
      rw[hx9] at t0;rw[hc9] at t4;rw[hx9,hc9] at P;have NI:=lH (HE.out.trans (jja Vj.out Vg.out TP.out Vh.out));clear hx9 hc9 HE V6 V2 Ug VY;go_wp2;obtain⟨WE,hWE⟩:=eX ((((((w3.setCell ⟨w.heap.size+2,0,none⟩ (.string x9)).setCell ⟨w.heap.size+2,1,none⟩ (.slice b1 k1 d1)).setCell ⟨w.heap.size+2,2,none⟩ (.slice b2 k2 d2)).setCell ⟨w.heap.size+2,3,none⟩ (.slice b3 k3 d3)).setCell ⟨w.heap.size+2,4,none⟩ (.bool c9)))
      rw[hWE] at P ⊢;clear hWE z0 z1 z2 z3 z4 t0 t1 t2 t3 t4 f0 f1 f2 f3 f4;obtain⟨⟨q0,q1,q2,q3,q4⟩,hsz,hbl,hkp⟩:=P.out;refine bodyPost_ret (by simp[results,Tryz.results105,go_sem,q0,q1,q2,q3,q4];try rfl) rfl ?_;have KE:=hkp _ _ (by omega) K.out;exact⟨fun _=>⟨_,_,_,_,_,_,_,_,_,_,_,rfl⟩,fun g=>absurd NI.out g,KE⟩
def jm0 (c:Int) (w:World) (e:Ending) (w':World):Prop:=(∃x i1 j1 l1 i2 j2 l2 i3 j3 l3 b,e=.returned (.tuple #[.agg #[.string x,.slice i1 j1 l1,.slice i2 j2 l2,.slice i3 j3 l3,.bool b],.int .i64 c]))∧Kept w w'
theorem jiX (Q1 Q2 Q3:Nat) (s1 s2 s3:Option Addr) (n1 e1 n2 e2 n3 e3:Nat) (a1 a2 a3 a4:Option Addr) (m1 c1 m2 c2 m3 c3 m4 c4:Nat) (p:Pd) (s:Clu) (name:ByteArray) (w:World) (hq1:jf Q1 [.slice s1 n1 e1,.slice s2 n2 e2,.slice s3 n3 e3] w) (hq2:jf Q2 [.string p.name,.string p.owner,.int .i64 p.prio,.slice a1 m1 c1,.slice a2 m2 c2,.slice a3 m3 c3,.slice a4 m4 c4,.string p.key,.int .i64 p.most,.string p.node,.bool p.hold] w) (hq3:jf Q3 [.string name] w) (hs:jC w (Jk (.slice s1 n1 e1) (.slice s2 n2 e2) (.slice s3 n3 e3)) s) (hl:jE s) (hp:ji w (.slice a1 m1 c1) (.slice a2 m2 c2) (.slice a3 m3 c3) (.slice a4 m4 c4) p) :
 Calls Tryz.prog 104 #[.pointer (some ⟨Q1,0,none⟩),.pointer (some ⟨Q2,0,none⟩),.pointer (some ⟨Q3,0,none⟩)] w (XO (zW s p name) w):=by
 obtain⟨Z,hZ⟩:=eX (w.alloc (.cells #[.string ⟨#[]⟩,.slice none 0 0,.slice none 0 0,.slice none 0 0,.bool false] 78))
 have hkz:Kept w Z:=by rw[←hZ];exact ja _ _
 have Vv:=lH (jc w (.string ⟨#[]⟩) [.slice none 0 0,.slice none 0 0,.slice none 0 0,.bool false] 78 Z (by rw[hZ];exact Kept.refl _));have HS:=lH (jg7 s1 s2 s3 n1 e1 n2 e2 n3 e3 a1 a2 a3 a4 m1 c1 m2 c2 m3 c3 m4 c4 p s name Z (hs.kept hkz) hl (hp.kept hkz));unfold jx at HS;have K:=lH hkz;have y0:=(hq1.kept hkz).at_ 0 _ rfl;have y1:=(hq1.kept hkz).at_ 1 _ rfl;have y2:=(hq1.kept hkz).at_ 2 _ rfl;have r0:=(hq2.kept hkz).at_ 0 _ rfl;have r1:=(hq2.kept hkz).at_ 1 _ rfl;have r2:=(hq2.kept hkz).at_ 2 _ rfl;have r3:=(hq2.kept hkz).at_ 3 _ rfl;have r4:=(hq2.kept hkz).at_ 4 _ rfl;have r5:=(hq2.kept hkz).at_ 5 _ rfl;have r6:=(hq2.kept hkz).at_ 6 _ rfl;have r7:=(hq2.kept hkz).at_ 7 _ rfl;have r8:=(hq2.kept hkz).at_ 8 _ rfl;have r9:=(hq2.kept hkz).at_ 9 _ rfl;have r10:=(hq2.kept hkz).at_ 10 _ rfl;have x0:=(hq3.kept hkz).at_ 0 _ rfl;clear hq1 hq2 hq3 hs hp hl hkz;obtain⟨c,hc⟩:=eX (zW s p name)
 rw[hc] at HS ⊢;clear hc;go_enter Tryz.func104,Tryz.ntmps104;go_wp2_with fail
 try rw[hZ]
 refine HS.out.mono ?_;rintro e w1 ⟨h1,h2,kk⟩;have K:=lH (K.out.trans kk);have Vv:=lH (Vv.out.kept kk);clear kk hZ HS y0 y1 y2 r0 r1 r2 r3 r4 r5 r6 r7 r8 r9 r10 x0;by_cases hc:c=0
 · obtain⟨x9,i1,j1,l1,i2,j2,l2,i3,j3,l3,b9,rfl⟩:=h1 hc;have Ul:=lH hc;clear h1 h2 hc;obtain⟨z0,z1,z2,z3,z4⟩:=Vv.out.at5;have f0:=Vv.out.free 0;have f1:=Vv.out.free 1;have f2:=Vv.out.free 2;have f3:=Vv.out.free 3;have f4:=Vv.out.free 4;have g0:=qV (u0:=.string x9) (u1:=.slice i1 j1 l1) (u2:=.slice i2 j2 l2) (u3:=.slice i3 j3 l3) (u4:=.bool b9) z0 z1 z2 z3 z4;go_wp2;obtain⟨WE,hWE⟩:=eX ((((((w1.setCell ⟨w.heap.size,0,none⟩ (.string x9)).setCell ⟨w.heap.size,1,none⟩ (.slice i1 j1 l1)).setCell ⟨w.heap.size,2,none⟩ (.slice i2 j2 l2)).setCell ⟨w.heap.size,3,none⟩ (.slice i3 j3 l3)).setCell ⟨w.heap.size,4,none⟩ (.bool b9)))
   obtain⟨q0,q1,q2,q3,q4⟩:=g0 WE hWE;have KE:Kept w WE:=by rw[←hWE];exact((((K.out.setCell (p:=⟨w.heap.size,0,none⟩) (Nat.le_refl _) _).setCell (p:=⟨w.heap.size,1,none⟩) (Nat.le_refl _) _).setCell (p:=⟨w.heap.size,2,none⟩) (Nat.le_refl _) _).setCell (p:=⟨w.heap.size,3,none⟩) (Nat.le_refl _) _).setCell (p:=⟨w.heap.size,4,none⟩) (Nat.le_refl _) _
   rw[hWE];clear hWE z0 z1 z2 z3 z4 f0 f1 f2 f3 f4;refine bodyPost_ret (by simp[results,Tryz.results104,go_sem,q0,q1,q2,q3,q4];try rfl) rfl ?_;exact⟨fun _=>⟨_,_,_,_,_,_,_,_,_,_,_,rfl⟩,fun g=>absurd Ul.out g,KE⟩
 · obtain rfl:=h2 hc;have Ul:=lH hc;clear h1 h2 hc;go_wp2;exact⟨rfl,XO.bad rfl Ul.out K.out⟩
theorem jgM (Q1 Q2 Q3:Nat) (c:Int) (w:World) (hk:∀W,Kept w W→Calls Tryz.prog 104 #[.pointer (some ⟨Q1,0,none⟩),.pointer (some ⟨Q2,0,none⟩),.pointer (some ⟨Q3,0,none⟩)] W (XO c W)) :
 Calls Tryz.prog 103 #[.func (.func 104) #[] #[.pointer (some ⟨Q1,0,none⟩),.pointer (some ⟨Q2,0,none⟩),.pointer (some ⟨Q3,0,none⟩)]] w (jm0 c w):=by
 have hmf:=hmfL (P:=Tryz.prog);obtain⟨Z,hZ⟩:=eX ((w.alloc (.cells #[.string ⟨#[]⟩,.slice none 0 0,.slice none 0 0,.slice none 0 0,.bool false] 78)).alloc (.cells #[.int .i64 0] 69))
 have hkz:Kept w Z:=by rw[←hZ];exact jn _ _ _
 have Vv:=lH (jc w (.string ⟨#[]⟩) [.slice none 0 0,.slice none 0 0,.slice none 0 0,.bool false] 78 Z (by rw[←hZ];exact ja _ _));have TQ:=lH (show jf (w.heap.size+1) [.int .i64 0] Z by
  have dd:=jc (w.alloc (.cells #[.string ⟨#[]⟩,.slice none 0 0,.slice none 0 0,.slice none 0 0,.bool false] 78)) (.int .i64 0) [] 69 Z (by rw[hZ];exact Kept.refl _);rw[World.size_alloc] at dd;exact dd)
 have HK:=lH hkz;have Tp:=lH (hk Z hkz);clear hk hkz;go_enter_defers Tryz.func103,Tryz.ntmps103
 go_wp2_with fail
 try rw[hZ]
 refine Tp.out.mono ?_;rintro e1 w1 ⟨h0,h1,hb⟩;obtain⟨KK,Vv,TQ⟩:=lH3 (HK.out.trans hb) (Vv.out.kept hb) (TQ.out.kept hb);obtain⟨z0,z1,z2,z3,z4⟩:=Vv.out.at5;have f0:=Vv.out.free 0;have f1:=Vv.out.free 1;have f2:=Vv.out.free 2;have f3:=Vv.out.free 3;have f4:=Vv.out.free 4;have ez:=TQ.out.at_ 0 _ rfl;have ef:=TQ.out.free 0;clear Tp;by_cases hx:c=0
 · obtain⟨x9,i1,j1,l1,i2,j2,l2,i3,j3,l3,b9,rfl⟩:=h0 hx;subst hx;clear h0 h1 hb hZ;have g0:=qV (u0:=.string x9) (u1:=.slice i1 j1 l1) (u2:=.slice i2 j2 l2) (u3:=.slice i3 j3 l3) (u4:=.bool b9) z0 z1 z2 z3 z4;have R0:=lH g0;clear g0;go_wp2_with fail
   obtain⟨WE,hWE⟩:=eX ((((((w1.setCell ⟨w.heap.size,0,none⟩ (.string x9)).setCell ⟨w.heap.size,1,none⟩ (.slice i1 j1 l1)).setCell ⟨w.heap.size,2,none⟩ (.slice i2 j2 l2)).setCell ⟨w.heap.size,3,none⟩ (.slice i3 j3 l3)).setCell ⟨w.heap.size,4,none⟩ (.bool b9)))
   obtain⟨q0,q1,q2,q3,q4⟩:=R0.out WE hWE;have KE:Kept w WE:=by rw[←hWE];exact((((KK.out.setCell (p:=⟨w.heap.size,0,none⟩) (Nat.le_refl _) _).setCell (p:=⟨w.heap.size,1,none⟩) (Nat.le_refl _) _).setCell (p:=⟨w.heap.size,2,none⟩) (Nat.le_refl _) _).setCell (p:=⟨w.heap.size,3,none⟩) (Nat.le_refl _) _).setCell (p:=⟨w.heap.size,4,none⟩) (Nat.le_refl _) _
   have ee:WE.cell? ⟨w.heap.size+1,0,none⟩=some (.int .i64 0):=by rw[←hWE];exact(((((TQ.out.other (by omega)).other (by omega)).other (by omega)).other (by omega)).other (by omega)).at_ 0 _ rfl
   rw[hWE];clear hWE z0 z1 z2 z3 z4 f0 f1 f2 f3 f4 R0;have ff:∀j v,WE.cell? ⟨w.heap.size,j,none⟩=some v→(WE.setCell ⟨w.heap.size+1,0,none⟩ (.int .i64 0)).cell? ⟨w.heap.size,j,none⟩=some v:=fun j v h=>(World.cell?_of_block (a:=⟨w.heap.size,j,none⟩) (Below.heap_setCell WE ⟨w.heap.size+1,0,none⟩ _ w.heap.size (by show w.heap.size≠w.heap.size+1;omega))).trans h;have g0:=ff 0 _ q0;have g1:=ff 1 _ q1;have g2:=ff 2 _ q2;have g3:=ff 3 _ q3;have g4:=ff 4 _ q4;have fe:=World.cell?_setCell_same' WE ⟨w.heap.size+1,0,none⟩ (.int .i64 0) (by rw[ee];rfl);have KF:=lH (show Kept w (WE.setCell ⟨w.heap.size+1,0,none⟩ (.int .i64 0)) from KE.setCell (p:=⟨w.heap.size+1,0,none⟩) (Nat.le_succ _) _);obtain⟨WF,hWF⟩:=eX (WE.setCell ⟨w.heap.size+1,0,none⟩ (.int .i64 0))
   rw[hWF] at fe g0 g1 g2 g3 g4 KF ⊢;clear hWF ff ee q0 q1 q2 q3 q4 ez ef;refine leaves_cons (f:=151) (args:=#[.pointer (some ⟨w.heap.size+1,0,none⟩)]) (by simp) (by simp[go_sem]) ?_;refine(jgn ⟨w.heap.size+1,0,none⟩ _).mono ?_;rintro e u' w'' ⟨rfl,rfl,rfl⟩;simp[Leaves,settle,results,Tryz.results103,go_sem,fe,g0,g1,g2,g3,g4];exact⟨⟨_,_,_,_,_,_,_,_,_,_,_,rfl⟩,KF.out⟩
 · obtain rfl:=h1 hx;have HX:=lH hx;clear h0 h1 hb hZ hx;go_wp2_with fail
   refine leaves_cons (f:=151) (args:=#[.pointer (some ⟨w.heap.size+1,0,none⟩)]) (by simp) (by simp[go_sem]) ?_;refine(jbC w.heap.size (w.heap.size+1) c 0 _ ez ef (Nat.le_succ _)).mono ?_;rintro e u' w'' ⟨rfl,rfl,rfl,q2,q3⟩;have KF:=lH (show Kept w _ from Below.trans KK.out q3);have ff:∀j v,w1.cell? ⟨w.heap.size,j,none⟩=some v→(w1.setCell ⟨w.heap.size+1,0,none⟩ (.int .i64 c)).cell? ⟨w.heap.size,j,none⟩=some v:=fun j v h=>(World.cell?_of_block (a:=⟨w.heap.size,j,none⟩) (Below.heap_setCell w1 ⟨w.heap.size+1,0,none⟩ _ w.heap.size (by show w.heap.size≠w.heap.size+1;omega))).trans h;have g0:=ff 0 _ z0;have g1:=ff 1 _ z1;have g2:=ff 2 _ z2;have g3:=ff 3 _ z3;have g4:=ff 4 _ z4;obtain⟨WF,hWF⟩:=eX (w1.setCell ⟨w.heap.size+1,0,none⟩ (.int .i64 c))
   rw[hWF] at q2 g0 g1 g2 g3 g4 KF ⊢;clear hWF ff q3 z0 z1 z2 z3 z4 ez ef f0 f1 f2 f3 f4;simp[Leaves,settle,results,Tryz.results103,go_sem,q2,g0,g1,g2,g3,g4];exact⟨⟨_,_,_,_,_,_,_,_,_,_,_,rfl⟩,KF.out⟩
theorem jjd (s1 s2 s3:Option Addr) (n1 e1 n2 e2 n3 e3:Nat) (a1 a2 a3 a4:Option Addr) (m1 c1 m2 c2 m3 c3 m4 c4:Nat) (p:Pd) (s:Clu) (name:ByteArray) (w:World) (hs:jC w (Jk (.slice s1 n1 e1) (.slice s2 n2 e2) (.slice s3 n3 e3)) s) (hl:jE s) (hp:ji w (.slice a1 m1 c1) (.slice a2 m2 c2) (.slice a3 m3 c3) (.slice a4 m4 c4) p):Calls Tryz.prog 55 #[.agg #[.slice s1 n1 e1,.slice s2 n2 e2,.slice s3 n3 e3],jx p (.slice a1 m1 c1) (.slice a2 m2 c2) (.slice a3 m3 c3) (.slice a4 m4 c4),.string name] w (Say (.int .i64 (zW s p name)) w):=by
 have hmf:=hmfL (P:=Tryz.prog);obtain⟨Y,hY⟩:=eX ((w.alloc (.cells #[.slice s1 n1 e1,.slice s2 n2 e2,.slice s3 n3 e3] 26)).alloc (.cells #[.string p.name,.string p.owner,.int .i64 p.prio,.slice a1 m1 c1,.slice a2 m2 c2,.slice a3 m3 c3,.slice a4 m4 c4,.string p.key,.int .i64 p.most,.string p.node,.bool p.hold] 52))
 have hky:Kept w Y:=by rw[←hY];exact jn _ _ _
 have hys:Y.heap.size=w.heap.size+2:=by rw[←hY];simp
 have hsb:=jc w (.slice s1 n1 e1) [.slice s2 n2 e2,.slice s3 n3 e3] 26 Y (by rw[←hY];exact ja _ _);have hpb:jf (w.heap.size+1) [.string p.name,.string p.owner,.int .i64 p.prio,.slice a1 m1 c1,.slice a2 m2 c2,.slice a3 m3 c3,.slice a4 m4 c4,.string p.key,.int .i64 p.most,.string p.node,.bool p.hold] Y:=by
  have dd:=jc (w.alloc (.cells #[.slice s1 n1 e1,.slice s2 n2 e2,.slice s3 n3 e3] 26)) (.string p.name) [.string p.owner,.int .i64 p.prio,.slice a1 m1 c1,.slice a2 m2 c2,.slice a3 m3 c3,.slice a4 m4 c4,.string p.key,.int .i64 p.most,.string p.node,.bool p.hold] 52 Y (by rw[hY];exact Kept.refl _);rw[World.size_alloc] at dd;exact dd
 obtain⟨Z,hZ⟩:=eX (Y.alloc (.cells #[.string name] 9))
 have hkz:Kept Y Z:=by rw[←hZ];exact ja _ _
 have hnb:jf (w.heap.size+2) [.string name] Z:=by
  have dd:=jc Y (.string name) [] 9 Z (by rw[hZ];exact Kept.refl _);rw[hys] at dd;exact dd
 have hYZ:((w.alloc (.cells #[.slice s1 n1 e1,.slice s2 n2 e2,.slice s3 n3 e3] 26)).alloc (.cells #[.string p.name,.string p.owner,.int .i64 p.prio,.slice a1 m1 c1,.slice a2 m2 c2,.slice a3 m3 c3,.slice a4 m4 c4,.string p.key,.int .i64 p.most,.string p.node,.bool p.hold] 52)).alloc (.cells #[.string name] 9)=Z:=by rw[hY];exact hZ
 have HC:=lH (jgM w.heap.size (w.heap.size+1) (w.heap.size+2) (zW s p name) Z fun W k=>jiX w.heap.size (w.heap.size+1) (w.heap.size+2) s1 s2 s3 n1 e1 n2 e2 n3 e3 a1 a2 a3 a4 m1 c1 m2 c2 m3 c3 m4 c4 p s name W ((hsb.kept hkz).kept k) ((hpb.kept hkz).kept k) (hnb.kept k) (hs.kept ((hky.trans hkz).trans k)) hl (hp.kept ((hky.trans hkz).trans k)));have K:=lH (hky.trans hkz);clear hs hp hl hky hkz hys hsb hpb hnb hY hZ;obtain⟨c,hc⟩:=eX (zW s p name)
 rw[hc] at HC ⊢;clear hc;unfold jx;go_enter Tryz.func55,Tryz.ntmps55;go_wp2_with fail
 try rw[hYZ]
 clear hYZ;refine HC.out.mono ?_;rintro e w1 ⟨⟨x9,i1,j1,l1,i2,j2,l2,i3,j3,l3,b9,rfl⟩,kk⟩;have K:=lH (K.out.trans kk);clear kk;go_wp2;go_ret;exact⟨rfl,K.out.trans (ja _ _)⟩
theorem jE.drop {s:Clu} (h:jE s) (x:ByteArray):jE (zC s x):=jfr h x
theorem jC.spelt {w:World} {y:Value} {s:Clu} (h:jC w y s):∃s1 n1 e1 s2 n2 e2 s3 n3 e3,y=Jk (.slice s1 n1 e1) (.slice s2 n2 e2) (.slice s3 n3 e3):=by
 obtain⟨_,_,_,rfl,⟨a,c,rfl,-⟩,⟨b,d,rfl,-⟩,⟨e,f,rfl,-⟩⟩:=h;exact⟨a,_,c,b,_,d,e,_,f,rfl⟩
theorem jkc (x:Int) (u:Value) (h:u ∈ [Value.int .i64 x]):u.oneCell'=true:=by
 have e:u=Value.int .i64 x:=by simpa using h
 rw[e];rfl
def XW:Lay Int:={ m:=1,cs:=fun x=>[.int .i64 x],fine:=fun x=>-9223372036854775808≤x∧x≤9223372036854775807,len:=fun _=>rfl,one:=jkc,pos:=by decide }
theorem jk.err {w:World} {b off len:Nat} {l:List Int} {k:Nat} (h:jk XW w (some ⟨b,off,none⟩) len l) (hk:k<len):∃x:Int,l[k]?=some x∧l.drop k=x::l.drop (k+1)∧b<w.heap.size∧w.cell? ⟨b,off+k,none⟩=some (.int .i64 x):=by
 obtain⟨x,h1,h2,h3,h4,h5⟩:=h.cells hk;exact⟨x,h1,h2,h3,by have:=h5 0 _ rfl;simpa [XW] using this⟩
theorem jn1:(Tryz.prog.info? 69).map (fun i=>(i.zero,i.size,i.bytes))=some (some (.int .i64 0),1,8):=by kernel_rfl
theorem jmL (s1 s2 s3:Option Addr) (n1 e1 n2 e2 n3 e3:Nat) (a1 a2 a3 a4:Option Addr) (m1 c1 m2 c2 m3 c3 m4 c4:Nat) (p:Pd) (s:Clu) (w:World) (hs:jC w (Jk (.slice s1 n1 e1) (.slice s2 n2 e2) (.slice s3 n3 e3)) s) (hl:jE s) (hp:ji w (.slice a1 m1 c1) (.slice a2 m2 c2) (.slice a3 m3 c3) (.slice a4 m4 c4) p):Calls Tryz.prog 54 #[.agg #[.slice s1 n1 e1,.slice s2 n2 e2,.slice s3 n3 e3],jx p (.slice a1 m1 c1) (.slice a2 m2 c2) (.slice a3 m3 c3) (.slice a4 m4 c4)] w fun e w'=>∃v,e=.returned v∧Own XW 69 w' w.heap.size v (XV s p s.nodes)∧Kept w w':=by
 obtain⟨i0,hi,hz0,hz1,hz2'⟩:=info_parts jn1;obtain⟨Z,hZ⟩:=eX ((w.alloc (.cells #[.slice s1 n1 e1,.slice s2 n2 e2,.slice s3 n3 e3] 26)).alloc (.cells #[.string p.name,.string p.owner,.int .i64 p.prio,.slice a1 m1 c1,.slice a2 m2 c2,.slice a3 m3 c3,.slice a4 m4 c4,.string p.key,.int .i64 p.most,.string p.node,.bool p.hold] 52))
 have hkz:Kept w Z:=by rw[←hZ];exact jn _ _ _
 have Vj:=lH (jc w (.slice s1 n1 e1) [.slice s2 n2 e2,.slice s3 n3 e3] 26 Z (by rw[←hZ];exact ja _ _));have Vg:=lH (show jf (w.heap.size+1) [.string p.name,.string p.owner,.int .i64 p.prio,.slice a1 m1 c1,.slice a2 m2 c2,.slice a3 m3 c3,.slice a4 m4 c4,.string p.key,.int .i64 p.most,.string p.node,.bool p.hold] Z by
  have dd:=jc (w.alloc (.cells #[.slice s1 n1 e1,.slice s2 n2 e2,.slice s3 n3 e3] 26)) (.string p.name) [.string p.owner,.int .i64 p.prio,.slice a1 m1 c1,.slice a2 m2 c2,.slice a3 m3 c3,.slice a4 m4 c4,.string p.key,.int .i64 p.most,.string p.node,.bool p.hold] 52 Z (by rw[hZ];exact Kept.refl _);rw[World.size_alloc] at dd;exact dd)
 obtain⟨K,HS,HP,HL⟩:=lH4 hkz (hs.kept hkz) (hp.kept hkz) hl;clear hs hp hkz hl;have VR:=lH HS.out.nAt.2;have hb1:n1≤100000:=by have:=HL.out.nodesN;have:=VR.out;omega
 have HN:=lH HS.out.nAt.1;have Rr:=lH (jnk HS.out p.name HL.out);try unfold Jk at Rr
 obtain⟨y0,y1,y2⟩:=Vj.out.at3;have r0:=Vg.out.at_ 0 _ rfl;unfold jx;go_enter Tryz.func54,Tryz.ntmps54;go_upto_region 1 with fail
 try rw[hZ]
 clear hZ;go_wp2_with fail
 refine Rr.out.mono ?_;rintro e w1 ⟨y,rfl,hy,kk⟩;obtain⟨t1,k1,d1,t2,k2,d2,t3,k3,d3,rfl⟩:=hy.spelt;obtain⟨w2,hw2⟩:=eX (w1.alloc (.cells #[.slice t1 k1 d1,.slice t2 k2 d2,.slice t3 k3 d3] 26))
 have kx:Kept w1 w2:=by rw[←hw2];exact ja _ _
 obtain⟨Vt,HY,Vj,Vg,HP,HN,K⟩:=lH7 (jc w1 (.slice t1 k1 d1) [.slice t2 k2 d2,.slice t3 k3 d3] 26 w2 (by rw[hw2];exact Kept.refl _)) (hy.kept kx) (Vj.out.kept (kk.trans kx)) (Vg.out.kept (kk.trans kx)) (HP.out.kept (kk.trans kx)) (HN.out.kept (kk.trans kx)) (K.out.trans (kk.trans kx));obtain⟨gd,hgd⟩:=eX (w1.heap.size)
 rw[hgd] at Vt;clear kk kx hy Rr y0 y1 y2 r0;have y0:=Vj.out.at_ 0 _ rfl;go_upto_region 3 with fail
 try rw[hw2]
 try rw[hgd]
 clear hw2 hgd;go_wp2;clear y0;go_loopw [6,16] (fun v i wr=>∃k:Nat,k≤n1∧i=.int .i64 k∧∃la:List Int,XV s p (s.nodes.take k)=la∧Own XW 69 wr w2.heap.size v la∧Kept w2 wr) (fun _ i _=>n1-(intOf i).toNat)
 case atStart=>exact⟨0,Nat.zero_le _,rfl,[],rfl,Own.nil _ _ _,Kept.refl _⟩
 case round =>
  obtain⟨k,hk,rfl,la,hla,ho,hK⟩:=hrel;obtain⟨HX,HO,HK⟩:=lH3 hla ho hK;obtain⟨m,hm⟩:=eX (la.length)
  have hmk:m≤k:=by
   have:=jcs s p (s.nodes.take k);rw[hla,hm,List.length_take] at this;omega
  have HT:=lH hm;have hbase:w2.heap.size≤wr.heap.size:=hK.size;by_cases hlt:k<n1
  · obtain⟨g,off,rfl⟩:=HN.out.form.resolve_left (by omega);obtain⟨n,b1,q1,f1,b2,q2,f2,b3,q3,f3,hn,hd,hb,u0,u1,u2,u3,u4,hat⟩:=(HN.out.kept hK).at_ hlt;have UI:=lH (jjV (s:=s) (p:=p) hn);have hkk:(k:Int)<(n1:Int):=by omega
    have hk0:¬(k:Int)<0:=by omega
    obtain⟨wx,hwx⟩:=eX (wr.alloc (.cells #[.string n.name,.slice b1 q1 f1,.slice b2 q2 f2,.slice b3 q3 f3,.bool n.cordon] 78))
    have hkx:Kept wr wx:=by rw[←hwx];exact ja _ _
    have VD:=lH (jc wr (.string n.name) [.slice b1 q1 f1,.slice b2 q2 f2,.slice b3 q3 f3,.bool n.cordon] 78 wx (by rw[hwx];exact Kept.refl _));obtain⟨bq,hbq⟩:=eX (wr.heap.size)
    rw[hbq] at VD;obtain⟨VS,V7,U1⟩:=lH3 (Vt.out.kept (hK.trans hkx)) (Vg.out.kept (hK.trans hkx)) (jjd t1 t2 t3 k1 d1 k2 d2 k3 d3 a1 a2 a3 a4 m1 c1 m2 c2 m3 c3 m4 c4 p (zC s p.name) n.name wx (HY.out.kept (hK.trans hkx)) (jfr HL.out p.name) (HP.out.kept (hK.trans hkx)));unfold jx at U1;obtain⟨c,hc⟩:=eX (zW (zC s p.name) p n.name)
    have NJ:=lH (show -9223372036854775808≤c∧c≤9223372036854775807 by have:=jk0 (zC s p.name) p n.name;omega);have HV:=lH (show XV s p (s.nodes.take (k+1))=la++[c] by rw[UI.out,HX.out];unfold ql;rw[hc]);rw[hc] at U1;have KX:=lH hkx;go_upto_region 6 with fail
    try rw[hwx]
    try rw[hbq]
    clear hwx hbq hd hb hn hkx hk0 hkk hat hla ho hm hK hc u0 u1 u2 u3 u4;obtain⟨y0,y1,y2⟩:=VS.out.at3;obtain⟨r0,r1,r2,r3,r4,r5,r6,r7,r8,r9,r10⟩:=V7.out.at11;have t0:=VD.out.at_ 0 _ rfl;go_wp2_with fail
    refine U1.out.mono ?_;rintro e w3 ⟨rfl,kk⟩;have KW:=lH (KX.out.trans kk);clear kk U1 t0 y0 y1 y2 r0 r1 r2 r3 r4 r5 r6 r7 r8 r9 r10;have VF:=lH (show w3.ownsRow w2.heap.size 69 1 u6 m (je XW la) by have:=(HO.out.kept KW.out).1;rw[HT.out] at this;exact this);have hs1:wr.heap.size≤w3.heap.size:=Below.size KW.out;go_wp2_with (at_builtin;refine wpList_append_lies _ rfl _ _ _ rfl w2.heap.size 69 i0 _ 1 8 Tryz.underlying110 hi hz0 hz1 hz2' rfl (by decide) u6 m (je XW la) rfl (VF.out.alloc _) ⟨w3.heap.size,0,none⟩ 1 1 (XW.cs c) rfl rfl (World.news_of_block (cs:=#[.int .i64 c]) (t:=69) (fr:=(0,0)) (heap_alloc_new w3 _)) (jkc c) (by decide) (by unfold maxLen;omega) (by omega) (by simp;omega) (w3.heap.size+1) (by simp) ?_;intro gg cap1 w4 hown1 hgrow hat hlt1)
    have VQ:=lH ((show Below w2.heap.size w2 _ from HK.out.trans (KW.out.trans (ja w3 _))).grown hgrow (by simp;omega) (fun j hj=>(VF.out.lt j hj).1));go_wp2;go_roundw
    case rel=>exact⟨k+1,by omega,by go_num,la++[c],HV.out,Own.snoc hown1 (by rw[HT.out]) HO.out.2 NJ.out,VQ.out⟩
    case measure=>simp[intOf];omega
  · have hge:¬(k:Int)<(n1:Int):=by omega
    have HE:=lH (show XV s p s.nodes=la by rw[←hla,List.take_of_length_le (by rw[←VR.out];omega)]);clear hla ho hm hK;go_wp2;go_ret;exact⟨_,rfl,by rw[HE.out];exact HO.out.base_le K.out.size,K.out.trans HK.out⟩
theorem jje (w:World):zr w (.slice none 0 0) (.slice none 0 0) (.slice none 0 0) Nod.zero:=⟨(by decide:(0:Nat)≤maxLen),⟨none,0,rfl,Nat.le_refl _,by decide,Vec.jw.nil w⟩,Reads.nil _,Reads.nil _⟩
theorem jdT {s:Clu} (h:jE s) (x:ByteArray):zP (J8 s x):=by
 unfold J8
 cases hf:jl s.nodes x with
 | none=>exact⟨(by decide:(0:Nat)≤1000000),(by decide:(0:Nat)≤1000000),(by decide:(0:Nat)≤1000000)⟩
 | some n=>exact h.nodes n (jej hf).1
theorem jnl (x:ByteArray) (v1 v2 v3:Value) (c:Bool) (W:World):(Instr.field 78 (.agg #[.string x,v1,v2,v3,.bool c]) 1).run Tryz.prog W=.ok v1 W:=by kernel_rfl
theorem jm9 (x:ByteArray) (v1 v2 v3:Value) (c:Bool) (W:World):(Instr.field 78 (.agg #[.string x,v1,v2,v3,.bool c]) 3).run Tryz.prog W=.ok v3 W:=by kernel_rfl
def joA (n:Nod) (w:World) (e:Ending) (w':World):Prop:=∃b1 k1 d1 b2 k2 d2 b3 k3 d3,e=.returned (zi n (.slice b1 k1 d1) (.slice b2 k2 d2) (.slice b3 k3 d3))∧zr w' (.slice b1 k1 d1) (.slice b2 k2 d2) (.slice b3 k3 d3) n∧Kept w w'
theorem qq (s1 s2 s3:Option Addr) (n1 e1 n2 e2 n3 e3:Nat) (s:Clu) (name:ByteArray) (w:World) (hs:jC w (Jk (.slice s1 n1 e1) (.slice s2 n2 e2) (.slice s3 n3 e3)) s) (hl:jE s) :
 Calls Tryz.prog 236 #[.agg #[.slice s1 n1 e1,.slice s2 n2 e2,.slice s3 n3 e3],.string name] w (joA (J8 s name) w):=by
 have hn:=hs.nAt.1;have hb1:n1≤100000:=by have:=hs.nAt.2;have:=hl.nodesN;omega
 have Rs:=lH (show J8 s name=(jl s.nodes name).getD Nod.zero from rfl);generalize s.nodes=nodes at hn Rs
 clear hs hl;obtain⟨Z,hZ⟩:=eX ((w.alloc (.cells #[.slice s1 n1 e1,.slice s2 n2 e2,.slice s3 n3 e3] 26)).alloc (.cells #[.string ⟨#[]⟩,.slice none 0 0,.slice none 0 0,.slice none 0 0,.bool false] 78))
 have hkz:Kept w Z:=by rw[←hZ];exact jn _ _ _
 have Vw:=lH (jc w (.slice s1 n1 e1) [.slice s2 n2 e2,.slice s3 n3 e3] 26 Z (by rw[←hZ];exact ja _ _));have hyb:jf (w.heap.size+1) [.string ⟨#[]⟩,.slice none 0 0,.slice none 0 0,.slice none 0 0,.bool false] Z:=by
  have dd:=jc (w.alloc (.cells #[.slice s1 n1 e1,.slice s2 n2 e2,.slice s3 n3 e3] 26)) (.string ⟨#[]⟩) [.slice none 0 0,.slice none 0 0,.slice none 0 0,.bool false] 78 Z (by rw[hZ];exact Kept.refl _);rw[World.size_alloc] at dd;exact dd
 obtain⟨T0,HN,VR,Vc⟩:=lH4 hyb hn hn.1 hkz;clear hn hkz hyb;go_enter Tryz.func236,Tryz.ntmps236;have y0:=Vw.out.at_ 0 _ rfl;go_upto_region 1 with fail
 try rw[hZ]
 clear hZ;go_wp2;clear y0;go_loopw [10] (fun i wr=>∃k:Nat,k≤n1∧i=.int .i64 k∧jl (nodes.drop k) name=jl nodes name∧Kept Z wr) (fun i _=>n1-(intOf i).toNat)
 case atStart=>exact⟨0,Nat.zero_le _,rfl,rfl,Kept.refl _⟩
 case round =>
  obtain⟨k,hk,rfl,hR,hK⟩:=hrel;obtain⟨HR,HK,Uo⟩:=lH3 hR (Vc.out.trans hK) hK;by_cases hlt:k<n1
  · obtain⟨g,off,rfl⟩:=HN.out.form.resolve_left (by omega);obtain⟨n,b1,k1,d1,b2,k2,d2,b3,k3,d3,hn,hd,hb,u0,u1,u2,u3,u4,hat⟩:=HN.out.at_ hlt;have VH:=lH hat;have HD:=lH hd;have u0:=cell_later HK.out u0;have u1:=cell_later HK.out u1;have u2:=cell_later HK.out u2;have u3:=cell_later HK.out u3;have u4:=cell_later HK.out u4;have hkk:(k:Int)<(n1:Int):=by omega
    have hk0:¬(k:Int)<0:=by omega
    obtain⟨wx,hwx⟩:=eX (wr.alloc (.cells #[.string n.name,.slice b1 k1 d1,.slice b2 k2 d2,.slice b3 k3 d3,.bool n.cordon] 78))
    have hkx:Kept wr wx:=by rw[←hwx];exact ja _ _
    have Vt:=lH (jc wr (.string n.name) [.slice b1 k1 d1,.slice b2 k2 d2,.slice b3 k3 d3,.bool n.cordon] 78 wx (by rw[hwx];exact Kept.refl _));obtain⟨bq,hbq⟩:=eX (wr.heap.size)
    rw[hbq] at Vt;have KX:=lH hkx;go_upto_region 4 with fail
    try rw[hwx]
    try rw[hbq]
    clear hwx hbq hd hb hn hR hK hkx hk0 hkk hat u0 u1 u2 u3 u4;obtain⟨t0,t1,t2,t3,t4⟩:=Vt.out.at5;obtain⟨t,ht⟩:=eX ((n.name.toList==name.toList))
    have HT:=lH (show eqS n.name name=t from ht)
    cases t with
    | false =>
     have HX:=lH (show jl (nodes.drop (k+1)) name=jl nodes name by rw[←HR.out,HD.out];unfold jl;rw[List.find?_cons,HT.out]);go_wp2;go_roundw
     case rel=>exact⟨k+1,by omega,by go_num,HX.out,Uo.out.trans KX.out⟩
     case measure=>simp[intOf];omega
    | true =>
     have HX:=lH (show J8 s name=n by rw[Rs.out,show jl nodes name=some n by rw[←HR.out,HD.out];unfold jl;rw[List.find?_cons,HT.out]];rfl);have VW:=lH (T0.out.kept (Uo.out.trans KX.out));obtain⟨z0,z1,z2,z3,z4⟩:=VW.out.at5;have f0:=VW.out.free 0;have f1:=VW.out.free 1;have f2:=VW.out.free 2;have f3:=VW.out.free 3;have f4:=VW.out.free 4;have P:=lH (ZD ⟨z0,z1,z2,z3,z4⟩ n.name b1 b2 b3 k1 d1 k2 d2 k3 d3 n.cordon);go_wp2;obtain⟨WE,hWE⟩:=eX ((((((wx.setCell ⟨w.heap.size+1,0,none⟩ (.string n.name)).setCell ⟨w.heap.size+1,1,none⟩ (.slice b1 k1 d1)).setCell ⟨w.heap.size+1,2,none⟩ (.slice b2 k2 d2)).setCell ⟨w.heap.size+1,3,none⟩ (.slice b3 k3 d3)).setCell ⟨w.heap.size+1,4,none⟩ (.bool n.cordon)))
     rw[hWE] at P ⊢;clear hWE z0 z1 z2 z3 z4 t0 t1 t2 t3 t4 f0 f1 f2 f3 f4;obtain⟨⟨d0,d1,d2,d3,d4⟩,hsz,hbl,hkp⟩:=P.out;refine bodyPost_ret (by simp[results,Tryz.results236,go_sem,d0,d1,d2,d3,d4];try rfl) rfl ?_;have KE:=hkp _ _ (Nat.le_succ _) (HK.out.trans KX.out);rw[HX.out];exact⟨_,_,_,_,_,_,_,_,_,rfl,VH.out.kept KE,KE⟩
  · have hge:¬(k:Int)<(n1:Int):=by omega
    have HX:=lH (show J8 s name=Nod.zero by rw[Rs.out,show jl nodes name=none by rw[←HR.out,List.drop_of_length_le (by rw[VR.out];omega)];rfl];rfl);clear hR hK;have VW:=lH (T0.out.kept Uo.out);obtain⟨z0,z1,z2,z3,z4⟩:=VW.out.at5;have f0:=VW.out.free 0;have f1:=VW.out.free 1;have f2:=VW.out.free 2;have f3:=VW.out.free 3;have f4:=VW.out.free 4;have P:=lH (ZD ⟨z0,z1,z2,z3,z4⟩ ⟨#[]⟩ none none none 0 0 0 0 0 0 false);go_wp2;obtain⟨WE,hWE⟩:=eX ((((((wr.setCell ⟨w.heap.size+1,0,none⟩ (.string ⟨#[]⟩)).setCell ⟨w.heap.size+1,1,none⟩ (.slice none 0 0)).setCell ⟨w.heap.size+1,2,none⟩ (.slice none 0 0)).setCell ⟨w.heap.size+1,3,none⟩ (.slice none 0 0)).setCell ⟨w.heap.size+1,4,none⟩ (.bool false)))
    rw[hWE] at P ⊢;clear hWE z0 z1 z2 z3 z4 f0 f1 f2 f3 f4;obtain⟨⟨d0,d1,d2,d3,d4⟩,hsz,hbl,hkp⟩:=P.out;refine bodyPost_ret (by simp[results,Tryz.results236,go_sem,d0,d1,d2,d3,d4];try rfl) rfl ?_;have KE:=hkp _ _ (Nat.le_succ _) HK.out;rw[HX.out];exact⟨_,_,_,_,_,_,_,_,_,rfl,jje _,KE⟩
theorem jh6 (s1 s2 s3:Option Addr) (n1 e1 n2 e2 n3 e3:Nat) (s:Clu) (name:ByteArray) (w:World) (hs:jC w (Jk (.slice s1 n1 e1) (.slice s2 n2 e2) (.slice s3 n3 e3)) s) (hl:jE s):Calls Tryz.prog 277 #[.agg #[.slice s1 n1 e1,.slice s2 n2 e2,.slice s3 n3 e3],.string name] w fun e w'=>∃v,e=.returned v∧Vec.Reads w' v (JU s name).2∧Kept w w':=by
 obtain⟨Z,hZ⟩:=eX (w.alloc (.cells #[.slice s1 n1 e1,.slice s2 n2 e2,.slice s3 n3 e3] 26))
 have hkz:Kept w Z:=by rw[←hZ];exact ja _ _
 have Vj:=lH (jc w (.slice s1 n1 e1) [.slice s2 n2 e2,.slice s3 n3 e3] 26 Z (by rw[hZ];exact Kept.refl _));have HU:=lH (jof (hs.kept hkz) name hl);try unfold Jk at HU
 have K:=lH hkz;clear hs hl hkz;obtain⟨y0,y1,y2⟩:=Vj.out.at3;go_enter Tryz.func277,Tryz.ntmps277;go_wp2_with fail
 try rw[hZ]
 clear hZ;refine HU.out.mono ?_;rintro e w1 ⟨y,rfl,hy,kk⟩;have HY:=lH hy;have K:=lH (K.out.trans kk);clear kk hy HU y0 y1 y2;go_wp2;go_ret;exact⟨_,rfl,HY.out,K.out⟩
def jdl (x:Option Nat) (w:World) (e:Ending) (w':World):Prop:=∃r,e=.returned (.float .f64 r)∧nrm r=x∧r<TOP∧Kept w w'
theorem jgf {r:Nat} {x:Option Nat} {w w':World} (h:nrm r=x) (t:r<TOP) (k:Kept w w'):jdl x w (.returned (.float .f64 r)) w':=⟨r,rfl,h,t,k⟩
theorem jiU (u c:Value) (lu lc:Vec.V) (what:ByteArray) (w:World) (hu:Vec.Reads w u lu) (hc:Vec.Reads w c lc):Calls Tryz.prog 278 #[u,c,.string what] w (jdl (jmf (Vec.jh lu what) (Vec.jh lc what)) w):=by
 obtain⟨a,ha⟩:=eX (Vec.jh lu what)
 obtain⟨b,hb⟩:=eX (Vec.jh lc what)
 have HU:=lH (fun (W:World) (k:Kept w W)=>Vec.jfN (hu.kept k) ha);have HC:=lH (fun (W:World) (k:Kept w W)=>Vec.jfN (hc.kept k) hb);rw[ha,hb];clear ha hb hu hc;have K:=lH (Kept.refl w);go_enter Tryz.func278,Tryz.ntmps278;go_wp2_with fail
 refine(HU.out _ K.out).mono ?_;rintro e w1 ⟨rfl,kk⟩;have K:=lH (K.out.trans kk);clear kk;go_wp2_with fail
 refine(HC.out _ K.out).mono ?_;rintro e w2 ⟨rfl,kk⟩;have K:=lH (K.out.trans kk);clear kk;go_wp2_with fail
 refine(jlB a b _).mono ?_;rintro e w3 ⟨r,n,rfl,rfl,hr,ht⟩;have HR:=lH hr;have K:=lH (K.out.trans (Kept.drewN w2 n));clear hr;go_wp2;go_ret;exact jgf HR.out ht K.out
theorem jhZ (x:Nat) (u:Value) (h:u ∈ [Value.float .f64 x]):u.oneCell'=true:=by
 have e:u=Value.float .f64 x:=by simpa using h
 rw[e];rfl
def qB:Lay Nat:={ m:=1,cs:=fun x=>[.float .f64 x],fine:=fun x=>x<TOP,len:=fun _=>rfl,one:=jhZ,pos:=by decide }
theorem jn6:(Tryz.prog.info? 244).map (fun i=>(i.zero,i.size,i.bytes))=some (some (.float .f64 0),1,8):=by kernel_rfl
theorem jml {w:World} {a:Option Addr} {len:Nat} {l:List Nat} (h:jk qB w a len l):jf1 w a len l:=by
 obtain⟨h0,h1,h2,h3⟩:=h;refine⟨h0,h1,h2,h3.imp id ?_⟩;rintro ⟨b,off,e,hb,hc⟩;refine⟨b,off,e,hb,fun i hi=>?_⟩;have hil:i<l.length:=by omega
 have:=hc i l[i] 0 (.float .f64 l[i]) (List.getElem?_eq_getElem hil) rfl;rw[show l.getD i 0=l[i] by simp[List.getD,hil]];simpa [qB] using this
theorem jiC {s:Clu} {x:ByteArray} {l:Vec.V} {k:Nat} (h:k<l.length):(l.take (k+1)).map (fun a=>Yo s x a.1)=(l.take k).map (fun a=>Yo s x a.1)++[Yo s x (Vec.nm l k)]:=by
 rw[List.take_add_one,List.getElem?_eq_getElem h,List.map_append];simp[Vec.nm,List.getD,h]
theorem jjE (s1 s2 s3:Option Addr) (n1 e1 n2 e2 n3 e3:Nat) (s:Clu) (name:ByteArray) (w:World) (hs:jC w (Jk (.slice s1 n1 e1) (.slice s2 n2 e2) (.slice s3 n3 e3)) s) (hl:jE s):Calls Tryz.prog 263 #[.agg #[.slice s1 n1 e1,.slice s2 n2 e2,.slice s3 n3 e3],.string name] w (jdl (jc2 s name) w):=by
 obtain⟨i0,hi,hz0,hz1,hz2'⟩:=info_parts jn6;obtain⟨Z,hZ⟩:=eX (w.alloc (.cells #[.slice s1 n1 e1,.slice s2 n2 e2,.slice s3 n3 e3] 26))
 have hkz:Kept w Z:=by rw[←hZ];exact ja _ _
 obtain⟨Vj,HS,K,HL⟩:=lH4 (jc w (.slice s1 n1 e1) [.slice s2 n2 e2,.slice s3 n3 e3] 26 Z (by rw[hZ];exact Kept.refl _)) (hs.kept hkz) hkz hl;have HF:=lH (show ∀W,Kept Z W→W.cell? ⟨w.heap.size,0,none⟩=some (.slice s1 n1 e1)∧W.cell? ⟨w.heap.size,1,none⟩=some (.slice s2 n2 e2)∧W.cell? ⟨w.heap.size,2,none⟩=some (.slice s3 n3 e3) from fun W kk=>by
  have h:=Vj.out.kept kk;exact⟨h.at_ 0 _ rfl,h.at_ 1 _ rfl,h.at_ 2 _ rfl⟩)
 clear hs hl hkz;have HM:=lH (show jc2 s name=jeW ((J8 s name).cap.map fun a=>Yo s name a.1) from rfl);go_enter Tryz.func263,Tryz.ntmps263;go_upto_region 1 with fail
 try rw[hZ]
 clear hZ;have J:=lH (Kept.drew Z);refine wp_region_held_drew (S:=fun W=>W.cell? ⟨w.heap.size,0,none⟩=some (.slice s1 n1 e1)∧W.cell? ⟨w.heap.size,1,none⟩=some (.slice s2 n2 e2)∧W.cell? ⟨w.heap.size,2,none⟩=some (.slice s3 n3 e3)) (by kernel_rfl) (HF.out _ J.out) (fun hHeld=>?_);obtain⟨wd,hwd⟩:=eX (Z.drew)
 rw[hwd] at J hHeld;try rw[hwd]
 clear hwd;refine tkI 0 ?_;refine tkI 1 ?_;refine tkI 3 ?_;refine tkI 4 ?_;try simp only[nP]
 refine rd1 2 fun K9 Ky=>?_;go_simp;refine(jh6 s1 s2 s3 n1 e1 n2 e2 n3 e3 s name _ (HS.out.kept J.out) HL.out).mono ?_;rintro e w1 ⟨vu,rfl,hu,kk⟩;have HU:=lH hu;have J:=lH (J.out.trans kk);clear kk hu;refine Ky.out _ _ (HF.out _ J.out) (fun _=>?_);clear Ky K9;try simp only[nP]
 refine rd1 5 fun K9 Ky=>?_;go_simp;refine(qq s1 s2 s3 n1 e1 n2 e2 n3 e3 s name _ (HS.out.kept J.out) HL.out).mono ?_;rintro e w2 ⟨b1,k1,d1,b2,k2,d2,b3,k3,d3,rfl,hn,kk⟩;obtain⟨HU,HC,J⟩:=lH3 (HU.out.kept kk) hn.cap (J.out.trans kk);clear kk hn;unfold zi;refine Ky.out _ _ (HF.out _ J.out) (fun _=>?_);clear Ky K9;try simp only[nP]
 have hfd:=fun W=>jnl (J8 s name).name (.slice b1 k1 d1) (.slice b2 k2 d2) (.slice b3 k3 d3) (J8 s name).cordon W;refine tkI 6 ?_;refine tkI 7 ?_;refine tkI 8 ?_;try simp only[nP]
 refine wpAnyH_done (by kernel_rfl) ?_ _;clear hfd;have R5:=(jdT HL.out name).cap;have K:=lH (K.out.trans J.out);clear J HF Vj HS HL;have KW:=lH (Kept.refl w2);obtain⟨cap,hcap⟩:=eX ((J8 s name).cap)
 have TM:=lH (show ∀x,Yo s name x=jmf (Vec.jh (JU s name).2 x) (Vec.jh cap x) from fun x=>by unfold Yo;rw[hcap]);rw[hcap] at HC HM R5;clear hcap;obtain⟨aC,cC,eC,-,-,hCA⟩:=HC.out;injection eC with e4 e5 e6;obtain rfl:=e4;obtain rfl:=e6;have Rt:=lH hCA;obtain⟨n9,hn9⟩:=eX (cap.length)
 rw[hn9] at Rt R5 e5;obtain rfl:=e5;have T3:=lH hn9;clear hCA hn9;go_wp2;go_loopw [7,19] (fun v i wr=>∃k:Nat,k≤k1∧i=.int .i64 k∧∃la:List Nat,la.map nrm=(cap.take k).map (fun a=>Yo s name a.1)∧Own qB 244 wr w2.heap.size v la∧Kept w2 wr) (fun _ i _=>k1-(intOf i).toNat)
 case atStart=>exact⟨0,Nat.zero_le _,rfl,[],rfl,Own.nil _ _ _,Kept.refl _⟩
 case round =>
  obtain⟨k,hk,rfl,la,hla,ho,hK⟩:=hrel;obtain⟨HX,HO,HK⟩:=lH3 hla ho hK;obtain⟨m,hm⟩:=eX (la.length)
  have hmk:m≤k:=by
   have:=congrArg List.length hla;simp only[List.length_map,List.length_take] at this;omega
  have HT:=lH hm;have hbase:w2.heap.size≤wr.heap.size:=hK.size;by_cases hlt:k<k1
  · obtain⟨b,off,rfl⟩:=Rt.out.form.resolve_left (by omega);obtain⟨-,u0,u1⟩:=(Rt.out.kept hK).cells hlt;have UI:=lH (jiC (s:=s) (x:=name) (l:=cap) (k:=k) (by have:=T3.out;omega));obtain⟨xn,hxn⟩:=eX (Vec.nm cap k)
    obtain⟨qn,hqn⟩:=eX (Vec.qn cap k)
    rw[hxn] at u0 UI;rw[hqn] at u1;have hkk:(k:Int)<(k1:Int):=by omega
    have hk0:¬(k:Int)<0:=by omega
    obtain⟨wx,hwx⟩:=eX (wr.alloc (.cells #[.string xn,.int .i64 qn] 114))
    have hkx:Kept wr wx:=by rw[←hwx];exact ja _ _
    have VD:=lH (jc wr (.string xn) [.int .i64 qn] 114 wx (by rw[hwx];exact Kept.refl _));obtain⟨bq,hbq⟩:=eX (wr.heap.size)
    rw[hbq] at VD;have U1:=lH (jiU vu (.slice (some ⟨b,off,none⟩) k1 d1) (JU s name).2 cap xn wx (HU.out.kept (hK.trans hkx)) (HC.out.kept (hK.trans hkx)));rw[←TM.out] at U1;have KX:=lH hkx;go_upto_region 6 with fail
    try rw[hwx]
    try rw[hbq]
    clear hwx hbq hkx hk0 hkk hla ho hm hK hxn hqn u0 u1;have t0:=VD.out.at_ 0 _ rfl;go_wp2_with fail
    refine U1.out.mono ?_;rintro e w3 ⟨r,rfl,hr,hrt,kk⟩;obtain⟨HV,Ru,KW⟩:=lH3 (show (la++[r]).map nrm=(cap.take (k+1)).map (fun a=>Yo s name a.1) by rw[UI.out,List.map_append,HX.out];simp[hr]) hrt (KX.out.trans kk);clear kk U1 t0 hr hrt;have VF:=lH (show w3.ownsRow w2.heap.size 244 1 u7 m (je qB la) by have:=(HO.out.kept KW.out).1;rw[HT.out] at this;exact this);have hs1:wr.heap.size≤w3.heap.size:=Below.size KW.out;go_wp2_with (at_builtin;refine wpList_append_lies _ rfl _ _ _ rfl w2.heap.size 244 i0 _ 1 8 Tryz.underlying279 hi hz0 hz1 hz2' rfl (by decide) u7 m (je qB la) rfl (VF.out.alloc _) ⟨w3.heap.size,0,none⟩ 1 1 (qB.cs r) rfl rfl (World.news_of_block (cs:=#[.float .f64 r]) (t:=244) (fr:=(0,0)) (heap_alloc_new w3 _)) (jhZ r) (by decide) (by unfold maxLen;omega) (by omega) (by simp;omega) (w3.heap.size+1) (by simp) ?_;intro gg cap1 w4 hown1 hgrow hat hlt1)
    have VQ:=lH ((show Below w2.heap.size w2 _ from HK.out.trans (KW.out.trans (ja w3 _))).grown hgrow (by simp;omega) (fun j hj=>(VF.out.lt j hj).1));go_wp2;go_roundw
    case rel=>exact⟨k+1,by omega,by go_num,la++[r],HV.out,Own.snoc hown1 (by rw[HT.out]) HO.out.2 Ru.out,VQ.out⟩
    case measure=>simp[intOf];omega
  · have hge:¬(k:Int)<(k1:Int):=by omega
    have HE:=lH (show la.map nrm=cap.map (fun a=>Yo s name a.1) by rw[hla,List.take_of_length_le (by have:=T3.out;omega)]);obtain⟨aL,cL,rfl,-,-,hrow⟩:=ho.at_;have Te:=lH (jlM aL la.length cL la wr (jml hrow));rw[hm] at Te;try rw[hm]
    clear hla ho hm hK hrow;go_wp2_with fail
    refine Te.out.mono ?_;rintro e w5 ⟨r,rfl,hr,hrt,kk⟩;have HR:=lH (show nrm r=jc2 s name by rw[hr,jkf,HE.out,HM.out]);have K:=lH (K.out.trans (HK.out.trans kk));clear kk hr Te;go_wp2;go_ret;exact jgf HR.out hrt K.out
theorem jkl (s1 s2 s3:Option Addr) (n1 e1 n2 e2 n3 e3:Nat) (s:Clu) (name:ByteArray) (w:World) (hs:jC w (Jk (.slice s1 n1 e1) (.slice s2 n2 e2) (.slice s3 n3 e3)) s) (hl:jE s):Calls Tryz.prog 265 #[.agg #[.slice s1 n1 e1,.slice s2 n2 e2,.slice s3 n3 e3],.string name] w (jeY (Z0 s name) w):=by
 obtain⟨Z,hZ⟩:=eX ((w.alloc (.cells #[.slice s1 n1 e1,.slice s2 n2 e2,.slice s3 n3 e3] 26)).alloc (.cells #[.slice none 0 0,.slice none 0 0,.slice none 0 0] 26))
 have hkz:Kept w Z:=by rw[←hZ];exact jn _ _ _
 have Vj:=lH (jc w (.slice s1 n1 e1) [.slice s2 n2 e2,.slice s3 n3 e3] 26 Z (by rw[←hZ];exact ja _ _));have hq2:jf (w.heap.size+1) [.slice none 0 0,.slice none 0 0,.slice none 0 0] Z:=by
  have dd:=jc (w.alloc (.cells #[.slice s1 n1 e1,.slice s2 n2 e2,.slice s3 n3 e3] 26)) (.slice none 0 0) [.slice none 0 0,.slice none 0 0] 26 Z (by rw[hZ];exact Kept.refl _);rw[World.size_alloc] at dd;exact dd
 have hh2:Z.heap[w.heap.size+1]?=some (.cells #[.slice none 0 0,.slice none 0 0,.slice none 0 0] 26):=by
  have:=World.alloc_heap_new (w.alloc (.cells #[.slice s1 n1 e1,.slice s2 n2 e2,.slice s3 n3 e3] 26)) (.cells #[.slice none 0 0,.slice none 0 0,.slice none 0 0] 26);rw[World.size_alloc,hZ] at this;exact this
 obtain⟨HQ,HH,UN,HS,Vc,HL⟩:=lH6 hq2 hh2 hq2.lt (hs.kept hkz) hkz hl;clear hs hl hkz hq2 hh2;have HF:=lH (show ∀W,jf w.heap.size [.slice s1 n1 e1,.slice s2 n2 e2,.slice s3 n3 e3] W→W.cell? ⟨w.heap.size,0,none⟩=some (.slice s1 n1 e1)∧W.cell? ⟨w.heap.size,1,none⟩=some (.slice s2 n2 e2)∧W.cell? ⟨w.heap.size,2,none⟩=some (.slice s3 n3 e3) from fun W h=>⟨h.at_ 0 _ rfl,h.at_ 1 _ rfl,h.at_ 2 _ rfl⟩);go_enter Tryz.func265,Tryz.ntmps265;go_upto_region 1 with fail
 try rw[hZ]
 clear hZ;have J:=lH (Kept.drew Z);refine wp_region_held_drew (S:=fun W=>W.cell? ⟨w.heap.size,0,none⟩=some (.slice s1 n1 e1)∧W.cell? ⟨w.heap.size,1,none⟩=some (.slice s2 n2 e2)∧W.cell? ⟨w.heap.size,2,none⟩=some (.slice s3 n3 e3)) (by kernel_rfl) (HF.out _ (Vj.out.kept J.out)) (fun hHeld=>?_);obtain⟨wd,hwd⟩:=eX (Z.drew)
 rw[hwd] at J hHeld;try rw[hwd]
 clear hwd;refine tkI 0 ?_;refine tkI 1 ?_;refine tkI 4 ?_;refine tkI 5 ?_;try simp only[nP]
 refine rd1 2 fun K9 Ky=>?_;go_simp;refine(qq s1 s2 s3 n1 e1 n2 e2 n3 e3 s name _ (HS.out.kept J.out) HL.out).mono ?_;rintro e w2 ⟨b1,k1,d1,b2,k2,d2,b3,k3,d3,rfl,hn,kk⟩;have HN:=lH hn;have J:=lH (J.out.trans kk);clear kk hn;unfold zi;refine Ky.out _ _ (HF.out _ (Vj.out.kept J.out)) (fun _=>?_);clear Ky K9;try simp only[nP]
 obtain⟨nz,hnz⟩:=eX (J8 s name)
 rw[hnz] at HN;have R6:=lH hnz;try rw[hnz]
 clear hnz;refine rdH (rs:=[3,6]) (h:=coH (fun K9 Ky=>?_) (coH (fun K9 Ky=>?_) AllReadyH.nil))
 · go_simp;refine Ky.out _ _ (HF.out _ (Vj.out.kept (J.out.trans (ja _ _)))) (fun _=>?_);clear Ky K9;try simp only[nP]
   obtain⟨wb,hw⟩:=eX (w2.alloc (.cells #[.string nz.name,.slice b1 k1 d1,.slice b2 k2 d2,.slice b3 k3 d3,.bool nz.cordon] 78))
   have kk:Kept w2 wb:=by rw[←hw];exact ja _ _
   obtain⟨gB,hgB⟩:=eX (w2.heap.size)
   have Vx:=lH (show jo wb (some ⟨gB,0,none⟩) 1 [nz] from by
    have c:=jc w2 (.string nz.name) [.slice b1 k1 d1,.slice b2 k2 d2,.slice b3 k3 d3,.bool nz.cordon] 78 wb (by rw[hw];exact Kept.refl _);rw[hgB] at c;exact zV (lx:=[(nz,(b1,k1,d1),(b2,k2,d2),(b3,k3,d3))]) (j0 rfl c (fun _ _=>trivial) (by decide:(1:Nat)≤maxLen)) (fun z hz=>by
     obtain rfl:=List.mem_singleton.1 hz;exact HN.out.kept kk))
   have J:=lH (J.out.trans kk);try rw[hw]
   try rw[hgB]
   clear hw kk hgB;have hHeldB:=HF.out _ (Vj.out.kept J.out);refine rd1 6 fun K9 Ky=>?_;go_simp;refine(onR (HS.out.kept J.out) name HL.out).mono ?_;rintro e wo ⟨y,rfl,⟨aP,cP,rfl,hp1,hp2,hp⟩,kk⟩;obtain⟨Tf,J,Vx⟩:=lH3 (show Jo wo (.slice aP (onP name s.pods).length cP) (onP name s.pods) from⟨aP,cP,rfl,hp1,hp2,hp⟩) (J.out.trans kk) (Vx.out.kept kk);clear kk hp hp1 hp2;refine Ky.out _ _ (HF.out _ (Vj.out.kept J.out)) (fun _=>?_);clear Ky K9;try simp only[nP]
   obtain⟨lP,hlP⟩:=eX ((onP name s.pods).length)
   rw[hlP] at Tf;try rw[hlP]
   clear hlP;refine tkI 7 ?_;try simp only[nP]
   have VS:=lH (HQ.out.kept J.out);have Rv:=lH ((J.out.block _ UN.out).trans HH.out);obtain⟨z0,z1,z2⟩:=VS.out.at3;have f0:=VS.out.free 0;have f1:=VS.out.free 1;have f2:=VS.out.free 2;have PP:=lH (j7 (vs:=[.slice (some ⟨gB,0,none⟩) 1 1,.slice aP lP cP,.slice none 0 0]) VS.out rfl);refine rd1 8 fun K9 Ky=>?_;go_simp;obtain⟨WE,hWE⟩:=eX (wo.setCells (w.heap.size+1) 0 [.slice (some ⟨gB,0,none⟩) 1 1,.slice aP lP cP,.slice none 0 0])
   have hWE2:(((wo.setCell ⟨w.heap.size+1,0,none⟩ (.slice (some ⟨gB,0,none⟩) 1 1)).setCell ⟨w.heap.size+1,1,none⟩ (.slice aP lP cP)).setCell ⟨w.heap.size+1,2,none⟩ (.slice none 0 0))=WE:=hWE;rw[hWE] at PP;try rw[hWE2]
   obtain⟨RE,JE,Tu⟩:=lH3 (show jC WE (.agg #[.slice (some ⟨gB,0,none⟩) 1 1,.slice aP lP cP,.slice none 0 0]) (Z0 s name) from zT (w:=wo) (N:=w.heap.size+1) PP.out.size PP.out.far (J5 Rv.out) ⟨_,_,_,rfl,⟨⟨_,_,rfl,(by decide:(1:Nat)≤1),(by decide:(1:Nat)≤maxLen),by unfold Z0;rw[R6.out];exact Vx.out⟩,Tf.out,⟨_,_,rfl,Nat.le_refl _,(by decide:(0:Nat)≤maxLen),zS _⟩⟩⟩) (show Kept w WE by rw[←hWE];exact jt _ _ _ _ _ _ (Nat.le_succ _) (Vc.out.trans J.out)) (show jf w.heap.size [.slice s1 n1 e1,.slice s2 n2 e2,.slice s3 n3 e3] WE from(Vj.out.kept J.out).block (PP.out.far _ (by omega)));clear hWE hWE2 z0 f0 z1 f1 z2 f2;refine Ky.out _ _ (HF.out _ Tu.out) (fun _=>?_);clear Ky K9;try simp only[nP]
   refine wpAnyH_done (by kernel_rfl) ?_ _;have d0:=PP.out.cells.at_ 0 _ rfl;have d1:=PP.out.cells.at_ 1 _ rfl;have d2:=PP.out.cells.at_ 2 _ rfl;go_wp2;refine bodyPost_ret (by simp[results,Tryz.results265,go_sem,d0,d1,d2];try rfl) rfl ?_;exact⟨_,rfl,RE.out,JE.out⟩
 · go_simp;refine(onR (HS.out.kept J.out) name HL.out).mono ?_;rintro e wo ⟨y,rfl,⟨aP,cP,rfl,hp1,hp2,hp⟩,kk⟩;obtain⟨Tf,J,HN⟩:=lH3 (show Jo wo (.slice aP (onP name s.pods).length cP) (onP name s.pods) from⟨aP,cP,rfl,hp1,hp2,hp⟩) (J.out.trans kk) (HN.out.kept kk);clear kk hp hp1 hp2;refine Ky.out _ _ (HF.out _ (Vj.out.kept J.out)) (fun _=>?_);clear Ky K9;try simp only[nP]
   refine rd1 3 fun K9 Ky=>?_;go_simp;refine Ky.out _ _ (HF.out _ (Vj.out.kept (J.out.trans (ja _ _)))) (fun _=>?_);clear Ky K9;try simp only[nP]
   obtain⟨wb,hw⟩:=eX (wo.alloc (.cells #[.string nz.name,.slice b1 k1 d1,.slice b2 k2 d2,.slice b3 k3 d3,.bool nz.cordon] 78))
   have kk:Kept wo wb:=by rw[←hw];exact ja _ _
   obtain⟨gB,hgB⟩:=eX (wo.heap.size)
   have Vx:=lH (show jo wb (some ⟨gB,0,none⟩) 1 [nz] from by
    have c:=jc wo (.string nz.name) [.slice b1 k1 d1,.slice b2 k2 d2,.slice b3 k3 d3,.bool nz.cordon] 78 wb (by rw[hw];exact Kept.refl _);rw[hgB] at c;exact zV (lx:=[(nz,(b1,k1,d1),(b2,k2,d2),(b3,k3,d3))]) (j0 rfl c (fun _ _=>trivial) (by decide:(1:Nat)≤maxLen)) (fun z hz=>by
     obtain rfl:=List.mem_singleton.1 hz;exact HN.out.kept kk))
   have Tf:=lH (Tf.out.kept kk);have J:=lH (J.out.trans kk);try rw[hw]
   try rw[hgB]
   clear hw kk hgB;have hHeldB:=HF.out _ (Vj.out.kept J.out);obtain⟨lP,hlP⟩:=eX ((onP name s.pods).length)
   rw[hlP] at Tf;try rw[hlP]
   clear hlP;refine tkI 7 ?_;try simp only[nP]
   have VS:=lH (HQ.out.kept J.out);have Rv:=lH ((J.out.block _ UN.out).trans HH.out);obtain⟨z0,z1,z2⟩:=VS.out.at3;have f0:=VS.out.free 0;have f1:=VS.out.free 1;have f2:=VS.out.free 2;have PP:=lH (j7 (vs:=[.slice (some ⟨gB,0,none⟩) 1 1,.slice aP lP cP,.slice none 0 0]) VS.out rfl);refine rd1 8 fun K9 Ky=>?_;go_simp;obtain⟨WE,hWE⟩:=eX (wb.setCells (w.heap.size+1) 0 [.slice (some ⟨gB,0,none⟩) 1 1,.slice aP lP cP,.slice none 0 0])
   have hWE2:(((wb.setCell ⟨w.heap.size+1,0,none⟩ (.slice (some ⟨gB,0,none⟩) 1 1)).setCell ⟨w.heap.size+1,1,none⟩ (.slice aP lP cP)).setCell ⟨w.heap.size+1,2,none⟩ (.slice none 0 0))=WE:=hWE;rw[hWE] at PP;try rw[hWE2]
   obtain⟨RE,JE,Tu⟩:=lH3 (show jC WE (.agg #[.slice (some ⟨gB,0,none⟩) 1 1,.slice aP lP cP,.slice none 0 0]) (Z0 s name) from zT (w:=wb) (N:=w.heap.size+1) PP.out.size PP.out.far (J5 Rv.out) ⟨_,_,_,rfl,⟨⟨_,_,rfl,(by decide:(1:Nat)≤1),(by decide:(1:Nat)≤maxLen),by unfold Z0;rw[R6.out];exact Vx.out⟩,Tf.out,⟨_,_,rfl,Nat.le_refl _,(by decide:(0:Nat)≤maxLen),zS _⟩⟩⟩) (show Kept w WE by rw[←hWE];exact jt _ _ _ _ _ _ (Nat.le_succ _) (Vc.out.trans J.out)) (show jf w.heap.size [.slice s1 n1 e1,.slice s2 n2 e2,.slice s3 n3 e3] WE from(Vj.out.kept J.out).block (PP.out.far _ (by omega)));clear hWE hWE2 z0 f0 z1 f1 z2 f2;refine Ky.out _ _ (HF.out _ Tu.out) (fun _=>?_);clear Ky K9;try simp only[nP]
   refine wpAnyH_done (by kernel_rfl) ?_ _;have d0:=PP.out.cells.at_ 0 _ rfl;have d1:=PP.out.cells.at_ 1 _ rfl;have d2:=PP.out.cells.at_ 2 _ rfl;go_wp2;refine bodyPost_ret (by simp[results,Tryz.results265,go_sem,d0,d1,d2];try rfl) rfl ?_;exact⟨_,rfl,RE.out,JE.out⟩
end Go.Proofs.YtibepooajeakfaaGreat
