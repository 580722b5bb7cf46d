/- C. -/
import Derived.Test.YtibepooajeakfaaGreatG2
import Derived.Test.YtibepooajeakfaaGreatG3
import Derived.Test.YtibepooajeakfaaGreatG4
import Derived.Test.YtibepooajeakfaaGreatG6
import Derived.Test.YtibepooajeakfaaGreatG8
import Derived.Test.YtibepooajeakfaaGreatG9
import Derived.Test.YtibepooajeakfaaGreatG10
import Derived.Test.YtibepooajeakfaaGreatG11
import Derived.Test.YtibepooajeakfaaGreatG13
import Derived.Test.YtibepooajeakfaaGreatG19
import Derived.Test.YtibepooajeakfaaGreatG20
set_option linter.unusedVariables false
set_option maxRecDepth 100000
set_option maxHeartbeats 25600000
namespace Go.Proofs.YtibepooajeakfaaGreat
open Go.RowKit
theorem jeK {x:ByteArray} {p:Pd}:∀(l:List Pd) (m:ByteArray),zS x (Jw p l) m=JP x p m+zS x l m
 | [],m=>rfl
 | q::t,m=>by
  rw[Jw];split
  · rfl
  · show JP x q m+zS x (Jw p t) m=JP x p m+(JP x q m+zS x t m);rw[jeK t m];omega
theorem jgt:∀{prev:Option ByteArray} {l:List Pd},Asc l→(∀p ∈ l,zN p=0)→(∀q,prev=some q→∀x ∈ l,ltS q x.name=true)→zg prev l=0
 | _,[],_,_,_=>rfl
 | prev,n::t,h,hc,hb=>by
  obtain⟨h1,h2⟩:=List.pairwise_cons.1 h;have b:Vec.jG prev n.name=false:=by
   cases prev with
   | none=>rfl
   | some q=>exact Vec.qU (hb q rfl n (by simp))
  rw[YP (hc n (by simp)) b];exact jgt h2 (fun p hp=>hc p (by simp[hp])) fun q hq x hx=>by cases hq;exact h1 x hx
theorem jcT {nodes:List Nod}:∀{l:List Pd},(∀p ∈ l,zD p.node=false→(jk nodes p.node).isSome=true)→jE nodes l=0
 | [],_=>rfl
 | q::t,h=>by
  rw[jE,if_neg fun g=>by have:=h q (by simp) g.1;rw[g.2] at this;cases this];exact jcT fun p hp=>h p (by simp[hp])
theorem jeR {pods:List Pd}:∀{l:List Nod},(∀n ∈ l,∃u,jF n.name pods []=(0,u)∧Vec.jx n.cap u=true)→jX pods l=0
 | [],_=>rfl
 | n::t,h=>by
  obtain⟨u,h1,h2⟩:=h n (by simp);rw[qF h1 h2];exact jeR fun m hm=>h m (by simp[hm])
theorem jjc:∀{l:List Int},(∀c ∈ l,c=0)→orL l=0
 | [],_=>rfl
 | x::t,h=>by rw[orL,if_neg (by rw[h x (by simp)];decide)];exact jjc fun c hc=>h c (by simp[hc])
theorem jcU {n:Nod} (h:zy n=0):isName n.name=true:=by
 unfold zy at h;split at h
 · cases h
 · rename_i h1;simpa using h1
theorem jjw {p:Pd} {x:ByteArray} (h:zN p=0) (hx:isName x=true):zN { p with node:=x }=0:=by
 have hz:=jbv (l:=jaD p) h;unfold zN;refine jjc fun c hc=>?_;unfold jaD at hc hz;simp only[List.mem_cons,List.not_mem_nil,or_false] at hc hz;rcases hc with rfl | rfl | rfl | rfl | rfl | rfl | rfl | rfl
 · exact hz _ (.inl rfl)
 · exact hz _ (.inr (.inl rfl))
 · exact hz _ (.inr (.inr (.inl rfl)))
 · exact hz _ (.inr (.inr (.inr (.inl rfl))))
 · exact hz _ (.inr (.inr (.inr (.inr (.inl rfl)))))
 · exact hz _ (.inr (.inr (.inr (.inr (.inr (.inl rfl))))))
 · exact hz _ (.inr (.inr (.inr (.inr (.inr (.inr (.inl rfl)))))))
 · unfold X5 XX;rw[hx];simp
theorem jgO {s:Clu} {p:Pd} {x:ByteArray} (hg:Jr s=0) (hs:Sound s) (hp:zN p=0) (hq:zx p.need) (hl:(j7 s p.name).pods.length<128) (h:Yu s p x=0):Jr (Jb s { p with node:=x })=0:=by
 obtain⟨n,hf,hz⟩:=jfp h;obtain⟨-,-,-,h4⟩:=jd6 hz;obtain⟨hm,rfl⟩:=jc0 hf;have h5:=(jjU (s:=j7 s p.name) hf (hs.cap n hm) (jiL hs.need p.name) hq).1 h4;have h0:or3 (jV s.nodes) (jK s.pods) (jZ s.buds)=0:=Decidable.byContradiction fun g=>g ((jaI (nl:=s.nodes) (pl:=s.pods) (bl:=s.buds) rfl g).symm.trans hg);have hN:=hs.parts.nodes;have hP:=hs.parts.pods;have hB:jZ s.buds=0:=by
  unfold or3 at h0;rw[if_neg (by rw[hN];decide),if_neg (by rw[hP];decide)] at h0;exact h0
 have hnodes:∀m ∈ s.nodes,zy m=0:=by
  unfold jV at hN;split at hN
  · cases hN
  · exact(YT hN).2.2
 have hpods:∀q ∈ s.pods,zN q=0:=by
  unfold jK at hP;split at hP
  · cases hP
  · exact jaB hP
 have hp':zN { p with node:=n.name }=0:=jjw hp (jcU (hnodes n hm));have hP':jK (Jb s { p with node:=n.name }).pods=0:=by
  have e1:=jcI (s:=s) { p with node:=n.name };have e2:=XE s p.name;unfold jK;rw[if_neg (by
   have e3:(Jb s { p with node:=n.name }).pods.length=(j7 s p.name).pods.length+1:=e1;omega)]
  refine jgt (jgs hs.asc _) (fun q hq=>?_) fun q hq=>by cases hq
  rcases ins_mem hq with rfl | hq
  · exact hp'
  · exact hpods q (JQ hq)
 have hpl:jE s.nodes (Jb s { p with node:=n.name }).pods=0:=jcT fun q hq hn=>by
  rcases ins_mem hq with rfl | hq
  · show (jk s.nodes n.name).isSome=true;have:jk s.nodes n.name=some n:=hf;rw[this];rfl
  · exact jdc hs.parts.places q (JQ hq) hn
 have hneed:∀q ∈ (Jb s { p with node:=n.name }).pods,zx q.need:=fun q hq9=>by
  rcases ins_mem hq9 with rfl | hq9
  · exact hq
  · exact hs.need q (JQ hq9)
 have hro:jX (Jb s { p with node:=n.name }).pods s.nodes=0:=jeR fun k hk=>by
  obtain⟨u,h1,-,-,h2⟩:=jiS (x:=k.name) (l:=(Jb s { p with node:=n.name }).pods) (hs.cap k hk) hneed fun m=>by
   show zS k.name (Jw { p with node:=n.name } (j0 p.name s.pods)) m≤_;rw[jeK];by_cases e:k.name=n.name
   · have hkn:k=n:=by
      have e1:=hs.parts.jk hk;rw[e] at e1;have e2:jk s.nodes n.name=some n:=hf;rw[e2] at e1;exact(Option.some.inj e1).symm
     subst hkn;have e3:JP k.name { p with node:=k.name } m=Vec.jh p.need m:=by unfold JP;rw[if_pos (J7 _)]
     have:=h5 m;have h6:zS k.name (j0 p.name s.pods) m+Vec.jh p.need m≤Vec.jh k.cap m:=this;omega
   · have e3:JP k.name { p with node:=n.name } m=0:=by unfold JP;rw[if_neg fun g=>e (jM.1 g).symm]
     have h7:=hs.sum hk m;have h8:=jkG (x:=k.name) (y:=p.name) s.pods hs.need m;omega
  exact⟨u,h1,h2⟩
 have ho:or3 (jV s.nodes) (jK (Jb s { p with node:=n.name }).pods) (jZ s.buds)=0:=by rw[hN,hP',hB];rfl
 exact(ja9 (nl:=s.nodes) (pl:=(Jb s { p with node:=n.name }).pods) (bl:=s.buds) ho hpl hro).trans hs.parts.tot
def jd5 (s:Clu) (w:World) (e:Ending) (w':World):Prop:=∃y,e=.returned y∧jB w' y s∧Kept w w'
theorem jmn {v u:Value} {s:Clu} {p:Pd} {w:World} (h:jB w v s) (g:jcs w u p) (hl:jA s) (hp:Jq p):Calls Tryz.prog 264 #[v,u] w (jd5 (Jb s p) w):=by
 obtain⟨v1,v2,v3,rfl,⟨a,cap,rfl,l1,m1,h1⟩,⟨b,cp,rfl,l2,m2,h2⟩,⟨d,cb,rfl,l3,m3,h3⟩⟩:=h;obtain⟨u1,u2,u3,u4,rfl,hat⟩:=g;have g1:=hat.need;have g2:=hat.labels;have g3:=hat.sel;have g4:=hat.tols;obtain⟨b1,d1,rfl,-,-,-⟩:=g1;obtain⟨b2,d2,rfl,-,-,-⟩:=g2;obtain⟨b3,d3,rfl,-,-,-⟩:=g3;obtain⟨b4,d4,rfl,-,-,-⟩:=g4;refine(jip a b d _ cap _ cp _ cb s.nodes s.pods s.buds p b1 b2 b3 b4 _ d1 _ d2 _ d3 _ d4 w h1 h2 h3 l1 m1 l2 m2 l3 m3 hl hat hp).mono ?_;rintro e w' ⟨_,_,_,_,_,_,_,_,_,rfl,ho,kk⟩;exact⟨_,rfl,ho.toR,kk⟩
theorem jgF {v:Value} {s:Clu} {w:World} (h:jB w v s) (x:ByteArray) (hl:jA s):Calls Tryz.prog 56 #[v,.string x] w (jd5 (j7 s x) w):=by
 obtain⟨v1,v2,v3,rfl,⟨a,cap,rfl,l1,m1,h1⟩,⟨b,cp,rfl,l2,m2,h2⟩,⟨d,cb,rfl,l3,m3,h3⟩⟩:=h;refine(jb9 a b d _ cap _ cp _ cb s.nodes s.pods s.buds x w h1 h2 h3 l1 m1 l2 m2 l3 m3 hl).mono ?_;rintro e w' ⟨_,_,_,_,_,_,_,_,_,rfl,ho,kk⟩;exact⟨_,rfl,ho.toR,kk⟩
theorem jkc {a:Option Addr} {n c:Nat} {l:List Pd} {w:World} (h:zU w (.slice a n c) l):jC w a n l:=by
 obtain⟨a',cap',e,_,_,h⟩:=h
 cases e
 exact h
theorem jlG {s:Clu} {p:Pd} (h:jA s) (hp:Jq p) (hn:s.pods.length≤1000):jA (Jb s p) :=
 ⟨h.nodes,fun q hq=>by rcases ins_mem hq with rfl | hq;exact hp;exact h.pods q (JQ hq),h.buds,h.nodesN,by
  have h1:=jcI (s:=s) p;have h2:=XE s p.name;omega,h.budsN⟩
theorem jbh {s:Clu} (h:jA s) (x:ByteArray):jA (j7 s x) :=
 ⟨h.nodes,fun q hq=>h.pods q (JQ hq),h.buds,h.nodesN,by
  have h2:=XE s x;have:=h.podsN;omega,h.budsN⟩
open Go.RowKit Go.Sort
def jL (p:Pd):Bool:=zD p.node&&!p.hold
def zh (p q:Pd):Bool:=decide (YO p q<0)
def Y4 (l m:List Pd):Prop:=m.Perm (l.filter jL)∧m.Pairwise fun a b=>zh b a=false
theorem jbN {p q:Pd}:zh p q=true↔(q.prio<p.prio∨(q.prio=p.prio∧ltS p.name q.name=true)):=by
 unfold zh;rw[decide_eq_true_iff,jbQ]
theorem qC {p q:Pd}:zh p q=false↔¬(q.prio<p.prio∨(q.prio=p.prio∧ltS p.name q.name=true)):=by
 rw[←Bool.not_eq_true,jbN]
theorem jab {p q:Pd} (h:zh p q=false) (g:zh q p=false):p.name=q.name:=by
 rw[qC] at h g;have e:p.prio=q.prio:=by omega
 refine Vec.YE ?_ ?_
 · cases k:ltS p.name q.name with
   | false=>rfl
   | true=>exact absurd (.inr ⟨e.symm,k⟩) h
 · cases k:ltS q.name p.name with
   | false=>rfl
   | true=>exact absurd (.inr ⟨e,k⟩) g
theorem Xs {x y z:Pd} (h1:zh x y=true) (h2:zh y z=true):zh x z=true:=by
 unfold zh at *;rw[decide_eq_true_iff] at *;exact jeI h1 h2
theorem qJ {x y z:Pd} (h1:zh x y=false) (h2:zh y z=false):zh x z=false:=by
 cases e:zh x z with
 | false=>rfl
 | true =>
  cases q:zh y x with
  | true=>rw[Xs q e] at h2;cases h2
  | false =>
   have hn:=jab h1 q;rw[qC] at h1 q h2;rw[jbN] at e;rcases e with e | ⟨e1,e2⟩
   · exact absurd (.inl (by omega)) h2
   · exact absurd (.inr ⟨by omega,by rw[←hn];exact e2⟩) h2
theorem qQ (x:Pd):zh x x=false:=by
 rw[qC,Vec.Yl];rintro (h | ⟨-,h⟩)
 · omega
 · cases h
theorem jbm {l:List Pd} (h:Asc l) {p q:Pd} (hp:p ∈ l) (hq:q ∈ l) (e:p.name=q.name):p=q:=by
 have h1:=qq h hp;have h2:=qq h hq;rw[e,h2] at h1;exact(Option.some.inj h1).symm
theorem Y4.unique {l m k:List Pd} (ha:Asc l) (h:Y4 l m) (g:Y4 l k):m=k :=
 List.Perm.eq_of_pairwise (fun a b h1 h2 e1 e2=>jbm ha (List.mem_filter.1 (h.1.mem_iff.1 h1)).1 (List.mem_filter.1 (g.1.mem_iff.1 h2)).1 (jab e2 e1)) h.2 g.2 (h.1.trans g.1.symm)
def zr (l:List Pd):List Pd:=(l.filter jL).mergeSort fun a b=>!zh b a
theorem jbt (l:List Pd):Y4 l (zr l):=by
 refine⟨List.mergeSort_perm _ _,?_⟩;have h:=List.pairwise_mergeSort (le:=fun a b=>!zh b a) (fun a b c h1 h2=>by
  simp only[Bool.not_eq_true'] at *;exact qJ h2 h1) (fun a b=>by
  cases e:zh b a with
  | false=>rfl
  | true =>
   cases q:zh a b with
   | false=>rfl
   | true=>have:=Xs e q;rw[qQ b] at this;cases this) (l.filter jL)
 exact h.imp fun {a b} g=>by simpa using g
theorem qH {l m:List Pd} (ha:Asc l) (h:Y4 l m):m=zr l:=h.unique ha (jbt l)
theorem Xw {l:List Pd} {p:Pd}:p ∈ zr l↔p ∈ l∧jL p=true:=by rw[(jbt l).1.mem_iff,List.mem_filter]
theorem jaa (l:List Pd):(zr l).length=(l.filter jL).length:=(jbt l).1.length_eq
theorem Xt (l:List Pd):(zr l).length≤l.length:=by rw[jaa];exact List.length_filter_le _ _
def XS (s:Clu) (p:Pd) (pack:Bool):Option ByteArray:=((jO s p s.nodes).mergeSort fun a b=>!Yb s p pack b a).head?
theorem jaC (s:Clu) (p:Pd) (pack:Bool):XV s p pack ((jO s p s.nodes).mergeSort fun a b=>!Yb s p pack b a):=by
 refine⟨List.mergeSort_perm _ _,?_⟩;have h:=List.pairwise_mergeSort (le:=fun a b=>!Yb s p pack b a) (fun a b c h1 h2=>by
  simp only[Bool.not_eq_true'] at *;exact qM h2 h1) (fun a b=>by
  cases e:Yb s p pack b a with
  | false=>rfl
  | true =>
   cases q:Yb s p pack a b with
   | false=>rfl
   | true=>have:=Xk e q;rw[qP] at this;cases this) (jO s p s.nodes)
 exact h.imp fun {a b} g=>by simpa using g
theorem jig {s:Clu} {p:Pd} {pack:Bool} {l:List ByteArray} (h:XV s p pack l):l.head?=XS s p pack:=by
 unfold XS;rw[h.unique (jaC s p pack)]
theorem YG {s:Clu} {p:Pd} {pack:Bool}:XS s p pack=none↔jO s p s.nodes=[]:=by
 unfold XS;rw[List.head?_eq_none_iff];constructor
 · intro h;have:=(jaC s p pack).1;rw[h] at this;exact List.Perm.eq_nil this.symm
 · intro h;have:=(jaC s p pack).1;rw[h] at this;rw[h];exact List.Perm.eq_nil this
theorem jgm {s:Clu} {p:Pd} {pack:Bool} {x:ByteArray} (h:XS s p pack=some x):x ∈ jO s p s.nodes :=
 (jaC s p pack).1.mem_iff.1 (List.mem_of_head? h)
def Ji (s:Clu) (pack:Bool):List Pd→Option (ByteArray×ByteArray)
 | []=>none
 | p::t=>match XS s p pack with
  | some x=>some (p.name,x)
  | none=>Ji s pack t
def nextS (s:Clu) (pack:Bool):Option (ByteArray×ByteArray):=Ji s pack (zr s.pods)
theorem jdT {s:Clu} {pack:Bool} {x t:ByteArray}:∀{l:List Pd},Ji s pack l=some (x,t)→∃p ∈ l,p.name=x∧XS s p pack=some t
 | [],h=>by cases h
 | p::l,h=>by
  rw[Ji] at h;split at h
  · rename_i y e;obtain⟨rfl,rfl⟩:=Prod.mk.inj (Option.some.inj h);exact⟨p,by simp,rfl,e⟩
  · obtain⟨q,hq,e⟩:=jdT h;exact⟨q,by simp[hq],e⟩
theorem jcN {s:Clu} {pack:Bool}:∀{l:List Pd},Ji s pack l=none→∀p ∈ l,XS s p pack=none
 | [],_,p,hp=>by cases hp
 | q::l,h,p,hp=>by
  rw[Ji] at h;split at h
  · cases h
  · rename_i e;rcases List.mem_cons.1 hp with rfl | hp
    · exact e
    · exact jcN h p hp
theorem qI {s:Clu} {pack:Bool} {x t:ByteArray} (h:nextS s pack=some (x,t)):∃p ∈ s.pods,jL p=true∧p.name=x∧t ∈ jO s p s.nodes:=by
 obtain⟨p,hp,e,c⟩:=jdT h;obtain⟨h1,h2⟩:=Xw.1 hp;exact⟨p,h1,h2,e,jgm c⟩
theorem jeh {p:Pd} {y:ByteArray}:∀{l:List Pd},Asc l→p ∈ l→Jm p.name y l=Jw { p with node:=y } (j0 p.name l)
 | [],_,h=>by cases h
 | q::r,ha,h=>by
  obtain⟨h1,h2⟩:=List.pairwise_cons.1 ha;rw[Jm,j0];by_cases e:eqS q.name p.name=true
  · rw[if_pos e,if_pos e];have hq:q=p:=jbm ha (by simp) h (jM.1 e);subst hq
    cases r with
    | nil=>rfl
    | cons z r=>rw[Jw,if_pos (by exact h1 z (by simp))]
  · rw[if_neg e,if_neg e];have hp:p ∈ r:=(List.mem_cons.1 h).resolve_left fun g=>e (by rw[g];exact J7 _);have hlt:¬ltS p.name q.name=true:=fun g'=>absurd (Vec.zM (h1 p hp) g') (by rw[Vec.Yl];decide);rw[Jw,if_neg (by exact hlt),jeh h2 hp]
theorem jat {p:Pd} {y:ByteArray} (hr:jL p=true) (hy:zD y=false):∀{l:List Pd},Asc l→p ∈ l→((Jm p.name y l).filter jL).length+1=(l.filter jL).length
 | [],_,h=>by cases h
 | q::r,ha,h=>by
  obtain⟨h1,h2⟩:=List.pairwise_cons.1 ha;rw[Jm];by_cases e:eqS q.name p.name=true
  · rw[if_pos e];have hq:q=p:=jbm ha (by simp) h (jM.1 e);subst hq;rw[List.filter_cons_of_neg (by unfold jL;show ¬((zD y&&!q.hold)=true);rw[hy];simp),List.filter_cons_of_pos hr];rfl
  · rw[if_neg e];have hp:p ∈ r:=(List.mem_cons.1 h).resolve_left fun g=>e (by rw[g];exact J7 _);by_cases g:jL q=true
    · rw[List.filter_cons_of_pos g,List.filter_cons_of_pos g,List.length_cons,List.length_cons,jat hr hy h2 hp]
    · rw[List.filter_cons_of_neg g,List.filter_cons_of_neg g,jat hr hy h2 hp]
theorem jaw (x y:ByteArray):∀l:List Pd,(Jm x y l).length=l.length
 | []=>rfl
 | q::r=>by
  rw[Jm];split
  · rfl
  · rw[List.length_cons,List.length_cons,jaw x y r]
structure zZ (s:Clu):Prop where
 chk:Jr s=0
 sound:Sound s
 low:jA s
 few:s.pods.length≤128
theorem zZ.asc {s:Clu} (h:zZ s):Asc s.pods:=h.sound.asc
theorem zZ.pods {s:Clu} (h:zZ s):∀q ∈ s.pods,zN q=0:=by
 have hP:=h.sound.parts.pods;unfold jK at hP;split at hP
 · cases hP
 · exact jaB hP
theorem zZ.nodes {s:Clu} (h:zZ s):∀m ∈ s.nodes,zy m=0:=by
 have hN:=h.sound.parts.nodes;unfold jV at hN;split at hN
 · cases hN
 · exact(YT hN).2.2
theorem jir {x:ByteArray} (h:isName x=true):zD x=false:=by
 cases e:zD x with
 | false=>rfl
 | true =>
  have:=jM.1 (show eqS x ByteArray.empty=true from e);subst this;exact absurd h (by decide)
theorem zZ.to {s:Clu} (h:zZ s) {pack:Bool} {x t:ByteArray} (hn:nextS s pack=some (x,t)):zD t=false:=by
 obtain⟨p,-,-,-,ht⟩:=qI hn;obtain⟨-,n,hnn,rfl⟩:=XB ht;exact jir (jcU (h.nodes n hnn))
theorem zZ.bind {s:Clu} (h:zZ s) {pack:Bool} {x t:ByteArray} (hn:nextS s pack=some (x,t)):zZ (zL s x t):=by
 obtain⟨p,hp,-,rfl,ht⟩:=qI hn;obtain⟨hf,-⟩:=XB ht;have e:zL s p.name t=Jb s { p with node:=t }:=by unfold zL Jb;rw[jeh h.asc hp]
 have hd:(j7 s p.name).pods.length+1=s.pods.length:=by
  have:=XE s p.name;rw[qq h.asc hp] at this;simpa using this
 have hc:Jr (Jb s { p with node:=t })=0:=jgO h.chk h.sound (h.pods p hp) (h.sound.need p hp) (by have:=h.few;omega) hf;rw[e];have hlow:=h.low.pods p hp;refine⟨hc,⟨ja6 hc,jgs h.asc _,fun q hq=>?_,h.sound.cap⟩,jlG h.low ⟨hlow.need,hlow.labels,hlow.sel,hlow.tols⟩ (by have:=h.few;omega),?_⟩
 · rcases ins_mem hq with rfl | hq
   · exact h.sound.need p hp
   · exact h.sound.need q (JQ hq)
 · have:=jcI (s:=s) { p with node:=t };have e3:(Jb s { p with node:=t }).pods.length=(j7 s p.name).pods.length+1:=this;have:=h.few;omega
theorem zZ.fewer {s:Clu} (h:zZ s) {pack:Bool} {x t:ByteArray} (hn:nextS s pack=some (x,t)):(zr (zL s x t).pods).length+1=(zr s.pods).length:=by
 have ht:=h.to hn;obtain⟨p,hp,hr,rfl,-⟩:=qI hn;rw[jaa,jaa];exact jat hr ht h.asc hp
def zV (pack:Bool):Nat→Clu→List (ByteArray×ByteArray)
 | 0,_=>[]
 | n+1,s=>match nextS s pack with
  | none=>[]
  | some b=>b::zV pack n (zL s b.1 b.2)
def goS (l:List (ByteArray×ByteArray)) (s:Clu):Clu:=l.foldl (fun s b=>zL s b.1 b.2) s
def JO (s:Clu) (pack:Bool):List (ByteArray×ByteArray):=zV pack (zr s.pods).length s
theorem jj2 (l:List (ByteArray×ByteArray)) (b:ByteArray×ByteArray) (s:Clu):goS (l++[b]) s=zL (goS l s) b.1 b.2:=by unfold goS;rw[List.foldl_append];rfl
theorem ja4 (pack:Bool):∀(n:Nat) (s:Clu),(zV pack n s).length≤n
 | 0,_=>Nat.le_refl _
 | n+1,s=>by
  rw[zV];split
  · exact Nat.zero_le _
  · rw[List.length_cons];exact Nat.succ_le_succ (ja4 pack n _)
theorem jbp (pack:Bool):∀{n:Nat} {s:Clu} {k:Nat},zZ s→k≤(zV pack n s).length→zZ (goS ((zV pack n s).take k) s)∧(k<n→nextS (goS ((zV pack n s).take k) s) pack=(zV pack n s)[k]?)∧(zr (goS ((zV pack n s).take k) s).pods).length+k=(zr s.pods).length
 | 0,s,k,h,hk=>by
  have e:k=0:=by rw[zV] at hk;simpa using hk
  subst e;exact⟨by simpa [goS] using h,fun h=>absurd h (by omega),rfl⟩
 | n+1,s,0,h,hk=>by
  refine⟨by simpa [goS] using h,fun _=>?_,rfl⟩;show nextS s pack=_;rw[zV]
  cases nextS s pack<;>rfl
 | n+1,s,k+1,h,hk=>by
  rw[zV] at hk ⊢
  cases e:nextS s pack with
  | none=>rw[e] at hk;simp at hk
  | some b =>
   rw[e] at hk;obtain⟨x,t⟩:=b;have ih:=jbp pack (n:=n) (k:=k) (h.bind e) (by simpa using hk);have hf:=h.fewer e;simp only[List.take_succ_cons,List.getElem?_cons_succ];have eg:∀l,goS ((x,t)::l) s=goS l (zL s x t):=fun l=>rfl;rw[eg];exact⟨ih.1,fun hk=>ih.2.1 (by omega),by have:=ih.2.2;omega⟩
theorem ji9 {s:Clu} {pack:Bool} (h:(zr s.pods).length=0):nextS s pack=none:=by
 unfold nextS;rw[List.length_eq_zero_iff.1 h];rfl
theorem jeW {s:Clu} (h:zZ s) (pack:Bool) {k:Nat} (hk:k≤(JO s pack).length):nextS (goS ((JO s pack).take k) s) pack=(JO s pack)[k]?:=by
 have hl:=ja4 pack (zr s.pods).length s;obtain⟨h1,h2,h3⟩:=jbp pack h hk;by_cases e:k<(zr s.pods).length
 · exact h2 e
 · have e2:k=(zr s.pods).length:=by unfold JO at hk;omega
   rw[List.getElem?_eq_none (by unfold JO;omega)];exact ji9 (by unfold JO;omega)
theorem jfe {s:Clu} (h:zZ s) (pack:Bool) {k:Nat} (hk:k≤(JO s pack).length):zZ (goS ((JO s pack).take k) s):=(jbp pack h hk).1
theorem jjJ {l:List (ByteArray×ByteArray)} {s:Clu} {k:Nat} {b:ByteArray×ByteArray} (h:l[k]?=some b):goS (l.take (k+1)) s=zL (goS (l.take k) s) b.1 b.2:=by
 rw[List.take_add_one,h];exact jj2 _ _ _
def jna (o:Option Nod) (w:World) (e:Ending) (w':World):Prop:=(∀n,o=some n→∃b1 k1 d1 b2 k2 d2 b3 k3 d3,e=.returned (zC n (.slice b1 k1 d1) (.slice b2 k2 d2) (.slice b3 k3 d3))∧zl w' (.slice b1 k1 d1) (.slice b2 k2 d2) (.slice b3 k3 d3) n)∧(o=none→e=.panicked [zo 3])∧Kept w w'
theorem XI (c:Int) (w:World):Calls Tryz.prog 153 #[.bool false,.int .i64 c] w fun e w'=>e=.returned (.tuple #[])∧w=w':=by
 go_enter Tryz.func153,Tryz.ntmps153;go_wp2;refine⟨rfl,.tuple #[],by simp[results,Tryz.results153,go_sem],?_⟩;exact⟨rfl,rfl⟩
theorem YY (c:Int) (w:World):Calls Tryz.prog 153 #[.bool true,.int .i64 c] w fun e w'=>e=.panicked [zo c]∧w=w':=by
 go_enter Tryz.func153,Tryz.ntmps153;go_wp2;exact⟨rfl,rfl,rfl⟩
theorem jfn (s1 s2 s3:Option Addr) (n1 e1 n2 e2 n3 e3:Nat) (nodes:List Nod) (name:ByteArray) (w:World) (hn:jt w s1 n1 nodes) (hb1:n1≤100000) :
 Calls Tryz.prog 152 #[.agg #[.slice s1 n1 e1,.slice s2 n2 e2,.slice s3 n3 e3],.string name] w (jna (jk nodes name) w):=by
 obtain⟨Z,hZ⟩:=eX ((w.alloc (.cells #[.slice s1 n1 e1,.slice s2 n2 e2,.slice s3 n3 e3] 26)).alloc (.cells #[.string ⟨#[]⟩,.slice none 0 0,.slice none 0 0,.slice none 0 0,.bool false] 78))
 have hkz:Kept w Z:=by rw[←hZ];exact jm _ _ _
 have Vs:=lH (jb w (.slice s1 n1 e1) [.slice s2 n2 e2,.slice s3 n3 e3] 26 Z (by rw[←hZ];exact ja _ _));have hyb:je (w.heap.size+1) [.string ⟨#[]⟩,.slice none 0 0,.slice none 0 0,.slice none 0 0,.bool false] Z:=by
  have dd:=jb (w.alloc (.cells #[.slice s1 n1 e1,.slice s2 n2 e2,.slice s3 n3 e3] 26)) (.string ⟨#[]⟩) [.slice none 0 0,.slice none 0 0,.slice none 0 0,.bool false] 78 Z (by rw[hZ];exact Kept.refl _);rw[World.size_alloc] at dd;exact dd
 obtain⟨TS,HN,VP,Vc⟩:=lH4 hyb hn hn.1 hkz;clear hn hkz hyb;go_enter Tryz.func152,Tryz.ntmps152;have y0:=Vs.out.at_ 0 _ rfl;go_upto_region 1 with fail
 try rw[hZ]
 clear hZ;go_wp2;clear y0;go_loopw [10] (fun i wr=>∃k:Nat,k≤n1∧i=.int .i64 k∧jk (nodes.drop k) name=jk nodes name∧Kept Z wr) (fun i _=>n1-(intOf i).toNat)
 case atStart=>exact⟨0,Nat.zero_le _,rfl,rfl,Kept.refl _⟩
 case round =>
  obtain⟨k,hk,rfl,hR,hK⟩:=hrel;obtain⟨HR,HK,Ui⟩:=lH3 hR (Vc.out.trans hK) hK;by_cases hlt:k<n1
  · obtain⟨g,off,rfl⟩:=HN.out.form.resolve_left (by omega);obtain⟨n,b1,k1,d1,b2,k2,d2,b3,k3,d3,hn,hd,hb,u0,u1,u2,u3,u4,hat⟩:=HN.out.at_ hlt;have VD:=lH hat;have HD:=lH hd;have u0:=cell_later HK.out u0;have u1:=cell_later HK.out u1;have u2:=cell_later HK.out u2;have u3:=cell_later HK.out u3;have u4:=cell_later HK.out u4;have hkk:(k:Int)<(n1:Int):=by omega
    have hk0:¬(k:Int)<0:=by omega
    obtain⟨wx,hwx⟩:=eX (wr.alloc (.cells #[.string n.name,.slice b1 k1 d1,.slice b2 k2 d2,.slice b3 k3 d3,.bool n.cordon] 78))
    have hkx:Kept wr wx:=by rw[←hwx];exact ja _ _
    have Vq:=lH (jb wr (.string n.name) [.slice b1 k1 d1,.slice b2 k2 d2,.slice b3 k3 d3,.bool n.cordon] 78 wx (by rw[hwx];exact Kept.refl _));obtain⟨bq,hbq⟩:=eX (wr.heap.size)
    rw[hbq] at Vq;have KX:=lH hkx;go_upto_region 4 with fail
    try rw[hwx]
    try rw[hbq]
    clear hwx hbq hd hb hn hR hK hkx hk0 hkk hat u0 u1 u2 u3 u4;obtain⟨t0,t1,t2,t3,t4⟩:=Vq.out.at5;obtain⟨t,ht⟩:=eX ((n.name.toList==name.toList))
    have HT:=lH (show eqS n.name name=t from ht)
    cases t with
    | false =>
     have HX:=lH (show jk (nodes.drop (k+1)) name=jk nodes name by rw[←HR.out,HD.out];unfold jk;rw[List.find?_cons,HT.out]);go_wp2;go_roundw
     case rel=>exact⟨k+1,by omega,by go_num,HX.out,Ui.out.trans KX.out⟩
     case measure=>simp[intOf];omega
    | true =>
     have HX:=lH (show jk nodes name=some n by rw[←HR.out,HD.out];unfold jk;rw[List.find?_cons,HT.out]);have VV:=lH (TS.out.kept (Ui.out.trans KX.out));obtain⟨z0,z1,z2,z3,z4⟩:=VV.out.at5;have f0:=VV.out.free 0;have f1:=VV.out.free 1;have f2:=VV.out.free 2;have f3:=VV.out.free 3;have f4:=VV.out.free 4;have P:=lH (Zc ⟨z0,z1,z2,z3,z4⟩ n.name b1 b2 b3 k1 d1 k2 d2 k3 d3 n.cordon);go_wp2;obtain⟨WE,hWE⟩:=eX ((((((wx.setCell ⟨w.heap.size+1,0,none⟩ (.string n.name)).setCell ⟨w.heap.size+1,1,none⟩ (.slice b1 k1 d1)).setCell ⟨w.heap.size+1,2,none⟩ (.slice b2 k2 d2)).setCell ⟨w.heap.size+1,3,none⟩ (.slice b3 k3 d3)).setCell ⟨w.heap.size+1,4,none⟩ (.bool n.cordon)))
     rw[hWE] at P ⊢;clear hWE z0 z1 z2 z3 z4 t0 t1 t2 t3 t4 f0 f1 f2 f3 f4;obtain⟨⟨d0,d1,d2,d3,d4⟩,hsz,hbl,hkp⟩:=P.out;refine bodyPost_ret (by simp[results,Tryz.results152,go_sem,d0,d1,d2,d3,d4];try rfl) rfl ?_;have KE:=hkp _ _ (Nat.le_succ _) (HK.out.trans KX.out);refine⟨fun m e=>?_,fun e=>?_,KE⟩
     · rw[HX.out] at e;cases e;exact⟨_,_,_,_,_,_,_,_,_,rfl,VD.out.kept KE⟩
     · rw[HX.out] at e;cases e
  · have hge:¬(k:Int)<(n1:Int):=by omega
    have HO:=lH (show jk nodes name=none by rw[←HR.out,List.drop_of_length_le (by rw[VP.out];omega)];rfl);clear hR hK;go_wp2;exact⟨rfl,(fun m e=>by rw[HO.out] at e;cases e),(fun _=>rfl),HK.out⟩
theorem jcO {r:Int×Vec.V} {w w':World} {e:Ending} (h:Vec.Yy r w e w'):YA r w e w':=by
 obtain⟨v,e,h,k⟩:=h;exact⟨v,e,h.at_,k⟩
theorem jmA {v:Value} {s:Clu} {w:World} (h:jB w v s) (x:ByteArray) (hl:jA s):Calls Tryz.prog 295 #[v,.string x] w (YA (JA s x) w):=by
 obtain⟨v1,v2,v3,rfl,⟨a,cap,rfl,l1,m1,h1⟩,⟨b,cp,rfl,l2,m2,h2⟩,⟨d,cb,rfl,l3,m3,h3⟩⟩:=h;exact(jjy a b d _ cap _ cp _ cb s.nodes s.pods x w h1 h2 hl.nodes).mono fun _ _ h=>jcO h
theorem jmy {v:Value} {s:Clu} {w:World} (h:jB w v s) (x:ByteArray) (hl:jA s):Calls Tryz.prog 195 #[v,.string x] w (YA (Zx s x) w):=by
 obtain⟨v1,v2,v3,rfl,⟨a,cap,rfl,l1,m1,h1⟩,⟨b,cp,rfl,l2,m2,h2⟩,⟨d,cb,rfl,l3,m3,h3⟩⟩:=h;exact(jjA a b d _ cap _ cp _ cb s.nodes s.pods x w h1 h2 hl.nodes).mono fun _ _ h=>jcO h
theorem onR {v:Value} {s:Clu} {w:World} (h:jB w v s) (x:ByteArray) (hl:jA s):Calls Tryz.prog 282 #[v,.string x] w fun e w'=>∃y,e=.returned y∧zU w' y (onP x s.pods)∧Kept w w':=by
 obtain⟨v1,v2,v3,rfl,⟨a,cap,rfl,l1,m1,h1⟩,⟨b,cp,rfl,l2,m2,h2⟩,⟨d,cb,rfl,l3,m3,h3⟩⟩:=h;exact jjX b a d _ cp _ cap _ cb s.pods x w h2 hl.pods hl.podsN
theorem jB.nAt {w:World} {v2 v3:Value} {b:Option Addr} {m cp:Nat} {s:Clu} (h:jB w (zO (.slice b m cp) v2 v3) s):jt w b m s.nodes∧m=s.nodes.length:=by
 obtain⟨_,_,_,e,g0⟩:=h
 cases e
 obtain⟨a',cap',e,_,_,h⟩:=g0.nodes
 cases e
 exact⟨h,rfl⟩
theorem jB.pAt {w:World} {v1 v3:Value} {b:Option Addr} {m cp:Nat} {s:Clu} (h:jB w (zO v1 (.slice b m cp) v3) s):jC w b m s.pods∧m=s.pods.length:=by
 obtain⟨_,_,_,e,g0⟩:=h
 cases e
 obtain⟨a',cap',e,_,_,h⟩:=g0.pods
 cases e
 exact⟨h,rfl⟩
theorem jeu (p:Pd) (n:Nod) (a1 a2 a3 a4:Option Addr) (m1 c1 m2 c2 m3 c3 m4 c4:Nat) (b1 b2 b3:Option Addr) (k1 d1 k2 d2 k3 d3:Nat) (w:World) (hp:ji w (.slice a1 m1 c1) (.slice a2 m2 c2) (.slice a3 m3 c3) (.slice a4 m4 c4) p) (hn:zl w (.slice b1 k1 d1) (.slice b2 k2 d2) (.slice b3 k3 d3) n):Calls Tryz.prog 154 #[jw p (.slice a1 m1 c1) (.slice a2 m2 c2) (.slice a3 m3 c3) (.slice a4 m4 c4),zC n (.slice b1 k1 d1) (.slice b2 k2 d2) (.slice b3 k3 d3)] w (Say (.bool (JF p n)) w):=by
 obtain⟨t,ht⟩:=eX (Zy p.sel n.labels)
 have Up:=lH (fun (W:World) (k:Kept w W)=>jl4 (hp.sel.kept k) (hn.labels.kept k) ht);obtain⟨cd,hcd⟩:=eX (n.cordon)
 have HV:=lH (show JF p n=(!cd&&t) by unfold JF;rw[ht,hcd]);clear ht;obtain⟨Z,hZ⟩:=eX ((w.alloc (.cells #[.string p.name,.string p.owner,.int .i64 p.prio,.slice a1 m1 c1,.slice a2 m2 c2,.slice a3 m3 c3,.slice a4 m4 c4,.string p.key,.int .i64 p.most,.string p.node,.bool p.hold] 52)).alloc (.cells #[.string n.name,.slice b1 k1 d1,.slice b2 k2 d2,.slice b3 k3 d3,.bool cd] 78))
 have hkz:Kept w Z:=by rw[←hZ];exact jm _ _ _
 have Vi:=lH (jb w (.string p.name) [.string p.owner,.int .i64 p.prio,.slice a1 m1 c1,.slice a2 m2 c2,.slice a3 m3 c3,.slice a4 m4 c4,.string p.key,.int .i64 p.most,.string p.node,.bool p.hold] 52 Z (by rw[←hZ];exact ja _ _));have Vg:=lH (show je (w.heap.size+1) [.string n.name,.slice b1 k1 d1,.slice b2 k2 d2,.slice b3 k3 d3,.bool cd] Z by
  have dd:=jb (w.alloc (.cells #[.string p.name,.string p.owner,.int .i64 p.prio,.slice a1 m1 c1,.slice a2 m2 c2,.slice a3 m3 c3,.slice a4 m4 c4,.string p.key,.int .i64 p.most,.string p.node,.bool p.hold] 52)) (.string n.name) [.slice b1 k1 d1,.slice b2 k2 d2,.slice b3 k3 d3,.bool cd] 78 Z (by rw[hZ];exact Kept.refl _);rw[World.size_alloc] at dd;exact dd)
 have K:=lH hkz;have HM:=lH (Up.out Z hkz);clear Up hp hn hkz;have r5:=Vi.out.at_ 5 _ rfl;have q2:=Vg.out.at_ 2 _ rfl;have q4:=Vg.out.at_ 4 _ rfl;unfold jw zC;rw[hcd];clear hcd;go_enter Tryz.func154,Tryz.ntmps154
 cases cd with
 | true =>
  go_wp2;try rw[hZ]
  go_ret;exact⟨jf (by rw[HV.out];rfl),by first | exact K.out | (rw[hZ];exact K.out)⟩
 | false =>
  go_wp2_with fail
  try rw[hZ]
  refine HM.out.mono ?_;rintro e w1 ⟨rfl,kk⟩;have K:=lH (K.out.trans kk);clear kk hZ;go_wp2;go_ret;exact⟨jf (by rw[HV.out];rfl),K.out⟩
theorem jfs (p:Pd) (n:Nod) (a1 a2 a3 a4:Option Addr) (m1 c1 m2 c2 m3 c3 m4 c4:Nat) (b1 b2 b3:Option Addr) (k1 d1 k2 d2 k3 d3:Nat) (w:World) (hp:ji w (.slice a1 m1 c1) (.slice a2 m2 c2) (.slice a3 m3 c3) (.slice a4 m4 c4) p) (hn:zl w (.slice b1 k1 d1) (.slice b2 k2 d2) (.slice b3 k3 d3) n):Calls Tryz.prog 155 #[jw p (.slice a1 m1 c1) (.slice a2 m2 c2) (.slice a3 m3 c3) (.slice a4 m4 c4),zC n (.slice b1 k1 d1) (.slice b2 k2 d2) (.slice b3 k3 d3)] w (Say (.bool (Zt p n)) w):=by
 obtain⟨t,ht⟩:=eX ((zT p.tols n.taints).isSome)
 obtain⟨⟨x,y,mm⟩,hx⟩:∃x,wT (zT p.tols n.taints)=x:=⟨_,rfl⟩
 have Up:=lH (fun (W:World) (k:Kept w W)=>jl9 (hp.tols.kept k) (hn.taints.kept k) hx ht);have HV:=lH (show Zt p n=(!t) by unfold Zt;rw[ht]);clear ht hx;obtain⟨Z,hZ⟩:=eX ((w.alloc (.cells #[.string p.name,.string p.owner,.int .i64 p.prio,.slice a1 m1 c1,.slice a2 m2 c2,.slice a3 m3 c3,.slice a4 m4 c4,.string p.key,.int .i64 p.most,.string p.node,.bool p.hold] 52)).alloc (.cells #[.string n.name,.slice b1 k1 d1,.slice b2 k2 d2,.slice b3 k3 d3,.bool n.cordon] 78))
 have hkz:Kept w Z:=by rw[←hZ];exact jm _ _ _
 have Vi:=lH (jb w (.string p.name) [.string p.owner,.int .i64 p.prio,.slice a1 m1 c1,.slice a2 m2 c2,.slice a3 m3 c3,.slice a4 m4 c4,.string p.key,.int .i64 p.most,.string p.node,.bool p.hold] 52 Z (by rw[←hZ];exact ja _ _));have Vg:=lH (show je (w.heap.size+1) [.string n.name,.slice b1 k1 d1,.slice b2 k2 d2,.slice b3 k3 d3,.bool n.cordon] Z by
  have dd:=jb (w.alloc (.cells #[.string p.name,.string p.owner,.int .i64 p.prio,.slice a1 m1 c1,.slice a2 m2 c2,.slice a3 m3 c3,.slice a4 m4 c4,.string p.key,.int .i64 p.most,.string p.node,.bool p.hold] 52)) (.string n.name) [.slice b1 k1 d1,.slice b2 k2 d2,.slice b3 k3 d3,.bool n.cordon] 78 Z (by rw[hZ];exact Kept.refl _);rw[World.size_alloc] at dd;exact dd)
 have K:=lH hkz;have HM:=lH (Up.out Z hkz);clear Up hp hn hkz;have r6:=Vi.out.at_ 6 _ rfl;have q3:=Vg.out.at_ 3 _ rfl;unfold jw zC;go_enter Tryz.func155,Tryz.ntmps155;go_wp2_with fail
 try rw[hZ]
 refine HM.out.mono ?_;rintro e w1 ⟨rfl,kk⟩;have K:=lH (K.out.trans kk);clear kk hZ;go_wp2;go_ret;exact⟨jf (by rw[HV.out]),K.out.trans (ja _ _)⟩
theorem jdI (s1 s2 s3:Option Addr) (n1 e1 n2 e2 n3 e3:Nat) (a1 a2 a3 a4:Option Addr) (m1 c1 m2 c2 m3 c3 m4 c4:Nat) (p:Pd) (s:Clu) (name:ByteArray) (w:World) (hs:jB w (zO (.slice s1 n1 e1) (.slice s2 n2 e2) (.slice s3 n3 e3)) s) (hl:jA s):Calls Tryz.prog 156 #[.agg #[.slice s1 n1 e1,.slice s2 n2 e2,.slice s3 n3 e3],jw p (.slice a1 m1 c1) (.slice a2 m2 c2) (.slice a3 m3 c3) (.slice a4 m4 c4),.string name] w (Say (.bool (Zb s p name)) w):=by
 have hn1:=hs.nAt.2;have hn2:=hs.pAt.2;have g1:=hl.nodesN;have g2:=hl.podsN;obtain⟨Z,hZ⟩:=eX ((w.alloc (.cells #[.slice s1 n1 e1,.slice s2 n2 e2,.slice s3 n3 e3] 26)).alloc (.cells #[.string p.name,.string p.owner,.int .i64 p.prio,.slice a1 m1 c1,.slice a2 m2 c2,.slice a3 m3 c3,.slice a4 m4 c4,.string p.key,.int .i64 p.most,.string p.node,.bool p.hold] 52))
 have hkz:Kept w Z:=by rw[←hZ];exact jm _ _ _
 have Vi:=lH (jb w (.slice s1 n1 e1) [.slice s2 n2 e2,.slice s3 n3 e3] 26 Z (by rw[←hZ];exact ja _ _));have Vg:=lH (show je (w.heap.size+1) [.string p.name,.string p.owner,.int .i64 p.prio,.slice a1 m1 c1,.slice a2 m2 c2,.slice a3 m3 c3,.slice a4 m4 c4,.string p.key,.int .i64 p.most,.string p.node,.bool p.hold] Z by
  have dd:=jb (w.alloc (.cells #[.slice s1 n1 e1,.slice s2 n2 e2,.slice s3 n3 e3] 26)) (.string p.name) [.string p.owner,.int .i64 p.prio,.slice a1 m1 c1,.slice a2 m2 c2,.slice a3 m3 c3,.slice a4 m4 c4,.string p.key,.int .i64 p.most,.string p.node,.bool p.hold] 52 Z (by rw[hZ];exact Kept.refl _);rw[World.size_alloc] at dd;exact dd)
 have K:=lH hkz;have HS:=lH (jj0 s1 s2 s3 a1 a2 a3 a4 n1 e1 n2 e2 n3 e3 m1 c1 m2 c2 m3 c3 m4 c4 p s name Z (hs.nAt.1.kept hkz) (hs.pAt.1.kept hkz) (by omega) (by omega));clear hs hkz hl hn1 hn2 g1 g2;obtain⟨t7,h7⟩:=eX ((p.key.toList==([]:List UInt8)))
 have H7:=lH (show zD p.key=t7 by rw[ZM,h7]);obtain⟨y0,y1,y2⟩:=Vi.out.at3;obtain⟨r0,r1,r2,r3,r4,r5,r6,r7,r8,r9,r10⟩:=Vg.out.at11;unfold jw at HS ⊢;go_enter Tryz.func156,Tryz.ntmps156
 cases t7 with
 | true =>
  have HV:=lH (show Zb s p name=false by unfold Zb;rw[if_pos H7.out]);go_wp2;try rw[hZ]
  go_ret;exact⟨jf HV.out.symm,by first | exact K.out | (rw[hZ];exact K.out)⟩
 | false =>
  have HV:=lH (show Zb s p name=(!(Zl p s name).2||decide (p.most<(Zl p s name).1)) by unfold Zb;rw[if_neg (by rw[H7.out];decide)]);obtain⟨z,hz⟩:=eX ((Zl p s name).1)
  obtain⟨b,hb⟩:=eX ((Zl p s name).2)
  rw[hz,hb] at HS HV;clear hz hb;go_upto_region 3 with fail
  try rw[hZ]
  clear hZ;go_wp2_with fail
  refine HS.out.mono ?_;rintro e w1 ⟨rfl,kk⟩;have K:=lH (K.out.trans kk);have r8:=(Vg.out.kept kk).at_ 8 _ rfl;clear kk y0 y1 y2 r0 r1 r2 r3 r4 r5 r6 r7 r9 r10
  cases b with
  | false =>
   go_wp2;go_ret;exact⟨jf (by rw[HV.out];rfl),K.out⟩
  | true =>
   by_cases hlt:p.most<z
   · have Rc:=lH hlt;go_wp2;go_ret;exact⟨jf (by rw[HV.out,decide_eq_true Rc.out];rfl),K.out⟩
   · have Rc:=lH hlt;have hle:z≤p.most:=by omega
     clear hlt;go_wp2;go_ret;exact⟨jf (by rw[HV.out,decide_eq_false (by have:=Rc.out;omega)];rfl),K.out⟩
theorem jfE (s1 s2 s3:Option Addr) (n1 e1 n2 e2 n3 e3:Nat) (a1 a2 a3 a4:Option Addr) (m1 c1 m2 c2 m3 c3 m4 c4:Nat) (p:Pd) (s:Clu) (name:ByteArray) (w:World) (hs:jB w (zO (.slice s1 n1 e1) (.slice s2 n2 e2) (.slice s3 n3 e3)) s) (hl:jA s) (hp:ji w (.slice a1 m1 c1) (.slice a2 m2 c2) (.slice a3 m3 c3) (.slice a4 m4 c4) p):Calls Tryz.prog 157 #[.agg #[.slice s1 n1 e1,.slice s2 n2 e2,.slice s3 n3 e3],jw p (.slice a1 m1 c1) (.slice a2 m2 c2) (.slice a3 m3 c3) (.slice a4 m4 c4),.string name] w (Say (.bool (Yd s p name)) w):=by
 obtain⟨Z,hZ⟩:=eX ((w.alloc (.cells #[.slice s1 n1 e1,.slice s2 n2 e2,.slice s3 n3 e3] 26)).alloc (.cells #[.string p.name,.string p.owner,.int .i64 p.prio,.slice a1 m1 c1,.slice a2 m2 c2,.slice a3 m3 c3,.slice a4 m4 c4,.string p.key,.int .i64 p.most,.string p.node,.bool p.hold] 52))
 have hkz:Kept w Z:=by rw[←hZ];exact jm _ _ _
 have Vi:=lH (jb w (.slice s1 n1 e1) [.slice s2 n2 e2,.slice s3 n3 e3] 26 Z (by rw[←hZ];exact ja _ _));have Vg:=lH (show je (w.heap.size+1) [.string p.name,.string p.owner,.int .i64 p.prio,.slice a1 m1 c1,.slice a2 m2 c2,.slice a3 m3 c3,.slice a4 m4 c4,.string p.key,.int .i64 p.most,.string p.node,.bool p.hold] Z by
  have dd:=jb (w.alloc (.cells #[.slice s1 n1 e1,.slice s2 n2 e2,.slice s3 n3 e3] 26)) (.string p.name) [.string p.owner,.int .i64 p.prio,.slice a1 m1 c1,.slice a2 m2 c2,.slice a3 m3 c3,.slice a4 m4 c4,.string p.key,.int .i64 p.most,.string p.node,.bool p.hold] 52 Z (by rw[hZ];exact Kept.refl _);rw[World.size_alloc] at dd;exact dd)
 have K:=lH hkz;have HF:=lH (jmy (hs.kept hkz) name hl);unfold zO at HF;have HP:=lH (hp.need.kept hkz);clear hs hkz hl hp;obtain⟨y0,y1,y2⟩:=Vi.out.at3;unfold jw;obtain⟨c,hc⟩:=eX ((Zx s name).1)
 obtain⟨fl,hfl⟩:=eX ((Zx s name).2)
 obtain⟨q,hq⟩:=eX (Vec.jx fl p.need)
 have HV:=lH (show Yd s p name=(decide (c=0)&&q) by unfold Yd;rw[hc,hfl,hq]);have HQ:=lH hq;go_enter Tryz.func157,Tryz.ntmps157;go_wp2_with fail
 try rw[hZ]
 refine HF.out.mono ?_;rintro e w1 ⟨y,rfl,hy,kk⟩;rw[hc];rw[hfl] at hy;obtain⟨HY,K,HP⟩:=lH3 hy (K.out.trans kk) (HP.out.kept kk);have r3:=(Vg.out.kept kk).at_ 3 _ rfl;clear kk hZ hc hfl hq hy HF y0 y1 y2;by_cases h0:c=0
 · subst h0;go_wp2_with fail
   refine(Vec.jmK HP.out HY.out HQ.out).mono ?_;rintro e w2 ⟨rfl,kk⟩;have K:=lH (K.out.trans kk);clear kk;go_wp2;go_ret;exact⟨jf (by rw[HV.out];rfl),K.out⟩
 · have h0b:(c==0)=false:=by simpa using h0
   have H0:=lH h0;clear h0;go_wp2;go_ret;exact⟨jf (by rw[HV.out,decide_eq_false H0.out];rfl),K.out⟩
def Xd (c:Int) (w:World) (e:Ending) (w':World):Prop:=(c=0→∃x i1 j1 l1 i2 j2 l2 i3 j3 l3 b,e=.returned (.agg #[.string x,.slice i1 j1 l1,.slice i2 j2 l2,.slice i3 j3 l3,.bool b]))∧(c≠0→e=.panicked [zo c])∧Kept w w'
theorem Xd.bad {c d:Int} {w w':World} (h:d=c) (hc:c≠0) (k:Kept w w'):Xd d w (.panicked [zo c]) w':=⟨fun g=>absurd (h.symm.trans g) hc,fun _=>by rw[h],k⟩
theorem jfj (s1 s2 s3:Option Addr) (n1 e1 n2 e2 n3 e3:Nat) (a1 a2 a3 a4:Option Addr) (m1 c1 m2 c2 m3 c3 m4 c4:Nat) (p:Pd) (s:Clu) (name:ByteArray) (w:World) (hs:jB w (zO (.slice s1 n1 e1) (.slice s2 n2 e2) (.slice s3 n3 e3)) s) (hl:jA s) (hp:ji w (.slice a1 m1 c1) (.slice a2 m2 c2) (.slice a3 m3 c3) (.slice a4 m4 c4) p):Calls Tryz.prog 105 #[.agg #[.slice s1 n1 e1,.slice s2 n2 e2,.slice s3 n3 e3],jw p (.slice a1 m1 c1) (.slice a2 m2 c2) (.slice a3 m3 c3) (.slice a4 m4 c4),.string name] w (Xd (zv s p name) w):=by
 obtain⟨Y,hY⟩:=eX ((w.alloc (.cells #[.slice s1 n1 e1,.slice s2 n2 e2,.slice s3 n3 e3] 26)).alloc (.cells #[.string p.name,.string p.owner,.int .i64 p.prio,.slice a1 m1 c1,.slice a2 m2 c2,.slice a3 m3 c3,.slice a4 m4 c4,.string p.key,.int .i64 p.most,.string p.node,.bool p.hold] 52))
 have hky:Kept w Y:=by rw[←hY];exact jm _ _ _
 have hys:Y.heap.size=w.heap.size+2:=by rw[←hY];simp
 have hsb:=jb w (.slice s1 n1 e1) [.slice s2 n2 e2,.slice s3 n3 e3] 26 Y (by rw[←hY];exact ja _ _);have hpb:je (w.heap.size+1) [.string p.name,.string p.owner,.int .i64 p.prio,.slice a1 m1 c1,.slice a2 m2 c2,.slice a3 m3 c3,.slice a4 m4 c4,.string p.key,.int .i64 p.most,.string p.node,.bool p.hold] Y:=by
  have dd:=jb (w.alloc (.cells #[.slice s1 n1 e1,.slice s2 n2 e2,.slice s3 n3 e3] 26)) (.string p.name) [.string p.owner,.int .i64 p.prio,.slice a1 m1 c1,.slice a2 m2 c2,.slice a3 m3 c3,.slice a4 m4 c4,.string p.key,.int .i64 p.most,.string p.node,.bool p.hold] 52 Y (by rw[hY];exact Kept.refl _);rw[World.size_alloc] at dd;exact dd
 obtain⟨Z,hZ⟩:=eX (Y.alloc (.cells #[.string ⟨#[]⟩,.slice none 0 0,.slice none 0 0,.slice none 0 0,.bool false] 78))
 have hkz:Kept Y Z:=by rw[←hZ];exact ja _ _
 have hnb:je (w.heap.size+2) [.string ⟨#[]⟩,.slice none 0 0,.slice none 0 0,.slice none 0 0,.bool false] Z:=by
  have dd:=jb Y (.string ⟨#[]⟩) [.slice none 0 0,.slice none 0 0,.slice none 0 0,.bool false] 78 Z (by rw[hZ];exact Kept.refl _);rw[hys] at dd;exact dd
 have hYZ:((w.alloc (.cells #[.slice s1 n1 e1,.slice s2 n2 e2,.slice s3 n3 e3] 26)).alloc (.cells #[.string p.name,.string p.owner,.int .i64 p.prio,.slice a1 m1 c1,.slice a2 m2 c2,.slice a3 m3 c3,.slice a4 m4 c4,.string p.key,.int .i64 p.most,.string p.node,.bool p.hold] 52)).alloc (.cells #[.string ⟨#[]⟩,.slice none 0 0,.slice none 0 0,.slice none 0 0,.bool false] 78)=Z:=by rw[hY];exact hZ
 obtain⟨Vs,Vt,Vz,K,V8,VX,HL,Ug⟩:=lH8 (hsb.kept hkz) (hpb.kept hkz) hnb (hky.trans hkz) (hs.kept (hky.trans hkz)) (hp.kept (hky.trans hkz)) hl (jfn s1 s2 s3 n1 e1 n2 e2 n3 e3 s.nodes name Z ((hs.kept (hky.trans hkz)).nAt.1) (by have:=hl.nodesN;have:=hs.nAt.2;omega));clear hs hp hl hky hkz hys hsb hpb hnb hY hZ;unfold jw;obtain⟨y0,y1,y2⟩:=Vs.out.at3;go_enter Tryz.func105,Tryz.ntmps105;go_wp2_with fail
 try rw[hYZ]
 clear hYZ;refine Ug.out.mono ?_;rintro e w1 ⟨h1,h2,kk⟩;obtain⟨K,Vs,Vt,Vz,V8,VX⟩:=lH6 (K.out.trans kk) (Vs.out.kept kk) (Vt.out.kept kk) (Vz.out.kept kk) (V8.out.kept kk) (VX.out.kept kk);clear Ug y0 y1 y2
 cases ho:jk s.nodes name with
 | none =>
  obtain rfl:=h2 ho;have HE:=lH (show zv s p name=3 from jaZ ho);clear h1 h2 ho kk;go_wp2;exact⟨rfl,Xd.bad HE.out (by decide) K.out⟩
 | some n =>
  obtain⟨b1,k1,d1,b2,k2,d2,b3,k3,d3,rfl,hn⟩:=h1 n ho;have HE:=lH (show zv s p name=zJ s p n name from jaQ ho);clear h1 h2 ho;obtain⟨w2,hw2⟩:=eX (w1.alloc (.cells #[.string n.name,.slice b1 k1 d1,.slice b2 k2 d2,.slice b3 k3 d3,.bool n.cordon] 78))
  have kx:Kept w1 w2:=by rw[←hw2];exact ja _ _
  obtain⟨V2,V0,K,Vs,Vt,Vz,V8,VX⟩:=lH8 (jb w1 (.string n.name) [.slice b1 k1 d1,.slice b2 k2 d2,.slice b3 k3 d3,.bool n.cordon] 78 w2 (by rw[hw2];exact Kept.refl _)) (hn.kept kx) (K.out.trans kx) (Vs.out.kept kx) (Vt.out.kept kx) (Vz.out.kept kx) (V8.out.kept kx) (VX.out.kept kx);obtain⟨gn,hgn⟩:=eX (w1.heap.size)
  rw[hgn] at V2;clear hn kk kx;unfold zC;go_upto_region 2 with fail
  try rw[hw2]
  try rw[hgn]
  clear hw2 hgn;obtain⟨r0,r1,r2,r3,r4,r5,r6,r7,r8,r9,r10⟩:=Vt.out.at11;obtain⟨t0,t1,t2,t3,t4⟩:=V2.out.at5;obtain⟨bb,hbb⟩:=eX (JF p n)
  have HC:=lH (jeu p n a1 a2 a3 a4 m1 c1 m2 c2 m3 c3 m4 c4 b1 b2 b3 k1 d1 k2 d2 k3 d3 _ VX.out V0.out);unfold jw at HC;unfold zC at HC;rw[hbb] at HC;go_wp2_with fail
  refine HC.out.mono ?_;rintro e w3 ⟨rfl,kk⟩;obtain⟨Ve,Vs,Vt,Vz,V8,VX,V2,V0⟩:=lH8 hbb (Vs.out.kept kk) (Vt.out.kept kk) (Vz.out.kept kk) (V8.out.kept kk) (VX.out.kept kk) (V2.out.kept kk) (V0.out.kept kk);have K:=lH (K.out.trans kk);clear kk;clear hbb HC r0 r1 r2 r3 r4 r5 r6 r7 r8 r9 r10 t0 t1 t2 t3 t4
  cases bb with
  | false =>
   go_wp2_with fail
   refine(YY 8 _).mono ?_;rintro e w4 ⟨rfl,rfl⟩;go_wp2;exact⟨rfl,Xd.bad (HE.out.trans (jaW Ve.out)) (by decide) K.out⟩
  | true =>
   have Vi:=Ve;clear Ve;go_wp2_with fail
   refine(XI 8 _).mono ?_;rintro e w4 ⟨rfl,rfl⟩;obtain⟨r0,r1,r2,r3,r4,r5,r6,r7,r8,r9,r10⟩:=Vt.out.at11;obtain⟨t0,t1,t2,t3,t4⟩:=V2.out.at5;obtain⟨bb,hbb⟩:=eX (Zt p n)
   have HC:=lH (jfs p n a1 a2 a3 a4 m1 c1 m2 c2 m3 c3 m4 c4 b1 b2 b3 k1 d1 k2 d2 k3 d3 _ VX.out V0.out);unfold jw at HC;unfold zC at HC;rw[hbb] at HC;go_wp2_with fail
   refine HC.out.mono ?_;rintro e w3 ⟨rfl,kk⟩;obtain⟨Ve,Vs,Vt,Vz,V8,VX,V2,V0⟩:=lH8 hbb (Vs.out.kept kk) (Vt.out.kept kk) (Vz.out.kept kk) (V8.out.kept kk) (VX.out.kept kk) (V2.out.kept kk) (V0.out.kept kk);have K:=lH (K.out.trans kk);clear kk;clear hbb HC r0 r1 r2 r3 r4 r5 r6 r7 r8 r9 r10 t0 t1 t2 t3 t4
   cases bb with
   | false =>
    go_wp2_with fail
    refine(YY 9 _).mono ?_;rintro e w4 ⟨rfl,rfl⟩;go_wp2;exact⟨rfl,Xd.bad (HE.out.trans (qO Vi.out Ve.out)) (by decide) K.out⟩
   | true =>
    have Vg:=Ve;clear Ve;go_wp2_with fail
    refine(XI 9 _).mono ?_;rintro e w4 ⟨rfl,rfl⟩;obtain⟨y0,y1,y2⟩:=Vs.out.at3;obtain⟨r0,r1,r2,r3,r4,r5,r6,r7,r8,r9,r10⟩:=Vt.out.at11;obtain⟨bb,hbb⟩:=eX (Zb s p name)
    have HC:=lH (jdI s1 s2 s3 n1 e1 n2 e2 n3 e3 a1 a2 a3 a4 m1 c1 m2 c2 m3 c3 m4 c4 p s name _ V8.out HL.out);unfold jw at HC;rw[hbb] at HC;go_wp2_with fail
    refine HC.out.mono ?_;rintro e w3 ⟨rfl,kk⟩;obtain⟨Ve,Vs,Vt,Vz,V8,VX,V2,V0⟩:=lH8 hbb (Vs.out.kept kk) (Vt.out.kept kk) (Vz.out.kept kk) (V8.out.kept kk) (VX.out.kept kk) (V2.out.kept kk) (V0.out.kept kk);have K:=lH (K.out.trans kk);clear kk;clear hbb HC y0 y1 y2 r0 r1 r2 r3 r4 r5 r6 r7 r8 r9 r10
    cases bb with
    | true =>
     go_wp2_with fail
     refine(YY 10 _).mono ?_;rintro e w4 ⟨rfl,rfl⟩;go_wp2;exact⟨rfl,Xd.bad (HE.out.trans (jay Vi.out Vg.out Ve.out)) (by decide) K.out⟩
    | false =>
     have TE:=Ve;clear Ve;go_wp2_with fail
     refine(XI 10 _).mono ?_;rintro e w4 ⟨rfl,rfl⟩;obtain⟨y0,y1,y2⟩:=Vs.out.at3;obtain⟨r0,r1,r2,r3,r4,r5,r6,r7,r8,r9,r10⟩:=Vt.out.at11;obtain⟨bb,hbb⟩:=eX (Yd s p name)
     have HC:=lH (jfE s1 s2 s3 n1 e1 n2 e2 n3 e3 a1 a2 a3 a4 m1 c1 m2 c2 m3 c3 m4 c4 p s name _ V8.out HL.out VX.out);unfold jw at HC;rw[hbb] at HC;go_wp2_with fail
     refine HC.out.mono ?_;rintro e w3 ⟨rfl,kk⟩;obtain⟨Ve,Vs,Vt,Vz,V8,VX,V2,V0⟩:=lH8 hbb (Vs.out.kept kk) (Vt.out.kept kk) (Vz.out.kept kk) (V8.out.kept kk) (VX.out.kept kk) (V2.out.kept kk) (V0.out.kept kk);have K:=lH (K.out.trans kk);clear kk;clear hbb HC y0 y1 y2 r0 r1 r2 r3 r4 r5 r6 r7 r8 r9 r10
     cases bb with
     | false =>
      go_wp2_with fail
      refine(YY 7 _).mono ?_;rintro e w4 ⟨rfl,rfl⟩;go_wp2;exact⟨rfl,Xd.bad (HE.out.trans (jaf Vi.out Vg.out TE.out Ve.out)) (by decide) K.out⟩
     | true =>
      go_wp2_with fail
      refine(XI 7 _).mono ?_;rintro e w4 ⟨rfl,rfl⟩;obtain⟨t0,t1,t2,t3,t4⟩:=V2.out.at5;obtain⟨z0,z1,z2,z3,z4⟩:=Vz.out.at5;have f0:=Vz.out.free 0;have f1:=Vz.out.free 1;have f2:=Vz.out.free 2;have f3:=Vz.out.free 3;have f4:=Vz.out.free 4;have P:=lH (Zc ⟨z0,z1,z2,z3,z4⟩ n.name b1 b2 b3 k1 d1 k2 d2 k3 d3 n.cordon);obtain⟨x9,hx9⟩:=eX (n.name)
      obtain⟨c9,hc9⟩:=eX (n.cordon)
      rw[hx9] at t0;rw[hc9] at t4;rw[hx9,hc9] at P;have NA:=lH (HE.out.trans (jhM Vi.out Vg.out TE.out Ve.out));clear hx9 hc9 HE V2 V0 V8 VX;go_wp2;obtain⟨WE,hWE⟩:=eX ((((((w3.setCell ⟨w.heap.size+2,0,none⟩ (.string x9)).setCell ⟨w.heap.size+2,1,none⟩ (.slice b1 k1 d1)).setCell ⟨w.heap.size+2,2,none⟩ (.slice b2 k2 d2)).setCell ⟨w.heap.size+2,3,none⟩ (.slice b3 k3 d3)).setCell ⟨w.heap.size+2,4,none⟩ (.bool c9)))
      rw[hWE] at P ⊢;clear hWE z0 z1 z2 z3 z4 t0 t1 t2 t3 t4 f0 f1 f2 f3 f4;obtain⟨⟨q0,q1,q2,q3,q4⟩,hsz,hbl,hkp⟩:=P.out;refine bodyPost_ret (by simp[results,Tryz.results105,go_sem,q0,q1,q2,q3,q4];try rfl) rfl ?_;have KE:=hkp _ _ (by omega) K.out;exact⟨fun _=>⟨_,_,_,_,_,_,_,_,_,_,_,rfl⟩,fun g=>absurd NA.out g,KE⟩
end Go.Proofs.YtibepooajeakfaaGreat
