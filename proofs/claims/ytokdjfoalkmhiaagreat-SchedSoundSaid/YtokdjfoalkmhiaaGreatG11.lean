/- C. -/
import Derived.Test.YtokdjfoalkmhiaaGreatG1
import Derived.Test.YtokdjfoalkmhiaaGreatG2
import Derived.Test.YtokdjfoalkmhiaaGreatG3
import Derived.Test.YtokdjfoalkmhiaaGreatG4
import Derived.Test.YtokdjfoalkmhiaaGreatG5
import Derived.Test.YtokdjfoalkmhiaaGreatG6
import Derived.Test.YtokdjfoalkmhiaaGreatG7
import Derived.Test.YtokdjfoalkmhiaaGreatG10
set_option linter.unusedVariables false
set_option maxRecDepth 100000
set_option maxHeartbeats 25600000
namespace Go.Proofs.YtokdjfoalkmhiaaGreat
open Go.RowKit
structure Sound (s:Clu):Prop where
 parts:qe s
 asc:Asc s.pods
 need:∀p ∈ s.pods,zK p.need
 cap:∀n ∈ s.nodes,zK n.cap
theorem jgp {s:Clu} {w:World} {v:Value} (h:ZR s=true) (hr:jC w v s):Sound s:=by
 have hp:=jcr (XV h);obtain⟨v1,v2,v3,rfl,⟨a,cap,rfl,-,-,h1⟩,⟨b,cp,rfl,-,-,h2⟩,-⟩:=hr;refine⟨hp,jfU h,fun p hm=>jhB (hp.need0 hm) ?_,fun n hm=>jhB (hp.cap0 hm) ?_⟩
 · obtain⟨k,hk,rfl⟩:=List.mem_iff_getElem.1 hm;rcases h2.2.2 with h0 | ⟨b,off,-,-,hc⟩
   · omega
   · obtain⟨v1,v2,v3,v4,-,-,-,-,-,-,-,-,-,-,-,hat⟩:=hc k _ (List.getElem?_eq_getElem hk);obtain⟨a9,c9,-,-,-,g⟩:=hat.need;exact g.2.2.1
 · obtain⟨k,hk,rfl⟩:=List.mem_iff_getElem.1 hm;rcases h1.2.2 with h0 | ⟨b,off,-,-,hc⟩
   · omega
   · obtain⟨a1,m1,c1,a2,m2,c2,a3,m3,c3,-,-,-,-,-,hat⟩:=hc k _ (List.getElem?_eq_getElem hk);obtain⟨a9,c9,-,-,-,g⟩:=hat.cap;exact g.2.2.1
theorem jnl {s:Clu} (h:Sound s) {n:Nod} (hn:n ∈ s.nodes):JW s n.name=jJ n.name s.pods []:=jaP (h.parts.jl hn)
theorem jmT {s:Clu} (h:Sound s) {n:Nod} (hn:n ∈ s.nodes):∃u f,JW s n.name=(0,u)∧ZV s n.name=(0,f)∧Vec.jj Vec.jG u f=(0,n.cap)∧zK u∧zK f∧Vec.Made (Jh n.name s.pods) u∧(∀m,Vec.jh f m=Vec.jh n.cap m-Vec.jh u m)∧∀m,Vec.jh u m≤Vec.jh n.cap m:=by
 obtain⟨u,hu,hf⟩:=jcw h.parts.rooms n hn;obtain⟨hm,hl⟩:=(jcg h.need).1 hu;have hc:=h.cap n hn;have hle:=(Vec.Xd hm.1 hc.1).1 hf;obtain⟨f,hs,hmf,hlf⟩:=Vec.jb2 hc.1 hm.1 hc.2 hl hle;have hget:∀m,Vec.jh f m=Vec.jh n.cap m-Vec.jh u m:=fun m=>hmf.2 m;refine⟨u,f,(jnl h hn).trans hu,?_,?_,⟨hm.1,hl⟩,⟨hmf.1,hlf⟩,hm,hget,hle⟩
 · unfold ZV;rw[h.parts.jl hn];dsimp only;rw[hu,if_pos rfl];exact hs
 · refine Vec.jmv hm.1 hmf.1 hl hlf (fun m=>?_) ⟨hc.1,fun m=>?_⟩ hc.2
   · have:=(Vec.JB m hc.1).2;rw[hget];omega
   · show _=Vec.jh u m+Vec.jh f m;rw[hget];omega
def Xq (g:ByteArray→Int):Vec.V→Vec.V
 | []=>[]
 | x::t=>if g x.1=0 then Xq g t else (x.1,g x.1)::Xq g t
theorem XN {g:ByteArray→Int}:∀{l:Vec.V} {y:ByteArray×Int},y ∈ Xq g l→∃x ∈ l,y=(x.1,g x.1)∧g x.1≠0
 | x::t,y,h=>by
  rw[Xq] at h;split at h
  · obtain⟨z,hz,e⟩:=XN h;exact⟨z,by simp[hz],e⟩
  · rename_i hg;rcases List.mem_cons.1 h with rfl | h
    · exact⟨x,by simp,rfl,hg⟩
    · obtain⟨z,hz,e⟩:=XN h;exact⟨z,by simp[hz],e⟩
theorem jgg (g:ByteArray→Int):∀l:Vec.V,(Xq g l).length≤l.length
 | []=>Nat.le_refl _
 | x::t=>by
  have:=jgg g t;rw[Xq];split<;>simp only[List.length_cons]<;>omega
theorem jhw {g:ByteArray→Int}:∀{l:Vec.V},Vec.Gd l→(∀x ∈ l,0≤g x.1∧g x.1≤9223372036854775807)→Vec.Gd (Xq g l)
 | [],_,_=>Vec.Gd.nil
 | x::t,h,hb=>by
  obtain⟨h1,h2,h3⟩:=Vec.Gd.cons.1 h;have ih:=jhw h3 fun y hy=>hb y (by simp[hy]);rw[Xq];split
  · exact ih
  · rename_i hg;have:=hb x (by simp);refine Vec.Gd.cons.2 ⟨⟨h1.1,by dsimp only;omega,this.2⟩,fun y hy=>?_,ih⟩;obtain⟨z,hz,rfl,_⟩:=XN hy;exact h2 z hz
theorem jcf {g:ByteArray→Int} {n:ByteArray}:∀{l:Vec.V},Vec.Gd l→(∃x ∈ l,x.1=n)→Vec.jh (Xq g l) n=g n
 | [],_,h=>by obtain⟨x,hx,_⟩:=h;cases hx
 | y::t,h,he=>by
  obtain⟨h1,h2,h3⟩:=Vec.Gd.cons.1 h;by_cases e:y.1=n
  · rw[Xq];split
    · rename_i hg;rw[←e,hg];refine Vec.XU fun z hz=>?_;obtain⟨q,hq,rfl,_⟩:=XN hz;exact fun e2=>Vec.Yi (h2 q hq) e2.symm
    · rw[←e];exact Vec.Jr _ _
  · have ht:∃x ∈ t,x.1=n:=by
     obtain⟨x,hx,e2⟩:=he;rcases List.mem_cons.1 hx with rfl | hx
     · exact absurd e2 e
     · exact⟨x,hx,e2⟩
    rw[Xq];split
    · exact jcf h3 ht
    · rw[Vec.Jy _ (by exact e)];exact jcf h3 ht
theorem jlY {g:ByteArray→Int} {u:Vec.V} (hu:zK u) (h0:∀n,0≤g n) (h1:∀n,g n≤Vec.jh u n):∃r,Vec.Made g r∧r.length≤8:=by
 refine⟨Xq g u,⟨jhw hu.1 fun x hx=>⟨h0 _,Int.le_trans (h1 _) (Vec.JB _ hu.1).2⟩,fun n=>?_⟩,Nat.le_trans (jgg g u) hu.2⟩;by_cases e:∃x ∈ u,x.1=n
 · exact jcf hu.1 e
 · have hz:Vec.jh u n=0:=Vec.XU fun y hy e2=>e ⟨y,hy,e2⟩;have h2:=h0 n;have h3:=h1 n;rw[show g n=0 by omega];refine Vec.XU fun y hy e2=>?_;obtain⟨x,hx,rfl,_⟩:=XN hy;exact e ⟨x,hx,e2⟩
theorem jkn {x:ByteArray} {cap:Vec.V} {l:List Pd} (hc:zK cap) (hp:∀p ∈ l,zK p.need) (hs:∀m,Jh x l m≤Vec.jh cap m):∃u,jJ x l []=(0,u)∧zK u∧(∀m,Vec.jh u m=Jh x l m)∧Vec.jB cap u=true:=by
 obtain⟨u,hu,hu8⟩:=jlY hc (jb3 hp) hs;exact⟨u,(jcg hp).2 ⟨hu,hu8⟩,⟨hu.1,hu8⟩,hu.2,(Vec.Xd hu.1 hc.1).2 fun m=>by rw[hu.2 m];exact hs m⟩
theorem jhq {s:Clu} {n:Nod} (hf:jl s.nodes n.name=some n) (hc:zK n.cap) (hp:∀p ∈ s.pods,zK p.need) (hs:∀m,Jh n.name s.pods m≤Vec.jh n.cap m):∃b,ZV s n.name=(0,b)∧zK b∧∀m,Vec.jh b m=Vec.jh n.cap m-Jh n.name s.pods m:=by
 obtain⟨u,h1,h2,h3,h4⟩:=jkn hc hp hs;obtain⟨b,hb,hmb,hlb⟩:=Vec.jb2 hc.1 h2.1 hc.2 h2.2 fun m=>by rw[h3 m];exact hs m
 refine⟨b,?_,⟨hmb.1,hlb⟩,fun m=>by
  have h9:Vec.jh b m=Vec.jh n.cap m-Vec.jh u m:=hmb.2 m;rw[h9,h3 m]⟩
 unfold ZV;rw[hf];dsimp only;rw[h1,if_pos rfl];exact hb
theorem jmg {s:Clu} {n:Nod} (hf:jl s.nodes n.name=some n) (hc:zK n.cap) (hp:∀p ∈ s.pods,zK p.need) (h:(ZV s n.name).1=0):∀m,Jh n.name s.pods m≤Vec.jh n.cap m:=by
 unfold ZV at h;rw[hf] at h;dsimp only at h;obtain⟨c,u,hu⟩:∃c u,jJ n.name s.pods []=(c,u):=⟨_,_,rfl⟩
 rw[hu] at h;by_cases hz:c=0
 · subst hz;rw[if_pos rfl] at h;obtain⟨hm,h8⟩:=(jcg hp).1 hu;have:=(Vec.Xd hm.1 hc.1).1 ((Vec.jlD hc.1 hm.1 hc.2 h8).1 h);intro m;rw[←hm.2 m];exact this m
 · rw[if_neg hz] at h;exact absurd h hz
theorem jl9 {s:Clu} {p:Pd} {n:Nod} (hf:jl s.nodes n.name=some n) (hc:zK n.cap) (hp:∀p ∈ s.pods,zK p.need) (hq:zK p.need):YU s p n.name=true↔∀m,Jh n.name s.pods m+Vec.jh p.need m≤Vec.jh n.cap m:=by
 unfold YU;rw[Bool.and_eq_true,decide_eq_true_iff];constructor
 · rintro ⟨h1,h2⟩ m;have hs:=jmg hf hc hp h1;obtain⟨b,hb,fb,gb⟩:=jhq hf hc hp hs;rw[hb] at h2;have:=(Vec.Xd hq.1 fb.1).1 h2 m;rw[gb] at this;omega
 · intro h;obtain⟨b,hb,fb,gb⟩:=jhq hf hc hp fun m=>by have:=h m;have:=(Vec.JB m hq.1).1;omega
   rw[hb];refine⟨rfl,(Vec.Xd hq.1 fb.1).2 fun m=>?_⟩;rw[gb];have:=h m;omega
theorem jml {x y:ByteArray} (l:List Pd) (hl:∀p ∈ l,zK p.need) (m:ByteArray):Jh x (zc y l) m≤Jh x l m:=by
 cases h:JP l y with
 | none=>rw[jgj (jj6.1 h)];exact Int.le_refl _
 | some p =>
  have h1:=jem (x:=x) h m;have h2:=jfK (x:=x) (hl p (jmU h).1) m;omega
theorem Sound.sum {s:Clu} (h:Sound s) {n:Nod} (hn:n ∈ s.nodes) (m:ByteArray):Jh n.name s.pods m≤Vec.jh n.cap m:=by
 obtain⟨u,f,-,-,-,-,-,hm,-,hle⟩:=jmT h hn;rw[←hm.2 m];exact hle m
theorem jkt {s:Clu} (h:∀p ∈ s.pods,zK p.need) (x:ByteArray):∀p ∈ (zG s x).pods,zK p.need:=fun p hp=>h p (Zl hp)
theorem jed {nodes:List Nod}:∀{l:List Pd},jA nodes l=0→∀p ∈ l,zp p.node=false→(jl nodes p.node).isSome=true
 | q::t,h,p,hp,hn=>by
  by_cases g:zp q.node=false∧(jl nodes q.node).isSome=false
  · rw[jau g.1 g.2] at h;cases h
  · have h2:jA nodes t=0:=by rw[jA,if_neg g] at h;exact h
    rcases List.mem_cons.1 hp with rfl | hp
    · cases e:(jl nodes p.node).isSome with
      | false=>exact absurd ⟨hn,e⟩ g
      | true=>rfl
    · exact jed h2 p hp hn
theorem jfD {x:ByteArray} {p:Pd}:∀(l:List Pd) (m:ByteArray),Jh x (JU p l) m=Zj x p m+Jh x l m
 | [],m=>rfl
 | q::t,m=>by
  rw[JU];split
  · rfl
  · show Zj x q m+Jh x (JU p t) m=Zj x p m+(Zj x q m+Jh x t m);rw[jfD t m];omega
theorem jhu:∀{prev:Option ByteArray} {l:List Pd},Asc l→(∀p ∈ l,zC p=0)→(∀q,prev=some q→∀x ∈ l,ltS q x.name=true)→jX prev l=0
 | _,[],_,_,_=>rfl
 | prev,n::t,h,hc,hb=>by
  obtain⟨h1,h2⟩:=List.pairwise_cons.1 h;have b:Vec.jK prev n.name=false:=by
   cases prev with
   | none=>rfl
   | some q=>exact Vec.ja8 (hb q rfl n (by simp))
  rw[ZQ (hc n (by simp)) b];exact jhu h2 (fun p hp=>hc p (by simp[hp])) fun q hq x hx=>by cases hq;exact h1 x hx
theorem jdY {nodes:List Nod}:∀{l:List Pd},(∀p ∈ l,zp p.node=false→(jl nodes p.node).isSome=true)→jA nodes l=0
 | [],_=>rfl
 | q::t,h=>by
  rw[jA,if_neg fun g=>by have:=h q (by simp) g.1;rw[g.2] at this;cases this];exact jdY fun p hp=>h p (by simp[hp])
theorem jfE {pods:List Pd}:∀{l:List Nod},(∀n ∈ l,∃u,jJ n.name pods []=(0,u)∧Vec.jB n.cap u=true)→jM pods l=0
 | [],_=>rfl
 | n::t,h=>by
  obtain⟨u,h1,h2⟩:=h n (by simp);rw[XC h1 h2];exact jfE fun m hm=>h m (by simp[hm])
theorem jkG:∀{l:List Int},(∀c ∈ l,c=0)→orL l=0
 | [],_=>rfl
 | x::t,h=>by rw[orL,if_neg (by rw[h x (by simp)];decide)];exact jkG fun c hc=>h c (by simp[hc])
theorem jd0 {n:Nod} (h:zk n=0):isName n.name=true:=by
 unfold zk at h;split at h
 · cases h
 · rename_i h1;simpa using h1
theorem jjW {p:Pd} {x:ByteArray} (h:zC p=0) (hx:isName x=true):zC { p with node:=x }=0:=by
 have hz:=jcn (l:=qC p) h;unfold zC;refine jkG fun c hc=>?_;unfold qC at hc hz;simp only[List.mem_cons,List.not_mem_nil,or_false] at hc hz;rcases hc with rfl | rfl | rfl | rfl | rfl | rfl | rfl | rfl
 · exact hz _ (.inl rfl)
 · exact hz _ (.inr (.inl rfl))
 · exact hz _ (.inr (.inr (.inl rfl)))
 · exact hz _ (.inr (.inr (.inr (.inl rfl))))
 · exact hz _ (.inr (.inr (.inr (.inr (.inl rfl)))))
 · exact hz _ (.inr (.inr (.inr (.inr (.inr (.inl rfl))))))
 · exact hz _ (.inr (.inr (.inr (.inr (.inr (.inr (.inl rfl)))))))
 · unfold Yf ZE;rw[hx];simp
theorem jh7 {s:Clu} {p:Pd} {x:ByteArray} (hg:zN s=0) (hs:Sound s) (hp:zC p=0) (hq:zK p.need) (hl:(zG s p.name).pods.length<128) (h:qq s p x=0):zN (Jv s { p with node:=x })=0:=by
 obtain⟨n,hf,hz⟩:=jgI h;obtain⟨-,-,-,h4⟩:=je4 hz;obtain⟨hm,rfl⟩:=jep hf;have h5:=(jl9 (s:=zG s p.name) hf (hs.cap n hm) (jkt hs.need p.name) hq).1 h4;have h0:or3 (jI s.nodes) (jD s.pods) (jH s.buds)=0:=Decidable.byContradiction fun g=>g ((qK (nl:=s.nodes) (pl:=s.pods) (bl:=s.buds) rfl g).symm.trans hg);have hN:=hs.parts.nodes;have hP:=hs.parts.pods;have hB:jH s.buds=0:=by
  unfold or3 at h0;rw[if_neg (by rw[hN];decide),if_neg (by rw[hP];decide)] at h0;exact h0
 have hnodes:∀m ∈ s.nodes,zk m=0:=by
  unfold jI at hN;split at hN
  · cases hN
  · exact(Xk hN).2.2
 have hpods:∀q ∈ s.pods,zC q=0:=by
  unfold jD at hP;split at hP
  · cases hP
  · exact jbv hP
 have hp':zC { p with node:=n.name }=0:=jjW hp (jd0 (hnodes n hm));have hP':jD (Jv s { p with node:=n.name }).pods=0:=by
  have e1:=jdJ (s:=s) { p with node:=n.name };have e2:=X4 s p.name;unfold jD;rw[if_neg (by
   have e3:(Jv s { p with node:=n.name }).pods.length=(zG s p.name).pods.length+1:=e1;omega)]
  refine jhu (jhr hs.asc _) (fun q hq=>?_) fun q hq=>by cases hq
  rcases ins_mem hq with rfl | hq
  · exact hp'
  · exact hpods q (Zl hq)
 have hpl:jA s.nodes (Jv s { p with node:=n.name }).pods=0:=jdY fun q hq hn=>by
  rcases ins_mem hq with rfl | hq
  · show (jl s.nodes n.name).isSome=true;have:jl s.nodes n.name=some n:=hf;rw[this];rfl
  · exact jed hs.parts.places q (Zl hq) hn
 have hneed:∀q ∈ (Jv s { p with node:=n.name }).pods,zK q.need:=fun q hq9=>by
  rcases ins_mem hq9 with rfl | hq9
  · exact hq
  · exact hs.need q (Zl hq9)
 have hro:jM (Jv s { p with node:=n.name }).pods s.nodes=0:=jfE fun k hk=>by
  obtain⟨u,h1,-,-,h2⟩:=jkn (x:=k.name) (l:=(Jv s { p with node:=n.name }).pods) (hs.cap k hk) hneed fun m=>by
   show Jh k.name (JU { p with node:=n.name } (zc p.name s.pods)) m≤_;rw[jfD];by_cases e:k.name=n.name
   · have hkn:k=n:=by
      have e1:=hs.parts.jl hk;rw[e] at e1;have e2:jl s.nodes n.name=some n:=hf;rw[e2] at e1;exact(Option.some.inj e1).symm
     subst hkn;have e3:Zj k.name { p with node:=k.name } m=Vec.jh p.need m:=by unfold Zj;rw[if_pos (zh _)]
     have:=h5 m;have h6:Jh k.name (zc p.name s.pods) m+Vec.jh p.need m≤Vec.jh k.cap m:=this;omega
   · have e3:Zj k.name { p with node:=n.name } m=0:=by unfold Zj;rw[if_neg fun g=>e (jR.1 g).symm]
     have h7:=hs.sum hk m;have h8:=jml (x:=k.name) (y:=p.name) s.pods hs.need m;omega
  exact⟨u,h1,h2⟩
 have ho:or3 (jI s.nodes) (jD (Jv s { p with node:=n.name }).pods) (jH s.buds)=0:=by rw[hN,hP',hB];rfl
 exact(qM (nl:=s.nodes) (pl:=(Jv s { p with node:=n.name }).pods) (bl:=s.buds) ho hpl hro).trans hs.parts.tot
def jf9 (s:Clu) (w:World) (e:Ending) (w':World):Prop:=∃y,e=.returned y∧jC w' y s∧Kept w w'
theorem jnI {v u:Value} {s:Clu} {p:Pd} {w:World} (h:jC w v s) (g:jba w u p) (hl:jE s) (hp:JO p):Calls Tryz.prog 57 #[v,u] w (jf9 (Jv s p) w):=by
 obtain⟨v1,v2,v3,rfl,⟨a,cap,rfl,l1,m1,h1⟩,⟨b,cp,rfl,l2,m2,h2⟩,⟨d,cb,rfl,l3,m3,h3⟩⟩:=h;obtain⟨u1,u2,u3,u4,rfl,hat⟩:=g;have g1:=hat.need;have g2:=hat.labels;have g3:=hat.sel;have g4:=hat.tols;obtain⟨b1,d1,rfl,-,-,-⟩:=g1;obtain⟨b2,d2,rfl,-,-,-⟩:=g2;obtain⟨b3,d3,rfl,-,-,-⟩:=g3;obtain⟨b4,d4,rfl,-,-,-⟩:=g4;refine(jj4 a b d _ cap _ cp _ cb s.nodes s.pods s.buds p b1 b2 b3 b4 _ d1 _ d2 _ d3 _ d4 w h1 h2 h3 l1 m1 l2 m2 l3 m3 hl hat hp).mono ?_;rintro e w' ⟨_,_,_,_,_,_,_,_,_,rfl,ho,kk⟩;exact⟨_,rfl,ho.toR,kk⟩
theorem jm4 {v:Value} {s:Clu} {w:World} (h:jC w v s) (x:ByteArray) (hl:jE s):Calls Tryz.prog 35 #[v,.string x] w (jf9 (zG s x) w):=by
 obtain⟨v1,v2,v3,rfl,⟨a,cap,rfl,l1,m1,h1⟩,⟨b,cp,rfl,l2,m2,h2⟩,⟨d,cb,rfl,l3,m3,h3⟩⟩:=h;refine(jcE a b d _ cap _ cp _ cb s.nodes s.pods s.buds x w h1 h2 h3 l1 m1 l2 m2 l3 m3 hl).mono ?_;rintro e w' ⟨_,_,_,_,_,_,_,_,_,rfl,ho,kk⟩;exact⟨_,rfl,ho.toR,kk⟩
theorem jlk {a:Option Addr} {n c:Nat} {l:List Pd} {w:World} (h:Jo w (.slice a n c) l):jy w a n l:=by
 obtain⟨a',cap',e,_,_,h⟩:=h
 cases e
 exact h
theorem jm3 {s:Clu} {p:Pd} (h:jE s) (hp:JO p) (hn:s.pods.length≤1000):jE (Jv s p) :=
 ⟨h.nodes,fun q hq=>by rcases ins_mem hq with rfl | hq;exact hp;exact h.pods q (Zl hq),h.buds,h.nodesN,by
  have h1:=jdJ (s:=s) p;have h2:=X4 s p.name;omega,h.budsN⟩
theorem jgm {s:Clu} (h:jE s) (x:ByteArray):jE (zG s x) :=
 ⟨h.nodes,fun q hq=>h.pods q (Zl hq),h.buds,h.nodesN,by
  have h2:=X4 s x;have:=h.podsN;omega,h.budsN⟩
open Go.RowKit Go.Sort
def jS (p:Pd):Bool:=zp p.node&&!p.hold
def zy (p q:Pd):Bool:=decide (Xg p q<0)
def Xu (l m:List Pd):Prop:=m.Perm (l.filter jS)∧m.Pairwise fun a b=>zy b a=false
theorem jc3 {p q:Pd}:zy p q=true↔(q.prio<p.prio∨(q.prio=p.prio∧ltS p.name q.name=true)):=by
 unfold zy;rw[decide_eq_true_iff,jcN]
theorem jax {p q:Pd}:zy p q=false↔¬(q.prio<p.prio∨(q.prio=p.prio∧ltS p.name q.name=true)):=by
 rw[←Bool.not_eq_true,jc3]
theorem ja6 {p q:Pd} (h:zy p q=false) (g:zy q p=false):p.name=q.name:=by
 rw[jax] at h g;have e:p.prio=q.prio:=by omega
 refine Vec.Y7 ?_ ?_
 · cases k:ltS p.name q.name with
   | false=>rfl
   | true=>exact absurd (.inr ⟨e.symm,k⟩) h
 · cases k:ltS q.name p.name with
   | false=>rfl
   | true=>exact absurd (.inr ⟨e,k⟩) g
theorem XT {x y z:Pd} (h1:zy x y=true) (h2:zy y z=true):zy x z=true:=by
 unfold zy at *;rw[decide_eq_true_iff] at *;exact jga h1 h2
theorem jaB {x y z:Pd} (h1:zy x y=false) (h2:zy y z=false):zy x z=false:=by
 cases e:zy x z with
 | false=>rfl
 | true =>
  cases q:zy y x with
  | true=>rw[XT q e] at h2;cases h2
  | false =>
   have hn:=ja6 h1 q;rw[jax] at h1 q h2;rw[jc3] at e;rcases e with e | ⟨e1,e2⟩
   · exact absurd (.inl (by omega)) h2
   · exact absurd (.inr ⟨by omega,by rw[←hn];exact e2⟩) h2
theorem jaA (x:Pd):zy x x=false:=by
 rw[jax,Vec.YO];rintro (h | ⟨-,h⟩)
 · omega
 · cases h
theorem jay {l:List Pd} (h:Asc l) {p q:Pd} (hp:p ∈ l) (hq:q ∈ l) (e:p.name=q.name):p=q:=by
 have h1:=jal h hp;have h2:=jal h hq;rw[e,h2] at h1;exact(Option.some.inj h1).symm
theorem Xu.unique {l m k:List Pd} (ha:Asc l) (h:Xu l m) (g:Xu l k):m=k :=
 List.Perm.eq_of_pairwise (fun a b h1 h2 e1 e2=>jay ha (List.mem_filter.1 (h.1.mem_iff.1 h1)).1 (List.mem_filter.1 (g.1.mem_iff.1 h2)).1 (ja6 e2 e1)) h.2 g.2 (h.1.trans g.1.symm)
def zD (l:List Pd):List Pd:=(l.filter jS).mergeSort fun a b=>!zy b a
theorem jb4 (l:List Pd):Xu l (zD l):=by
 refine⟨List.mergeSort_perm _ _,?_⟩;have h:=List.pairwise_mergeSort (le:=fun a b=>!zy b a) (fun a b c h1 h2=>by
  simp only[Bool.not_eq_true'] at *;exact jaB h2 h1) (fun a b=>by
  cases e:zy b a with
  | false=>rfl
  | true =>
   cases q:zy a b with
   | false=>rfl
   | true=>have:=XT e q;rw[jaA b] at this;cases this) (l.filter jS)
 exact h.imp fun {a b} g=>by simpa using g
theorem jaw {l m:List Pd} (ha:Asc l) (h:Xu l m):m=zD l:=h.unique ha (jb4 l)
theorem jen {l:List Pd} {p:Pd}:p ∈ zD l↔p ∈ l∧jS p=true:=by rw[(jb4 l).1.mem_iff,List.mem_filter]
theorem ja1 (l:List Pd):(zD l).length=(l.filter jS).length:=(jb4 l).1.length_eq
theorem qP (l:List Pd):(zD l).length≤l.length:=by rw[ja1];exact List.length_filter_le _ _
def jaZ (s:Clu) (p:Pd) (pack:Bool):Option ByteArray:=((zL s p s.nodes).mergeSort fun a b=>!YM s p pack b a).head?
theorem jbu (s:Clu) (p:Pd) (pack:Bool):qj s p pack ((zL s p s.nodes).mergeSort fun a b=>!YM s p pack b a):=by
 refine⟨List.mergeSort_perm _ _,?_⟩;have h:=List.pairwise_mergeSort (le:=fun a b=>!YM s p pack b a) (fun a b c h1 h2=>by
  simp only[Bool.not_eq_true'] at *;exact jaF h2 h1) (fun a b=>by
  cases e:YM s p pack b a with
  | false=>rfl
  | true =>
   cases q:YM s p pack a b with
   | false=>rfl
   | true=>have:=XP e q;rw[jaJ] at this;cases this) (zL s p s.nodes)
 exact h.imp fun {a b} g=>by simpa using g
theorem jkT {s:Clu} {p:Pd} {pack:Bool} {l:List ByteArray} (h:qj s p pack l):l.head?=jaZ s p pack:=by
 unfold jaZ;rw[h.unique (jbu s p pack)]
theorem jfa {s:Clu} {p:Pd} {pack:Bool}:jaZ s p pack=none↔zL s p s.nodes=[]:=by
 unfold jaZ;rw[List.head?_eq_none_iff];constructor
 · intro h;have:=(jbu s p pack).1;rw[h] at this;exact List.Perm.eq_nil this.symm
 · intro h;have:=(jbu s p pack).1;rw[h] at this;rw[h];exact List.Perm.eq_nil this
theorem jng {s:Clu} {p:Pd} {pack:Bool} {x:ByteArray} (h:jaZ s p pack=some x):x ∈ zL s p s.nodes :=
 (jbu s p pack).1.mem_iff.1 (List.mem_of_head? h)
def Yc (s:Clu) (pack:Bool):List Pd→Option (ByteArray×ByteArray)
 | []=>none
 | p::t=>match jaZ s p pack with
  | some x=>some (p.name,x)
  | none=>Yc s pack t
def nextS (s:Clu) (pack:Bool):Option (ByteArray×ByteArray):=Yc s pack (zD s.pods)
theorem jgb {s:Clu} {pack:Bool} {x t:ByteArray}:∀{l:List Pd},Yc s pack l=some (x,t)→∃p ∈ l,p.name=x∧jaZ s p pack=some t
 | [],h=>by cases h
 | p::l,h=>by
  rw[Yc] at h;split at h
  · rename_i y e;obtain⟨rfl,rfl⟩:=Prod.mk.inj (Option.some.inj h);exact⟨p,by simp,rfl,e⟩
  · obtain⟨q,hq,e⟩:=jgb h;exact⟨q,by simp[hq],e⟩
theorem XH {s:Clu} {pack:Bool} {x t:ByteArray} (h:nextS s pack=some (x,t)):∃p ∈ s.pods,jS p=true∧p.name=x∧t ∈ zL s p s.nodes:=by
 obtain⟨p,hp,e,c⟩:=jgb h;obtain⟨h1,h2⟩:=jen.1 hp;exact⟨p,h1,h2,e,jng c⟩
theorem jfG {p:Pd} {y:ByteArray}:∀{l:List Pd},Asc l→p ∈ l→Jn p.name y l=JU { p with node:=y } (zc p.name l)
 | [],_,h=>by cases h
 | q::r,ha,h=>by
  obtain⟨h1,h2⟩:=List.pairwise_cons.1 ha;rw[Jn,zc];by_cases e:eqS q.name p.name=true
  · rw[if_pos e,if_pos e];have hq:q=p:=jay ha (by simp) h (jR.1 e);subst hq
    cases r with
    | nil=>rfl
    | cons z r=>rw[JU,if_pos (by exact h1 z (by simp))]
  · rw[if_neg e,if_neg e];have hp:p ∈ r:=(List.mem_cons.1 h).resolve_left fun g=>e (by rw[g];exact zh _);have hlt:¬ltS p.name q.name=true:=fun g'=>absurd (Vec.Ja (h1 p hp) g') (by rw[Vec.YO];decide);rw[JU,if_neg (by exact hlt),jfG h2 hp]
theorem jaQ {p:Pd} {y:ByteArray} (hr:jS p=true) (hy:zp y=false):∀{l:List Pd},Asc l→p ∈ l→((Jn p.name y l).filter jS).length+1=(l.filter jS).length
 | [],_,h=>by cases h
 | q::r,ha,h=>by
  obtain⟨h1,h2⟩:=List.pairwise_cons.1 ha;rw[Jn];by_cases e:eqS q.name p.name=true
  · rw[if_pos e];have hq:q=p:=jay ha (by simp) h (jR.1 e);subst hq;rw[List.filter_cons_of_neg (by unfold jS;show ¬((zp y&&!q.hold)=true);rw[hy];simp),List.filter_cons_of_pos hr];rfl
  · rw[if_neg e];have hp:p ∈ r:=(List.mem_cons.1 h).resolve_left fun g=>e (by rw[g];exact zh _);by_cases g:jS q=true
    · rw[List.filter_cons_of_pos g,List.filter_cons_of_pos g,List.length_cons,List.length_cons,jaQ hr hy h2 hp]
    · rw[List.filter_cons_of_neg g,List.filter_cons_of_neg g,jaQ hr hy h2 hp]
theorem X2 (x y:ByteArray):∀l:List Pd,(Jn x y l).length=l.length
 | []=>rfl
 | q::r=>by
  rw[Jn];split
  · rfl
  · rw[List.length_cons,List.length_cons,X2 x y r]
structure Je (s:Clu):Prop where
 chk:zN s=0
 sound:Sound s
 low:jE s
 few:s.pods.length≤128
theorem Je.asc {s:Clu} (h:Je s):Asc s.pods:=h.sound.asc
theorem Je.pods {s:Clu} (h:Je s):∀q ∈ s.pods,zC q=0:=by
 have hP:=h.sound.parts.pods;unfold jD at hP;split at hP
 · cases hP
 · exact jbv hP
theorem Je.nodes {s:Clu} (h:Je s):∀m ∈ s.nodes,zk m=0:=by
 have hN:=h.sound.parts.nodes;unfold jI at hN;split at hN
 · cases hN
 · exact(Xk hN).2.2
theorem jk6 {x:ByteArray} (h:isName x=true):zp x=false:=by
 cases e:zp x with
 | false=>rfl
 | true =>
  have:=jR.1 (show eqS x ByteArray.empty=true from e);subst this;exact absurd h (by decide)
theorem Je.to {s:Clu} (h:Je s) {pack:Bool} {x t:ByteArray} (hn:nextS s pack=some (x,t)):zp t=false:=by
 obtain⟨p,-,-,-,ht⟩:=XH hn;obtain⟨-,n,hnn,rfl⟩:=jaO ht;exact jk6 (jd0 (h.nodes n hnn))
theorem Je.bind {s:Clu} (h:Je s) {pack:Bool} {x t:ByteArray} (hn:nextS s pack=some (x,t)):Je (zZ s x t):=by
 obtain⟨p,hp,-,rfl,ht⟩:=XH hn;obtain⟨hf,-⟩:=jaO ht;have e:zZ s p.name t=Jv s { p with node:=t }:=by unfold zZ Jv;rw[jfG h.asc hp]
 have hd:(zG s p.name).pods.length+1=s.pods.length:=by
  have:=X4 s p.name;rw[jal h.asc hp] at this;simpa using this
 have hc:zN (Jv s { p with node:=t })=0:=jh7 h.chk h.sound (h.pods p hp) (h.sound.need p hp) (by have:=h.few;omega) hf;rw[e];have hlow:=h.low.pods p hp;refine⟨hc,⟨jcr hc,jhr h.asc _,fun q hq=>?_,h.sound.cap⟩,jm3 h.low ⟨hlow.need,hlow.labels,hlow.sel,hlow.tols⟩ (by have:=h.few;omega),?_⟩
 · rcases ins_mem hq with rfl | hq
   · exact h.sound.need p hp
   · exact h.sound.need q (Zl hq)
 · have:=jdJ (s:=s) { p with node:=t };have e3:(Jv s { p with node:=t }).pods.length=(zG s p.name).pods.length+1:=this;have:=h.few;omega
theorem Je.fewer {s:Clu} (h:Je s) {pack:Bool} {x t:ByteArray} (hn:nextS s pack=some (x,t)):(zD (zZ s x t).pods).length+1=(zD s.pods).length:=by
 have ht:=h.to hn;obtain⟨p,hp,hr,rfl,-⟩:=XH hn;rw[ja1,ja1];exact jaQ hr ht h.asc hp
def Jp (pack:Bool):Nat→Clu→List (ByteArray×ByteArray)
 | 0,_=>[]
 | n+1,s=>match nextS s pack with
  | none=>[]
  | some b=>b::Jp pack n (zZ s b.1 b.2)
def goS (l:List (ByteArray×ByteArray)) (s:Clu):Clu:=l.foldl (fun s b=>zZ s b.1 b.2) s
def JG (s:Clu) (pack:Bool):List (ByteArray×ByteArray):=Jp pack (zD s.pods).length s
theorem jlL (l:List (ByteArray×ByteArray)) (b:ByteArray×ByteArray) (s:Clu):goS (l++[b]) s=zZ (goS l s) b.1 b.2:=by unfold goS;rw[List.foldl_append];rfl
theorem qJ (pack:Bool):∀(n:Nat) (s:Clu),(Jp pack n s).length≤n
 | 0,_=>Nat.le_refl _
 | n+1,s=>by
  rw[Jp];split
  · exact Nat.zero_le _
  · rw[List.length_cons];exact Nat.succ_le_succ (qJ pack n _)
theorem qV (pack:Bool):∀{n:Nat} {s:Clu} {k:Nat},Je s→k≤(Jp pack n s).length→Je (goS ((Jp pack n s).take k) s)∧(k<n→nextS (goS ((Jp pack n s).take k) s) pack=(Jp pack n s)[k]?)∧(zD (goS ((Jp pack n s).take k) s).pods).length+k=(zD s.pods).length
 | 0,s,k,h,hk=>by
  have e:k=0:=by rw[Jp] at hk;simpa using hk
  subst e;exact⟨by simpa [goS] using h,fun h=>absurd h (by omega),rfl⟩
 | n+1,s,0,h,hk=>by
  refine⟨by simpa [goS] using h,fun _=>?_,rfl⟩;show nextS s pack=_;rw[Jp]
  cases nextS s pack<;>rfl
 | n+1,s,k+1,h,hk=>by
  rw[Jp] at hk ⊢
  cases e:nextS s pack with
  | none=>rw[e] at hk;simp at hk
  | some b =>
   rw[e] at hk;obtain⟨x,t⟩:=b;have ih:=qV pack (n:=n) (k:=k) (h.bind e) (by simpa using hk);have hf:=h.fewer e;simp only[List.take_succ_cons,List.getElem?_cons_succ];have eg:∀l,goS ((x,t)::l) s=goS l (zZ s x t):=fun l=>rfl;rw[eg];exact⟨ih.1,fun hk=>ih.2.1 (by omega),by have:=ih.2.2;omega⟩
theorem jjw {s:Clu} {pack:Bool} (h:(zD s.pods).length=0):nextS s pack=none:=by
 unfold nextS;rw[List.length_eq_zero_iff.1 h];rfl
theorem jce {s:Clu} (h:Je s) (pack:Bool) {k:Nat} (hk:k≤(JG s pack).length):nextS (goS ((JG s pack).take k) s) pack=(JG s pack)[k]?:=by
 have hl:=qJ pack (zD s.pods).length s;obtain⟨h1,h2,h3⟩:=qV pack h hk;by_cases e:k<(zD s.pods).length
 · exact h2 e
 · have e2:k=(zD s.pods).length:=by unfold JG at hk;omega
   rw[List.getElem?_eq_none (by unfold JG;omega)];exact jjw (by unfold JG;omega)
theorem XX {s:Clu} (h:Je s) (pack:Bool) {k:Nat} (hk:k≤(JG s pack).length):Je (goS ((JG s pack).take k) s):=(qV pack h hk).1
theorem jl1 {s:Clu} (h:Je s) (pack:Bool):(zD (goS (JG s pack) s).pods).length+(JG s pack).length=(zD s.pods).length:=by
 have:=(qV pack (n:=(zD s.pods).length) h (Nat.le_refl _)).2.2;rwa [List.take_of_length_le (Nat.le_refl _)] at this
theorem jb6 {l:List (ByteArray×ByteArray)} {s:Clu} {k:Nat} {b:ByteArray×ByteArray} (h:l[k]?=some b):goS (l.take (k+1)) s=zZ (goS (l.take k) s) b.1 b.2:=by
 rw[List.take_add_one,h];exact jlL _ _ _
theorem jm0 (l:List (ByteArray×ByteArray)) (s:Clu):(goS l s).pods.length=s.pods.length:=by
 unfold goS
 induction l generalizing s with
 | nil=>rfl
 | cons b l ih=>rw[List.foldl_cons,ih];exact X2 _ _ _
def joJ (o:Option Nod) (w:World) (e:Ending) (w':World):Prop:=(∀n,o=some n→∃b1 k1 d1 b2 k2 d2 b3 k3 d3,e=.returned (zj n (.slice b1 k1 d1) (.slice b2 k2 d2) (.slice b3 k3 d3))∧zr w' (.slice b1 k1 d1) (.slice b2 k2 d2) (.slice b3 k3 d3) n)∧(o=none→e=.panicked [zx 3])∧Kept w w'
theorem X3 (c:Int) (w:World):Calls Tryz.prog 137 #[.bool false,.int .i64 c] w fun e w'=>e=.returned (.tuple #[])∧w=w':=by
 go_enter Tryz.func137,Tryz.ntmps137;go_wp2;refine⟨rfl,.tuple #[],by simp[results,Tryz.results137,go_sem],?_⟩;exact⟨rfl,rfl⟩
theorem XB (c:Int) (w:World):Calls Tryz.prog 137 #[.bool true,.int .i64 c] w fun e w'=>e=.panicked [zx c]∧w=w':=by
 go_enter Tryz.func137,Tryz.ntmps137;go_wp2;exact⟨rfl,rfl,rfl⟩
theorem jgK (s1 s2 s3:Option Addr) (n1 e1 n2 e2 n3 e3:Nat) (nodes:List Nod) (name:ByteArray) (w:World) (hn:jo w s1 n1 nodes) (hb1:n1≤100000) :
 Calls Tryz.prog 136 #[.agg #[.slice s1 n1 e1,.slice s2 n2 e2,.slice s3 n3 e3],.string name] w (joJ (jl nodes name) w):=by
 obtain⟨Z,hZ⟩:=eX ((w.alloc (.cells #[.slice s1 n1 e1,.slice s2 n2 e2,.slice s3 n3 e3] 26)).alloc (.cells #[.string ⟨#[]⟩,.slice none 0 0,.slice none 0 0,.slice none 0 0,.bool false] 57))
 have hkz:Kept w Z:=by rw[←hZ];exact jn _ _ _
 have Vw:=lH (jc w (.slice s1 n1 e1) [.slice s2 n2 e2,.slice s3 n3 e3] 26 Z (by rw[←hZ];exact ja _ _));have hyb:jf (w.heap.size+1) [.string ⟨#[]⟩,.slice none 0 0,.slice none 0 0,.slice none 0 0,.bool false] Z:=by
  have dd:=jc (w.alloc (.cells #[.slice s1 n1 e1,.slice s2 n2 e2,.slice s3 n3 e3] 26)) (.string ⟨#[]⟩) [.slice none 0 0,.slice none 0 0,.slice none 0 0,.bool false] 57 Z (by rw[hZ];exact Kept.refl _);rw[World.size_alloc] at dd;exact dd
 obtain⟨T0,HN,VR,Vc⟩:=lH4 hyb hn hn.1 hkz;clear hn hkz hyb;go_enter Tryz.func136,Tryz.ntmps136;have y0:=Vw.out.at_ 0 _ rfl;go_upto_region 1 with fail
 try rw[hZ]
 clear hZ;go_wp2;clear y0;go_loopw [10] (fun i wr=>∃k:Nat,k≤n1∧i=.int .i64 k∧jl (nodes.drop k) name=jl nodes name∧Kept Z wr) (fun i _=>n1-(intOf i).toNat)
 case atStart=>exact⟨0,Nat.zero_le _,rfl,rfl,Kept.refl _⟩
 case round =>
  obtain⟨k,hk,rfl,hR,hK⟩:=hrel;obtain⟨HR,HK,Uo⟩:=lH3 hR (Vc.out.trans hK) hK;by_cases hlt:k<n1
  · obtain⟨g,off,rfl⟩:=HN.out.form.resolve_left (by omega);obtain⟨n,b1,k1,d1,b2,k2,d2,b3,k3,d3,hn,hd,hb,u0,u1,u2,u3,u4,hat⟩:=HN.out.at_ hlt;have VH:=lH hat;have HD:=lH hd;have u0:=cell_later HK.out u0;have u1:=cell_later HK.out u1;have u2:=cell_later HK.out u2;have u3:=cell_later HK.out u3;have u4:=cell_later HK.out u4;have hkk:(k:Int)<(n1:Int):=by omega
    have hk0:¬(k:Int)<0:=by omega
    obtain⟨wx,hwx⟩:=eX (wr.alloc (.cells #[.string n.name,.slice b1 k1 d1,.slice b2 k2 d2,.slice b3 k3 d3,.bool n.cordon] 57))
    have hkx:Kept wr wx:=by rw[←hwx];exact ja _ _
    have Vt:=lH (jc wr (.string n.name) [.slice b1 k1 d1,.slice b2 k2 d2,.slice b3 k3 d3,.bool n.cordon] 57 wx (by rw[hwx];exact Kept.refl _));obtain⟨bq,hbq⟩:=eX (wr.heap.size)
    rw[hbq] at Vt;have KX:=lH hkx;go_upto_region 4 with fail
    try rw[hwx]
    try rw[hbq]
    clear hwx hbq hd hb hn hR hK hkx hk0 hkk hat u0 u1 u2 u3 u4;obtain⟨t0,t1,t2,t3,t4⟩:=Vt.out.at5;obtain⟨t,ht⟩:=eX ((n.name.toList==name.toList))
    have HT:=lH (show eqS n.name name=t from ht)
    cases t with
    | false =>
     have HX:=lH (show jl (nodes.drop (k+1)) name=jl nodes name by rw[←HR.out,HD.out];unfold jl;rw[List.find?_cons,HT.out]);go_wp2;go_roundw
     case rel=>exact⟨k+1,by omega,by go_num,HX.out,Uo.out.trans KX.out⟩
     case measure=>simp[intOf];omega
    | true =>
     have HX:=lH (show jl nodes name=some n by rw[←HR.out,HD.out];unfold jl;rw[List.find?_cons,HT.out]);have VW:=lH (T0.out.kept (Uo.out.trans KX.out));obtain⟨z0,z1,z2,z3,z4⟩:=VW.out.at5;have f0:=VW.out.free 0;have f1:=VW.out.free 1;have f2:=VW.out.free 2;have f3:=VW.out.free 3;have f4:=VW.out.free 4;have P:=lH (ZC ⟨z0,z1,z2,z3,z4⟩ n.name b1 b2 b3 k1 d1 k2 d2 k3 d3 n.cordon);go_wp2;obtain⟨WE,hWE⟩:=eX ((((((wx.setCell ⟨w.heap.size+1,0,none⟩ (.string n.name)).setCell ⟨w.heap.size+1,1,none⟩ (.slice b1 k1 d1)).setCell ⟨w.heap.size+1,2,none⟩ (.slice b2 k2 d2)).setCell ⟨w.heap.size+1,3,none⟩ (.slice b3 k3 d3)).setCell ⟨w.heap.size+1,4,none⟩ (.bool n.cordon)))
     rw[hWE] at P ⊢;clear hWE z0 z1 z2 z3 z4 t0 t1 t2 t3 t4 f0 f1 f2 f3 f4;obtain⟨⟨d0,d1,d2,d3,d4⟩,hsz,hbl,hkp⟩:=P.out;refine bodyPost_ret (by simp[results,Tryz.results136,go_sem,d0,d1,d2,d3,d4];try rfl) rfl ?_;have KE:=hkp _ _ (Nat.le_succ _) (HK.out.trans KX.out);refine⟨fun m e=>?_,fun e=>?_,KE⟩
     · rw[HX.out] at e;cases e;exact⟨_,_,_,_,_,_,_,_,_,rfl,VH.out.kept KE⟩
     · rw[HX.out] at e;cases e
  · have hge:¬(k:Int)<(n1:Int):=by omega
    have HO:=lH (show jl nodes name=none by rw[←HR.out,List.drop_of_length_le (by rw[VR.out];omega)];rfl);clear hR hK;go_wp2;exact⟨rfl,(fun m e=>by rw[HO.out] at e;cases e),(fun _=>rfl),HK.out⟩
theorem jdZ {r:Int×Vec.V} {w w':World} {e:Ending} (h:Vec.Xc r w e w'):Xa r w e w':=by
 obtain⟨v,e,h,k⟩:=h;exact⟨v,e,h.at_,k⟩
theorem jop {v:Value} {s:Clu} {w:World} (h:jC w v s) (x:ByteArray) (hl:jE s):Calls Tryz.prog 165 #[v,.string x] w (Xa (JW s x) w):=by
 obtain⟨v1,v2,v3,rfl,⟨a,cap,rfl,l1,m1,h1⟩,⟨b,cp,rfl,l2,m2,h2⟩,⟨d,cb,rfl,l3,m3,h3⟩⟩:=h;exact(jjJ a b d _ cap _ cp _ cb s.nodes s.pods x w h1 h2 hl.nodes).mono fun _ _ h=>jdZ h
theorem joc {v:Value} {s:Clu} {w:World} (h:jC w v s) (x:ByteArray) (hl:jE s):Calls Tryz.prog 196 #[v,.string x] w (Xa (ZV s x) w):=by
 obtain⟨v1,v2,v3,rfl,⟨a,cap,rfl,l1,m1,h1⟩,⟨b,cp,rfl,l2,m2,h2⟩,⟨d,cb,rfl,l3,m3,h3⟩⟩:=h;exact(jjq a b d _ cap _ cp _ cb s.nodes s.pods x w h1 h2 hl.nodes).mono fun _ _ h=>jdZ h
theorem onR {v:Value} {s:Clu} {w:World} (h:jC w v s) (x:ByteArray) (hl:jE s):Calls Tryz.prog 118 #[v,.string x] w fun e w'=>∃y,e=.returned y∧Jo w' y (onP x s.pods)∧Kept w w':=by
 obtain⟨v1,v2,v3,rfl,⟨a,cap,rfl,l1,m1,h1⟩,⟨b,cp,rfl,l2,m2,h2⟩,⟨d,cb,rfl,l3,m3,h3⟩⟩:=h;exact jl0 b a d _ cp _ cap _ cb s.pods x w h2 hl.pods hl.podsN
theorem jC.nAt {w:World} {v2 v3:Value} {b:Option Addr} {m cp:Nat} {s:Clu} (h:jC w (Jg (.slice b m cp) v2 v3) s):jo w b m s.nodes∧m=s.nodes.length:=by
 obtain⟨_,_,_,e,g0⟩:=h
 cases e
 obtain⟨a',cap',e,_,_,h⟩:=g0.nodes
 cases e
 exact⟨h,rfl⟩
theorem jC.pAt {w:World} {v1 v3:Value} {b:Option Addr} {m cp:Nat} {s:Clu} (h:jC w (Jg v1 (.slice b m cp) v3) s):jy w b m s.pods∧m=s.pods.length:=by
 obtain⟨_,_,_,e,g0⟩:=h
 cases e
 obtain⟨a',cap',e,_,_,h⟩:=g0.pods
 cases e
 exact⟨h,rfl⟩
theorem jfk (p:Pd) (n:Nod) (a1 a2 a3 a4:Option Addr) (m1 c1 m2 c2 m3 c3 m4 c4:Nat) (b1 b2 b3:Option Addr) (k1 d1 k2 d2 k3 d3:Nat) (w:World) (hp:ji w (.slice a1 m1 c1) (.slice a2 m2 c2) (.slice a3 m3 c3) (.slice a4 m4 c4) p) (hn:zr w (.slice b1 k1 d1) (.slice b2 k2 d2) (.slice b3 k3 d3) n):Calls Tryz.prog 138 #[jx p (.slice a1 m1 c1) (.slice a2 m2 c2) (.slice a3 m3 c3) (.slice a4 m4 c4),zj n (.slice b1 k1 d1) (.slice b2 k2 d2) (.slice b3 k3 d3)] w (Say (.bool (Zd p n)) w):=by
 obtain⟨t,ht⟩:=eX (ZS p.sel n.labels)
 have Uw:=lH (fun (W:World) (k:Kept w W)=>jn8 (hp.sel.kept k) (hn.labels.kept k) ht);obtain⟨cd,hcd⟩:=eX (n.cordon)
 have HV:=lH (show Zd p n=(!cd&&t) by unfold Zd;rw[ht,hcd]);clear ht;obtain⟨Z,hZ⟩:=eX ((w.alloc (.cells #[.string p.name,.string p.owner,.int .i64 p.prio,.slice a1 m1 c1,.slice a2 m2 c2,.slice a3 m3 c3,.slice a4 m4 c4,.string p.key,.int .i64 p.most,.string p.node,.bool p.hold] 44)).alloc (.cells #[.string n.name,.slice b1 k1 d1,.slice b2 k2 d2,.slice b3 k3 d3,.bool cd] 57))
 have hkz:Kept w Z:=by rw[←hZ];exact jn _ _ _
 have Vk:=lH (jc w (.string p.name) [.string p.owner,.int .i64 p.prio,.slice a1 m1 c1,.slice a2 m2 c2,.slice a3 m3 c3,.slice a4 m4 c4,.string p.key,.int .i64 p.most,.string p.node,.bool p.hold] 44 Z (by rw[←hZ];exact ja _ _));have Vg:=lH (show jf (w.heap.size+1) [.string n.name,.slice b1 k1 d1,.slice b2 k2 d2,.slice b3 k3 d3,.bool cd] Z by
  have dd:=jc (w.alloc (.cells #[.string p.name,.string p.owner,.int .i64 p.prio,.slice a1 m1 c1,.slice a2 m2 c2,.slice a3 m3 c3,.slice a4 m4 c4,.string p.key,.int .i64 p.most,.string p.node,.bool p.hold] 44)) (.string n.name) [.slice b1 k1 d1,.slice b2 k2 d2,.slice b3 k3 d3,.bool cd] 57 Z (by rw[hZ];exact Kept.refl _);rw[World.size_alloc] at dd;exact dd)
 have K:=lH hkz;have HM:=lH (Uw.out Z hkz);clear Uw hp hn hkz;have r5:=Vk.out.at_ 5 _ rfl;have q2:=Vg.out.at_ 2 _ rfl;have q4:=Vg.out.at_ 4 _ rfl;unfold jx zj;rw[hcd];clear hcd;go_enter Tryz.func138,Tryz.ntmps138
 cases cd with
 | true =>
  go_wp2;try rw[hZ]
  go_ret;exact⟨jd (by rw[HV.out];rfl),by first | exact K.out | (rw[hZ];exact K.out)⟩
 | false =>
  go_wp2_with fail
  try rw[hZ]
  refine HM.out.mono ?_;rintro e w1 ⟨rfl,kk⟩;have K:=lH (K.out.trans kk);clear kk hZ;go_wp2;go_ret;exact⟨jd (by rw[HV.out];rfl),K.out⟩
theorem jgF (p:Pd) (n:Nod) (a1 a2 a3 a4:Option Addr) (m1 c1 m2 c2 m3 c3 m4 c4:Nat) (b1 b2 b3:Option Addr) (k1 d1 k2 d2 k3 d3:Nat) (w:World) (hp:ji w (.slice a1 m1 c1) (.slice a2 m2 c2) (.slice a3 m3 c3) (.slice a4 m4 c4) p) (hn:zr w (.slice b1 k1 d1) (.slice b2 k2 d2) (.slice b3 k3 d3) n):Calls Tryz.prog 139 #[jx p (.slice a1 m1 c1) (.slice a2 m2 c2) (.slice a3 m3 c3) (.slice a4 m4 c4),zj n (.slice b1 k1 d1) (.slice b2 k2 d2) (.slice b3 k3 d3)] w (Say (.bool (ZZ p n)) w):=by
 obtain⟨t,ht⟩:=eX ((Jj p.tols n.taints).isSome)
 obtain⟨⟨x,y,mm⟩,hx⟩:∃x,wT (Jj p.tols n.taints)=x:=⟨_,rfl⟩
 have Uw:=lH (fun (W:World) (k:Kept w W)=>jn6 (hp.tols.kept k) (hn.taints.kept k) hx ht);have HV:=lH (show ZZ p n=(!t) by unfold ZZ;rw[ht]);clear ht hx;obtain⟨Z,hZ⟩:=eX ((w.alloc (.cells #[.string p.name,.string p.owner,.int .i64 p.prio,.slice a1 m1 c1,.slice a2 m2 c2,.slice a3 m3 c3,.slice a4 m4 c4,.string p.key,.int .i64 p.most,.string p.node,.bool p.hold] 44)).alloc (.cells #[.string n.name,.slice b1 k1 d1,.slice b2 k2 d2,.slice b3 k3 d3,.bool n.cordon] 57))
 have hkz:Kept w Z:=by rw[←hZ];exact jn _ _ _
 have Vk:=lH (jc w (.string p.name) [.string p.owner,.int .i64 p.prio,.slice a1 m1 c1,.slice a2 m2 c2,.slice a3 m3 c3,.slice a4 m4 c4,.string p.key,.int .i64 p.most,.string p.node,.bool p.hold] 44 Z (by rw[←hZ];exact ja _ _));have Vg:=lH (show jf (w.heap.size+1) [.string n.name,.slice b1 k1 d1,.slice b2 k2 d2,.slice b3 k3 d3,.bool n.cordon] Z by
  have dd:=jc (w.alloc (.cells #[.string p.name,.string p.owner,.int .i64 p.prio,.slice a1 m1 c1,.slice a2 m2 c2,.slice a3 m3 c3,.slice a4 m4 c4,.string p.key,.int .i64 p.most,.string p.node,.bool p.hold] 44)) (.string n.name) [.slice b1 k1 d1,.slice b2 k2 d2,.slice b3 k3 d3,.bool n.cordon] 57 Z (by rw[hZ];exact Kept.refl _);rw[World.size_alloc] at dd;exact dd)
 have K:=lH hkz;have HM:=lH (Uw.out Z hkz);clear Uw hp hn hkz;have r6:=Vk.out.at_ 6 _ rfl;have q3:=Vg.out.at_ 3 _ rfl;unfold jx zj;go_enter Tryz.func139,Tryz.ntmps139;go_wp2_with fail
 try rw[hZ]
 refine HM.out.mono ?_;rintro e w1 ⟨rfl,kk⟩;have K:=lH (K.out.trans kk);clear kk hZ;go_wp2;go_ret;exact⟨jd (by rw[HV.out]),K.out.trans (ja _ _)⟩
theorem jeT (s1 s2 s3:Option Addr) (n1 e1 n2 e2 n3 e3:Nat) (a1 a2 a3 a4:Option Addr) (m1 c1 m2 c2 m3 c3 m4 c4:Nat) (p:Pd) (s:Clu) (name:ByteArray) (w:World) (hs:jC w (Jg (.slice s1 n1 e1) (.slice s2 n2 e2) (.slice s3 n3 e3)) s) (hl:jE s):Calls Tryz.prog 140 #[.agg #[.slice s1 n1 e1,.slice s2 n2 e2,.slice s3 n3 e3],jx p (.slice a1 m1 c1) (.slice a2 m2 c2) (.slice a3 m3 c3) (.slice a4 m4 c4),.string name] w (Say (.bool (ZG s p name)) w):=by
 have hn1:=hs.nAt.2;have hn2:=hs.pAt.2;have g1:=hl.nodesN;have g2:=hl.podsN;obtain⟨Z,hZ⟩:=eX ((w.alloc (.cells #[.slice s1 n1 e1,.slice s2 n2 e2,.slice s3 n3 e3] 26)).alloc (.cells #[.string p.name,.string p.owner,.int .i64 p.prio,.slice a1 m1 c1,.slice a2 m2 c2,.slice a3 m3 c3,.slice a4 m4 c4,.string p.key,.int .i64 p.most,.string p.node,.bool p.hold] 44))
 have hkz:Kept w Z:=by rw[←hZ];exact jn _ _ _
 have Vk:=lH (jc w (.slice s1 n1 e1) [.slice s2 n2 e2,.slice s3 n3 e3] 26 Z (by rw[←hZ];exact ja _ _));have Vg:=lH (show jf (w.heap.size+1) [.string p.name,.string p.owner,.int .i64 p.prio,.slice a1 m1 c1,.slice a2 m2 c2,.slice a3 m3 c3,.slice a4 m4 c4,.string p.key,.int .i64 p.most,.string p.node,.bool p.hold] Z by
  have dd:=jc (w.alloc (.cells #[.slice s1 n1 e1,.slice s2 n2 e2,.slice s3 n3 e3] 26)) (.string p.name) [.string p.owner,.int .i64 p.prio,.slice a1 m1 c1,.slice a2 m2 c2,.slice a3 m3 c3,.slice a4 m4 c4,.string p.key,.int .i64 p.most,.string p.node,.bool p.hold] 44 Z (by rw[hZ];exact Kept.refl _);rw[World.size_alloc] at dd;exact dd)
 have K:=lH hkz;have HS:=lH (jli s1 s2 s3 a1 a2 a3 a4 n1 e1 n2 e2 n3 e3 m1 c1 m2 c2 m3 c3 m4 c4 p s name Z (hs.nAt.1.kept hkz) (hs.pAt.1.kept hkz) (by omega) (by omega));clear hs hkz hl hn1 hn2 g1 g2;obtain⟨t7,h7⟩:=eX ((p.key.toList==([]:List UInt8)))
 have H7:=lH (show zp p.key=t7 by rw[JV,h7]);obtain⟨y0,y1,y2⟩:=Vk.out.at3;obtain⟨r0,r1,r2,r3,r4,r5,r6,r7,r8,r9,r10⟩:=Vg.out.at11;unfold jx at HS ⊢;go_enter Tryz.func140,Tryz.ntmps140
 cases t7 with
 | true =>
  have HV:=lH (show ZG s p name=false by unfold ZG;rw[if_pos H7.out]);go_wp2;try rw[hZ]
  go_ret;exact⟨jd HV.out.symm,by first | exact K.out | (rw[hZ];exact K.out)⟩
 | false =>
  have HV:=lH (show ZG s p name=(!(ZO p s name).2||decide (p.most<(ZO p s name).1)) by unfold ZG;rw[if_neg (by rw[H7.out];decide)]);obtain⟨z,hz⟩:=eX ((ZO p s name).1)
  obtain⟨b,hb⟩:=eX ((ZO p s name).2)
  rw[hz,hb] at HS HV;clear hz hb;go_upto_region 3 with fail
  try rw[hZ]
  clear hZ;go_wp2_with fail
  refine HS.out.mono ?_;rintro e w1 ⟨rfl,kk⟩;have K:=lH (K.out.trans kk);have r8:=(Vg.out.kept kk).at_ 8 _ rfl;clear kk y0 y1 y2 r0 r1 r2 r3 r4 r5 r6 r7 r9 r10
  cases b with
  | false =>
   go_wp2;go_ret;exact⟨jd (by rw[HV.out];rfl),K.out⟩
  | true =>
   by_cases hlt:p.most<z
   · have Rq:=lH hlt;go_wp2;go_ret;exact⟨jd (by rw[HV.out,decide_eq_true Rq.out];rfl),K.out⟩
   · have Rq:=lH hlt;have hle:z≤p.most:=by omega
     clear hlt;go_wp2;go_ret;exact⟨jd (by rw[HV.out,decide_eq_false (by have:=Rq.out;omega)];rfl),K.out⟩
theorem jhb (s1 s2 s3:Option Addr) (n1 e1 n2 e2 n3 e3:Nat) (a1 a2 a3 a4:Option Addr) (m1 c1 m2 c2 m3 c3 m4 c4:Nat) (p:Pd) (s:Clu) (name:ByteArray) (w:World) (hs:jC w (Jg (.slice s1 n1 e1) (.slice s2 n2 e2) (.slice s3 n3 e3)) s) (hl:jE s) (hp:ji w (.slice a1 m1 c1) (.slice a2 m2 c2) (.slice a3 m3 c3) (.slice a4 m4 c4) p):Calls Tryz.prog 141 #[.agg #[.slice s1 n1 e1,.slice s2 n2 e2,.slice s3 n3 e3],jx p (.slice a1 m1 c1) (.slice a2 m2 c2) (.slice a3 m3 c3) (.slice a4 m4 c4),.string name] w (Say (.bool (YU s p name)) w):=by
 obtain⟨Z,hZ⟩:=eX ((w.alloc (.cells #[.slice s1 n1 e1,.slice s2 n2 e2,.slice s3 n3 e3] 26)).alloc (.cells #[.string p.name,.string p.owner,.int .i64 p.prio,.slice a1 m1 c1,.slice a2 m2 c2,.slice a3 m3 c3,.slice a4 m4 c4,.string p.key,.int .i64 p.most,.string p.node,.bool p.hold] 44))
 have hkz:Kept w Z:=by rw[←hZ];exact jn _ _ _
 have Vk:=lH (jc w (.slice s1 n1 e1) [.slice s2 n2 e2,.slice s3 n3 e3] 26 Z (by rw[←hZ];exact ja _ _));have Vg:=lH (show jf (w.heap.size+1) [.string p.name,.string p.owner,.int .i64 p.prio,.slice a1 m1 c1,.slice a2 m2 c2,.slice a3 m3 c3,.slice a4 m4 c4,.string p.key,.int .i64 p.most,.string p.node,.bool p.hold] Z by
  have dd:=jc (w.alloc (.cells #[.slice s1 n1 e1,.slice s2 n2 e2,.slice s3 n3 e3] 26)) (.string p.name) [.string p.owner,.int .i64 p.prio,.slice a1 m1 c1,.slice a2 m2 c2,.slice a3 m3 c3,.slice a4 m4 c4,.string p.key,.int .i64 p.most,.string p.node,.bool p.hold] 44 Z (by rw[hZ];exact Kept.refl _);rw[World.size_alloc] at dd;exact dd)
 have K:=lH hkz;have HF:=lH (joc (hs.kept hkz) name hl);unfold Jg at HF;have HP:=lH (hp.need.kept hkz);clear hs hkz hl hp;obtain⟨y0,y1,y2⟩:=Vk.out.at3;unfold jx;obtain⟨c,hc⟩:=eX ((ZV s name).1)
 obtain⟨fl,hfl⟩:=eX ((ZV s name).2)
 obtain⟨q,hq⟩:=eX (Vec.jB fl p.need)
 have HV:=lH (show YU s p name=(decide (c=0)&&q) by unfold YU;rw[hc,hfl,hq]);have HQ:=lH hq;go_enter Tryz.func141,Tryz.ntmps141;go_wp2_with fail
 try rw[hZ]
 refine HF.out.mono ?_;rintro e w1 ⟨y,rfl,hy,kk⟩;rw[hc];rw[hfl] at hy;obtain⟨HY,K,HP⟩:=lH3 hy (K.out.trans kk) (HP.out.kept kk);have r3:=(Vg.out.kept kk).at_ 3 _ rfl;clear kk hZ hc hfl hq hy HF y0 y1 y2;by_cases h0:c=0
 · subst h0;go_wp2_with fail
   refine(Vec.jis HP.out HY.out HQ.out).mono ?_;rintro e w2 ⟨rfl,kk⟩;have K:=lH (K.out.trans kk);clear kk;go_wp2;go_ret;exact⟨jd (by rw[HV.out];rfl),K.out⟩
 · have h0b:(c==0)=false:=by simpa using h0
   have H0:=lH h0;clear h0;go_wp2;go_ret;exact⟨jd (by rw[HV.out,decide_eq_false H0.out];rfl),K.out⟩
def XK (c:Int) (w:World) (e:Ending) (w':World):Prop:=(c=0→∃x i1 j1 l1 i2 j2 l2 i3 j3 l3 b,e=.returned (.agg #[.string x,.slice i1 j1 l1,.slice i2 j2 l2,.slice i3 j3 l3,.bool b]))∧(c≠0→e=.panicked [zx c])∧Kept w w'
theorem XK.bad {c d:Int} {w w':World} (h:d=c) (hc:c≠0) (k:Kept w w'):XK d w (.panicked [zx c]) w':=⟨fun g=>absurd (h.symm.trans g) hc,fun _=>by rw[h],k⟩
theorem jhd (s1 s2 s3:Option Addr) (n1 e1 n2 e2 n3 e3:Nat) (a1 a2 a3 a4:Option Addr) (m1 c1 m2 c2 m3 c3 m4 c4:Nat) (p:Pd) (s:Clu) (name:ByteArray) (w:World) (hs:jC w (Jg (.slice s1 n1 e1) (.slice s2 n2 e2) (.slice s3 n3 e3)) s) (hl:jE s) (hp:ji w (.slice a1 m1 c1) (.slice a2 m2 c2) (.slice a3 m3 c3) (.slice a4 m4 c4) p):Calls Tryz.prog 78 #[.agg #[.slice s1 n1 e1,.slice s2 n2 e2,.slice s3 n3 e3],jx p (.slice a1 m1 c1) (.slice a2 m2 c2) (.slice a3 m3 c3) (.slice a4 m4 c4),.string name] w (XK (zX s p name) w):=by
 obtain⟨Y,hY⟩:=eX ((w.alloc (.cells #[.slice s1 n1 e1,.slice s2 n2 e2,.slice s3 n3 e3] 26)).alloc (.cells #[.string p.name,.string p.owner,.int .i64 p.prio,.slice a1 m1 c1,.slice a2 m2 c2,.slice a3 m3 c3,.slice a4 m4 c4,.string p.key,.int .i64 p.most,.string p.node,.bool p.hold] 44))
 have hky:Kept w Y:=by rw[←hY];exact jn _ _ _
 have hys:Y.heap.size=w.heap.size+2:=by rw[←hY];simp
 have hsb:=jc w (.slice s1 n1 e1) [.slice s2 n2 e2,.slice s3 n3 e3] 26 Y (by rw[←hY];exact ja _ _);have hpb:jf (w.heap.size+1) [.string p.name,.string p.owner,.int .i64 p.prio,.slice a1 m1 c1,.slice a2 m2 c2,.slice a3 m3 c3,.slice a4 m4 c4,.string p.key,.int .i64 p.most,.string p.node,.bool p.hold] Y:=by
  have dd:=jc (w.alloc (.cells #[.slice s1 n1 e1,.slice s2 n2 e2,.slice s3 n3 e3] 26)) (.string p.name) [.string p.owner,.int .i64 p.prio,.slice a1 m1 c1,.slice a2 m2 c2,.slice a3 m3 c3,.slice a4 m4 c4,.string p.key,.int .i64 p.most,.string p.node,.bool p.hold] 44 Y (by rw[hY];exact Kept.refl _);rw[World.size_alloc] at dd;exact dd
 obtain⟨Z,hZ⟩:=eX (Y.alloc (.cells #[.string ⟨#[]⟩,.slice none 0 0,.slice none 0 0,.slice none 0 0,.bool false] 57))
 have hkz:Kept Y Z:=by rw[←hZ];exact ja _ _
 have hnb:jf (w.heap.size+2) [.string ⟨#[]⟩,.slice none 0 0,.slice none 0 0,.slice none 0 0,.bool false] Z:=by
  have dd:=jc Y (.string ⟨#[]⟩) [.slice none 0 0,.slice none 0 0,.slice none 0 0,.bool false] 57 Z (by rw[hZ];exact Kept.refl _);rw[hys] at dd;exact dd
 have hYZ:((w.alloc (.cells #[.slice s1 n1 e1,.slice s2 n2 e2,.slice s3 n3 e3] 26)).alloc (.cells #[.string p.name,.string p.owner,.int .i64 p.prio,.slice a1 m1 c1,.slice a2 m2 c2,.slice a3 m3 c3,.slice a4 m4 c4,.string p.key,.int .i64 p.most,.string p.node,.bool p.hold] 44)).alloc (.cells #[.string ⟨#[]⟩,.slice none 0 0,.slice none 0 0,.slice none 0 0,.bool false] 57)=Z:=by rw[hY];exact hZ
 obtain⟨Vw,Vz,Vv,K,Ug,VY,HL,Ua⟩:=lH8 (hsb.kept hkz) (hpb.kept hkz) hnb (hky.trans hkz) (hs.kept (hky.trans hkz)) (hp.kept (hky.trans hkz)) hl (jgK s1 s2 s3 n1 e1 n2 e2 n3 e3 s.nodes name Z ((hs.kept (hky.trans hkz)).nAt.1) (by have:=hl.nodesN;have:=hs.nAt.2;omega));clear hs hp hl hky hkz hys hsb hpb hnb hY hZ;unfold jx;obtain⟨y0,y1,y2⟩:=Vw.out.at3;go_enter Tryz.func78,Tryz.ntmps78;go_wp2_with fail
 try rw[hYZ]
 clear hYZ;refine Ua.out.mono ?_;rintro e w1 ⟨h1,h2,kk⟩;obtain⟨K,Vw,Vz,Vv,Ug,VY⟩:=lH6 (K.out.trans kk) (Vw.out.kept kk) (Vz.out.kept kk) (Vv.out.kept kk) (Ug.out.kept kk) (VY.out.kept kk);clear Ua y0 y1 y2
 cases ho:jl s.nodes name with
 | none =>
  obtain rfl:=h2 ho;have HE:=lH (show zX s p name=3 from jbX ho);clear h1 h2 ho kk;go_wp2;exact⟨rfl,XK.bad HE.out (by decide) K.out⟩
 | some n =>
  obtain⟨b1,k1,d1,b2,k2,d2,b3,k3,d3,rfl,hn⟩:=h1 n ho;have HE:=lH (show zX s p name=zW s p n name from jbW ho);clear h1 h2 ho;obtain⟨w2,hw2⟩:=eX (w1.alloc (.cells #[.string n.name,.slice b1 k1 d1,.slice b2 k2 d2,.slice b3 k3 d3,.bool n.cordon] 57))
  have kx:Kept w1 w2:=by rw[←hw2];exact ja _ _
  obtain⟨V6,V2,K,Vw,Vz,Vv,Ug,VY⟩:=lH8 (jc w1 (.string n.name) [.slice b1 k1 d1,.slice b2 k2 d2,.slice b3 k3 d3,.bool n.cordon] 57 w2 (by rw[hw2];exact Kept.refl _)) (hn.kept kx) (K.out.trans kx) (Vw.out.kept kx) (Vz.out.kept kx) (Vv.out.kept kx) (Ug.out.kept kx) (VY.out.kept kx);obtain⟨gn,hgn⟩:=eX (w1.heap.size)
  rw[hgn] at V6;clear hn kk kx;unfold zj;go_upto_region 2 with fail
  try rw[hw2]
  try rw[hgn]
  clear hw2 hgn;obtain⟨r0,r1,r2,r3,r4,r5,r6,r7,r8,r9,r10⟩:=Vz.out.at11;obtain⟨t0,t1,t2,t3,t4⟩:=V6.out.at5;obtain⟨bb,hbb⟩:=eX (Zd p n)
  have HC:=lH (jfk p n a1 a2 a3 a4 m1 c1 m2 c2 m3 c3 m4 c4 b1 b2 b3 k1 d1 k2 d2 k3 d3 _ VY.out V2.out);unfold jx at HC;unfold zj at HC;rw[hbb] at HC;go_wp2_with fail
  refine HC.out.mono ?_;rintro e w3 ⟨rfl,kk⟩;obtain⟨Vh,Vw,Vz,Vv,Ug,VY,V6,V2⟩:=lH8 hbb (Vw.out.kept kk) (Vz.out.kept kk) (Vv.out.kept kk) (Ug.out.kept kk) (VY.out.kept kk) (V6.out.kept kk) (V2.out.kept kk);have K:=lH (K.out.trans kk);clear kk;clear hbb HC r0 r1 r2 r3 r4 r5 r6 r7 r8 r9 r10 t0 t1 t2 t3 t4
  cases bb with
  | false =>
   go_wp2_with fail
   refine(XB 8 _).mono ?_;rintro e w4 ⟨rfl,rfl⟩;go_wp2;exact⟨rfl,XK.bad (HE.out.trans (jbE Vh.out)) (by decide) K.out⟩
  | true =>
   have Vk:=Vh;clear Vh;go_wp2_with fail
   refine(X3 8 _).mono ?_;rintro e w4 ⟨rfl,rfl⟩;obtain⟨r0,r1,r2,r3,r4,r5,r6,r7,r8,r9,r10⟩:=Vz.out.at11;obtain⟨t0,t1,t2,t3,t4⟩:=V6.out.at5;obtain⟨bb,hbb⟩:=eX (ZZ p n)
   have HC:=lH (jgF p n a1 a2 a3 a4 m1 c1 m2 c2 m3 c3 m4 c4 b1 b2 b3 k1 d1 k2 d2 k3 d3 _ VY.out V2.out);unfold jx at HC;unfold zj at HC;rw[hbb] at HC;go_wp2_with fail
   refine HC.out.mono ?_;rintro e w3 ⟨rfl,kk⟩;obtain⟨Vh,Vw,Vz,Vv,Ug,VY,V6,V2⟩:=lH8 hbb (Vw.out.kept kk) (Vz.out.kept kk) (Vv.out.kept kk) (Ug.out.kept kk) (VY.out.kept kk) (V6.out.kept kk) (V2.out.kept kk);have K:=lH (K.out.trans kk);clear kk;clear hbb HC r0 r1 r2 r3 r4 r5 r6 r7 r8 r9 r10 t0 t1 t2 t3 t4
   cases bb with
   | false =>
    go_wp2_with fail
    refine(XB 9 _).mono ?_;rintro e w4 ⟨rfl,rfl⟩;go_wp2;exact⟨rfl,XK.bad (HE.out.trans (jaE Vk.out Vh.out)) (by decide) K.out⟩
   | true =>
    have Vg:=Vh;clear Vh;go_wp2_with fail
    refine(X3 9 _).mono ?_;rintro e w4 ⟨rfl,rfl⟩;obtain⟨y0,y1,y2⟩:=Vw.out.at3;obtain⟨r0,r1,r2,r3,r4,r5,r6,r7,r8,r9,r10⟩:=Vz.out.at11;obtain⟨bb,hbb⟩:=eX (ZG s p name)
    have HC:=lH (jeT s1 s2 s3 n1 e1 n2 e2 n3 e3 a1 a2 a3 a4 m1 c1 m2 c2 m3 c3 m4 c4 p s name _ Ug.out HL.out);unfold jx at HC;rw[hbb] at HC;go_wp2_with fail
    refine HC.out.mono ?_;rintro e w3 ⟨rfl,kk⟩;obtain⟨Vh,Vw,Vz,Vv,Ug,VY,V6,V2⟩:=lH8 hbb (Vw.out.kept kk) (Vz.out.kept kk) (Vv.out.kept kk) (Ug.out.kept kk) (VY.out.kept kk) (V6.out.kept kk) (V2.out.kept kk);have K:=lH (K.out.trans kk);clear kk;clear hbb HC y0 y1 y2 r0 r1 r2 r3 r4 r5 r6 r7 r8 r9 r10
    cases bb with
    | true =>
     go_wp2_with fail
     refine(XB 10 _).mono ?_;rintro e w4 ⟨rfl,rfl⟩;go_wp2;exact⟨rfl,XK.bad (HE.out.trans (jbl Vk.out Vg.out Vh.out)) (by decide) K.out⟩
    | false =>
     have TP:=Vh;clear Vh;go_wp2_with fail
     refine(X3 10 _).mono ?_;rintro e w4 ⟨rfl,rfl⟩;obtain⟨y0,y1,y2⟩:=Vw.out.at3;obtain⟨r0,r1,r2,r3,r4,r5,r6,r7,r8,r9,r10⟩:=Vz.out.at11;obtain⟨bb,hbb⟩:=eX (YU s p name)
     have HC:=lH (jhb s1 s2 s3 n1 e1 n2 e2 n3 e3 a1 a2 a3 a4 m1 c1 m2 c2 m3 c3 m4 c4 p s name _ Ug.out HL.out VY.out);unfold jx at HC;rw[hbb] at HC;go_wp2_with fail
     refine HC.out.mono ?_;rintro e w3 ⟨rfl,kk⟩;obtain⟨Vh,Vw,Vz,Vv,Ug,VY,V6,V2⟩:=lH8 hbb (Vw.out.kept kk) (Vz.out.kept kk) (Vv.out.kept kk) (Ug.out.kept kk) (VY.out.kept kk) (V6.out.kept kk) (V2.out.kept kk);have K:=lH (K.out.trans kk);clear kk;clear hbb HC y0 y1 y2 r0 r1 r2 r3 r4 r5 r6 r7 r8 r9 r10
     cases bb with
     | false =>
      go_wp2_with fail
      refine(XB 7 _).mono ?_;rintro e w4 ⟨rfl,rfl⟩;go_wp2;exact⟨rfl,XK.bad (HE.out.trans (jaY Vk.out Vg.out TP.out Vh.out)) (by decide) K.out⟩
     | true =>
      go_wp2_with fail
      refine(X3 7 _).mono ?_;rintro e w4 ⟨rfl,rfl⟩;obtain⟨t0,t1,t2,t3,t4⟩:=V6.out.at5;obtain⟨z0,z1,z2,z3,z4⟩:=Vv.out.at5;have f0:=Vv.out.free 0;have f1:=Vv.out.free 1;have f2:=Vv.out.free 2;have f3:=Vv.out.free 3;have f4:=Vv.out.free 4;have P:=lH (ZC ⟨z0,z1,z2,z3,z4⟩ n.name b1 b2 b3 k1 d1 k2 d2 k3 d3 n.cordon);obtain⟨x9,hx9⟩:=eX (n.name)
      obtain⟨c9,hc9⟩:=eX (n.cordon)
      rw[hx9] at t0;rw[hc9] at t4;rw[hx9,hc9] at P;have NI:=lH (HE.out.trans (jie Vk.out Vg.out TP.out Vh.out));clear hx9 hc9 HE V6 V2 Ug VY;go_wp2;obtain⟨WE,hWE⟩:=eX ((((((w3.setCell ⟨w.heap.size+2,0,none⟩ (.string x9)).setCell ⟨w.heap.size+2,1,none⟩ (.slice b1 k1 d1)).setCell ⟨w.heap.size+2,2,none⟩ (.slice b2 k2 d2)).setCell ⟨w.heap.size+2,3,none⟩ (.slice b3 k3 d3)).setCell ⟨w.heap.size+2,4,none⟩ (.bool c9)))
      rw[hWE] at P ⊢;clear hWE z0 z1 z2 z3 z4 t0 t1 t2 t3 t4 f0 f1 f2 f3 f4;obtain⟨⟨q0,q1,q2,q3,q4⟩,hsz,hbl,hkp⟩:=P.out;refine bodyPost_ret (by simp[results,Tryz.results78,go_sem,q0,q1,q2,q3,q4];try rfl) rfl ?_;have KE:=hkp _ _ (by omega) K.out;exact⟨fun _=>⟨_,_,_,_,_,_,_,_,_,_,_,rfl⟩,fun g=>absurd NI.out g,KE⟩
def jmZ (c:Int) (w:World) (e:Ending) (w':World):Prop:=(∃x i1 j1 l1 i2 j2 l2 i3 j3 l3 b,e=.returned (.tuple #[.agg #[.string x,.slice i1 j1 l1,.slice i2 j2 l2,.slice i3 j3 l3,.bool b],.int .i64 c]))∧Kept w w'
theorem jh6 (Q1 Q2 Q3:Nat) (s1 s2 s3:Option Addr) (n1 e1 n2 e2 n3 e3:Nat) (a1 a2 a3 a4:Option Addr) (m1 c1 m2 c2 m3 c3 m4 c4:Nat) (p:Pd) (s:Clu) (name:ByteArray) (w:World) (hq1:jf Q1 [.slice s1 n1 e1,.slice s2 n2 e2,.slice s3 n3 e3] w) (hq2:jf Q2 [.string p.name,.string p.owner,.int .i64 p.prio,.slice a1 m1 c1,.slice a2 m2 c2,.slice a3 m3 c3,.slice a4 m4 c4,.string p.key,.int .i64 p.most,.string p.node,.bool p.hold] w) (hq3:jf Q3 [.string name] w) (hs:jC w (Jg (.slice s1 n1 e1) (.slice s2 n2 e2) (.slice s3 n3 e3)) s) (hl:jE s) (hp:ji w (.slice a1 m1 c1) (.slice a2 m2 c2) (.slice a3 m3 c3) (.slice a4 m4 c4) p) :
 Calls Tryz.prog 77 #[.pointer (some ⟨Q1,0,none⟩),.pointer (some ⟨Q2,0,none⟩),.pointer (some ⟨Q3,0,none⟩)] w (XK (zX s p name) w):=by
 obtain⟨Z,hZ⟩:=eX (w.alloc (.cells #[.string ⟨#[]⟩,.slice none 0 0,.slice none 0 0,.slice none 0 0,.bool false] 57))
 have hkz:Kept w Z:=by rw[←hZ];exact ja _ _
 have Vv:=lH (jc w (.string ⟨#[]⟩) [.slice none 0 0,.slice none 0 0,.slice none 0 0,.bool false] 57 Z (by rw[hZ];exact Kept.refl _));have HS:=lH (jhd s1 s2 s3 n1 e1 n2 e2 n3 e3 a1 a2 a3 a4 m1 c1 m2 c2 m3 c3 m4 c4 p s name Z (hs.kept hkz) hl (hp.kept hkz));unfold jx at HS;have K:=lH hkz;have y0:=(hq1.kept hkz).at_ 0 _ rfl;have y1:=(hq1.kept hkz).at_ 1 _ rfl;have y2:=(hq1.kept hkz).at_ 2 _ rfl;have r0:=(hq2.kept hkz).at_ 0 _ rfl;have r1:=(hq2.kept hkz).at_ 1 _ rfl;have r2:=(hq2.kept hkz).at_ 2 _ rfl;have r3:=(hq2.kept hkz).at_ 3 _ rfl;have r4:=(hq2.kept hkz).at_ 4 _ rfl;have r5:=(hq2.kept hkz).at_ 5 _ rfl;have r6:=(hq2.kept hkz).at_ 6 _ rfl;have r7:=(hq2.kept hkz).at_ 7 _ rfl;have r8:=(hq2.kept hkz).at_ 8 _ rfl;have r9:=(hq2.kept hkz).at_ 9 _ rfl;have r10:=(hq2.kept hkz).at_ 10 _ rfl;have x0:=(hq3.kept hkz).at_ 0 _ rfl;clear hq1 hq2 hq3 hs hp hl hkz;obtain⟨c,hc⟩:=eX (zX s p name)
 rw[hc] at HS ⊢;clear hc;go_enter Tryz.func77,Tryz.ntmps77;go_wp2_with fail
 try rw[hZ]
 refine HS.out.mono ?_;rintro e w1 ⟨h1,h2,kk⟩;have K:=lH (K.out.trans kk);have Vv:=lH (Vv.out.kept kk);clear kk hZ HS y0 y1 y2 r0 r1 r2 r3 r4 r5 r6 r7 r8 r9 r10 x0;by_cases hc:c=0
 · obtain⟨x9,i1,j1,l1,i2,j2,l2,i3,j3,l3,b9,rfl⟩:=h1 hc;have Ul:=lH hc;clear h1 h2 hc;obtain⟨z0,z1,z2,z3,z4⟩:=Vv.out.at5;have f0:=Vv.out.free 0;have f1:=Vv.out.free 1;have f2:=Vv.out.free 2;have f3:=Vv.out.free 3;have f4:=Vv.out.free 4;have g0:=jan (u0:=.string x9) (u1:=.slice i1 j1 l1) (u2:=.slice i2 j2 l2) (u3:=.slice i3 j3 l3) (u4:=.bool b9) z0 z1 z2 z3 z4;go_wp2;obtain⟨WE,hWE⟩:=eX ((((((w1.setCell ⟨w.heap.size,0,none⟩ (.string x9)).setCell ⟨w.heap.size,1,none⟩ (.slice i1 j1 l1)).setCell ⟨w.heap.size,2,none⟩ (.slice i2 j2 l2)).setCell ⟨w.heap.size,3,none⟩ (.slice i3 j3 l3)).setCell ⟨w.heap.size,4,none⟩ (.bool b9)))
   obtain⟨q0,q1,q2,q3,q4⟩:=g0 WE hWE;have KE:Kept w WE:=by rw[←hWE];exact((((K.out.setCell (p:=⟨w.heap.size,0,none⟩) (Nat.le_refl _) _).setCell (p:=⟨w.heap.size,1,none⟩) (Nat.le_refl _) _).setCell (p:=⟨w.heap.size,2,none⟩) (Nat.le_refl _) _).setCell (p:=⟨w.heap.size,3,none⟩) (Nat.le_refl _) _).setCell (p:=⟨w.heap.size,4,none⟩) (Nat.le_refl _) _
   rw[hWE];clear hWE z0 z1 z2 z3 z4 f0 f1 f2 f3 f4;refine bodyPost_ret (by simp[results,Tryz.results77,go_sem,q0,q1,q2,q3,q4];try rfl) rfl ?_;exact⟨fun _=>⟨_,_,_,_,_,_,_,_,_,_,_,rfl⟩,fun g=>absurd Ul.out g,KE⟩
 · obtain rfl:=h2 hc;have Ul:=lH hc;clear h1 h2 hc;go_wp2;exact⟨rfl,XK.bad rfl Ul.out K.out⟩
theorem jgO (Q1 Q2 Q3:Nat) (c:Int) (w:World) (hk:∀W,Kept w W→Calls Tryz.prog 77 #[.pointer (some ⟨Q1,0,none⟩),.pointer (some ⟨Q2,0,none⟩),.pointer (some ⟨Q3,0,none⟩)] W (XK c W)) :
 Calls Tryz.prog 76 #[.func (.func 77) #[] #[.pointer (some ⟨Q1,0,none⟩),.pointer (some ⟨Q2,0,none⟩),.pointer (some ⟨Q3,0,none⟩)]] w (jmZ c w):=by
 have hmf:=hmfL (P:=Tryz.prog);obtain⟨Z,hZ⟩:=eX ((w.alloc (.cells #[.string ⟨#[]⟩,.slice none 0 0,.slice none 0 0,.slice none 0 0,.bool false] 57)).alloc (.cells #[.int .i64 0] 45))
 have hkz:Kept w Z:=by rw[←hZ];exact jn _ _ _
 have Vv:=lH (jc w (.string ⟨#[]⟩) [.slice none 0 0,.slice none 0 0,.slice none 0 0,.bool false] 57 Z (by rw[←hZ];exact ja _ _));have TQ:=lH (show jf (w.heap.size+1) [.int .i64 0] Z by
  have dd:=jc (w.alloc (.cells #[.string ⟨#[]⟩,.slice none 0 0,.slice none 0 0,.slice none 0 0,.bool false] 57)) (.int .i64 0) [] 45 Z (by rw[hZ];exact Kept.refl _);rw[World.size_alloc] at dd;exact dd)
 have HK:=lH hkz;have Tp:=lH (hk Z hkz);clear hk hkz;go_enter_defers Tryz.func76,Tryz.ntmps76
 go_wp2_with fail
 try rw[hZ]
 refine Tp.out.mono ?_;rintro e1 w1 ⟨h0,h1,hb⟩;obtain⟨KK,Vv,TQ⟩:=lH3 (HK.out.trans hb) (Vv.out.kept hb) (TQ.out.kept hb);obtain⟨z0,z1,z2,z3,z4⟩:=Vv.out.at5;have f0:=Vv.out.free 0;have f1:=Vv.out.free 1;have f2:=Vv.out.free 2;have f3:=Vv.out.free 3;have f4:=Vv.out.free 4;have ez:=TQ.out.at_ 0 _ rfl;have ef:=TQ.out.free 0;clear Tp;by_cases hx:c=0
 · obtain⟨x9,i1,j1,l1,i2,j2,l2,i3,j3,l3,b9,rfl⟩:=h0 hx;subst hx;clear h0 h1 hb hZ;have g0:=jan (u0:=.string x9) (u1:=.slice i1 j1 l1) (u2:=.slice i2 j2 l2) (u3:=.slice i3 j3 l3) (u4:=.bool b9) z0 z1 z2 z3 z4;have R0:=lH g0;clear g0;go_wp2_with fail
   obtain⟨WE,hWE⟩:=eX ((((((w1.setCell ⟨w.heap.size,0,none⟩ (.string x9)).setCell ⟨w.heap.size,1,none⟩ (.slice i1 j1 l1)).setCell ⟨w.heap.size,2,none⟩ (.slice i2 j2 l2)).setCell ⟨w.heap.size,3,none⟩ (.slice i3 j3 l3)).setCell ⟨w.heap.size,4,none⟩ (.bool b9)))
   obtain⟨q0,q1,q2,q3,q4⟩:=R0.out WE hWE;have KE:Kept w WE:=by rw[←hWE];exact((((KK.out.setCell (p:=⟨w.heap.size,0,none⟩) (Nat.le_refl _) _).setCell (p:=⟨w.heap.size,1,none⟩) (Nat.le_refl _) _).setCell (p:=⟨w.heap.size,2,none⟩) (Nat.le_refl _) _).setCell (p:=⟨w.heap.size,3,none⟩) (Nat.le_refl _) _).setCell (p:=⟨w.heap.size,4,none⟩) (Nat.le_refl _) _
   have ee:WE.cell? ⟨w.heap.size+1,0,none⟩=some (.int .i64 0):=by rw[←hWE];exact(((((TQ.out.other (by omega)).other (by omega)).other (by omega)).other (by omega)).other (by omega)).at_ 0 _ rfl
   rw[hWE];clear hWE z0 z1 z2 z3 z4 f0 f1 f2 f3 f4 R0;have ff:∀j v,WE.cell? ⟨w.heap.size,j,none⟩=some v→(WE.setCell ⟨w.heap.size+1,0,none⟩ (.int .i64 0)).cell? ⟨w.heap.size,j,none⟩=some v:=fun j v h=>(World.cell?_of_block (a:=⟨w.heap.size,j,none⟩) (Below.heap_setCell WE ⟨w.heap.size+1,0,none⟩ _ w.heap.size (by show w.heap.size≠w.heap.size+1;omega))).trans h;have g0:=ff 0 _ q0;have g1:=ff 1 _ q1;have g2:=ff 2 _ q2;have g3:=ff 3 _ q3;have g4:=ff 4 _ q4;have fe:=World.cell?_setCell_same' WE ⟨w.heap.size+1,0,none⟩ (.int .i64 0) (by rw[ee];rfl);have KF:=lH (show Kept w (WE.setCell ⟨w.heap.size+1,0,none⟩ (.int .i64 0)) from KE.setCell (p:=⟨w.heap.size+1,0,none⟩) (Nat.le_succ _) _);obtain⟨WF,hWF⟩:=eX (WE.setCell ⟨w.heap.size+1,0,none⟩ (.int .i64 0))
   rw[hWF] at fe g0 g1 g2 g3 g4 KF ⊢;clear hWF ff ee q0 q1 q2 q3 q4 ez ef;refine leaves_cons (f:=135) (args:=#[.pointer (some ⟨w.heap.size+1,0,none⟩)]) (by simp) (by simp[go_sem]) ?_;refine(jgo ⟨w.heap.size+1,0,none⟩ _).mono ?_;rintro e u' w'' ⟨rfl,rfl,rfl⟩;simp[Leaves,settle,results,Tryz.results76,go_sem,fe,g0,g1,g2,g3,g4];exact⟨⟨_,_,_,_,_,_,_,_,_,_,_,rfl⟩,KF.out⟩
 · obtain rfl:=h1 hx;have HX:=lH hx;clear h0 h1 hb hZ hx;go_wp2_with fail
   refine leaves_cons (f:=135) (args:=#[.pointer (some ⟨w.heap.size+1,0,none⟩)]) (by simp) (by simp[go_sem]) ?_;refine(jbB w.heap.size (w.heap.size+1) c 0 _ ez ef (Nat.le_succ _)).mono ?_;rintro e u' w'' ⟨rfl,rfl,rfl,q2,q3⟩;have KF:=lH (show Kept w _ from Below.trans KK.out q3);have ff:∀j v,w1.cell? ⟨w.heap.size,j,none⟩=some v→(w1.setCell ⟨w.heap.size+1,0,none⟩ (.int .i64 c)).cell? ⟨w.heap.size,j,none⟩=some v:=fun j v h=>(World.cell?_of_block (a:=⟨w.heap.size,j,none⟩) (Below.heap_setCell w1 ⟨w.heap.size+1,0,none⟩ _ w.heap.size (by show w.heap.size≠w.heap.size+1;omega))).trans h;have g0:=ff 0 _ z0;have g1:=ff 1 _ z1;have g2:=ff 2 _ z2;have g3:=ff 3 _ z3;have g4:=ff 4 _ z4;obtain⟨WF,hWF⟩:=eX (w1.setCell ⟨w.heap.size+1,0,none⟩ (.int .i64 c))
   rw[hWF] at q2 g0 g1 g2 g3 g4 KF ⊢;clear hWF ff q3 z0 z1 z2 z3 z4 ez ef f0 f1 f2 f3 f4;simp[Leaves,settle,results,Tryz.results76,go_sem,q2,g0,g1,g2,g3,g4];exact⟨⟨_,_,_,_,_,_,_,_,_,_,_,rfl⟩,KF.out⟩
theorem ji6 (s1 s2 s3:Option Addr) (n1 e1 n2 e2 n3 e3:Nat) (a1 a2 a3 a4:Option Addr) (m1 c1 m2 c2 m3 c3 m4 c4:Nat) (p:Pd) (s:Clu) (name:ByteArray) (w:World) (hs:jC w (Jg (.slice s1 n1 e1) (.slice s2 n2 e2) (.slice s3 n3 e3)) s) (hl:jE s) (hp:ji w (.slice a1 m1 c1) (.slice a2 m2 c2) (.slice a3 m3 c3) (.slice a4 m4 c4) p):Calls Tryz.prog 34 #[.agg #[.slice s1 n1 e1,.slice s2 n2 e2,.slice s3 n3 e3],jx p (.slice a1 m1 c1) (.slice a2 m2 c2) (.slice a3 m3 c3) (.slice a4 m4 c4),.string name] w (Say (.int .i64 (zX s p name)) w):=by
 have hmf:=hmfL (P:=Tryz.prog);obtain⟨Y,hY⟩:=eX ((w.alloc (.cells #[.slice s1 n1 e1,.slice s2 n2 e2,.slice s3 n3 e3] 26)).alloc (.cells #[.string p.name,.string p.owner,.int .i64 p.prio,.slice a1 m1 c1,.slice a2 m2 c2,.slice a3 m3 c3,.slice a4 m4 c4,.string p.key,.int .i64 p.most,.string p.node,.bool p.hold] 44))
 have hky:Kept w Y:=by rw[←hY];exact jn _ _ _
 have hys:Y.heap.size=w.heap.size+2:=by rw[←hY];simp
 have hsb:=jc w (.slice s1 n1 e1) [.slice s2 n2 e2,.slice s3 n3 e3] 26 Y (by rw[←hY];exact ja _ _);have hpb:jf (w.heap.size+1) [.string p.name,.string p.owner,.int .i64 p.prio,.slice a1 m1 c1,.slice a2 m2 c2,.slice a3 m3 c3,.slice a4 m4 c4,.string p.key,.int .i64 p.most,.string p.node,.bool p.hold] Y:=by
  have dd:=jc (w.alloc (.cells #[.slice s1 n1 e1,.slice s2 n2 e2,.slice s3 n3 e3] 26)) (.string p.name) [.string p.owner,.int .i64 p.prio,.slice a1 m1 c1,.slice a2 m2 c2,.slice a3 m3 c3,.slice a4 m4 c4,.string p.key,.int .i64 p.most,.string p.node,.bool p.hold] 44 Y (by rw[hY];exact Kept.refl _);rw[World.size_alloc] at dd;exact dd
 obtain⟨Z,hZ⟩:=eX (Y.alloc (.cells #[.string name] 9))
 have hkz:Kept Y Z:=by rw[←hZ];exact ja _ _
 have hnb:jf (w.heap.size+2) [.string name] Z:=by
  have dd:=jc Y (.string name) [] 9 Z (by rw[hZ];exact Kept.refl _);rw[hys] at dd;exact dd
 have hYZ:((w.alloc (.cells #[.slice s1 n1 e1,.slice s2 n2 e2,.slice s3 n3 e3] 26)).alloc (.cells #[.string p.name,.string p.owner,.int .i64 p.prio,.slice a1 m1 c1,.slice a2 m2 c2,.slice a3 m3 c3,.slice a4 m4 c4,.string p.key,.int .i64 p.most,.string p.node,.bool p.hold] 44)).alloc (.cells #[.string name] 9)=Z:=by rw[hY];exact hZ
 have HC:=lH (jgO w.heap.size (w.heap.size+1) (w.heap.size+2) (zX s p name) Z fun W k=>jh6 w.heap.size (w.heap.size+1) (w.heap.size+2) s1 s2 s3 n1 e1 n2 e2 n3 e3 a1 a2 a3 a4 m1 c1 m2 c2 m3 c3 m4 c4 p s name W ((hsb.kept hkz).kept k) ((hpb.kept hkz).kept k) (hnb.kept k) (hs.kept ((hky.trans hkz).trans k)) hl (hp.kept ((hky.trans hkz).trans k)));have K:=lH (hky.trans hkz);clear hs hp hl hky hkz hys hsb hpb hnb hY hZ;obtain⟨c,hc⟩:=eX (zX s p name)
 rw[hc] at HC ⊢;clear hc;unfold jx;go_enter Tryz.func34,Tryz.ntmps34;go_wp2_with fail
 try rw[hYZ]
 clear hYZ;refine HC.out.mono ?_;rintro e w1 ⟨⟨x9,i1,j1,l1,i2,j2,l2,i3,j3,l3,b9,rfl⟩,kk⟩;have K:=lH (K.out.trans kk);clear kk;go_wp2;go_ret;exact⟨rfl,K.out.trans (ja _ _)⟩
theorem jE.drop {s:Clu} (h:jE s) (x:ByteArray):jE (zG s x):=jgm h x
theorem jC.spelt {w:World} {y:Value} {s:Clu} (h:jC w y s):∃s1 n1 e1 s2 n2 e2 s3 n3 e3,y=Jg (.slice s1 n1 e1) (.slice s2 n2 e2) (.slice s3 n3 e3):=by
 obtain⟨_,_,_,rfl,⟨a,c,rfl,-⟩,⟨b,d,rfl,-⟩,⟨e,f,rfl,-⟩⟩:=h;exact⟨a,_,c,b,_,d,e,_,f,rfl⟩
theorem jkx (x:Int) (u:Value) (h:u ∈ [Value.int .i64 x]):u.oneCell'=true:=by
 have e:u=Value.int .i64 x:=by simpa using h
 rw[e];rfl
def XR:Lay Int:={ m:=1,cs:=fun x=>[.int .i64 x],fine:=fun x=>-9223372036854775808≤x∧x≤9223372036854775807,len:=fun _=>rfl,one:=jkx,pos:=by decide }
theorem jk.err {w:World} {b off len:Nat} {l:List Int} {k:Nat} (h:jk XR w (some ⟨b,off,none⟩) len l) (hk:k<len):∃x:Int,l[k]?=some x∧l.drop k=x::l.drop (k+1)∧b<w.heap.size∧w.cell? ⟨b,off+k,none⟩=some (.int .i64 x):=by
 obtain⟨x,h1,h2,h3,h4,h5⟩:=h.cells hk;exact⟨x,h1,h2,h3,by have:=h5 0 _ rfl;simpa [XR] using this⟩
theorem jnE:(Tryz.prog.info? 45).map (fun i=>(i.zero,i.size,i.bytes))=some (some (.int .i64 0),1,8):=by kernel_rfl
theorem jmN (s1 s2 s3:Option Addr) (n1 e1 n2 e2 n3 e3:Nat) (a1 a2 a3 a4:Option Addr) (m1 c1 m2 c2 m3 c3 m4 c4:Nat) (p:Pd) (s:Clu) (w:World) (hs:jC w (Jg (.slice s1 n1 e1) (.slice s2 n2 e2) (.slice s3 n3 e3)) s) (hl:jE s) (hp:ji w (.slice a1 m1 c1) (.slice a2 m2 c2) (.slice a3 m3 c3) (.slice a4 m4 c4) p):Calls Tryz.prog 33 #[.agg #[.slice s1 n1 e1,.slice s2 n2 e2,.slice s3 n3 e3],jx p (.slice a1 m1 c1) (.slice a2 m2 c2) (.slice a3 m3 c3) (.slice a4 m4 c4)] w fun e w'=>∃v,e=.returned v∧Own XR 45 w' w.heap.size v (XQ s p s.nodes)∧Kept w w':=by
 obtain⟨i0,hi,hz0,hz1,hz2'⟩:=info_parts jnE;obtain⟨Z,hZ⟩:=eX ((w.alloc (.cells #[.slice s1 n1 e1,.slice s2 n2 e2,.slice s3 n3 e3] 26)).alloc (.cells #[.string p.name,.string p.owner,.int .i64 p.prio,.slice a1 m1 c1,.slice a2 m2 c2,.slice a3 m3 c3,.slice a4 m4 c4,.string p.key,.int .i64 p.most,.string p.node,.bool p.hold] 44))
 have hkz:Kept w Z:=by rw[←hZ];exact jn _ _ _
 have Vk:=lH (jc w (.slice s1 n1 e1) [.slice s2 n2 e2,.slice s3 n3 e3] 26 Z (by rw[←hZ];exact ja _ _));have Vg:=lH (show jf (w.heap.size+1) [.string p.name,.string p.owner,.int .i64 p.prio,.slice a1 m1 c1,.slice a2 m2 c2,.slice a3 m3 c3,.slice a4 m4 c4,.string p.key,.int .i64 p.most,.string p.node,.bool p.hold] Z by
  have dd:=jc (w.alloc (.cells #[.slice s1 n1 e1,.slice s2 n2 e2,.slice s3 n3 e3] 26)) (.string p.name) [.string p.owner,.int .i64 p.prio,.slice a1 m1 c1,.slice a2 m2 c2,.slice a3 m3 c3,.slice a4 m4 c4,.string p.key,.int .i64 p.most,.string p.node,.bool p.hold] 44 Z (by rw[hZ];exact Kept.refl _);rw[World.size_alloc] at dd;exact dd)
 obtain⟨K,HS,HP,HL⟩:=lH4 hkz (hs.kept hkz) (hp.kept hkz) hl;clear hs hp hkz hl;have VR:=lH HS.out.nAt.2;have hb1:n1≤100000:=by have:=HL.out.nodesN;have:=VR.out;omega
 have HN:=lH HS.out.nAt.1;have Rr:=lH (jm4 HS.out p.name HL.out);try unfold Jg at Rr
 obtain⟨y0,y1,y2⟩:=Vk.out.at3;have r0:=Vg.out.at_ 0 _ rfl;unfold jx;go_enter Tryz.func33,Tryz.ntmps33;go_upto_region 1 with fail
 try rw[hZ]
 clear hZ;go_wp2_with fail
 refine Rr.out.mono ?_;rintro e w1 ⟨y,rfl,hy,kk⟩;obtain⟨t1,k1,d1,t2,k2,d2,t3,k3,d3,rfl⟩:=hy.spelt;obtain⟨w2,hw2⟩:=eX (w1.alloc (.cells #[.slice t1 k1 d1,.slice t2 k2 d2,.slice t3 k3 d3] 26))
 have kx:Kept w1 w2:=by rw[←hw2];exact ja _ _
 obtain⟨Vt,HY,Vk,Vg,HP,HN,K⟩:=lH7 (jc w1 (.slice t1 k1 d1) [.slice t2 k2 d2,.slice t3 k3 d3] 26 w2 (by rw[hw2];exact Kept.refl _)) (hy.kept kx) (Vk.out.kept (kk.trans kx)) (Vg.out.kept (kk.trans kx)) (HP.out.kept (kk.trans kx)) (HN.out.kept (kk.trans kx)) (K.out.trans (kk.trans kx));obtain⟨gd,hgd⟩:=eX (w1.heap.size)
 rw[hgd] at Vt;clear kk kx hy Rr y0 y1 y2 r0;have y0:=Vk.out.at_ 0 _ rfl;go_upto_region 3 with fail
 try rw[hw2]
 try rw[hgd]
 clear hw2 hgd;go_wp2;clear y0;go_loopw [6,16] (fun v i wr=>∃k:Nat,k≤n1∧i=.int .i64 k∧∃la:List Int,XQ s p (s.nodes.take k)=la∧Own XR 45 wr w2.heap.size v la∧Kept w2 wr) (fun _ i _=>n1-(intOf i).toNat)
 case atStart=>exact⟨0,Nat.zero_le _,rfl,[],rfl,Own.nil _ _ _,Kept.refl _⟩
 case round =>
  obtain⟨k,hk,rfl,la,hla,ho,hK⟩:=hrel;obtain⟨HX,HO,HK⟩:=lH3 hla ho hK;obtain⟨m,hm⟩:=eX (la.length)
  have hmk:m≤k:=by
   have:=jb9 s p (s.nodes.take k);rw[hla,hm,List.length_take] at this;omega
  have HT:=lH hm;have hbase:w2.heap.size≤wr.heap.size:=hK.size;by_cases hlt:k<n1
  · obtain⟨g,off,rfl⟩:=HN.out.form.resolve_left (by omega);obtain⟨n,b1,q1,f1,b2,q2,f2,b3,q3,f3,hn,hd,hb,u0,u1,u2,u3,u4,hat⟩:=(HN.out.kept hK).at_ hlt;have UJ:=lH (jk2 (s:=s) (p:=p) hn);have hkk:(k:Int)<(n1:Int):=by omega
    have hk0:¬(k:Int)<0:=by omega
    obtain⟨wx,hwx⟩:=eX (wr.alloc (.cells #[.string n.name,.slice b1 q1 f1,.slice b2 q2 f2,.slice b3 q3 f3,.bool n.cordon] 57))
    have hkx:Kept wr wx:=by rw[←hwx];exact ja _ _
    have VD:=lH (jc wr (.string n.name) [.slice b1 q1 f1,.slice b2 q2 f2,.slice b3 q3 f3,.bool n.cordon] 57 wx (by rw[hwx];exact Kept.refl _));obtain⟨bq,hbq⟩:=eX (wr.heap.size)
    rw[hbq] at VD;obtain⟨VS,V7,U1⟩:=lH3 (Vt.out.kept (hK.trans hkx)) (Vg.out.kept (hK.trans hkx)) (ji6 t1 t2 t3 k1 d1 k2 d2 k3 d3 a1 a2 a3 a4 m1 c1 m2 c2 m3 c3 m4 c4 p (zG s p.name) n.name wx (HY.out.kept (hK.trans hkx)) (jgm HL.out p.name) (HP.out.kept (hK.trans hkx)));unfold jx at U1;obtain⟨c,hc⟩:=eX (zX (zG s p.name) p n.name)
    have NJ:=lH (show -9223372036854775808≤c∧c≤9223372036854775807 by have:=jjo (zG s p.name) p n.name;omega);have HV:=lH (show XQ s p (s.nodes.take (k+1))=la++[c] by rw[UJ.out,HX.out];unfold qq;rw[hc]);rw[hc] at U1;have KX:=lH hkx;go_upto_region 6 with fail
    try rw[hwx]
    try rw[hbq]
    clear hwx hbq hd hb hn hkx hk0 hkk hat hla ho hm hK hc u0 u1 u2 u3 u4;obtain⟨y0,y1,y2⟩:=VS.out.at3;obtain⟨r0,r1,r2,r3,r4,r5,r6,r7,r8,r9,r10⟩:=V7.out.at11;have t0:=VD.out.at_ 0 _ rfl;go_wp2_with fail
    refine U1.out.mono ?_;rintro e w3 ⟨rfl,kk⟩;have KW:=lH (KX.out.trans kk);clear kk U1 t0 y0 y1 y2 r0 r1 r2 r3 r4 r5 r6 r7 r8 r9 r10;have VF:=lH (show w3.ownsRow w2.heap.size 45 1 u6 m (je XR la) by have:=(HO.out.kept KW.out).1;rw[HT.out] at this;exact this);have hs1:wr.heap.size≤w3.heap.size:=Below.size KW.out;go_wp2_with (at_builtin;refine wpList_append_lies _ rfl _ _ _ rfl w2.heap.size 45 i0 _ 1 8 Tryz.underlying79 hi hz0 hz1 hz2' rfl (by decide) u6 m (je XR la) rfl (VF.out.alloc _) ⟨w3.heap.size,0,none⟩ 1 1 (XR.cs c) rfl rfl (World.news_of_block (cs:=#[.int .i64 c]) (t:=45) (fr:=(0,0)) (heap_alloc_new w3 _)) (jkx c) (by decide) (by unfold maxLen;omega) (by omega) (by simp;omega) (w3.heap.size+1) (by simp) ?_;intro gg cap1 w4 hown1 hgrow hat hlt1)
    have VQ:=lH ((show Below w2.heap.size w2 _ from HK.out.trans (KW.out.trans (ja w3 _))).grown hgrow (by simp;omega) (fun j hj=>(VF.out.lt j hj).1));go_wp2;go_roundw
    case rel=>exact⟨k+1,by omega,by go_num,la++[c],HV.out,Own.snoc hown1 (by rw[HT.out]) HO.out.2 NJ.out,VQ.out⟩
    case measure=>simp[intOf];omega
  · have hge:¬(k:Int)<(n1:Int):=by omega
    have HE:=lH (show XQ s p s.nodes=la by rw[←hla,List.take_of_length_le (by rw[←VR.out];omega)]);clear hla ho hm hK;go_wp2;go_ret;exact⟨_,rfl,by rw[HE.out];exact HO.out.base_le K.out.size,K.out.trans HK.out⟩
theorem jjf (w:World):zr w (.slice none 0 0) (.slice none 0 0) (.slice none 0 0) Nod.zero:=⟨(by decide:(0:Nat)≤maxLen),⟨none,0,rfl,Nat.le_refl _,by decide,Vec.jw.nil w⟩,Reads.nil _,Reads.nil _⟩
theorem jel {s:Clu} (h:jE s) (x:ByteArray):zP (J8 s x):=by
 unfold J8
 cases hf:jl s.nodes x with
 | none=>exact⟨(by decide:(0:Nat)≤1000000),(by decide:(0:Nat)≤1000000),(by decide:(0:Nat)≤1000000)⟩
 | some n=>exact h.nodes n (jep hf).1
theorem jnd (x:ByteArray) (v1 v2 v3:Value) (c:Bool) (W:World):(Instr.field 57 (.agg #[.string x,v1,v2,v3,.bool c]) 1).run Tryz.prog W=.ok v1 W:=by kernel_rfl
theorem jmF (x:ByteArray) (v1 v2 v3:Value) (c:Bool) (W:World):(Instr.field 57 (.agg #[.string x,v1,v2,v3,.bool c]) 3).run Tryz.prog W=.ok v3 W:=by kernel_rfl
def joK (n:Nod) (w:World) (e:Ending) (w':World):Prop:=∃b1 k1 d1 b2 k2 d2 b3 k3 d3,e=.returned (zj n (.slice b1 k1 d1) (.slice b2 k2 d2) (.slice b3 k3 d3))∧zr w' (.slice b1 k1 d1) (.slice b2 k2 d2) (.slice b3 k3 d3) n∧Kept w w'
theorem qm (s1 s2 s3:Option Addr) (n1 e1 n2 e2 n3 e3:Nat) (s:Clu) (name:ByteArray) (w:World) (hs:jC w (Jg (.slice s1 n1 e1) (.slice s2 n2 e2) (.slice s3 n3 e3)) s) (hl:jE s) :
 Calls Tryz.prog 104 #[.agg #[.slice s1 n1 e1,.slice s2 n2 e2,.slice s3 n3 e3],.string name] w (joK (J8 s name) w):=by
 have hn:=hs.nAt.1;have hb1:n1≤100000:=by have:=hs.nAt.2;have:=hl.nodesN;omega
 have Rs:=lH (show J8 s name=(jl s.nodes name).getD Nod.zero from rfl);generalize s.nodes=nodes at hn Rs
 clear hs hl;obtain⟨Z,hZ⟩:=eX ((w.alloc (.cells #[.slice s1 n1 e1,.slice s2 n2 e2,.slice s3 n3 e3] 26)).alloc (.cells #[.string ⟨#[]⟩,.slice none 0 0,.slice none 0 0,.slice none 0 0,.bool false] 57))
 have hkz:Kept w Z:=by rw[←hZ];exact jn _ _ _
 have Vw:=lH (jc w (.slice s1 n1 e1) [.slice s2 n2 e2,.slice s3 n3 e3] 26 Z (by rw[←hZ];exact ja _ _));have hyb:jf (w.heap.size+1) [.string ⟨#[]⟩,.slice none 0 0,.slice none 0 0,.slice none 0 0,.bool false] Z:=by
  have dd:=jc (w.alloc (.cells #[.slice s1 n1 e1,.slice s2 n2 e2,.slice s3 n3 e3] 26)) (.string ⟨#[]⟩) [.slice none 0 0,.slice none 0 0,.slice none 0 0,.bool false] 57 Z (by rw[hZ];exact Kept.refl _);rw[World.size_alloc] at dd;exact dd
 obtain⟨T0,HN,VR,Vc⟩:=lH4 hyb hn hn.1 hkz;clear hn hkz hyb;go_enter Tryz.func104,Tryz.ntmps104;have y0:=Vw.out.at_ 0 _ rfl;go_upto_region 1 with fail
 try rw[hZ]
 clear hZ;go_wp2;clear y0;go_loopw [10] (fun i wr=>∃k:Nat,k≤n1∧i=.int .i64 k∧jl (nodes.drop k) name=jl nodes name∧Kept Z wr) (fun i _=>n1-(intOf i).toNat)
 case atStart=>exact⟨0,Nat.zero_le _,rfl,rfl,Kept.refl _⟩
 case round =>
  obtain⟨k,hk,rfl,hR,hK⟩:=hrel;obtain⟨HR,HK,Uo⟩:=lH3 hR (Vc.out.trans hK) hK;by_cases hlt:k<n1
  · obtain⟨g,off,rfl⟩:=HN.out.form.resolve_left (by omega);obtain⟨n,b1,k1,d1,b2,k2,d2,b3,k3,d3,hn,hd,hb,u0,u1,u2,u3,u4,hat⟩:=HN.out.at_ hlt;have VH:=lH hat;have HD:=lH hd;have u0:=cell_later HK.out u0;have u1:=cell_later HK.out u1;have u2:=cell_later HK.out u2;have u3:=cell_later HK.out u3;have u4:=cell_later HK.out u4;have hkk:(k:Int)<(n1:Int):=by omega
    have hk0:¬(k:Int)<0:=by omega
    obtain⟨wx,hwx⟩:=eX (wr.alloc (.cells #[.string n.name,.slice b1 k1 d1,.slice b2 k2 d2,.slice b3 k3 d3,.bool n.cordon] 57))
    have hkx:Kept wr wx:=by rw[←hwx];exact ja _ _
    have Vt:=lH (jc wr (.string n.name) [.slice b1 k1 d1,.slice b2 k2 d2,.slice b3 k3 d3,.bool n.cordon] 57 wx (by rw[hwx];exact Kept.refl _));obtain⟨bq,hbq⟩:=eX (wr.heap.size)
    rw[hbq] at Vt;have KX:=lH hkx;go_upto_region 4 with fail
    try rw[hwx]
    try rw[hbq]
    clear hwx hbq hd hb hn hR hK hkx hk0 hkk hat u0 u1 u2 u3 u4;obtain⟨t0,t1,t2,t3,t4⟩:=Vt.out.at5;obtain⟨t,ht⟩:=eX ((n.name.toList==name.toList))
    have HT:=lH (show eqS n.name name=t from ht)
    cases t with
    | false =>
     have HX:=lH (show jl (nodes.drop (k+1)) name=jl nodes name by rw[←HR.out,HD.out];unfold jl;rw[List.find?_cons,HT.out]);go_wp2;go_roundw
     case rel=>exact⟨k+1,by omega,by go_num,HX.out,Uo.out.trans KX.out⟩
     case measure=>simp[intOf];omega
    | true =>
     have HX:=lH (show J8 s name=n by rw[Rs.out,show jl nodes name=some n by rw[←HR.out,HD.out];unfold jl;rw[List.find?_cons,HT.out]];rfl);have VW:=lH (T0.out.kept (Uo.out.trans KX.out));obtain⟨z0,z1,z2,z3,z4⟩:=VW.out.at5;have f0:=VW.out.free 0;have f1:=VW.out.free 1;have f2:=VW.out.free 2;have f3:=VW.out.free 3;have f4:=VW.out.free 4;have P:=lH (ZC ⟨z0,z1,z2,z3,z4⟩ n.name b1 b2 b3 k1 d1 k2 d2 k3 d3 n.cordon);go_wp2;obtain⟨WE,hWE⟩:=eX ((((((wx.setCell ⟨w.heap.size+1,0,none⟩ (.string n.name)).setCell ⟨w.heap.size+1,1,none⟩ (.slice b1 k1 d1)).setCell ⟨w.heap.size+1,2,none⟩ (.slice b2 k2 d2)).setCell ⟨w.heap.size+1,3,none⟩ (.slice b3 k3 d3)).setCell ⟨w.heap.size+1,4,none⟩ (.bool n.cordon)))
     rw[hWE] at P ⊢;clear hWE z0 z1 z2 z3 z4 t0 t1 t2 t3 t4 f0 f1 f2 f3 f4;obtain⟨⟨d0,d1,d2,d3,d4⟩,hsz,hbl,hkp⟩:=P.out;refine bodyPost_ret (by simp[results,Tryz.results104,go_sem,d0,d1,d2,d3,d4];try rfl) rfl ?_;have KE:=hkp _ _ (Nat.le_succ _) (HK.out.trans KX.out);rw[HX.out];exact⟨_,_,_,_,_,_,_,_,_,rfl,VH.out.kept KE,KE⟩
  · have hge:¬(k:Int)<(n1:Int):=by omega
    have HX:=lH (show J8 s name=Nod.zero by rw[Rs.out,show jl nodes name=none by rw[←HR.out,List.drop_of_length_le (by rw[VR.out];omega)];rfl];rfl);clear hR hK;have VW:=lH (T0.out.kept Uo.out);obtain⟨z0,z1,z2,z3,z4⟩:=VW.out.at5;have f0:=VW.out.free 0;have f1:=VW.out.free 1;have f2:=VW.out.free 2;have f3:=VW.out.free 3;have f4:=VW.out.free 4;have P:=lH (ZC ⟨z0,z1,z2,z3,z4⟩ ⟨#[]⟩ none none none 0 0 0 0 0 0 false);go_wp2;obtain⟨WE,hWE⟩:=eX ((((((wr.setCell ⟨w.heap.size+1,0,none⟩ (.string ⟨#[]⟩)).setCell ⟨w.heap.size+1,1,none⟩ (.slice none 0 0)).setCell ⟨w.heap.size+1,2,none⟩ (.slice none 0 0)).setCell ⟨w.heap.size+1,3,none⟩ (.slice none 0 0)).setCell ⟨w.heap.size+1,4,none⟩ (.bool false)))
    rw[hWE] at P ⊢;clear hWE z0 z1 z2 z3 z4 f0 f1 f2 f3 f4;obtain⟨⟨d0,d1,d2,d3,d4⟩,hsz,hbl,hkp⟩:=P.out;refine bodyPost_ret (by simp[results,Tryz.results104,go_sem,d0,d1,d2,d3,d4];try rfl) rfl ?_;have KE:=hkp _ _ (Nat.le_succ _) HK.out;rw[HX.out];exact⟨_,_,_,_,_,_,_,_,_,rfl,jjf _,KE⟩
theorem jiN (s1 s2 s3:Option Addr) (n1 e1 n2 e2 n3 e3:Nat) (s:Clu) (name:ByteArray) (w:World) (hs:jC w (Jg (.slice s1 n1 e1) (.slice s2 n2 e2) (.slice s3 n3 e3)) s) (hl:jE s):Calls Tryz.prog 103 #[.agg #[.slice s1 n1 e1,.slice s2 n2 e2,.slice s3 n3 e3],.string name] w fun e w'=>∃v,e=.returned v∧Vec.Reads w' v (JW s name).2∧Kept w w':=by
 obtain⟨Z,hZ⟩:=eX (w.alloc (.cells #[.slice s1 n1 e1,.slice s2 n2 e2,.slice s3 n3 e3] 26))
 have hkz:Kept w Z:=by rw[←hZ];exact ja _ _
 have Vk:=lH (jc w (.slice s1 n1 e1) [.slice s2 n2 e2,.slice s3 n3 e3] 26 Z (by rw[hZ];exact Kept.refl _));have HU:=lH (jop (hs.kept hkz) name hl);try unfold Jg at HU
 have K:=lH hkz;clear hs hl hkz;obtain⟨y0,y1,y2⟩:=Vk.out.at3;go_enter Tryz.func103,Tryz.ntmps103;go_wp2_with fail
 try rw[hZ]
 clear hZ;refine HU.out.mono ?_;rintro e w1 ⟨y,rfl,hy,kk⟩;have HY:=lH hy;have K:=lH (K.out.trans kk);clear kk hy HU y0 y1 y2;go_wp2;go_ret;exact⟨_,rfl,HY.out,K.out⟩
def jdm (x:Option Nat) (w:World) (e:Ending) (w':World):Prop:=∃r,e=.returned (.float .f64 r)∧nrm r=x∧r<TOP∧Kept w w'
theorem jft {r:Nat} {x:Option Nat} {w w':World} (h:nrm r=x) (t:r<TOP) (k:Kept w w'):jdm x w (.returned (.float .f64 r)) w':=⟨r,rfl,h,t,k⟩
theorem jix (u c:Value) (lu lc:Vec.V) (what:ByteArray) (w:World) (hu:Vec.Reads w u lu) (hc:Vec.Reads w c lc):Calls Tryz.prog 102 #[u,c,.string what] w (jdm (jlc (Vec.jh lu what) (Vec.jh lc what)) w):=by
 obtain⟨a,ha⟩:=eX (Vec.jh lu what)
 obtain⟨b,hb⟩:=eX (Vec.jh lc what)
 have HU:=lH (fun (W:World) (k:Kept w W)=>Vec.jf3 (hu.kept k) ha);have HC:=lH (fun (W:World) (k:Kept w W)=>Vec.jf3 (hc.kept k) hb);rw[ha,hb];clear ha hb hu hc;have K:=lH (Kept.refl w);go_enter Tryz.func102,Tryz.ntmps102;go_wp2_with fail
 refine(HU.out _ K.out).mono ?_;rintro e w1 ⟨rfl,kk⟩;have K:=lH (K.out.trans kk);clear kk;go_wp2_with fail
 refine(HC.out _ K.out).mono ?_;rintro e w2 ⟨rfl,kk⟩;have K:=lH (K.out.trans kk);clear kk;go_wp2_with fail
 refine(jld a b _).mono ?_;rintro e w3 ⟨r,n,rfl,rfl,hr,ht⟩;have HR:=lH hr;have K:=lH (K.out.trans (Kept.drewN w2 n));clear hr;go_wp2;go_ret;exact jft HR.out ht K.out
theorem jhK (x:Nat) (u:Value) (h:u ∈ [Value.float .f64 x]):u.oneCell'=true:=by
 have e:u=Value.float .f64 x:=by simpa using h
 rw[e];rfl
def qy:Lay Nat:={ m:=1,cs:=fun x=>[.float .f64 x],fine:=fun x=>x<TOP,len:=fun _=>rfl,one:=jhK,pos:=by decide }
theorem jnL:(Tryz.prog.info? 62).map (fun i=>(i.zero,i.size,i.bytes))=some (some (.float .f64 0),1,8):=by kernel_rfl
theorem jmt {w:World} {a:Option Addr} {len:Nat} {l:List Nat} (h:jk qy w a len l):jf8 w a len l:=by
 obtain⟨h0,h1,h2,h3⟩:=h;refine⟨h0,h1,h2,h3.imp id ?_⟩;rintro ⟨b,off,e,hb,hc⟩;refine⟨b,off,e,hb,fun i hi=>?_⟩;have hil:i<l.length:=by omega
 have:=hc i l[i] 0 (.float .f64 l[i]) (List.getElem?_eq_getElem hil) rfl;rw[show l.getD i 0=l[i] by simp[List.getD,hil]];simpa [qy] using this
theorem jiy {s:Clu} {x:ByteArray} {l:Vec.V} {k:Nat} (h:k<l.length):(l.take (k+1)).map (fun a=>Yp s x a.1)=(l.take k).map (fun a=>Yp s x a.1)++[Yp s x (Vec.nm l k)]:=by
 rw[List.take_add_one,List.getElem?_eq_getElem h,List.map_append];simp[Vec.nm,List.getD,h]
theorem jkv (s1 s2 s3:Option Addr) (n1 e1 n2 e2 n3 e3:Nat) (s:Clu) (name:ByteArray) (w:World) (hs:jC w (Jg (.slice s1 n1 e1) (.slice s2 n2 e2) (.slice s3 n3 e3)) s) (hl:jE s):Calls Tryz.prog 56 #[.agg #[.slice s1 n1 e1,.slice s2 n2 e2,.slice s3 n3 e3],.string name] w (jdm (jcR s name) w):=by
 obtain⟨i0,hi,hz0,hz1,hz2'⟩:=info_parts jnL;obtain⟨Z,hZ⟩:=eX (w.alloc (.cells #[.slice s1 n1 e1,.slice s2 n2 e2,.slice s3 n3 e3] 26))
 have hkz:Kept w Z:=by rw[←hZ];exact ja _ _
 obtain⟨Vk,HS,K,HL⟩:=lH4 (jc w (.slice s1 n1 e1) [.slice s2 n2 e2,.slice s3 n3 e3] 26 Z (by rw[hZ];exact Kept.refl _)) (hs.kept hkz) hkz hl;have HF:=lH (show ∀W,Kept Z W→W.cell? ⟨w.heap.size,0,none⟩=some (.slice s1 n1 e1)∧W.cell? ⟨w.heap.size,1,none⟩=some (.slice s2 n2 e2)∧W.cell? ⟨w.heap.size,2,none⟩=some (.slice s3 n3 e3) from fun W kk=>by
  have h:=Vk.out.kept kk;exact⟨h.at_ 0 _ rfl,h.at_ 1 _ rfl,h.at_ 2 _ rfl⟩)
 clear hs hl hkz;have HM:=lH (show jcR s name=jeY ((J8 s name).cap.map fun a=>Yp s name a.1) from rfl);go_enter Tryz.func56,Tryz.ntmps56;go_upto_region 1 with fail
 try rw[hZ]
 clear hZ;have J:=lH (Kept.drew Z);refine wp_region_held_drew (S:=fun W=>W.cell? ⟨w.heap.size,0,none⟩=some (.slice s1 n1 e1)∧W.cell? ⟨w.heap.size,1,none⟩=some (.slice s2 n2 e2)∧W.cell? ⟨w.heap.size,2,none⟩=some (.slice s3 n3 e3)) (by kernel_rfl) (HF.out _ J.out) (fun hHeld=>?_);obtain⟨wd,hwd⟩:=eX (Z.drew)
 rw[hwd] at J hHeld;try rw[hwd]
 clear hwd;refine tkI 0 ?_;refine tkI 1 ?_;refine tkI 3 ?_;refine tkI 4 ?_;try simp only[nP]
 refine rd1 2 fun K9 Ky=>?_;go_simp;refine(jiN s1 s2 s3 n1 e1 n2 e2 n3 e3 s name _ (HS.out.kept J.out) HL.out).mono ?_;rintro e w1 ⟨vu,rfl,hu,kk⟩;have HU:=lH hu;have J:=lH (J.out.trans kk);clear kk hu;refine Ky.out _ _ (HF.out _ J.out) (fun _=>?_);clear Ky K9;try simp only[nP]
 refine rd1 5 fun K9 Ky=>?_;go_simp;refine(qm s1 s2 s3 n1 e1 n2 e2 n3 e3 s name _ (HS.out.kept J.out) HL.out).mono ?_;rintro e w2 ⟨b1,k1,d1,b2,k2,d2,b3,k3,d3,rfl,hn,kk⟩;obtain⟨HU,HC,J⟩:=lH3 (HU.out.kept kk) hn.cap (J.out.trans kk);clear kk hn;unfold zj;refine Ky.out _ _ (HF.out _ J.out) (fun _=>?_);clear Ky K9;try simp only[nP]
 have hfd:=fun W=>jnd (J8 s name).name (.slice b1 k1 d1) (.slice b2 k2 d2) (.slice b3 k3 d3) (J8 s name).cordon W;refine tkI 6 ?_;refine tkI 7 ?_;refine tkI 8 ?_;try simp only[nP]
 refine wpAnyH_done (by kernel_rfl) ?_ _;clear hfd;have R5:=(jel HL.out name).cap;have K:=lH (K.out.trans J.out);clear J HF Vk HS HL;have KW:=lH (Kept.refl w2);obtain⟨cap,hcap⟩:=eX ((J8 s name).cap)
 have TM:=lH (show ∀x,Yp s name x=jlc (Vec.jh (JW s name).2 x) (Vec.jh cap x) from fun x=>by unfold Yp;rw[hcap]);rw[hcap] at HC HM R5;clear hcap;obtain⟨aC,cC,eC,-,-,hCA⟩:=HC.out;injection eC with e4 e5 e6;obtain rfl:=e4;obtain rfl:=e6;have Rt:=lH hCA;obtain⟨n9,hn9⟩:=eX (cap.length)
 rw[hn9] at Rt R5 e5;obtain rfl:=e5;have T3:=lH hn9;clear hCA hn9;go_wp2;go_loopw [7,19] (fun v i wr=>∃k:Nat,k≤k1∧i=.int .i64 k∧∃la:List Nat,la.map nrm=(cap.take k).map (fun a=>Yp s name a.1)∧Own qy 62 wr w2.heap.size v la∧Kept w2 wr) (fun _ i _=>k1-(intOf i).toNat)
 case atStart=>exact⟨0,Nat.zero_le _,rfl,[],rfl,Own.nil _ _ _,Kept.refl _⟩
 case round =>
  obtain⟨k,hk,rfl,la,hla,ho,hK⟩:=hrel;obtain⟨HX,HO,HK⟩:=lH3 hla ho hK;obtain⟨m,hm⟩:=eX (la.length)
  have hmk:m≤k:=by
   have:=congrArg List.length hla;simp only[List.length_map,List.length_take] at this;omega
  have HT:=lH hm;have hbase:w2.heap.size≤wr.heap.size:=hK.size;by_cases hlt:k<k1
  · obtain⟨b,off,rfl⟩:=Rt.out.form.resolve_left (by omega);obtain⟨-,u0,u1⟩:=(Rt.out.kept hK).cells hlt;have UJ:=lH (jiy (s:=s) (x:=name) (l:=cap) (k:=k) (by have:=T3.out;omega));obtain⟨xn,hxn⟩:=eX (Vec.nm cap k)
    obtain⟨qn,hqn⟩:=eX (Vec.qn cap k)
    rw[hxn] at u0 UJ;rw[hqn] at u1;have hkk:(k:Int)<(k1:Int):=by omega
    have hk0:¬(k:Int)<0:=by omega
    obtain⟨wx,hwx⟩:=eX (wr.alloc (.cells #[.string xn,.int .i64 qn] 100))
    have hkx:Kept wr wx:=by rw[←hwx];exact ja _ _
    have VD:=lH (jc wr (.string xn) [.int .i64 qn] 100 wx (by rw[hwx];exact Kept.refl _));obtain⟨bq,hbq⟩:=eX (wr.heap.size)
    rw[hbq] at VD;have U1:=lH (jix vu (.slice (some ⟨b,off,none⟩) k1 d1) (JW s name).2 cap xn wx (HU.out.kept (hK.trans hkx)) (HC.out.kept (hK.trans hkx)));rw[←TM.out] at U1;have KX:=lH hkx;go_upto_region 6 with fail
    try rw[hwx]
    try rw[hbq]
    clear hwx hbq hkx hk0 hkk hla ho hm hK hxn hqn u0 u1;have t0:=VD.out.at_ 0 _ rfl;go_wp2_with fail
    refine U1.out.mono ?_;rintro e w3 ⟨r,rfl,hr,hrt,kk⟩;obtain⟨HV,Ru,KW⟩:=lH3 (show (la++[r]).map nrm=(cap.take (k+1)).map (fun a=>Yp s name a.1) by rw[UJ.out,List.map_append,HX.out];simp[hr]) hrt (KX.out.trans kk);clear kk U1 t0 hr hrt;have VF:=lH (show w3.ownsRow w2.heap.size 62 1 u7 m (je qy la) by have:=(HO.out.kept KW.out).1;rw[HT.out] at this;exact this);have hs1:wr.heap.size≤w3.heap.size:=Below.size KW.out;go_wp2_with (at_builtin;refine wpList_append_lies _ rfl _ _ _ rfl w2.heap.size 62 i0 _ 1 8 Tryz.underlying181 hi hz0 hz1 hz2' rfl (by decide) u7 m (je qy la) rfl (VF.out.alloc _) ⟨w3.heap.size,0,none⟩ 1 1 (qy.cs r) rfl rfl (World.news_of_block (cs:=#[.float .f64 r]) (t:=62) (fr:=(0,0)) (heap_alloc_new w3 _)) (jhK r) (by decide) (by unfold maxLen;omega) (by omega) (by simp;omega) (w3.heap.size+1) (by simp) ?_;intro gg cap1 w4 hown1 hgrow hat hlt1)
    have VQ:=lH ((show Below w2.heap.size w2 _ from HK.out.trans (KW.out.trans (ja w3 _))).grown hgrow (by simp;omega) (fun j hj=>(VF.out.lt j hj).1));go_wp2;go_roundw
    case rel=>exact⟨k+1,by omega,by go_num,la++[r],HV.out,Own.snoc hown1 (by rw[HT.out]) HO.out.2 Ru.out,VQ.out⟩
    case measure=>simp[intOf];omega
  · have hge:¬(k:Int)<(k1:Int):=by omega
    have HE:=lH (show la.map nrm=cap.map (fun a=>Yp s name a.1) by rw[hla,List.take_of_length_le (by have:=T3.out;omega)]);obtain⟨aL,cL,rfl,-,-,hrow⟩:=ho.at_;have Te:=lH (jla aL la.length cL la wr (jmt hrow));rw[hm] at Te;try rw[hm]
    clear hla ho hm hK hrow;go_wp2_with fail
    refine Te.out.mono ?_;rintro e w5 ⟨r,rfl,hr,hrt,kk⟩;have HR:=lH (show nrm r=jcR s name by rw[hr,jkJ,HE.out,HM.out]);have K:=lH (K.out.trans (HK.out.trans kk));clear kk hr Te;go_wp2;go_ret;exact jft HR.out hrt K.out
theorem jkA (s1 s2 s3:Option Addr) (n1 e1 n2 e2 n3 e3:Nat) (s:Clu) (name:ByteArray) (w:World) (hs:jC w (Jg (.slice s1 n1 e1) (.slice s2 n2 e2) (.slice s3 n3 e3)) s) (hl:jE s):Calls Tryz.prog 58 #[.agg #[.slice s1 n1 e1,.slice s2 n2 e2,.slice s3 n3 e3],.string name] w (jf9 (ZT s name) w):=by
 obtain⟨Z,hZ⟩:=eX ((w.alloc (.cells #[.slice s1 n1 e1,.slice s2 n2 e2,.slice s3 n3 e3] 26)).alloc (.cells #[.slice none 0 0,.slice none 0 0,.slice none 0 0] 26))
 have hkz:Kept w Z:=by rw[←hZ];exact jn _ _ _
 have Vk:=lH (jc w (.slice s1 n1 e1) [.slice s2 n2 e2,.slice s3 n3 e3] 26 Z (by rw[←hZ];exact ja _ _));have hq2:jf (w.heap.size+1) [.slice none 0 0,.slice none 0 0,.slice none 0 0] Z:=by
  have dd:=jc (w.alloc (.cells #[.slice s1 n1 e1,.slice s2 n2 e2,.slice s3 n3 e3] 26)) (.slice none 0 0) [.slice none 0 0,.slice none 0 0] 26 Z (by rw[hZ];exact Kept.refl _);rw[World.size_alloc] at dd;exact dd
 have hh2:Z.heap[w.heap.size+1]?=some (.cells #[.slice none 0 0,.slice none 0 0,.slice none 0 0] 26):=by
  have:=World.alloc_heap_new (w.alloc (.cells #[.slice s1 n1 e1,.slice s2 n2 e2,.slice s3 n3 e3] 26)) (.cells #[.slice none 0 0,.slice none 0 0,.slice none 0 0] 26);rw[World.size_alloc,hZ] at this;exact this
 obtain⟨HQ,HH,UO,HS,Vc,HL⟩:=lH6 hq2 hh2 hq2.lt (hs.kept hkz) hkz hl;clear hs hl hkz hq2 hh2;have HF:=lH (show ∀W,jf w.heap.size [.slice s1 n1 e1,.slice s2 n2 e2,.slice s3 n3 e3] W→W.cell? ⟨w.heap.size,0,none⟩=some (.slice s1 n1 e1)∧W.cell? ⟨w.heap.size,1,none⟩=some (.slice s2 n2 e2)∧W.cell? ⟨w.heap.size,2,none⟩=some (.slice s3 n3 e3) from fun W h=>⟨h.at_ 0 _ rfl,h.at_ 1 _ rfl,h.at_ 2 _ rfl⟩);go_enter Tryz.func58,Tryz.ntmps58;go_upto_region 1 with fail
 try rw[hZ]
 clear hZ;have J:=lH (Kept.drew Z);refine wp_region_held_drew (S:=fun W=>W.cell? ⟨w.heap.size,0,none⟩=some (.slice s1 n1 e1)∧W.cell? ⟨w.heap.size,1,none⟩=some (.slice s2 n2 e2)∧W.cell? ⟨w.heap.size,2,none⟩=some (.slice s3 n3 e3)) (by kernel_rfl) (HF.out _ (Vk.out.kept J.out)) (fun hHeld=>?_);obtain⟨wd,hwd⟩:=eX (Z.drew)
 rw[hwd] at J hHeld;try rw[hwd]
 clear hwd;refine tkI 0 ?_;refine tkI 1 ?_;refine tkI 4 ?_;refine tkI 5 ?_;try simp only[nP]
 refine rd1 2 fun K9 Ky=>?_;go_simp;refine(qm s1 s2 s3 n1 e1 n2 e2 n3 e3 s name _ (HS.out.kept J.out) HL.out).mono ?_;rintro e w2 ⟨b1,k1,d1,b2,k2,d2,b3,k3,d3,rfl,hn,kk⟩;have HN:=lH hn;have J:=lH (J.out.trans kk);clear kk hn;unfold zj;refine Ky.out _ _ (HF.out _ (Vk.out.kept J.out)) (fun _=>?_);clear Ky K9;try simp only[nP]
 obtain⟨nz,hnz⟩:=eX (J8 s name)
 rw[hnz] at HN;have R6:=lH hnz;try rw[hnz]
 clear hnz;refine rdH (rs:=[3,6]) (h:=coH (fun K9 Ky=>?_) (coH (fun K9 Ky=>?_) AllReadyH.nil))
 · go_simp;refine Ky.out _ _ (HF.out _ (Vk.out.kept (J.out.trans (ja _ _)))) (fun _=>?_);clear Ky K9;try simp only[nP]
   obtain⟨wb,hw⟩:=eX (w2.alloc (.cells #[.string nz.name,.slice b1 k1 d1,.slice b2 k2 d2,.slice b3 k3 d3,.bool nz.cordon] 57))
   have kk:Kept w2 wb:=by rw[←hw];exact ja _ _
   obtain⟨gB,hgB⟩:=eX (w2.heap.size)
   have Vx:=lH (show jo wb (some ⟨gB,0,none⟩) 1 [nz] from by
    have c:=jc w2 (.string nz.name) [.slice b1 k1 d1,.slice b2 k2 d2,.slice b3 k3 d3,.bool nz.cordon] 57 wb (by rw[hw];exact Kept.refl _);rw[hgB] at c;exact zS (lx:=[(nz,(b1,k1,d1),(b2,k2,d2),(b3,k3,d3))]) (j0 rfl c (fun _ _=>trivial) (by decide:(1:Nat)≤maxLen)) (fun z hz=>by
     obtain rfl:=List.mem_singleton.1 hz;exact HN.out.kept kk))
   have J:=lH (J.out.trans kk);try rw[hw]
   try rw[hgB]
   clear hw kk hgB;have hHeldB:=HF.out _ (Vk.out.kept J.out);refine rd1 6 fun K9 Ky=>?_;go_simp;refine(onR (HS.out.kept J.out) name HL.out).mono ?_;rintro e wo ⟨y,rfl,⟨aP,cP,rfl,hp1,hp2,hp⟩,kk⟩;obtain⟨Tf,J,Vx⟩:=lH3 (show Jo wo (.slice aP (onP name s.pods).length cP) (onP name s.pods) from⟨aP,cP,rfl,hp1,hp2,hp⟩) (J.out.trans kk) (Vx.out.kept kk);clear kk hp hp1 hp2;refine Ky.out _ _ (HF.out _ (Vk.out.kept J.out)) (fun _=>?_);clear Ky K9;try simp only[nP]
   obtain⟨lP,hlP⟩:=eX ((onP name s.pods).length)
   rw[hlP] at Tf;try rw[hlP]
   clear hlP;refine tkI 7 ?_;try simp only[nP]
   have VS:=lH (HQ.out.kept J.out);have Rv:=lH ((J.out.block _ UO.out).trans HH.out);obtain⟨z0,z1,z2⟩:=VS.out.at3;have f0:=VS.out.free 0;have f1:=VS.out.free 1;have f2:=VS.out.free 2;have PP:=lH (j5 (vs:=[.slice (some ⟨gB,0,none⟩) 1 1,.slice aP lP cP,.slice none 0 0]) VS.out rfl);refine rd1 8 fun K9 Ky=>?_;go_simp;obtain⟨WE,hWE⟩:=eX (wo.setCells (w.heap.size+1) 0 [.slice (some ⟨gB,0,none⟩) 1 1,.slice aP lP cP,.slice none 0 0])
   have hWE2:(((wo.setCell ⟨w.heap.size+1,0,none⟩ (.slice (some ⟨gB,0,none⟩) 1 1)).setCell ⟨w.heap.size+1,1,none⟩ (.slice aP lP cP)).setCell ⟨w.heap.size+1,2,none⟩ (.slice none 0 0))=WE:=hWE;rw[hWE] at PP;try rw[hWE2]
   obtain⟨RE,JE,Tu⟩:=lH3 (show jC WE (.agg #[.slice (some ⟨gB,0,none⟩) 1 1,.slice aP lP cP,.slice none 0 0]) (ZT s name) from zU (w:=wo) (N:=w.heap.size+1) PP.out.size PP.out.far (J7 Rv.out) ⟨_,_,_,rfl,⟨⟨_,_,rfl,(by decide:(1:Nat)≤1),(by decide:(1:Nat)≤maxLen),by unfold ZT;rw[R6.out];exact Vx.out⟩,Tf.out,⟨_,_,rfl,Nat.le_refl _,(by decide:(0:Nat)≤maxLen),zT _⟩⟩⟩) (show Kept w WE by rw[←hWE];exact jt _ _ _ _ _ _ (Nat.le_succ _) (Vc.out.trans J.out)) (show jf w.heap.size [.slice s1 n1 e1,.slice s2 n2 e2,.slice s3 n3 e3] WE from(Vk.out.kept J.out).block (PP.out.far _ (by omega)));clear hWE hWE2 z0 f0 z1 f1 z2 f2;refine Ky.out _ _ (HF.out _ Tu.out) (fun _=>?_);clear Ky K9;try simp only[nP]
   refine wpAnyH_done (by kernel_rfl) ?_ _;have d0:=PP.out.cells.at_ 0 _ rfl;have d1:=PP.out.cells.at_ 1 _ rfl;have d2:=PP.out.cells.at_ 2 _ rfl;go_wp2;refine bodyPost_ret (by simp[results,Tryz.results58,go_sem,d0,d1,d2];try rfl) rfl ?_;exact⟨_,rfl,RE.out,JE.out⟩
 · go_simp;refine(onR (HS.out.kept J.out) name HL.out).mono ?_;rintro e wo ⟨y,rfl,⟨aP,cP,rfl,hp1,hp2,hp⟩,kk⟩;obtain⟨Tf,J,HN⟩:=lH3 (show Jo wo (.slice aP (onP name s.pods).length cP) (onP name s.pods) from⟨aP,cP,rfl,hp1,hp2,hp⟩) (J.out.trans kk) (HN.out.kept kk);clear kk hp hp1 hp2;refine Ky.out _ _ (HF.out _ (Vk.out.kept J.out)) (fun _=>?_);clear Ky K9;try simp only[nP]
   refine rd1 3 fun K9 Ky=>?_;go_simp;refine Ky.out _ _ (HF.out _ (Vk.out.kept (J.out.trans (ja _ _)))) (fun _=>?_);clear Ky K9;try simp only[nP]
   obtain⟨wb,hw⟩:=eX (wo.alloc (.cells #[.string nz.name,.slice b1 k1 d1,.slice b2 k2 d2,.slice b3 k3 d3,.bool nz.cordon] 57))
   have kk:Kept wo wb:=by rw[←hw];exact ja _ _
   obtain⟨gB,hgB⟩:=eX (wo.heap.size)
   have Vx:=lH (show jo wb (some ⟨gB,0,none⟩) 1 [nz] from by
    have c:=jc wo (.string nz.name) [.slice b1 k1 d1,.slice b2 k2 d2,.slice b3 k3 d3,.bool nz.cordon] 57 wb (by rw[hw];exact Kept.refl _);rw[hgB] at c;exact zS (lx:=[(nz,(b1,k1,d1),(b2,k2,d2),(b3,k3,d3))]) (j0 rfl c (fun _ _=>trivial) (by decide:(1:Nat)≤maxLen)) (fun z hz=>by
     obtain rfl:=List.mem_singleton.1 hz;exact HN.out.kept kk))
   have Tf:=lH (Tf.out.kept kk);have J:=lH (J.out.trans kk);try rw[hw]
   try rw[hgB]
   clear hw kk hgB;have hHeldB:=HF.out _ (Vk.out.kept J.out);obtain⟨lP,hlP⟩:=eX ((onP name s.pods).length)
   rw[hlP] at Tf;try rw[hlP]
   clear hlP;refine tkI 7 ?_;try simp only[nP]
   have VS:=lH (HQ.out.kept J.out);have Rv:=lH ((J.out.block _ UO.out).trans HH.out);obtain⟨z0,z1,z2⟩:=VS.out.at3;have f0:=VS.out.free 0;have f1:=VS.out.free 1;have f2:=VS.out.free 2;have PP:=lH (j5 (vs:=[.slice (some ⟨gB,0,none⟩) 1 1,.slice aP lP cP,.slice none 0 0]) VS.out rfl);refine rd1 8 fun K9 Ky=>?_;go_simp;obtain⟨WE,hWE⟩:=eX (wb.setCells (w.heap.size+1) 0 [.slice (some ⟨gB,0,none⟩) 1 1,.slice aP lP cP,.slice none 0 0])
   have hWE2:(((wb.setCell ⟨w.heap.size+1,0,none⟩ (.slice (some ⟨gB,0,none⟩) 1 1)).setCell ⟨w.heap.size+1,1,none⟩ (.slice aP lP cP)).setCell ⟨w.heap.size+1,2,none⟩ (.slice none 0 0))=WE:=hWE;rw[hWE] at PP;try rw[hWE2]
   obtain⟨RE,JE,Tu⟩:=lH3 (show jC WE (.agg #[.slice (some ⟨gB,0,none⟩) 1 1,.slice aP lP cP,.slice none 0 0]) (ZT s name) from zU (w:=wb) (N:=w.heap.size+1) PP.out.size PP.out.far (J7 Rv.out) ⟨_,_,_,rfl,⟨⟨_,_,rfl,(by decide:(1:Nat)≤1),(by decide:(1:Nat)≤maxLen),by unfold ZT;rw[R6.out];exact Vx.out⟩,Tf.out,⟨_,_,rfl,Nat.le_refl _,(by decide:(0:Nat)≤maxLen),zT _⟩⟩⟩) (show Kept w WE by rw[←hWE];exact jt _ _ _ _ _ _ (Nat.le_succ _) (Vc.out.trans J.out)) (show jf w.heap.size [.slice s1 n1 e1,.slice s2 n2 e2,.slice s3 n3 e3] WE from(Vk.out.kept J.out).block (PP.out.far _ (by omega)));clear hWE hWE2 z0 f0 z1 f1 z2 f2;refine Ky.out _ _ (HF.out _ Tu.out) (fun _=>?_);clear Ky K9;try simp only[nP]
   refine wpAnyH_done (by kernel_rfl) ?_ _;have d0:=PP.out.cells.at_ 0 _ rfl;have d1:=PP.out.cells.at_ 1 _ rfl;have d2:=PP.out.cells.at_ 2 _ rfl;go_wp2;refine bodyPost_ret (by simp[results,Tryz.results58,go_sem,d0,d1,d2];try rfl) rfl ?_;exact⟨_,rfl,RE.out,JE.out⟩
end Go.Proofs.YtokdjfoalkmhiaaGreat
