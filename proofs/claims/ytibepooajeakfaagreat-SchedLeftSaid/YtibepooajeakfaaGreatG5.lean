/- C. -/
import Derived.Test.YtibepooajeakfaaGreatG0
import Derived.Test.YtibepooajeakfaaGreatG1
import Derived.Test.YtibepooajeakfaaGreatG2
import Derived.Test.YtibepooajeakfaaGreatG3
import Derived.Test.YtibepooajeakfaaGreatG4
import Derived.Sort.KeysCollected
import Derived.Sort.MapsRangeIn
set_option linter.unusedVariables false
set_option maxRecDepth 100000
set_option maxHeartbeats 25600000
namespace Go.Proofs.YtibepooajeakfaaGreat
open Go.RowKit
structure jg (S:Nat→Prop) (w w':World):Prop where
 os:w'.os=w.os
 tape:w'.tape=w.tape
 output:w'.output=w.output
 size:w.heap.size≤w'.heap.size
 block:∀k,k<w.heap.size→¬S k→w'.heap[k]?=w.heap[k]?
theorem jg.trans {S:Nat→Prop} {a b c:World} (h:jg S a b) (k:jg S b c):jg S a c :=
 ⟨k.os.trans h.os,k.tape.trans h.tape,k.output.trans h.output,Nat.le_trans h.size k.size,fun i hi hs=>(k.block i (Nat.lt_of_lt_of_le hi h.size) hs).trans (h.block i hi hs)⟩
theorem jg.mono {S S':Nat→Prop} {a b:World} (h:jg S a b) (hs:∀k,S k→S' k):jg S' a b:=⟨h.os,h.tape,h.output,h.size,fun i hi hn=>h.block i hi fun e=>hn (hs i e)⟩
theorem jg.of {S:Nat→Prop} {a b:World} (k:Kept a b):jg S a b:=⟨k.os,k.tape,k.output,k.size,fun i hi _=>k.block i hi⟩
theorem jg.below {S:Nat→Prop} {a b c:World} (k:Kept a b) (h:jg S b c) (hs:∀i,S i→a.heap.size≤i):Kept a c :=
 ⟨h.os.trans k.os,h.tape.trans k.tape,h.output.trans k.output,Nat.le_trans k.size h.size,fun i hi=>(h.block i (Nat.lt_of_lt_of_le hi k.size) fun e=>by have:=hs i e;omega).trans (k.block i hi)⟩
theorem jg.cell {S:Nat→Prop} {a:World} (g i:Nat) (u:Value) (hg:S g):jg S a (a.setCell ⟨g,i,none⟩ u) :=
 ⟨rfl,rfl,rfl,by simp[World.setCell],fun k _ hn=>Below.heap_setCell a ⟨g,i,none⟩ u k (fun e=>hn (by rw[show k=g from e];exact hg))⟩
theorem jg.cells {S:Nat→Prop} (g:Nat) (hg:S g):∀(vs:List Value) (o:Nat) (a:World),jg S a (a.setCells g o vs)
 | [],_,a=>jg.of (Kept.refl a)
 | v::r,o,a=>by rw[World.setCells];exact(jg.cell g o v hg).trans (jg.cells g hg r (o+1) _)
theorem jg.grown {S:Nat→Prop} {a b:World} {o:Option Nat} (h:a.grownBy b o) (hs:∀k,o=some k→S k):jg S a b :=
 ⟨h.os,h.tape,h.output,h.size,fun i hi hn=>h.block i hi fun e=>hn (hs i e.symm)⟩
theorem jg.drew {S:Nat→Prop} (a:World):jg S a a.drew:=jg.of (Kept.drew a)
theorem jg.at_below {S:Nat→Prop} {B:Nat} {a b:World} (h:jg S a b) (hb:∀i,S i→B≤i) (hB:B≤a.heap.size):Below B a b:=⟨h.os,h.tape,h.output,h.size,fun i hi=>h.block i (by omega) fun e=>by have:=hb i e;omega⟩
def Off (S:Nat→Prop) (w:World) (Φ:World→Prop):Prop:=∀w',jg S w w'→Φ w'
theorem Off.here {S:Nat→Prop} {w:World} {Φ:World→Prop} (h:Off S w Φ):Φ w:=h w (jg.of (Kept.refl w))
theorem Off.step {S:Nat→Prop} {w w':World} {Φ:World→Prop} (h:Off S w Φ) (g:jg S w w'):Off S w' Φ:=fun u k=>h u (g.trans k)
theorem Off.less {S S':Nat→Prop} {w:World} {Φ:World→Prop} (h:Off S w Φ) (hs:∀k,S' k→S k):Off S' w Φ:=fun u k=>h u (k.mono hs)
theorem Off.imp {S:Nat→Prop} {w:World} {Φ Ψ:World→Prop} (h:Off S w Φ) (f:∀u,Φ u→Ψ u):Off S w Ψ:=fun u k=>f u (h u k)
theorem Off.of {S:Nat→Prop} {a w:World} {Φ:World→Prop} (h:∀u,Kept a u→Φ u) (k:Kept a w) (hs:∀i,S i→a.heap.size≤i):Off S w Φ:=fun u g=>h u (g.below k hs)
theorem Off.new {S S':Nat→Prop} {w w':World} {Φ:World→Prop} (h:Off S w Φ) (g:jg S w w') (hs:∀k,S' k→S k∨w.heap.size≤k):Off S' w' Φ:=fun u k =>
 h u ⟨k.os.trans g.os,k.tape.trans g.tape,k.output.trans g.output,Nat.le_trans g.size k.size,fun i hi hn=>(k.block i (Nat.lt_of_lt_of_le hi g.size) fun e=>by rcases hs i e with e | e;exact hn e;omega).trans (g.block i hi hn)⟩
theorem jaj {S:Nat→Prop} {o:Option Addr} {B:Nat} (hb:jU B o) (hs:∀k,B≤k→¬S k):∀b off sp,o=some ⟨b,off,sp⟩→¬S b:=fun b off sp e=>hs b (hb b off sp e)
theorem jn.goff {α:Type} {L:Lay α} {S:Nat→Prop} {w w':World} {a:Option Addr} {len:Nat} {l:List α} (h:jn L w a len l) (g:jg S w w') (hn:∀b off sp,a=some ⟨b,off,sp⟩→¬S b):jn L w' a len l:=by
 obtain⟨h0,h1,h2,h3⟩:=h;refine⟨h0,h1,h2,h3.imp id ?_⟩;rintro ⟨b,off,ha,hb,hc⟩;exact⟨b,off,ha,Nat.lt_of_lt_of_le hb g.size,fun i x j u hi hj=>(World.cell?_of_block (w:=w) (g.block b hb (hn b off none ha))).trans (hc i x j u hi hj)⟩
theorem Reads.goff {α:Type} {L:Lay α} {S:Nat→Prop} {w w':World} {a:Option Addr} {m c:Nat} {l:List α} (h:Reads L w (.slice a m c) l) (g:jg S w w') (hn:∀b off sp,a=some ⟨b,off,sp⟩→¬S b):Reads L w' (.slice a m c) l:=by
 obtain⟨a',c',e,h1,h2,h3⟩:=h
 cases e
 exact⟨a,c,rfl,h1,h2,h3.goff g hn⟩
theorem Vec.ju.goff {S:Nat→Prop} {w w':World} {a:Option Addr} {len:Nat} {l:Vec.V} (h:Vec.ju w a len l) (g:jg S w w') (hn:∀b off sp,a=some ⟨b,off,sp⟩→¬S b):Vec.ju w' a len l:=by
 obtain⟨h0,h1,h2,h3⟩:=h;refine⟨h0,h1,h2,h3.imp id ?_⟩;rintro ⟨b,off,ha,hb,hc⟩;refine⟨b,off,ha,Nat.lt_of_lt_of_le hb g.size,fun i hi=>?_⟩;have e:∀j,w'.cell? ⟨b,j,none⟩=w.cell? ⟨b,j,none⟩:=fun j=>World.cell?_of_block (a:=⟨b,j,none⟩) (g.block b hb (hn b off none ha));rw[e,e];exact hc i hi
theorem Vec.Reads.goff {S:Nat→Prop} {w w':World} {a:Option Addr} {m c:Nat} {l:Vec.V} (h:Vec.Reads w (.slice a m c) l) (g:jg S w w') (hn:∀b off sp,a=some ⟨b,off,sp⟩→¬S b):Vec.Reads w' (.slice a m c) l:=by
 obtain⟨a',c',e,h1,h2,h3⟩:=h
 cases e
 exact⟨a,c,rfl,h1,h2,Vec.ju.goff h3 g hn⟩
theorem ji.off {S:Nat→Prop} {B:Nat} {w:World} {n:Pd} {b1 b2 b3 b4:Option Addr} {n1 d1 n2 d2 n3 d3 n4 d4:Nat} (h:ji w (.slice b1 n1 d1) (.slice b2 n2 d2) (.slice b3 n3 d3) (.slice b4 n4 d4) n) (g1:jU B b1) (g2:jU B b2) (g3:jU B b3) (g4:jU B b4) (hs:∀k,B≤k→¬S k) :
 Off S w fun u=>ji u (.slice b1 n1 d1) (.slice b2 n2 d2) (.slice b3 n3 d3) (.slice b4 n4 d4) n:=fun u g =>
 ⟨h.name,h.owner,h.key,h.node,h.prio,h.most,h.need.goff g (jaj g1 hs),h.labels.goff g (jaj g2 hs),h.sel.goff g (jaj g3 hs),h.tols.goff g (jaj g4 hs)⟩
theorem zk.off {S:Nat→Prop} {B:Nat} {w:World} {n:Nod} {b1 b2 b3:Option Addr} {n1 d1 n2 d2 n3 d3:Nat} (h:zk w (.slice b1 n1 d1) (.slice b2 n2 d2) (.slice b3 n3 d3) n) (g1:jU B b1) (g2:jU B b2) (g3:jU B b3) (hs:∀k,B≤k→¬S k) :
 Off S w fun u=>zk u (.slice b1 n1 d1) (.slice b2 n2 d2) (.slice b3 n3 d3) n:=fun u g =>
 ⟨h.size,h.cap.goff g (jaj g1 hs),h.labels.goff g (jaj g2 hs),h.taints.goff g (jaj g3 hs)⟩
theorem zl.off {S:Nat→Prop} {B:Nat} {w:World} {n:Bd} {b1:Option Addr} {n1 d1:Nat} (h:zl w (.slice b1 n1 d1) n) (g1:jU B b1) (hs:∀k,B≤k→¬S k) :
 Off S w fun u=>zl u (.slice b1 n1 d1) n:=fun u g=>⟨h.name,h.floor,h.sel.goff g (jaj g1 hs)⟩
theorem Own.goff {α:Type} {L:Lay α} {e:TypeId} {S:Nat→Prop} {w w':World} {B:Nat} {v:Value} {l:List α} (h:Own L e w B v l) (g:jg S w w') (hn:∀k,v.ownBlock=some k→¬S k):Own L e w' B v l:=by
 obtain⟨⟨h0,h1⟩,hf⟩:=h;refine⟨⟨h0,h1.imp id ?_⟩,hf⟩;rintro ⟨q,cap,cur,rfl,hbg,hg,hr⟩;have hlt:q<w.heap.size:=by
  rcases Nat.lt_or_ge q w.heap.size with hlt | hge
  · exact hlt
  · rw[Array.getElem?_eq_none hge] at hg;cases hg
 exact⟨q,cap,cur,rfl,hbg,(g.block q hlt (hn q rfl)).trans hg,hr⟩
structure Deep {X:Type} (L:Lay X) (T:TypeId) (At:World→X→Prop) (w:World) (B:Nat) (v:Value) (lx:List X):Prop where
 own:Own L T w B v lx
 off:∀z ∈ lx,Off (fun b=>v.ownBlock=some b) w fun u=>At u z
theorem Deep.ats {X:Type} {L:Lay X} {T:TypeId} {At:World→X→Prop} {w:World} {B:Nat} {v:Value} {lx:List X} (h:Deep L T At w B v lx):∀z ∈ lx,At w z:=fun z hz=>(h.off z hz).here
theorem Deep.kept {X:Type} {L:Lay X} {T:TypeId} {At:World→X→Prop} {w w':World} {B:Nat} {v:Value} {lx:List X} (h:Deep L T At w B v lx) (k:Kept w w'):Deep L T At w' B v lx:=⟨h.own.kept k,fun z hz=>(h.off z hz).step (jg.of k)⟩
theorem Deep.less {X:Type} {L:Lay X} {T:TypeId} {At:World→X→Prop} {w:World} {B B':Nat} {v:Value} {lx:List X} (h:Deep L T At w B v lx) (hb:B'≤B):Deep L T At w B' v lx:=⟨h.own.base_le hb,h.off⟩
theorem Deep.goff {X:Type} {L:Lay X} {T:TypeId} {At:World→X→Prop} {w w':World} {B q:Nat} {v:Value} {lx:List X} (h:Deep L T At w B v lx) (g:jg (fun b=>b=q) w w') (hq:q<B) (ha:∀z ∈ lx,Off (fun b=>v.ownBlock=some b∨b=q) w fun u=>At u z):Deep L T At w' B v lx :=
 ⟨h.own.goff g (fun k hk e=>by
  have hl:B≤k:=by
   rcases h.own.1.2 with ⟨rfl,_⟩ | ⟨q2,cap,cur,rfl,hb,_⟩
   · cases hk
   · cases hk;exact hb
  omega),fun z hz=>((ha z hz).step (g.mono fun k e=>.inr e)).less fun k e=>.inl e⟩
theorem Jy {X:Type} {L:Lay X} {T:TypeId} {w:World} {B:Nat} {v:Value} {lx:List X} (h:Own L T w B v lx):∀g,v.ownBlock=some g→B≤g∧g<w.heap.size:=h.1.lt
theorem Own.cell_at {X:Type} {L:Lay X} {T:TypeId} {w:World} {B g n cap:Nat} {lx:List X} (h:Own L T w B (.slice (some ⟨g,0,none⟩) n cap) lx) {k:Nat} {z:X} (hz:lx[k]?=some z) {j:Nat} {u:Value} (hu:(L.cs z)[j]?=some u):w.cell? ⟨g,k*L.m+j,none⟩=some u:=by
 obtain⟨a,c,e,_,_,h3⟩:=h.at_
 cases e
 have hk:k<lx.length:=(List.getElem?_eq_some_iff.1 hz).1;obtain⟨x,hx,_,_,_,hc⟩:=h3.cells hk;obtain rfl:x=z:=by rw[hz] at hx;exact(Option.some.inj hx).symm
 have:=hc j u hu;rwa [Nat.zero_add] at this
theorem Own.frozen_at {X:Type} {L:Lay X} {T:TypeId} {w:World} {B g n cap:Nat} {lx:List X} (h:Own L T w B (.slice (some ⟨g,0,none⟩) n cap) lx) (j:Nat):w.frozen? ⟨g,j,none⟩=false:=by
 obtain⟨a,c,e,_⟩:=h.at_
 cases e
 exact h.1.frozenAt j
theorem Z8 {X:Type} (L:Lay X):∀(lx:List X) (k:Nat) (z:X),k<lx.length→(jd L lx).take (k*L.m)++L.cs z++(jd L lx).drop (k*L.m+L.m)=jd L (lx.set k z)
 | [],_,_,h=>by simp at h
 | x::t,0,z,_=>by
  rw[Nat.zero_mul,List.take_zero,List.nil_append,Nat.zero_add,List.set_cons_zero];unfold jd;rw[List.flatMap_cons,List.flatMap_cons,List.drop_append_of_le_length (by rw[L.len];exact Nat.le_refl _),List.drop_of_length_le (by rw[L.len];exact Nat.le_refl _),List.nil_append]
 | x::t,k+1,z,h=>by
  have ih:=Z8 L t k z (by simpa using h);rw[List.set_cons_succ];unfold jd at ih ⊢;rw[List.flatMap_cons,List.flatMap_cons,←ih,Nat.add_mul,Nat.one_mul];have hx:(L.cs x).length=L.m:=L.len x;rw[show k*L.m+L.m=(L.cs x).length+k*L.m by rw[hx,Nat.add_comm],List.take_length_add_append,show (L.cs x).length+k*L.m+L.m=(L.cs x).length+(k*L.m+L.m) by omega,List.drop_length_add_append];simp only[List.append_assoc];rw[show (L.cs x).length+k*L.m=k*L.m+L.m by rw[hx,Nat.add_comm]]
theorem Own.Zd {X:Type} {L:Lay X} {T:TypeId} {w:World} {B g n cap:Nat} {lx:List X} (h:Own L T w B (.slice (some ⟨g,0,none⟩) n cap) lx) {k:Nat} (hk:k<lx.length) (z:X) (hf:L.fine z):Own L T (w.setCells g (k*L.m) (L.cs z)) B (.slice (some ⟨g,0,none⟩) n cap) (lx.set k z):=by
 obtain⟨a,c,e,_⟩:=h.at_
 cases e
 have hm:k*L.m+L.m≤lx.length*L.m:=by rw[←Nat.succ_mul];exact Nat.mul_le_mul_right _ hk
 have:=jkj h.1 (o:=k*L.m) (vs:=L.cs z) (by rw[L.len];exact hm);rw[L.len,Z8 L lx k z hk] at this;refine⟨by rw[List.length_set];exact this,fun x hx=>?_⟩;rcases List.mem_or_eq_of_mem_set hx with hx | hx
 · exact h.2 x hx
 · subst hx;exact hf
theorem jb7 {w:World} {B:Nat} {v:Value} {lx:List PX} {T:TypeId} (h:Deep PodLay0 T At4 w B v lx):zU w v (lx.map fun z=>z.1):=qg h.own h.ats
def Zs (o:Option ByteArray) (w:World) (e:Ending) (w':World):Prop:=(∀d,o=some d→e=.returned (.string d))∧(o=none→e=.panicked [zo 3])∧Kept w w'
theorem Zs.bad {o:Option ByteArray} {w w':World} (h:o=none) (k:Kept w w'):Zs o w (.panicked [zo 3]) w':=⟨(fun d e=>by rw[h] at e;cases e),(fun _=>rfl),k⟩
theorem Zs.good {o:Option ByteArray} {d:ByteArray} {w w':World} (h:o=some d) (k:Kept w w'):Zs o w (.returned (.string d)) w':=⟨(fun c e=>by rw[h] at e;cases e;rfl),(fun e=>by rw[h] at e;cases e),k⟩
theorem jjo (a:Option Addr) (m c:Nat) (l:PL) (key:ByteArray) (w:World) (h:Reads jy w (.slice a m c) l):Calls Tryz.prog 269 #[.slice a m c,.string key] w (Zs (zO l key) w):=by
 obtain⟨go,hgo⟩:=eX (zO l key)
 rw[hgo];have HG:=lH (jeD h (x:=go.getD ByteArray.empty) (b:=go.isSome) (by unfold Xq;rw[hgo]) (by unfold ZZ;rw[hgo]));clear h hgo;go_enter Tryz.func269,Tryz.ntmps269;go_wp2_with fail
 refine HG.out.mono ?_;rintro e w1 ⟨rfl,kk⟩;have K:=lH kk;clear kk
 cases go with
 | none =>
  go_wp2;exact⟨rfl,Zs.bad rfl K.out⟩
 | some d =>
  go_wp2;go_ret;exact Zs.good rfl K.out
theorem jkR {key name:ByteArray} {n:Nod} {l:List Nod} (h:eqS n.name name=true):domV key name (n::l)=zO n.labels key:=by rw[domV,if_pos h]
theorem jjC {key name:ByteArray} {n:Nod} {l:List Nod} (h:eqS n.name name=false):domV key name (n::l)=domV key name l:=by rw[domV,if_neg (by rw[h];decide)]
theorem jeu (s1 s2 s3:Option Addr) (n1 e1 n2 e2 n3 e3:Nat) (nodes:List Nod) (key name:ByteArray) (w:World) (hn:jt w s1 n1 nodes) (hb1:n1≤100000) :
 Calls Tryz.prog 252 #[.agg #[.slice s1 n1 e1,.slice s2 n2 e2,.slice s3 n3 e3],.string key,.string name] w (Zs (domV key name nodes) w):=by
 obtain⟨Z,hZ⟩:=eX (w.alloc (.cells #[.slice s1 n1 e1,.slice s2 n2 e2,.slice s3 n3 e3] 26))
 have hkz:Kept w Z:=by rw[←hZ];exact ja _ _
 obtain⟨Vs,HN,VP,Vc⟩:=lH4 (jb w (.slice s1 n1 e1) [.slice s2 n2 e2,.slice s3 n3 e3] 26 Z (by rw[hZ];exact Kept.refl _)) hn hn.1 hkz;clear hn hkz;go_enter Tryz.func252,Tryz.ntmps252;have y0:=Vs.out.at_ 0 _ rfl;go_upto_region 1 with fail
 try rw[hZ]
 clear hZ;go_wp2;clear y0;go_loopw [12] (fun i wr=>∃k:Nat,k≤n1∧i=.int .i64 k∧domV key name (nodes.drop k)=domV key name nodes∧Kept Z wr) (fun i _=>n1-(intOf i).toNat)
 case atStart=>exact⟨0,Nat.zero_le _,rfl,rfl,Kept.refl _⟩
 case round =>
  obtain⟨k,hk,rfl,hR,hK⟩:=hrel;obtain⟨HR,HK,Ui⟩:=lH3 hR (Vc.out.trans hK) hK;by_cases hlt:k<n1
  · obtain⟨g,off,rfl⟩:=HN.out.form.resolve_left (by omega);obtain⟨n,b1,k1,d1,b2,k2,d2,b3,k3,d3,hn,hd,hb,u0,u1,u2,u3,u4,hat⟩:=(HN.out.kept HK.out).at_ hlt;have VD:=lH hat;have HD:=lH hd;have hkk:(k:Int)<(n1:Int):=by omega
    have hk0:¬(k:Int)<0:=by omega
    obtain⟨wx,hwx⟩:=eX (wr.alloc (.cells #[.string n.name,.slice b1 k1 d1,.slice b2 k2 d2,.slice b3 k3 d3,.bool n.cordon] 78))
    have hkx:Kept wr wx:=by rw[←hwx];exact ja _ _
    have Vq:=lH (jb wr (.string n.name) [.slice b1 k1 d1,.slice b2 k2 d2,.slice b3 k3 d3,.bool n.cordon] 78 wx (by rw[hwx];exact Kept.refl _));obtain⟨bq,hbq⟩:=eX (wr.heap.size)
    rw[hbq] at Vq;have KX:=lH hkx;go_upto_region 4 with fail
    try rw[hwx]
    try rw[hbq]
    clear hwx hbq hd hb hn hR hK hkx hk0 hkk hat u0 u1 u2 u3 u4;have t0:=Vq.out.at_ 0 _ rfl;have t2:=Vq.out.at_ 2 _ rfl;obtain⟨t,ht⟩:=eX ((n.name.toList==name.toList))
    have HT:=lH (show eqS n.name name=t from ht)
    cases t with
    | false =>
     have HX:=lH (show domV key name (nodes.drop (k+1))=domV key name nodes by rw[←HR.out,HD.out,jjC HT.out]);go_wp2;go_roundw
     case rel=>exact⟨k+1,by omega,by go_num,HX.out,Ui.out.trans KX.out⟩
     case measure=>simp[intOf];omega
    | true =>
     have HX:=lH (show zO n.labels key=domV key name nodes by rw[←HR.out,HD.out,jkR HT.out]);go_wp2_with fail
     refine(jjo b2 k2 d2 n.labels key wx (VD.out.labels.kept KX.out)).mono ?_;rintro e w3 ⟨h1,h2,kk⟩;have K3:=lH (HK.out.trans (KX.out.trans kk));clear kk;rw[HX.out] at h1 h2
     cases ho:domV key name nodes with
     | none =>
      obtain rfl:=h2 ho;have HO:=lH ho;clear h1 h2 ho;go_wp2;exact⟨rfl,Zs.bad HO.out K3.out⟩
     | some d =>
      obtain rfl:=h1 d ho;have HO:=lH ho;clear h1 h2 ho;go_wp2;go_ret;exact Zs.good HO.out K3.out
  · have hge:¬(k:Int)<(n1:Int):=by omega
    have HO:=lH (show domV key name nodes=none by rw[←HR.out,List.drop_of_length_le (by rw[VP.out];omega)];rfl);clear hR hK;go_wp2;exact⟨rfl,Zs.bad HO.out HK.out⟩
theorem jgT (p q:Pd) (a1 a2 a3 a4 b1 b2 b3 b4:Option Addr) (m1 c1 m2 c2 m3 c3 m4 c4 k1 d1 k2 d2 k3 d3 k4 d4:Nat) (w:World):Calls Tryz.prog 270 #[jw p (.slice a1 m1 c1) (.slice a2 m2 c2) (.slice a3 m3 c3) (.slice a4 m4 c4),jw q (.slice b1 k1 d1) (.slice b2 k2 d2) (.slice b3 k3 d3) (.slice b4 k4 d4)] w (Say (.bool (Yr p q)) w):=by
 obtain⟨Z,hZ⟩:=eX ((w.alloc (.cells #[.string p.name,.string p.owner,.int .i64 p.prio,.slice a1 m1 c1,.slice a2 m2 c2,.slice a3 m3 c3,.slice a4 m4 c4,.string p.key,.int .i64 p.most,.string p.node,.bool p.hold] 52)).alloc (.cells #[.string q.name,.string q.owner,.int .i64 q.prio,.slice b1 k1 d1,.slice b2 k2 d2,.slice b3 k3 d3,.slice b4 k4 d4,.string q.key,.int .i64 q.most,.string q.node,.bool q.hold] 52))
 have hkz:Kept w Z:=by rw[←hZ];exact jm _ _ _
 have hp:=jb w (.string p.name) [.string p.owner,.int .i64 p.prio,.slice a1 m1 c1,.slice a2 m2 c2,.slice a3 m3 c3,.slice a4 m4 c4,.string p.key,.int .i64 p.most,.string p.node,.bool p.hold] 52 Z (by rw[←hZ];exact ja _ _);have hq:je (w.heap.size+1) [.string q.name,.string q.owner,.int .i64 q.prio,.slice b1 k1 d1,.slice b2 k2 d2,.slice b3 k3 d3,.slice b4 k4 d4,.string q.key,.int .i64 q.most,.string q.node,.bool q.hold] Z:=by
  have dd:=jb (w.alloc (.cells #[.string p.name,.string p.owner,.int .i64 p.prio,.slice a1 m1 c1,.slice a2 m2 c2,.slice a3 m3 c3,.slice a4 m4 c4,.string p.key,.int .i64 p.most,.string p.node,.bool p.hold] 52)) (.string q.name) [.string q.owner,.int .i64 q.prio,.slice b1 k1 d1,.slice b2 k2 d2,.slice b3 k3 d3,.slice b4 k4 d4,.string q.key,.int .i64 q.most,.string q.node,.bool q.hold] 52 Z (by rw[hZ];exact Kept.refl _);rw[World.size_alloc] at dd;exact dd
 have p0:=hp.at_ 0 _ rfl;have p1:=hp.at_ 1 _ rfl;have q0:=hq.at_ 0 _ rfl;have q1:=hq.at_ 1 _ rfl;have q10:=hq.at_ 10 _ rfl;have HK:=lH hkz;obtain⟨t0,h0⟩:=eX ((p.owner.toList==([]:List UInt8)))
 obtain⟨t1,h1⟩:=eX ((q.owner.toList==p.owner.toList))
 obtain⟨t2,h2⟩:=eX ((q.name.toList==p.name.toList))
 obtain⟨t3,h3⟩:=eX (q.hold)
 have HV:=lH (show Yr p q=(!t0&&(t1&&(!t3&&!t2))) by unfold Yr eqS;rw[ZN,h0,h1,h2,h3]);rw[h3] at q10;rw[h3] at hZ;clear hp hq hkz;unfold jw;rw[h3];clear h3;go_enter Tryz.func270,Tryz.ntmps270
 cases t0 with
 | true =>
  go_wp2;try rw[hZ]
  go_ret;exact⟨jf (by rw[HV.out];rfl),by first | exact HK.out | (rw[hZ];exact HK.out)⟩
 | false =>
  cases t1 with
  | false =>
   go_wp2;try rw[hZ]
   go_ret;exact⟨jf (by rw[HV.out];rfl),by first | exact HK.out | (rw[hZ];exact HK.out)⟩
  | true =>
   cases t3 with
   | true =>
    go_wp2;try rw[hZ]
    go_ret;exact⟨jf (by rw[HV.out];rfl),by first | exact HK.out | (rw[hZ];exact HK.out)⟩
   | false =>
    cases t2 with
    | true =>
     go_wp2;try rw[hZ]
     go_ret;exact⟨jf (by rw[HV.out];rfl),by first | exact HK.out | (rw[hZ];exact HK.out)⟩
    | false =>
     go_wp2;try rw[hZ]
     go_ret;exact⟨jf (by rw[HV.out];rfl),by first | exact HK.out | (rw[hZ];exact HK.out)⟩
open Go.RowKit Go.Maps Go.WideShapes Go.WideMaps
theorem jai:Keyed Tryz.prog 9:=string_keyed Tryz.underlying9
theorem jlA (w:World):(zeroValue 3).run Tryz.prog w=.ok (.int .i64 0) w:=by kernel_rfl
abbrev mk9 (x:ByteArray):Lit:=.string x.data.toList
theorem jgH {x y:ByteArray} (h:mk9 x=mk9 y):x=y:=by
 injection h with h
 cases x;cases y
 simp only at h;congr 1
 exact Array.toList_inj.1 h
structure jm0 (w:World) (b n:Nat) (D:DataW Unit) (f:ByteArray→Int) (dom:ByteArray→Bool):Prop where
 own:w.ownsMap Tryz.prog 9 (plainElem Tryz.prog 3) b n D
 at_:∀x,D.atKey (mk9 x) (.lit (.int .i64 0))=.lit (.int .i64 (f x))
 has:∀x,Maps.has D (mk9 x)=dom x
 map:IsMap D
def zg (w:World) (b n:Nat) (f:ByteArray→Int) (dom:ByteArray→Bool):Prop:=∃D:DataW Unit,jm0 w b n D f dom
theorem zg.made (w:World):zg (w.alloc (.map #[] 0)) w.heap.size 0 (fun _=>0) (fun _=>false) :=
 ⟨.map [],World.ownsMap_made w _ _ _,fun _=>rfl,fun _=>rfl,isMap_empty⟩
theorem zg.block {w w':World} {b n:Nat} {f:ByteArray→Int} {dom:ByteArray→Bool} (h:zg w b n f dom) (hb:w'.heap[b]?=w.heap[b]?):zg w' b n f dom:=by
 obtain⟨D,⟨es,clock,h1,h2⟩,h3,h4,h5⟩:=h;exact⟨D,⟨es,clock,hb.trans h1,h2⟩,h3,h4,h5⟩
theorem zg.lt {w:World} {b n:Nat} {f:ByteArray→Int} {dom:ByteArray→Bool} (h:zg w b n f dom):b<w.heap.size:=by
 obtain⟨D,h,-⟩:=h;exact h.lt
theorem zg.kept {w w':World} {b n:Nat} {f:ByteArray→Int} {dom:ByteArray→Bool} (h:zg w b n f dom) (k:Kept w w'):zg w' b n f dom:=h.block (k.block b h.lt)
theorem zg.eq {w:World} {b n:Nat} {f g:ByteArray→Int} {dom dem:ByteArray→Bool} (h:zg w b n f dom) (hf:∀x,f x=g x) (hd:∀x,dom x=dem x):zg w b n g dem:=by
 obtain⟨D,h1,h2,h3,h4⟩:=h;exact⟨D,h1,fun x=>by rw[h2,hf],fun x=>by rw[h3,hd],h4⟩
theorem zg.look {w:World} {b n:Nat} {f:ByteArray→Int} {dom:ByteArray→Bool} (h:zg w b n f dom) (x:ByteArray) (hx:x.size≤maxLen):(Instr.lookup 321 (.map (some b)) (.string x) false).run Tryz.prog w=.ok (.int .i64 (f x)) w:=by
 obtain⟨D,h1,h2,h3,h4⟩:=h;obtain⟨c,hrun,hat,-⟩:=h1.lookup_int (t:=321) jai Tryz.underlying321 Tryz.underlying3 (jlA _) (keyOf_string_mk Tryz.underlying9 hx);rw[hrun];have:=(h2 x).symm.trans hat;injection this with this;injection this with _ this;rw[this]
theorem zg.put {w:World} {b n:Nat} {f:ByteArray→Int} {dom:ByteArray→Bool} (h:zg w b n f dom) (hn:n<maxLen) (x:ByteArray) (hx:x.size≤maxLen) (c:Int) (hc:-9223372036854775808≤c∧c≤9223372036854775807) :
 ∃w',(Instr.mapUpdate 321 (.map (some b)) (.string x) (.int .i64 c)).run Tryz.prog w=.ok () w'∧zg w' b (n+1) (fun y=>if y=x then c else f y) (fun y=>if y=x then true else dom y)∧jg (fun i=>i=b) w w':=by
 obtain⟨D,h1,h2,h3,h4⟩:=h;obtain⟨w',hrun,ho,hg⟩:=h1.update (t:=321) jai Tryz.underlying321 hn (keyOf_string_mk Tryz.underlying9 hx) (plainElem_int (H:=Unit) Tryz.underlying3 (WalkArith.wf_i64 hc));refine⟨w',hrun,⟨_,ho,fun y=>?_,fun y=>?_,h4.put _ _⟩,jg.grown hg fun k e=>by cases e;rfl⟩
 · by_cases e:y=x
   · subst e;rw[if_pos rfl,atKey_put_same h4 (show WideAt.IsKeyLit (.string _) from trivial)]
   · rw[if_neg e,atKey_put_other (fun g=>e (jgH g)),h2]
 · by_cases e:y=x
   · subst e;rw[if_pos rfl,has_put_same h4 (show WideAt.IsKeyLit (.string _) from trivial)]
   · rw[if_neg e,has_put_other (fun g=>e (jgH g)),h3]
theorem zg.mono1 {w:World} {b n n':Nat} {f:ByteArray→Int} {dom:ByteArray→Bool} (h:zg w b n f dom) (hn:n≤n'):zg w b n' f dom:=by
 obtain⟨D,h1,h2,h3,h4⟩:=h;exact⟨D,h1.mono hn,h2,h3,h4⟩
theorem jiM (s1 s2 s3 a1 a2 a3 a4:Option Addr) (n1 e1 n2 e2 n3 e3 m1 c1 m2 c2 m3 c3 m4 c4:Nat) (p:Pd) (nodes:List Nod) (pods:List Pd) (w:World) (hn:jt w s1 n1 nodes) (hp:jC w s2 n2 pods) (hb1:n1≤100000) (hb2:n2≤100000) :
 Calls Tryz.prog 253 #[.agg #[.slice s1 n1 e1,.slice s2 n2 e2,.slice s3 n3 e3],jw p (.slice a1 m1 c1) (.slice a2 m2 c2) (.slice a3 m3 c3) (.slice a4 m4 c4)] w fun e w'=>∃b n,e=.returned (.map (some b))∧zg w' b n (fun d=>(inD p pods d nodes:Int)) (fun d=>Zm p.key d nodes)∧w.heap.size≤b∧n≤100000∧Kept w w':=by
 obtain⟨Z,hZ⟩:=eX ((w.alloc (.cells #[.slice s1 n1 e1,.slice s2 n2 e2,.slice s3 n3 e3] 26)).alloc (.cells #[.string p.name,.string p.owner,.int .i64 p.prio,.slice a1 m1 c1,.slice a2 m2 c2,.slice a3 m3 c3,.slice a4 m4 c4,.string p.key,.int .i64 p.most,.string p.node,.bool p.hold] 52))
 have hkz:Kept w Z:=by rw[←hZ];exact jm _ _ _
 have hzs:Z.heap.size=w.heap.size+2:=by rw[←hZ];simp
 have Vs:=lH (jb w (.slice s1 n1 e1) [.slice s2 n2 e2,.slice s3 n3 e3] 26 Z (by rw[←hZ];exact ja _ _));have Vt:=lH (show je (w.heap.size+1) [.string p.name,.string p.owner,.int .i64 p.prio,.slice a1 m1 c1,.slice a2 m2 c2,.slice a3 m3 c3,.slice a4 m4 c4,.string p.key,.int .i64 p.most,.string p.node,.bool p.hold] Z by
  have dd:=jb (w.alloc (.cells #[.slice s1 n1 e1,.slice s2 n2 e2,.slice s3 n3 e3] 26)) (.string p.name) [.string p.owner,.int .i64 p.prio,.slice a1 m1 c1,.slice a2 m2 c2,.slice a3 m3 c3,.slice a4 m4 c4,.string p.key,.int .i64 p.most,.string p.node,.bool p.hold] 52 Z (by rw[hZ];exact Kept.refl _);rw[World.size_alloc] at dd;exact dd)
 obtain⟨Y,hY⟩:=eX (Z.alloc (.map #[] 0))
 have hky:Kept Z Y:=by rw[←hY];exact ja _ _
 obtain⟨Up,TY,Vs,Vt,Nd⟩:=lH5 (show zg Y Z.heap.size 0 (fun _=>0) (fun _=>false) by rw[←hY];exact zg.made Z) (show Y.heap.size=Z.heap.size+1 by rw[←hY,World.size_alloc]) (Vs.out.kept hky) (Vt.out.kept hky) (hkz.trans hky);obtain⟨mb,hmb⟩:=eX (Z.heap.size)
 rw[hmb] at Up TY;obtain⟨Uq,Vf,HN,HP,VP,VZ⟩:=lH6 (show w.heap.size+2≤mb by omega) hzs hn hp hn.1 hp.1;clear hn hp hkz hky hzs;have hmm:=@run_makeMap Tryz.prog;unfold jw;go_enter Tryz.func253,Tryz.ntmps253;have y0:=Vs.out.at_ 0 _ rfl;have y1:=Vs.out.at_ 1 _ rfl;have z0:=(show je w.heap.size _ Z from jb w (.slice s1 n1 e1) [.slice s2 n2 e2,.slice s3 n3 e3] 26 Z (by rw[←hZ];exact ja _ _)).at_ 1 _ rfl;go_upto_region 2 with fail
 try rw[hZ]
 try rw[hY]
 try rw[hmb]
 clear hZ hY hmb hmm z0;go_wp2;clear y0 y1;skip;go_loopw [17] (fun i wr=>∃k:Nat,k≤n2∧i=.int .i64 k∧(∃dom,zg wr mb k (fun x=>(onN p x (pods.take k):Int)) dom)∧jg (fun i=>i=mb) Y wr) (fun i _=>n2-(intOf i).toNat)
 case atStart=>exact⟨0,Nat.zero_le _,rfl,⟨_,Up.out.eq (fun _=>rfl) (fun _=>rfl)⟩,jg.of (Kept.refl _)⟩
 case round =>
  obtain⟨k,hk,rfl,⟨dom,hM⟩,hG⟩:=hrel;obtain⟨HM,HG,KW⟩:=lH3 hM hG (show Kept w wr from jg.below Nd.out hG fun i e=>by have:=Uq.out;omega);by_cases hlt:k<n2
  · obtain⟨g,off,rfl⟩:=HP.out.form.resolve_left (by omega);obtain⟨q,b1,k1,d1,b2,k2,d2,b3,k3,d3,b4,k4,d4,hn,hd,hb,u0,u1,u2,u3,u4,u5,u6,u7,u8,u9,u10,hat⟩:=(HP.out.kept KW.out).at_ hlt;have UF:=lH (show pods.take (k+1)=pods.take k++[q] by rw[List.take_add_one,hn];rfl);have V2:=lH hat.node;have hkk:(k:Int)<(n2:Int):=by omega
    have hk0:¬(k:Int)<0:=by omega
    obtain⟨wx,hwx⟩:=eX (wr.alloc (.cells #[.string q.name,.string q.owner,.int .i64 q.prio,.slice b1 k1 d1,.slice b2 k2 d2,.slice b3 k3 d3,.slice b4 k4 d4,.string q.key,.int .i64 q.most,.string q.node,.bool q.hold] 52))
    have hkx:Kept wr wx:=by rw[←hwx];exact ja _ _
    have Vq:=lH (jb wr (.string q.name) [.string q.owner,.int .i64 q.prio,.slice b1 k1 d1,.slice b2 k2 d2,.slice b3 k3 d3,.slice b4 k4 d4,.string q.key,.int .i64 q.most,.string q.node,.bool q.hold] 52 wx (by rw[hwx];exact Kept.refl _));obtain⟨bq,hbq⟩:=eX (wr.heap.size)
    rw[hbq] at Vq;obtain⟨UR,U1,Te,KX⟩:=lH4 (show mb<bq by rw[←hbq];have:=TY.out;have:=hG.size;omega) ((Vt.out.block (hG.block _ (by have:=Vt.out.lt;exact this) (by have:=Uq.out;omega))).kept hkx) (hM.kept hkx) hkx;go_upto_region 5 with fail
    try rw[hwx]
    try rw[hbq]
    clear hwx hbq hd hb hat hM hG hkx hk0 hkk u0 u1 u2 u3 u4 u5 u6 u7 u8 u9 u10;obtain⟨r0,r1,r2,r3,r4,r5,r6,r7,r8,r9,r10⟩:=U1.out.at11;obtain⟨t0,t1,t2,t3,t4,t5,t6,t7,t8,t9,t10⟩:=Vq.out.at11;go_wp2_with fail
    refine(jgT p q a1 a2 a3 a4 b1 b2 b3 b4 m1 c1 m2 c2 m3 c3 m4 c4 k1 d1 k2 d2 k3 d3 k4 d4 wx).mono ?_;rintro e w3 ⟨rfl,kk⟩;clear r0 t0 r1 t1 r2 t2 r3 t3 r4 t4 r5 t5 r6 t6 r7 t7 r8 t8 r9 t9 r10 t10;have Tu:=lH kk;have Tv:=lH (Te.out.kept kk);have t9:=(Vq.out.kept kk).at_ 9 _ rfl;clear kk;obtain⟨bb,hbb⟩:=eX (Yr p q)
    have Ve:=lH hbb;rw[hbb];clear hbb
    cases bb with
    | false =>
     go_wp2;go_roundw
     case rel =>
      refine⟨k+1,by omega,by go_num,⟨dom,(Tv.out.mono1 (Nat.le_succ k)).eq (fun x=>?_) (fun _=>rfl)⟩,(HG.out.trans (jg.of KX.out)).trans (jg.of Tu.out)⟩;rw[UF.out,jcs];show ((onN p x (pods.take k):Nat):Int)=((onN p x (pods.take k)+((if Yr p q=true∧q.node=x then 1 else 0)+0):Nat):Int);rw[if_neg (by rw[Ve.out];simp)];rfl
     case measure=>simp[intOf];omega
    | true =>
     have hsz:onN p q.node (pods.take k)≤k:=Nat.le_trans (jcb _ _ _) (by rw[List.length_take];omega);have hlook:=Tv.out.look q.node V2.out;obtain⟨v,hv⟩:=eX (onN p q.node (pods.take k))
     have HV:=lH hv;rw[hv] at hlook hsz;obtain⟨v1,hv1⟩:∃z:Nat,v+1=z:=⟨_,rfl⟩
     have hv2:(v:Int)+1=(v1:Int):=by omega
     have hv3:IntKind.i64.wrap (v1:Int)=(v1:Int):=IntWalk.i64_in _ (by omega);obtain⟨w4,hput,hM4,hG4⟩:=Tv.out.put (by unfold maxLen;omega) q.node V2.out (v1:Int) (by omega);obtain⟨UG,Tw,Nf⟩:=lH3 hM4 hG4 hv1;clear hM4 hG4 hv hv1;go_wp2;go_roundw
     case rel =>
      refine⟨k+1,by omega,by go_num,⟨_,UG.out.eq (fun x=>?_) (fun _=>rfl)⟩,((HG.out.trans (jg.of KX.out)).trans (jg.of Tu.out)).trans Tw.out⟩;rw[UF.out,jcs];show _=((onN p x (pods.take k)+((if Yr p q=true∧q.node=x then 1 else 0)+0):Nat):Int);by_cases hx:x=q.node
      · rw[if_pos hx,if_pos ⟨Ve.out,hx.symm⟩,hx,HV.out,←Nf.out]
      · rw[if_neg hx,if_neg (fun g=>hx g.2.symm)];rfl
     case measure=>simp[intOf];omega
  · have hge:¬(k:Int)<(n2:Int):=by omega
    have hM:=HM.out;rw[List.take_of_length_le (by rw[VZ.out];omega)] at hM;obtain⟨HM,Vs,Vt⟩:=lH3 hM (Vs.out.block (hG.block _ Vs.out.lt (by have:=Uq.out;omega))) (Vt.out.block (hG.block _ Vt.out.lt (by have:=Uq.out;omega)));obtain⟨X,hX⟩:=eX (wr.alloc (.map #[] 0))
    have hkx:Kept wr X:=by rw[←hX];exact ja _ _
    have Up:=lH (show zg X wr.heap.size 0 (fun _=>0) (fun _=>false) by rw[←hX];exact zg.made wr);have UH:=lH (show X.heap.size=wr.heap.size+1 by rw[←hX,World.size_alloc]);obtain⟨mc,hmc⟩:=eX (wr.heap.size)
    rw[hmc] at Up UH;obtain⟨Tf,HM,Vs,Vt,KX⟩:=lH5 (show mb<mc by rw[←hmc];have:=TY.out;have:=hG.size;omega) (HM.out.kept hkx) (Vs.out.kept hkx) (Vt.out.kept hkx) (KW.out.trans hkx);clear hM hG hkx;have hmm:=@run_makeMap Tryz.prog;go_upto_region 9 with fail
    try rw[hX]
    try rw[hmc]
    clear hX hmc hmm;have y0:=Vs.out.at_ 0 _ rfl;go_wp2;clear y0;go_loopw [34] (fun i wr=>∃k:Nat,k≤n1∧i=.int .i64 k∧zg wr mc k (fun d=>(inD p pods d (nodes.take k):Int)) (fun d=>Zm p.key d (nodes.take k))∧jg (fun i=>i=mc) X wr) (fun i _=>n1-(intOf i).toNat)
    case atStart=>exact⟨0,Nat.zero_le _,rfl,Up.out.eq (fun _=>rfl) (fun _=>rfl),jg.of (Kept.refl _)⟩
    case round =>
     obtain⟨k,hk,rfl,hN,hG⟩:=hrel;obtain⟨HC,HG,KW⟩:=lH3 hN hG (show Kept w wr from jg.below KX.out hG fun i e=>by have:=Uq.out;have:=Tf.out;omega);by_cases hlt:k<n1
     · obtain⟨g,off,rfl⟩:=HN.out.form.resolve_left (by omega);obtain⟨n,b1,k1,d1,b2,k2,d2,b3,k3,d3,hn,hd,hb,u0,u1,u2,u3,u4,hat⟩:=(HN.out.kept KW.out).at_ hlt;have UF:=lH (show nodes.take (k+1)=nodes.take k++[n] by rw[List.take_add_one,hn];rfl);have VD:=lH hat;have hkk:(k:Int)<(n1:Int):=by omega
       have hk0:¬(k:Int)<0:=by omega
       obtain⟨wx,hwx⟩:=eX (wr.alloc (.cells #[.string n.name,.slice b1 k1 d1,.slice b2 k2 d2,.slice b3 k3 d3,.bool n.cordon] 78))
       have hkx:Kept wr wx:=by rw[←hwx];exact ja _ _
       have Vq:=lH (jb wr (.string n.name) [.slice b1 k1 d1,.slice b2 k2 d2,.slice b3 k3 d3,.bool n.cordon] 78 wx (by rw[hwx];exact Kept.refl _));obtain⟨bq,hbq⟩:=eX (wr.heap.size)
       rw[hbq] at Vq;obtain⟨U1,Ng,RD,KX1⟩:=lH4 ((Vt.out.block (hG.block _ Vt.out.lt (by have:=Uq.out;have:=Tf.out;omega))).kept hkx) (hN.kept hkx) ((HM.out.block (hG.block _ HM.out.lt (by have:=Tf.out;omega))).kept hkx) hkx;go_upto_region 12 with fail
       try rw[hwx]
       try rw[hbq]
       clear hwx hbq hd hb hat hN hG hkx hk0 hkk u0 u1 u2 u3 u4;have r7:=U1.out.at_ 7 _ rfl;have t2:=Vq.out.at_ 2 _ rfl;obtain⟨go,hgo⟩:=eX (zO n.labels p.key)
       have Tg:=lH hgo;go_wp2_with fail
       refine(jeD (VD.out.labels.kept KX1.out) (x:=go.getD ByteArray.empty) (b:=go.isSome) (by unfold Xq;rw[hgo]) (by unfold ZZ;rw[hgo])).mono ?_;rintro e w3 ⟨rfl,kk⟩;obtain⟨Tu,Tx,Tv⟩:=lH3 kk (Ng.out.kept kk) (RD.out.kept kk);have t0:=(Vq.out.kept kk).at_ 0 _ rfl;clear kk hgo r7 t2
       cases go with
       | none =>
        go_wp2;go_roundw
        case rel =>
         refine⟨k+1,by omega,by go_num,(Tx.out.mono1 (Nat.le_succ k)).eq (fun x=>?_) (fun x=>?_),(HG.out.trans (jg.of KX1.out)).trans (jg.of Tu.out)⟩
         · rw[UF.out,jcK];show ((inD p pods x (nodes.take k):Nat):Int)=((inD p pods x (nodes.take k)+((if zO n.labels p.key=some x then onN p n.name pods else 0)+0):Nat):Int);rw[if_neg (by rw[Tg.out];simp)];rfl
         · rw[UF.out];unfold Zm;rw[List.any_append,List.any_cons,Tg.out];simp
        case measure=>simp[intOf];omega
       | some d =>
        have hds:d.size≤maxLen:=jdo VD.out.labels.fine Tg.out;have hb1a:inD p pods d (nodes.take k)≤100000*100000:=Nat.le_trans (jdX _ _ _ _) (Nat.mul_le_mul (by rw[List.length_take];omega) (by rw[VZ.out];omega));have hb2a:onN p n.name pods≤100000:=Nat.le_trans (jcb _ _ _) (by rw[VZ.out];omega);have hl1:=Tx.out.look d hds;have hl2:=Tv.out.look n.name VD.out.size;obtain⟨x1,hx1⟩:=eX (inD p pods d (nodes.take k))
        obtain⟨x2,hx2⟩:=eX (onN p n.name pods)
        have Um:=lH hx1;have Ux:=lH hx2;rw[hx1] at hl1 hb1a;rw[hx2] at hl2 hb2a;obtain⟨x3,hx3⟩:∃z:Nat,x1+x2=z:=⟨_,rfl⟩
        have hx4:(x1:Int)+(x2:Int)=(x3:Int):=by omega
        have hx5:IntKind.i64.wrap (x3:Int)=(x3:Int):=IntWalk.i64_in _ (by omega);obtain⟨w4,hput,hM4,hG4⟩:=Tx.out.put (by unfold maxLen;omega) d hds (x3:Int) (by omega);obtain⟨UG,Tw,UD⟩:=lH3 hM4 hG4 hx3;clear hM4 hG4 hx1 hx2 hx3;go_wp2;go_roundw
        case rel =>
         refine⟨k+1,by omega,by go_num,UG.out.eq (fun x=>?_) (fun x=>?_),((HG.out.trans (jg.of KX1.out)).trans (jg.of Tu.out)).trans Tw.out⟩
         · rw[UF.out,jcK];show _=((inD p pods x (nodes.take k)+((if zO n.labels p.key=some x then onN p n.name pods else 0)+0):Nat):Int);by_cases hx:x=d
           · subst hx;rw[if_pos rfl,if_pos Tg.out,Ux.out,Um.out,←UD.out];rfl
           · rw[if_neg hx,if_neg (fun g=>hx (by rw[Tg.out] at g;exact(Option.some.inj g).symm))];rfl
         · rw[UF.out];unfold Zm;rw[List.any_append,List.any_cons,Tg.out];by_cases hx:x=d
           · subst hx;simp
           · rw[if_neg hx];simp[show ¬d=x from fun e=>hx e.symm]
        case measure=>simp[intOf];omega
     · have hge:¬(k:Int)<(n1:Int):=by omega
       have hM:=HC.out;rw[List.take_of_length_le (by rw[VP.out];omega)] at hM;have HC:=lH hM;clear hM hN hG;go_wp2;go_ret;exact⟨mc,rfl,k,HC.out,by have:=Uq.out;have:=Tf.out;omega,by omega,KW.out⟩
open Go.RowKit Go.Maps Go.Sort Go.Shelf Go.WideShapes
attribute [local go_sem] Oper.semAt_some
def VAt (D:DataW Unit) (p:List UInt8×Int):Prop:=∀zd,D.atKey (.string p.1) zd=.lit (.int .i64 p.2)
def jjM (D:DataW Unit) (ps:List (List UInt8×Int)):Prop:=(ps.map (·.1)).Perm (strKeys D)∧(∀x,x ∈ ps.map (·.1)↔has D (.string x)=true)∧∀p ∈ ps,VAt D p
def jk0 (D:DataW Unit) (ps:List (List UInt8×Int)):Prop:=(ps.map (·.1)).Nodup∧(∀x ∈ ps.map (·.1),has D (.string x)=true)∧∀p ∈ ps,VAt D p
theorem jft (F:Fence) (n:Nat) (h8:F.fn 272) (hro:F.round=none) (hn:1≤n) (l Bm b nn:Nat) (D0:DataW Unit) (J Jx:List Int→World→Prop)
 (hY:∀pre x W,J pre W→pre.length<Maps.size D0→YieldAt F (n-1) Tryz.prog l #[.int .i64 x] W fun e W' =>
   (e=.returned (.bool true)∧J (pre++[x]) W'∧KeepsWalks W W')∨(e=.returned (.bool false)∧Jx (pre++[x]) W'))
 (W:World) (hJ:AbidesFrom W.heap.size J) (hm:W.cell? ⟨Bm,0,none⟩=some (.map (some b))) (hown:W.ownsMap Tryz.prog 9 (plainElem Tryz.prog 3) b nn D0) (h0:J [] W) :
 CallsIn F n Tryz.prog 272 #[.func (.yield l) #[] #[],.pointer (some ⟨Bm,0,none⟩)] W fun e W'=>(∃v,e=.returned v) ∧
  ((∃xs,(∃ps,jjM D0 ps∧xs=ps.map (·.2))∧J xs W')∨(∃pre,(∃ps,jk0 D0 ps∧pre=ps.map (·.2))∧Jx pre W')):=by
 refine callsIn_of_wp Tryz.func272 rfl h8 ?_ hro;simp only[Tryz.ntmps272,List.size_toArray,List.length_cons,List.length_nil,Nat.reduceAdd,Nat.reduceSub,Array.replicate_succ,Array.replicate_zero,List.push_toArray,List.append_toArray,List.nil_append,List.cons_append]
 gi_wp2_with (first
  | (gi_at_range;refine wpListIn_range_own _ rfl _ 321 rfl 9 3 jai Tryz.underlying321 _ b nn _ rfl hown ?_;intro w0 hrg0 hg0 hs0)
  | gi_in)
 go_frame
 gi_loopw [4] (fun _ wr=>∃(left:Lit→Bool) (cnt:Nat) (ps:List (List UInt8×Int)),wr.ranges Tryz.prog 9 (plainElem Tryz.prog 3) b W.heap.size nn D0 left cnt∧ps.length+cnt≤Maps.size D0∧Collected D0 left (ps.map (·.1))∧(∀p ∈ ps,VAt D0 p)∧J (ps.map (·.2)) wr)
  (fun _ wr=>wr.rangeLeft b W.heap.size)
 case atStart =>
  exact⟨_,_,[],hrg0,by simp,Collected.start D0,by simp,hJ [] W w0 none h0 hg0 (fun r e=>by cases e)⟩
 case round =>
  obtain⟨left,cnt,ps,hrg,hcs,hC,hV,hJs⟩:=hrel
  gi_wp2_with (first
   | (gi_at_next;refine wpListIn_next_ranges _ rfl _ rfl 9 jai (plainElem Tryz.prog 3) encStr (Value.int .i64) (fun key kl hk=>by obtain⟨x,hx,_⟩:=Maps.keyOf_str Tryz.underlying9 hk;exact⟨x,hx⟩) (fun v y hv=>by obtain⟨c,rfl,_⟩:=plainElem_int_inv Tryz.underlying3 hv;exact⟨c,rfl⟩) b W.heap.size nn _ _ _ rfl hrg ?_ ?_)
   | gi_in)
  · intro hc0 hl0;gi_wp2
    go_end0
    exact⟨⟨_,rfl⟩,.inl ⟨_,⟨ps,⟨hC.perm hown jai Tryz.underlying9 hl0,fun x=>by rw[hC.2 x,hl0];simp,hV⟩,rfl⟩,hJs⟩⟩
  · intro x c kl yd yp w2 cnt2 hkey hlk hv hat hrg2 hlt hg2 hs2 hen;obtain⟨x',ex,rfl,_⟩:=Maps.keyOf_str Tryz.underlying9 hkey;obtain rfl:x=x':=encStr_inj ex;obtain⟨c',ec,ez,_⟩:=plainElem_int_inv Tryz.underlying3 hv;obtain rfl:c=c':=by simpa using ec
    obtain rfl:yd=.lit (.int .i64 c):=(Prod.mk.inj ez).1;have hJ2:J (ps.map (·.2)) w2:=hJ _ wr w2 (some W.heap.size) hJs hg2 (fun r e=>by cases e;exact⟨Nat.le_refl _,hrg.iter_walk⟩);obtain⟨fn,tmps,assign,body,hy,hR⟩:=hY (ps.map (·.2)) c w2 hJ2 (by simp;omega);clear hs2;gi_wp2
    refine hR.mono ?_;have hC2:Collected D0 (fun z=>left z&&!z.sameKey (.string x)) ((ps++[(x,c)]).map (·.1)):=by simpa using hC.step hlk hat
    have hV2:∀p ∈ ps++[(x,c)],VAt D0 p:=fun p hp=>(List.mem_append.1 hp).elim (hV p) (fun e=>by simp at e;subst e;exact hat);rintro e W3 (⟨rfl,hJ3,hk3⟩ | ⟨rfl,hJx3⟩)
    · gi_wp2
      have hrg3:=hrg2.of_walks hk3;go_roundw
      case rel=>exact⟨_,cnt2,ps++[(x,c)],hrg3,by simp;omega,hC2,hV2,by simpa using hJ3⟩
      case measure=>rw[hrg3.left_eq,hrg.left_eq];exact hlt
    · gi_wp2
      refine bodyPost_ret (results_none rfl _ _ _) rfl ?_;exact⟨⟨_,rfl⟩,.inr ⟨_,⟨ps++[(x,c)],⟨hC2.1,fun y hy=>((hC2.2 y).1 hy).1,hV2⟩,by simp⟩,hJx3⟩⟩
theorem jdD (F:Fence) (n:Nat) (h7:F.fn 272) (hro:F.round=none) (hn:1≤n) (Bm b nn:Nat) (D0:DataW Unit) (w:World) (hBm:Bm<w.heap.size)
 (hm:w.cell? ⟨Bm,0,none⟩=some (.map (some b))) (hown:w.ownsMap Tryz.prog 9 (plainElem Tryz.prog 3) b nn D0) :
 SeqStopsK F n Tryz.prog 272 #[.pointer (some ⟨Bm,0,none⟩)] (fun c:Int=>#[Value.int .i64 c]) KeepsWalks (fun xs=>∃ps,jjM D0 ps∧xs=ps.map (·.2)) (fun pre=>∃ps,jk0 D0 ps∧pre=ps.map (·.2)) (Maps.size D0) w:=fun l J Jx W hW hJ _ hY h0=>by
 have hown':W.ownsMap Tryz.prog 9 (plainElem Tryz.prog 3) b nn D0:=by
  have hbl:=hown.lt;obtain⟨es,clock,hb,Ft,hs,hD⟩:=hown;exact⟨es,clock,(hW.block b hbl).trans hb,Ft,hs,hD⟩
 exact jft F n h7 hro hn l Bm b nn D0 J Jx hY W hJ ((hW.cell (p:=⟨Bm,0,none⟩) hBm).trans hm) hown' h0
theorem jfX (mb:Option Nat) (w:World) :
 Calls Tryz.prog 256 #[.map mb] w fun e w'=>e=.returned (.func (.func 272) #[] #[.pointer (some ⟨w.heap.size,0,none⟩)])∧w'=w.alloc (.cells #[.map mb] 321):=by
 have hmf:=hmfL (P:=Tryz.prog);go_enter Tryz.func256,Tryz.ntmps256;go_wp2;go_ret;exact⟨rfl,rfl⟩
theorem jh9:(Tryz.prog.info? 3).map (fun i=>(i.zero,i.size,i.bytes))=some (some (.int .i64 0),1,8):=by kernel_rfl
theorem jeG {W W':World} (h:KeepsOthers W W'):KeepsWalks W W':=⟨h.size,fun k o hk hw=>h.same k o hk (by cases o<;>first | rfl | cases hw)⟩
def jg2 (base:Nat) (W:World) (v:Value) (zs:List Int):Prop:=W.ownsRow base 3 1 v zs.length (zs.map (Value.int .i64))∧(v=.slice none 0 0↔zs=[])
theorem jdz (F:Fence) (n:Nat) (h3:F.fn 271) (h5:F.fn 272) (hro:F.round=none) (hn:3≤n) (Bs b nn:Nat) (D0:DataW Unit) (hlen:Maps.size D0≤1000000) (w:World)
 (hBs:Bs<w.heap.size) (hcs:w.cell? ⟨Bs,0,none⟩=some (.map (some b))) (hown:w.ownsMap Tryz.prog 9 (plainElem Tryz.prog 3) b nn D0) :
 CallsIn F n Tryz.prog 271 #[.slice none 0 0,.func (.func 272) #[] #[.pointer (some ⟨Bs,0,none⟩)]] w fun e W'=>∃v xs,e=.returned v∧(∃ps,jjM D0 ps∧xs=ps.map (·.2))∧jg2 w.heap.size W' v xs∧Below w.heap.size w W':=by
 have h1:1≤n:=by omega
 obtain⟨i0,hi,hz0,hz1,hz2⟩:=info_parts jh9;refine callsIn_of_wp_marks Tryz.func271 rfl h3 ?_ hro;simp only[Tryz.ntmps271,List.size_toArray,List.length_cons,List.length_nil,Nat.reduceAdd,Nat.reduceSub,Array.replicate_succ,Array.replicate_zero,List.push_toArray,List.append_toArray,List.nil_append,List.cons_append];gi_wp2
 have bO:=Boxed.new w 193 (.slice none 0 0);have hB0:Below w.heap.size w (w.alloc (.cells #[.slice none 0 0] 193)):=(Below.refl _ w).alloc (Nat.le_refl _) _;have hown0:(w.alloc (.cells #[.slice none 0 0] 193)).ownsMap Tryz.prog 9 (plainElem Tryz.prog 3) b nn D0:=by
  have hbl:=hown.lt;obtain⟨es,clock,hb,Ft,hs,hD⟩:=hown;exact⟨es,clock,(Below.heap_alloc _ _ b hbl).trans hb,Ft,hs,hD⟩
 refine wpIn_rangeFunc_ownG hro h1 (gf:=272) (lb:=#[.pointer (some ⟨Bs,0,none⟩)]) rfl h5 (enters_of Tryz.func272 (by kernel_rfl) rfl)
  (jdD F (n-1) h5 hro (by omega) Bs b nn D0 _ (by simp;omega) ((hB0.cell (p:=⟨Bs,0,none⟩) hBs).trans hcs) hown0) (fun h k=>h.trans k) (fun W l o o' _ h _ hw=>KeepsWalks.putObj o' h hw) (Below.refl _ _) (fun _=>rfl)
  (fun pre W=>(∃v,Boxed W w.heap.size 193 v∧W.ownsRow w.heap.size 3 1 v pre.length (pre.map (Value.int .i64))∧(v=.slice none 0 0↔pre=[]))∧Below w.heap.size w W)
  (fun _ _ _=>False)
  (OwnFrom.and (Own.from (holdsRow_own w.heap.size w.heap.size 193 3 1 (fun pre=>pre.length) (fun pre=>pre.map (Value.int .i64)) (fun pre v=>v=.slice none 0 0↔pre=[])) _) (ownFrom_below (Nat.le_refl _) (by simp)))
  (fun _ _ _ _ _ hs _ _=>hs)
  ⟨⟨_,bO,World.ownsRow_nil _ _ _ _,by simp⟩,hB0⟩
  (fun x=>{ tmps:=#[.slice none 0 0,.func (.func 272) #[] #[.pointer (some ⟨Bs,0,none⟩)],.pointer (some ⟨w.heap.size,0,none⟩),undef,.slice none 0 0,.int .i64 x,.func (.func 272) #[] #[.pointer (some ⟨Bs,0,none⟩)],.int .i64 x,undef,undef,undef,undef,undef],defers:=[] }) ?assign ?body ?done ?stop
 case assign =>
  intro l x W K hK;gi_wp2
  exact hK
 case body =>
  rintro l pre x W ⟨⟨v,hv,hrow,hnil⟩,hB⟩ hlt;have hc:=hv.cell;gi_wp2_with (gi_at_builtin;refine wpListIn_append_own _ rfl _ _ 193 rfl w.heap.size 3 i0 (.int .i64 0) 1 8 Tryz.underlying193 hi hz0 hz1 hz2 rfl (by decide) _ _ _ rfl (hrow.alloc _) ⟨W.heap.size,0,none⟩ 1 1 [.int .i64 x] rfl rfl (cell_one_new _ _ _) (by simp[Value.oneCell']) (by unfold maxLen;omega) (by omega) (by have:=hB.size;simp;omega) ?_;intro v' w1 hown' hgrow _;obtain⟨g',cap',rfl⟩:=ownsRow_succ hown';obtain⟨hv1,hv2,hr2,hk2,hb2⟩:=hv.appended (by decide) hrow hB.size (Nat.le_refl _) hown' hgrow;have hc1:=hv1.cell;have hf1:=hv1.frozen)
  exact⟨hk2.from _,jeG hk2,⟨_,hv2,by simpa using hr2,by simp⟩,hB.trans hb2⟩
 case done =>
  rintro D ys W hD hS ⟨⟨v,hv,hrow,hnil⟩,hB⟩ hK;have hc:=hv.cell;gi_wp2
  refine⟨by simp,.inl ⟨_,_,rfl,run_takeDeferred hK,?_⟩⟩;exact⟨_,results_tmp rfl _ _ _,v,ys,rfl,hS,⟨ownsRow_putObj hrow _ hK rfl,hnil⟩,hB.trans (belowK_b (w:=w) (Nat.le_refl _) W D _ _ (by simp at hD;omega) hK rfl rfl)⟩
 case stop =>
  rintro D c pre W _ _ h _;exact h.elim
theorem jeC (Bs b nn:Nat) (f:ByteArray→Int) (dom:ByteArray→Bool) (w:World) (hn:nn≤1000000) (hBs:Bs<w.heap.size) (hcs:w.cell? ⟨Bs,0,none⟩=some (.map (some b))) (h:zg w b nn f dom) :
 Calls Tryz.prog 255 #[.func (.func 272) #[] #[.pointer (some ⟨Bs,0,none⟩)]] w fun e w'=>∃v zs,e=.returned v∧jg2 w.heap.size w' v zs∧(∀x,dom x=true→f x ∈ zs)∧(∀z ∈ zs,∃x,dom x=true∧z=f x)∧zs.length≤1000000∧Kept w w':=by
 obtain⟨D,h1,h2,h3,h4⟩:=h;have hsz:Maps.size D≤1000000:=Nat.le_trans h1.size_le hn;have HA:=lH (jdz Fence.wide 3 trivial trivial rfl (by omega) Bs b nn D hsz w hBs hcs h1);have HC:=lH (show Calls Tryz.prog 271 #[.slice none 0 0,.func (.func 272) #[] #[.pointer (some ⟨Bs,0,none⟩)]] w _ from callsIn_wide.1 HA.out);clear h1 hcs;go_enter Tryz.func255,Tryz.ntmps255;go_wp2_with fail
 refine HC.out.mono ?_;rintro e w1 ⟨v,xs,rfl,⟨ps,hps,rfl⟩,ho,hb⟩;obtain⟨HO,HB,HP⟩:=lH3 ho hb hps;clear ho hb hps;have key:∀y:List UInt8,(⟨⟨y⟩⟩:ByteArray).data.toList=y:=fun _=>rfl;have hl:(ps.map (·.2)).length≤1000000:=by
  rw[List.length_map];have h5:ps.length=(strKeys D).length:=by rw[←HP.out.1.length_eq,List.length_map]
  have h6:(strKeys D).length≤Maps.size D:=by
   cases D<;>first | exact Nat.zero_le _ | (show (List.filterMap _ _).length≤_;exact List.length_filterMap_le _ _) | simp[strKeys,Maps.size]
  omega
 go_wp2;go_ret;refine⟨v,_,rfl,HO.out,fun x hx=>?_,fun z hz=>?_,hl,HB.out⟩
 · have hm:=(HP.out.2.1 x.data.toList).2 ((h3 x).trans hx);obtain⟨p,hp,e⟩:=List.mem_map.1 hm;have hv:=HP.out.2.2 p hp (.lit (.int .i64 0));rw[e] at hv;have:=(h2 x).symm.trans hv;injection this with this;injection this with _ this;exact List.mem_map.2 ⟨p,hp,this.symm⟩
 · obtain⟨p,hp,rfl⟩:=List.mem_map.1 hz;refine⟨⟨⟨p.1⟩⟩,?_,?_⟩
   · rw[←h3];exact(HP.out.2.1 p.1).1 (List.mem_map_of_mem hp)
   · have hv:=HP.out.2.2 p hp (.lit (.int .i64 0));have:=(h2 ⟨⟨p.1⟩⟩).symm.trans hv;injection this with this;injection this with _ this;exact this.symm
end Go.Proofs.YtibepooajeakfaaGreat
namespace Go.Proofs.YtibepooajeakfaaGreat
open Go.RowKit
theorem jg2.cells {base:Nat} {W:World} {v:Value} {zs:List Int} (h:jg2 base W v zs) (h0:zs≠[]):∃g cap,v=.slice (some ⟨g,0,none⟩) zs.length cap∧∀j,j<zs.length→W.cell? ⟨g,0+j,none⟩=some (.int .i64 (zs.getD j 0)):=by
 obtain⟨⟨hl,h⟩,-⟩:=h;rcases h with ⟨-,hz⟩ | ⟨g,cap,cur,rfl,-,hh,-,-,-,ht⟩
 · exact absurd (List.eq_nil_of_length_eq_zero hz) h0
 · refine⟨g,cap,rfl,fun j hj=>?_⟩;rw[Nat.zero_add,Lib.cell_of_heap hh];have h1:(cur.toList.take (zs.length*1))[j]?=some (.int .i64 (zs.getD j 0)):=by
    rw[ht,List.getElem?_map,List.getElem?_eq_getElem hj];simp[List.getD,hj]
   rw[List.getElem?_take_of_lt (by omega)] at h1;simpa using h1
theorem foldl_min:∀(l:List Int) (m:Int),l.foldl min m≤m∧(∀z ∈ l,l.foldl min m≤z)∧(l.foldl min m=m∨l.foldl min m ∈ l)
 | [],m=>⟨Int.le_refl _,fun z h=>absurd h (by simp),.inl rfl⟩
 | x::t,m=>by
  obtain⟨h1,h2,h3⟩:=foldl_min t (min m x);rw[List.foldl_cons];refine⟨by omega,fun z hz=>?_,?_⟩
  · rcases List.mem_cons.1 hz with rfl | hz
    · omega
    · exact h2 z hz
  · rcases h3 with h3 | h3
    · by_cases g:m≤x
      · exact .inl (by rw[h3];omega)
      · exact .inr (by rw[h3,show min m x=x by omega];simp)
    · exact .inr (by simp[h3])
theorem jks {zs:List Int} (h:zs≠[]):(∀z ∈ zs,Lib.minOf zs≤z)∧Lib.minOf zs ∈ zs:=by
 cases zs with
 | nil=>exact absurd rfl h
 | cons x t =>
  obtain⟨h1,h2,h3⟩:=foldl_min (x::t) x;refine⟨h2,?_⟩;show (x::t).foldl min x ∈ _;rcases h3 with h3 | h3
  · rw[h3];simp
  · exact h3
theorem jiz {w:World} {a:Option Addr} {m:Nat} {nodes:List Nod} (h:jt w a m nodes) {key name d:ByteArray} (hd:domV key name nodes=some d):d.size≤maxLen:=by
 have:=jbd hd;unfold Zm at this;rw[List.any_eq_true] at this;obtain⟨n,hn,he⟩:=this;have he:zO n.labels key=some d:=by simpa using he
 obtain⟨k,hk,e⟩:=List.getElem_of_mem hn;rcases h.2.2 with h0 | ⟨b,off,-,-,hc⟩
 · rw[h.1] at hk;omega
 · obtain⟨_,_,_,_,_,_,_,_,_,_,_,_,_,_,hN⟩:=hc k n (by rw[List.getElem?_eq_getElem hk,e]);exact jdo hN.labels.fine he
theorem jhT (s1 s2 s3 a1 a2 a3 a4:Option Addr) (n1 e1 n2 e2 n3 e3 m1 c1 m2 c2 m3 c3 m4 c4:Nat) (p:Pd) (s:Clu) (name:ByteArray) (w:World) (hn:jt w s1 n1 s.nodes) (hp:jC w s2 n2 s.pods) (hb1:n1≤100000) (hb2:n2≤100000) :
 Calls Tryz.prog 228 #[.agg #[.slice s1 n1 e1,.slice s2 n2 e2,.slice s3 n3 e3],jw p (.slice a1 m1 c1) (.slice a2 m2 c2) (.slice a3 m3 c3) (.slice a4 m4 c4),.string name] w fun e w'=>(∀d,domV p.key name s.nodes=some d→e=.returned (.int .i64 (YO p s d)))∧(domV p.key name s.nodes=none→e=.panicked [zo 3])∧Kept w w':=by
 obtain⟨Z,hZ⟩:=eX ((w.alloc (.cells #[.slice s1 n1 e1,.slice s2 n2 e2,.slice s3 n3 e3] 26)).alloc (.cells #[.string p.name,.string p.owner,.int .i64 p.prio,.slice a1 m1 c1,.slice a2 m2 c2,.slice a3 m3 c3,.slice a4 m4 c4,.string p.key,.int .i64 p.most,.string p.node,.bool p.hold] 52))
 have hkz:Kept w Z:=by rw[←hZ];exact jm _ _ _
 have Vs:=lH (jb w (.slice s1 n1 e1) [.slice s2 n2 e2,.slice s3 n3 e3] 26 Z (by rw[←hZ];exact ja _ _));have Vt:=lH (show je (w.heap.size+1) [.string p.name,.string p.owner,.int .i64 p.prio,.slice a1 m1 c1,.slice a2 m2 c2,.slice a3 m3 c3,.slice a4 m4 c4,.string p.key,.int .i64 p.most,.string p.node,.bool p.hold] Z by
  have dd:=jb (w.alloc (.cells #[.slice s1 n1 e1,.slice s2 n2 e2,.slice s3 n3 e3] 26)) (.string p.name) [.string p.owner,.int .i64 p.prio,.slice a1 m1 c1,.slice a2 m2 c2,.slice a3 m3 c3,.slice a4 m4 c4,.string p.key,.int .i64 p.most,.string p.node,.bool p.hold] 52 Z (by rw[hZ];exact Kept.refl _);rw[World.size_alloc] at dd;exact dd)
 obtain⟨HN,HP,VP,VZ,K⟩:=lH5 hn hp hn.1 hp.1 hkz;clear hn hp hkz;unfold jw;go_enter Tryz.func228,Tryz.ntmps228;go_upto_region 1 with fail
 try rw[hZ]
 clear hZ;obtain⟨y0,y1,y2⟩:=Vs.out.at3;have r7:=Vt.out.at_ 7 _ rfl;go_wp2_with fail
 refine(jeu s1 s2 s3 n1 e1 n2 e2 n3 e3 s.nodes p.key name Z (HN.out.kept K.out) hb1).mono ?_;rintro e w1 ⟨h1,h2,kk⟩;obtain⟨Vs,Vt,K⟩:=lH3 (Vs.out.kept kk) (Vt.out.kept kk) (K.out.trans kk);clear kk y0 y1 y2 r7
 cases ho:domV p.key name s.nodes with
 | none =>
  obtain rfl:=h2 ho;have HO:=lH ho;clear h1 h2 ho;go_wp2;exact⟨rfl,(fun d e=>by rw[HO.out] at e;cases e),(fun _=>rfl),K.out⟩
 | some d =>
  obtain rfl:=h1 d ho;have HO:=lH ho;have hds:=jiz HN.out ho;have TZ:=lH hds;have TN:=lH (jbd ho);clear h1 h2 ho hds;obtain⟨y0,y1,y2⟩:=Vs.out.at3;obtain⟨r0,r1,r2,r3,r4,r5,r6,r7,r8,r9,r10⟩:=Vt.out.at11;go_wp2_with fail
  have TA:=jiM s1 s2 s3 a1 a2 a3 a4 n1 e1 n2 e2 n3 e3 m1 c1 m2 c2 m3 c3 m4 c4 p s.nodes s.pods w1 (HN.out.kept K.out) (HP.out.kept K.out) hb1 hb2;unfold jw at TA;refine TA.mono ?_;clear TA;rintro e w2 ⟨mc,nn,rfl,hM,hmc,hnn,kk⟩;obtain⟨HM,Nh,K,Tf⟩:=lH4 hM K.out.size (K.out.trans kk) hmc;have KS:=lH K.out.size;clear kk hM hmc y0 y1 y2 r0 r1 r2 r3 r4 r5 r6 r7 r8 r9 r10;have hb9:inD p s.pods d s.nodes≤100000*100000:=Nat.le_trans (jdX _ _ _ _) (Nat.mul_le_mul (by rw[VP.out];omega) (by rw[VZ.out];omega));have hl1:=HM.out.look d TZ.out;obtain⟨x1,hx1⟩:=eX (inD p s.pods d s.nodes)
  have Um:=lH hx1;rw[hx1] at hl1 hb9;obtain⟨x3,hx3⟩:∃z:Nat,x1+1=z:=⟨_,rfl⟩
  have hx4:(x1:Int)+1=(x3:Int):=by omega
  have hx5:IntKind.i64.wrap (x3:Int)=(x3:Int):=IntWalk.i64_in _ (by omega);obtain⟨w4,hput,hM4,hG4⟩:=HM.out.put (by unfold maxLen;omega) d TZ.out (x3:Int) (by omega);have UD:=lH hx3;have Ty:=lH (show zg w4 mc (nn+1) (fun e=>((inD p s.pods e s.nodes+(if e=d then 1 else 0):Nat):Int)) (fun e=>Zm p.key e s.nodes) from hM4.eq (fun e=>by
   by_cases he:e=d
   · subst he;rw[if_pos rfl,if_pos rfl,Um.out,UD.out]
   · rw[if_neg he,if_neg he];rfl) (fun e=>by
   by_cases he:e=d
   · subst he;rw[if_pos rfl,TN.out]
   · rw[if_neg he]))
  have Tw:=lH hG4;have hb10:x3≤100000*100000+1:=by omega
  have T0:=lH hb10;have Ni:=lH hnn;clear hM4 hG4 hx1 hx3 hb9 hb10;go_upto_region 4 with fail
  clear hl1 hput hx4 hx5;have J:=lH (Kept.drew w4);refine wp_region_held_drew (S:=fun W=>zg W mc (nn+1) (fun e=>((inD p s.pods e s.nodes+(if e=d then 1 else 0):Nat):Int)) (fun e=>Zm p.key e s.nodes)) (by kernel_rfl) (Ty.out.kept J.out) (fun hHeld=>?_);refine tkJ 0 ?_;refine tkJ 1 ?_;refine tkH 2 (v:=?_) (y:=Or.inl ⟨by rfl,(by intro W hSw;have hl:=hSw.look d TZ.out;go_simp<;>with_reducible rfl)⟩) (h:=?_);try simp only[nP]
  refine tkJ 3 ?_;try simp only[nP]
  skip;refine rd1 4 fun K9 Ky=>?_;go_simp;refine(jfX (some mc) _).mono ?_;rintro e w5 ⟨rfl,rfl⟩;have kq:=ja w4.drew (.cells #[.map (some mc)] 321);obtain⟨w5,hw5⟩:=eX (w4.drew.alloc (.cells #[.map (some mc)] 321))
  have hcs:je w4.drew.heap.size [.map (some mc)] w5:=jb w4.drew (.map (some mc)) [] 321 w5 (by rw[hw5];exact Kept.refl _);rw[hw5] at kq ⊢;obtain⟨bs,hbs⟩:=eX (w4.drew.heap.size)
  rw[hbs] at hcs ⊢;have RF:=lH hcs;have J:=lH (J.out.trans kq);clear hcs kq hw5 hbs;refine Ky.out _ _ (Ty.out.kept J.out) (fun _=>?_);clear Ky K9;try simp only[nP]
  refine rd1 5 fun K9 Ky=>?_;go_simp;refine(jeC bs mc (nn+1) _ _ w5 (by have:=Ni.out;omega) RF.out.lt (RF.out.at_ 0 _ rfl) (Ty.out.kept J.out)).mono ?_;rintro e w6 ⟨v,zs,rfl,ho,hz1,hz2,hzl,kk⟩;have J:=lH (J.out.trans kk);have hzd:=hz1 d TN.out;have hz0:zs≠[]:=fun e=>by rw[e] at hzd;cases hzd
  obtain⟨g,cap,rfl,hc⟩:=ho.cells hz0;obtain⟨HC,Td,Nj,RG,Nk⟩:=lH5 hc hz1 hz2 hz0 hzl;clear kk ho hc hz1 hz2 hz0 hzd hzl;refine Ky.out _ _ (Ty.out.kept J.out) (fun _=>?_);clear Ky K9;try simp only[nP]
  refine rd1 6 fun K9 Ky=>?_;go_simp;refine(Tryz.slices_Min_int g 0 zs.length cap zs w6 (List.length_pos_iff.2 RG.out) (Nat.le_refl _) (by have:=Nk.out;omega) HC.out).mono ?_;rintro e w7 ⟨rfl,rfl⟩;rw[List.take_length];refine Ky.out _ _ (Ty.out.kept J.out) (fun _=>?_);clear Ky K9;try simp only[nP]
  obtain⟨hm1,hm2⟩:=jks RG.out;obtain⟨c,hcd,hce⟩:=Nj.out _ hm2;obtain⟨zm,hzm⟩:∃z:Nat,inD p s.pods c s.nodes+(if c=d then 1 else 0)=z:=⟨_,rfl⟩
  rw[hzm] at hce;rw[hce] at hm1 ⊢;have HL:=lH (jjh (p:=p) (pods:=s.pods) (nodes:=s.nodes) (d:=d) (m:=inD p s.pods d s.nodes+1) (z:=zm) TN.out rfl (fun e he=>by have:=hm1 _ (Td.out e he);omega) ⟨c,hcd,hzm.symm⟩);have hle:zm≤x3:=by have h:=hm1 _ (Td.out d TN.out);rw[if_pos rfl,Um.out] at h;have:=UD.out;omega
  have Uj:=lH (show YO p s d=(x3:Int)-(zm:Int) by unfold YO;rw[HL.out,Um.out,UD.out]);have hx6:(inD p s.pods d s.nodes+(if d=d then 1 else 0))=x3:=by rw[if_pos rfl,Um.out,UD.out]
  try rw[hx6]
  obtain⟨y,hy⟩:∃y:Nat,x3-zm=y:=⟨_,rfl⟩
  have hy1:(x3:Int)-(zm:Int)=(y:Int):=by omega
  have hy2:IntKind.i64.wrap (y:Int)=(y:Int):=IntWalk.i64_in _ (by have:=T0.out;omega);clear hm1 hm2 hcd hce hzm;refine tkJ 7 ?_;refine tkJ 8 ?_;try simp only[nP]
  refine wpAnyH_done (by kernel_rfl) ?_ _;go_wp2;go_ret;refine⟨fun d9 e9=>?_,fun e9=>?_,(jg.below K.out Tw.out fun i e=>by have:=Tf.out;have:=Nh.out;omega).trans J.out⟩
  · rw[HO.out] at e9
    cases e9
    rw[Uj.out,hy1];have hv:IntKind.i64.wrap (((inD p s.pods d s.nodes:Nat):Int)+1-(zm:Int))=(y:Int):=by
     rw[Um.out,show (x1:Int)+1-(zm:Int)=(y:Int) by have:=UD.out;omega];exact hy2
    exact congrArg (fun z=>Ending.returned (.int .i64 z)) hv
  · rw[HO.out] at e9
    cases e9
open Go.RowKit Go.Shelf
def SkR (o:Option Int) (w:World) (e:Ending) (w':World):Prop:=(∀z,o=some z→e=.returned (.int .i64 z))∧(o=none→e=.panicked [zo 3])∧Kept w w'
theorem jaK (B:Nat) (q:Nat) (x y:Int) (w:World) (hq:w.cell? ⟨q,0,none⟩=some (.int .i64 y)) (hzq:w.frozen? ⟨q,0,none⟩=false) (hBq:B≤q) :
 CallsD Tryz.prog 251 #[.pointer (some ⟨q,0,none⟩)] (.panicking [zo x]) w fun e u' w' =>
  e=.returned (.tuple #[])∧u'=.panicking [{ zo x with recovered:=true }]∧w'=w.setCell ⟨q,0,none⟩ (.int .i64 x)∧w'.cell? ⟨q,0,none⟩=some (.int .i64 x)∧Below B w w':=by
 have hta:∀W,(Instr.typeAssert (.iface 69 (.int .i64 x)) 20 69 false).run Tryz.prog W=.ok (.int .i64 x) W:=fun _=>by kernel_rfl
 refine callsD_of_wpS Tryz.func251 rfl fun c₀ cs hu=>?_;apply wpS_seq;apply wpS_region;simp[wpOpsS,go_sem,recoverD,hu,Tryz.ntmps251,Exit.thenS];apply wpS_seq;apply wpS_region;simp[wpOpsS,go_sem,recoverD,Exit.thenS];refine wpS_cond (t:=true) (by simp[Act.eval,Array.replicate]) ?_;simp only[if_true];refine wpS_of_wp ?_;simp[Array.replicate];go_wp2;simp[bodyPostS,results,Tryz.results251];exact⟨World.cell?_setCell_same' _ _ _ (by rw[hq];rfl),(Below.refl B w).setCell (p:=⟨q,0,none⟩) hBq _⟩
theorem je9 (q:Addr) (w:World) :
 CallsD Tryz.prog 251 #[.pointer (some q)] .returning w fun e u' w'=>e=.returned (.tuple #[])∧u'=.returning∧w'=w:=by
 refine callsD_of_wpS Tryz.func251 rfl fun c₀ cs hu=>?_;apply wpS_seq;apply wpS_region;simp[wpOpsS,go_sem,recoverD,hu,Tryz.ntmps251,Exit.thenS];apply wpS_seq;apply wpS_region;simp[wpOpsS,go_sem,recoverD,hu,Exit.thenS];refine wpS_cond (t:=false) (by simp[Act.eval,Array.replicate]) ?_;simp only[Bool.false_eq_true,if_false];refine wpS_of_wp (wp_skip ?_)
 cases c₀
 simp_all [bodyPostS,results,Tryz.results251]
theorem jfy (Q1 Q2 Q3:Nat) (o:Option Int) (w:World) (hk:∀W,Kept w W→Calls Tryz.prog 227 #[.pointer (some ⟨Q1,0,none⟩),.pointer (some ⟨Q2,0,none⟩),.pointer (some ⟨Q3,0,none⟩)] W (SkR o W)) :
 Calls Tryz.prog 226 #[.func (.func 227) #[] #[.pointer (some ⟨Q1,0,none⟩),.pointer (some ⟨Q2,0,none⟩),.pointer (some ⟨Q3,0,none⟩)]] w fun e w'=>e=.returned (.tuple #[.int .i64 (o.getD 0),.int .i64 (if o.isSome=true then 0 else 3)])∧Kept w w':=by
 have hmf:=hmfL (P:=Tryz.prog);obtain⟨Z,hZ⟩:=eX (w.alloc (.cells #[.int .i64 0] 69))
 have hkz:Kept w Z:=by rw[←hZ];exact ja _ _
 obtain⟨HK,Nl,TO⟩:=lH3 hkz (jb w (.int .i64 0) [] 69 Z (by rw[hZ];exact Kept.refl _)) (hk Z hkz);clear hk hkz;go_enter_defers Tryz.func226,Tryz.ntmps226
 go_wp2_with fail
 try rw[hZ]
 refine TO.out.mono ?_;rintro e1 w1 ⟨h0,h1,hb⟩;have KK:=lH (HK.out.trans hb);have Uy:=lH (Nl.out.kept hb);have ze:=Uy.out.at_ 0 _ rfl;have zf:=Uy.out.free 0
 cases o with
 | some z =>
  obtain rfl:=h0 z rfl;clear h0 h1 hb hZ;go_wp2_with fail
  have FE:=lH (Uy.out.set (j:=0) (u:=.int .i64 0) (by simp));have KF:=lH (show Kept w (w1.setCell ⟨w.heap.size,0,none⟩ (.int .i64 0)) from KK.out.setCell (p:=⟨w.heap.size,0,none⟩) (Nat.le_refl _) _);obtain⟨WF,hWF⟩:=eX (w1.setCell ⟨w.heap.size,0,none⟩ (.int .i64 0))
  rw[hWF] at FE KF ⊢;have fe:=FE.out.at_ 0 _ rfl;clear hWF ze zf;refine leaves_cons (f:=251) (args:=#[.pointer (some ⟨w.heap.size,0,none⟩)]) (by simp) (by simp[go_sem]) ?_;refine(je9 ⟨w.heap.size,0,none⟩ _).mono ?_;rintro e u' w'' ⟨rfl,rfl,rfl⟩;simp[Leaves,settle,results,Tryz.results226,go_sem,fe];exact KF.out
 | none =>
  obtain rfl:=h1 rfl;clear h0 h1 hb hZ;go_wp2_with fail
  refine leaves_cons (f:=251) (args:=#[.pointer (some ⟨w.heap.size,0,none⟩)]) (by simp) (by simp[go_sem]) ?_;refine(jaK w.heap.size w.heap.size 3 0 _ ze zf (Nat.le_refl _)).mono ?_;rintro e u' w'' ⟨rfl,rfl,rfl,q2,q3⟩;have KF:=lH (show Kept w _ from Below.trans KK.out q3);obtain⟨WF,hWF⟩:=eX (w1.setCell ⟨w.heap.size,0,none⟩ (.int .i64 3))
  rw[hWF] at q2 KF ⊢;clear hWF q3 ze zf;simp[Leaves,settle,results,Tryz.results226,go_sem,q2];exact KF.out
theorem jiH (Q1 Q2 Q3:Nat) (s1 s2 s3 a1 a2 a3 a4:Option Addr) (n1 e1 n2 e2 n3 e3 m1 c1 m2 c2 m3 c3 m4 c4:Nat) (p:Pd) (s:Clu) (name:ByteArray) (w:World) (hq1:je Q1 [.slice s1 n1 e1,.slice s2 n2 e2,.slice s3 n3 e3] w) (hq2:je Q2 [.string p.name,.string p.owner,.int .i64 p.prio,.slice a1 m1 c1,.slice a2 m2 c2,.slice a3 m3 c3,.slice a4 m4 c4,.string p.key,.int .i64 p.most,.string p.node,.bool p.hold] w) (hq3:je Q3 [.string name] w) (hn:jt w s1 n1 s.nodes) (hp:jC w s2 n2 s.pods) (hb1:n1≤100000) (hb2:n2≤100000) :
 Calls Tryz.prog 227 #[.pointer (some ⟨Q1,0,none⟩),.pointer (some ⟨Q2,0,none⟩),.pointer (some ⟨Q3,0,none⟩)] w (SkR ((domV p.key name s.nodes).map (YO p s)) w):=by
 have HS:=lH (jhT s1 s2 s3 a1 a2 a3 a4 n1 e1 n2 e2 n3 e3 m1 c1 m2 c2 m3 c3 m4 c4 p s name w hn hp hb1 hb2);unfold jw at HS;have y0:=hq1.at_ 0 _ rfl;have y1:=hq1.at_ 1 _ rfl;have y2:=hq1.at_ 2 _ rfl;have r0:=hq2.at_ 0 _ rfl;have r1:=hq2.at_ 1 _ rfl;have r2:=hq2.at_ 2 _ rfl;have r3:=hq2.at_ 3 _ rfl;have r4:=hq2.at_ 4 _ rfl;have r5:=hq2.at_ 5 _ rfl;have r6:=hq2.at_ 6 _ rfl;have r7:=hq2.at_ 7 _ rfl;have r8:=hq2.at_ 8 _ rfl;have r9:=hq2.at_ 9 _ rfl;have r10:=hq2.at_ 10 _ rfl;have z0:=hq3.at_ 0 _ rfl;clear hq1 hq2 hq3 hn hp;go_enter Tryz.func227,Tryz.ntmps227;go_wp2_with fail
 refine HS.out.mono ?_;rintro e w1 ⟨h1,h2,kk⟩;have K:=lH kk;clear kk HS y0 y1 y2 r0 r1 r2 r3 r4 r5 r6 r7 r8 r9 r10 z0
 cases ho:domV p.key name s.nodes with
 | none =>
  obtain rfl:=h2 ho;have HO:=lH ho;clear h1 h2 ho;go_wp2;exact⟨rfl,(fun z e=>by cases e),(fun _=>rfl),K.out⟩
 | some d =>
  obtain rfl:=h1 d ho;have HO:=lH ho;clear h1 h2 ho;obtain⟨z,hz⟩:=eX (YO p s d)
  rw[hz];have HZ:=lH hz;clear hz;go_wp2;go_ret;exact⟨(fun y e=>by rw[HO.out] at e;cases e;exact congrArg (fun z=>Ending.returned (.int .i64 z)) HZ.out.symm),(fun e=>by rw[HO.out] at e;cases e),K.out⟩
theorem jkz (s1 s2 s3 a1 a2 a3 a4:Option Addr) (n1 e1 n2 e2 n3 e3 m1 c1 m2 c2 m3 c3 m4 c4:Nat) (p:Pd) (s:Clu) (name:ByteArray) (w:World) (hn:jt w s1 n1 s.nodes) (hp:jC w s2 n2 s.pods) (hb1:n1≤100000) (hb2:n2≤100000) :
 Calls Tryz.prog 194 #[.agg #[.slice s1 n1 e1,.slice s2 n2 e2,.slice s3 n3 e3],jw p (.slice a1 m1 c1) (.slice a2 m2 c2) (.slice a3 m3 c3) (.slice a4 m4 c4),.string name] w (Say (.tuple #[.int .i64 (Zi p s name).1,.bool (Zi p s name).2]) w):=by
 have hmf:=hmfL (P:=Tryz.prog);obtain⟨Y,hY⟩:=eX ((w.alloc (.cells #[.slice s1 n1 e1,.slice s2 n2 e2,.slice s3 n3 e3] 26)).alloc (.cells #[.string p.name,.string p.owner,.int .i64 p.prio,.slice a1 m1 c1,.slice a2 m2 c2,.slice a3 m3 c3,.slice a4 m4 c4,.string p.key,.int .i64 p.most,.string p.node,.bool p.hold] 52))
 have hky:Kept w Y:=by rw[←hY];exact jm _ _ _
 have hys:Y.heap.size=w.heap.size+2:=by rw[←hY];simp
 have hsb:=jb w (.slice s1 n1 e1) [.slice s2 n2 e2,.slice s3 n3 e3] 26 Y (by rw[←hY];exact ja _ _);have hpb:je (w.heap.size+1) [.string p.name,.string p.owner,.int .i64 p.prio,.slice a1 m1 c1,.slice a2 m2 c2,.slice a3 m3 c3,.slice a4 m4 c4,.string p.key,.int .i64 p.most,.string p.node,.bool p.hold] Y:=by
  have dd:=jb (w.alloc (.cells #[.slice s1 n1 e1,.slice s2 n2 e2,.slice s3 n3 e3] 26)) (.string p.name) [.string p.owner,.int .i64 p.prio,.slice a1 m1 c1,.slice a2 m2 c2,.slice a3 m3 c3,.slice a4 m4 c4,.string p.key,.int .i64 p.most,.string p.node,.bool p.hold] 52 Y (by rw[hY];exact Kept.refl _);rw[World.size_alloc] at dd;exact dd
 obtain⟨Z,hZ⟩:=eX (Y.alloc (.cells #[.string name] 9))
 have hkz:Kept Y Z:=by rw[←hZ];exact ja _ _
 have hnb:je (w.heap.size+2) [.string name] Z:=by
  have dd:=jb Y (.string name) [] 9 Z (by rw[hZ];exact Kept.refl _);rw[hys] at dd;exact dd
 have hYZ:((w.alloc (.cells #[.slice s1 n1 e1,.slice s2 n2 e2,.slice s3 n3 e3] 26)).alloc (.cells #[.string p.name,.string p.owner,.int .i64 p.prio,.slice a1 m1 c1,.slice a2 m2 c2,.slice a3 m3 c3,.slice a4 m4 c4,.string p.key,.int .i64 p.most,.string p.node,.bool p.hold] 52)).alloc (.cells #[.string name] 9)=Z:=by rw[hY];exact hZ
 obtain⟨Vs,Vt,Vz,K,HN,HP⟩:=lH6 (hsb.kept hkz) (hpb.kept hkz) hnb (hky.trans hkz) (hn.kept (hky.trans hkz)) (hp.kept (hky.trans hkz));clear hn hp hky hkz hys hsb hpb hnb hY hZ;obtain⟨t0,h0⟩:=eX ((p.key.toList==([]:List UInt8)))
 have HI:=lH (show zD p.key=t0 by rw[ZN,h0]);have r7:=Vt.out.at_ 7 _ rfl;unfold jw;go_enter Tryz.func194,Tryz.ntmps194
 cases t0 with
 | true =>
  have HV:=lH (show Zi p s name=(0,true) by unfold Zi;rw[if_pos HI.out]);go_wp2;try rw[hYZ]
  go_ret2
  rw[HV.out];exact⟨rfl,by first | exact K.out | (rw[hYZ];exact K.out)⟩
 | false =>
  have HC:=lH (jfy w.heap.size (w.heap.size+1) (w.heap.size+2) ((domV p.key name s.nodes).map (YO p s)) Z fun W k=>jiH w.heap.size (w.heap.size+1) (w.heap.size+2) s1 s2 s3 a1 a2 a3 a4 n1 e1 n2 e2 n3 e3 m1 c1 m2 c2 m3 c3 m4 c4 p s name W (Vs.out.kept k) (Vt.out.kept k) (Vz.out.kept k) (HN.out.kept k) (HP.out.kept k) hb1 hb2);have HV:=lH (show Zi p s name=(((domV p.key name s.nodes).map (YO p s)).getD 0,((domV p.key name s.nodes).map (YO p s)).isSome) by
   unfold Zi;rw[if_neg (by rw[HI.out];decide)]
   cases domV p.key name s.nodes<;>rfl)
  obtain⟨o,ho⟩:=eX ((domV p.key name s.nodes).map (YO p s))
  rw[ho] at HC HV;clear ho;go_upto_region 3 with fail
  try rw[hYZ]
  clear hYZ r7 h0;go_wp2_with fail
  refine HC.out.mono ?_;rintro e w1 ⟨rfl,kk⟩;have K:=lH (K.out.trans kk);clear kk
  cases o with
  | none =>
   have HW:=lH (show Zi p s name=(0,false) from HV.out);go_wp2;go_ret2
   rw[HW.out];exact⟨rfl,K.out⟩
  | some z =>
   have HW:=lH (show Zi p s name=(z,true) from HV.out);go_wp2;go_ret2
   rw[HW.out];exact⟨rfl,K.out⟩
theorem jfg (x:ByteArray) (u:Value) (h:u ∈ [Value.string x]):u.oneCell'=true:=qB x u h
theorem jiW:(Tryz.prog.info? 9).map (fun i=>(i.zero,i.size,i.bytes))=some (some (.string ByteArray.empty),1,16):=by kernel_rfl
def Zu (n:Nod):Bool:=decide (n.name.size≤50)&&(Vec.Yc n.cap&&(ZV n.labels&&JQ n.taints))
theorem jlF {n:Nod} (h:Zu n=true):zW n:=by
 unfold Zu at h;simp only[Bool.and_eq_true,decide_eq_true_eq] at h;obtain⟨_,h1,h2,h3⟩:=h;refine⟨?_,?_,?_⟩
 · unfold Vec.Yc at h1;simp only[Bool.and_eq_true,decide_eq_true_eq] at h1;omega
 · unfold ZV at h2;simp only[Bool.and_eq_true,decide_eq_true_eq] at h2;omega
 · have:=(jge h3).1;omega
theorem jhz (n:Nod) (v1 v2 v3:Value) (w:World) (h:zk w v1 v2 v3 n) :
 Calls Tryz.prog 58 #[zC n v1 v2 v3] w (Say (.bool (Zu n)) w):=by
 have HB:=lH (show ∀W,Kept (w.alloc (.cells #[.string n.name,v1,v2,v3,.bool n.cordon] 78)) W→W.cell? ⟨w.heap.size,0,none⟩=some (.string n.name)∧W.cell? ⟨w.heap.size,1,none⟩=some v1∧W.cell? ⟨w.heap.size,2,none⟩=some v2∧W.cell? ⟨w.heap.size,3,none⟩=some v3∧W.cell? ⟨w.heap.size,4,none⟩=some (.bool n.cordon) from fun W k=>(YS w _ _ _ _ _ 78 W k).1);have H:=lH (h.kept (ja w (.cells #[.string n.name,v1,v2,v3,.bool n.cordon] 78)));obtain⟨⟨nm,l1,l2,l3,cd⟩,hnn⟩:∃m,m=n:=⟨n,rfl⟩
 subst hnn;have hsz:nm.size≤maxLen:=h.size;unfold maxLen at hsz;obtain⟨b1,hb1⟩:=eX (Vec.Yc l1)
 obtain⟨b2,hb2⟩:=eX (ZV l2)
 obtain⟨b3,hb3⟩:=eX (JQ l3)
 obtain⟨HV,H1,H2,H3⟩:=lH4 (show Zu ⟨nm,l1,l2,l3,cd⟩=(decide (nm.size≤50)&&(b1&&(b2&&b3))) by unfold Zu;dsimp only;rw[hb1,hb2,hb3]) (Vec.jeO H.out.cap hb1) (show Calls Tryz.prog 109 #[v2] _ fun e w'=>e=.returned (.bool b2)∧_=w' by rw[←hb2];exact jeO H.out.labels) (show Calls Tryz.prog 110 #[v3] _ fun e w'=>e=.returned (.bool b3)∧_=w' by rw[←hb3];exact jmx H.out.taints);clear h hb1 hb2 hb3 H;dsimp only at HB H1 H2 H3;obtain⟨y0,y1,y2,y3,y4⟩:=HB.out _ (Kept.refl _);unfold zC;dsimp only;by_cases hs:nm.size≤50
 · have hs':decide (nm.size≤50)=true:=decide_eq_true hs;have hsi:(nm.size:Int)≤50:=by omega
   cases b1 with
   | false =>
    go_enter Tryz.func58,Tryz.ntmps58;go_wp2_with fail
    refine H1.out.mono ?_;rintro e w' ⟨rfl,rfl⟩;go_wp2;go_ret;exact⟨jf (by rw[HV.out,hs'];rfl),ja _ _⟩
   | true =>
    cases b2 with
    | false =>
     go_enter Tryz.func58,Tryz.ntmps58;go_wp2_with fail
     refine H1.out.mono ?_;rintro e w' ⟨rfl,rfl⟩;go_wp2_with fail
     refine H2.out.mono ?_;rintro e w' ⟨rfl,rfl⟩;go_wp2;go_ret;exact⟨jf (by rw[HV.out,hs'];rfl),ja _ _⟩
    | true =>
     go_enter Tryz.func58,Tryz.ntmps58;go_wp2_with fail
     refine H1.out.mono ?_;rintro e w' ⟨rfl,rfl⟩;go_wp2_with fail
     refine H2.out.mono ?_;rintro e w' ⟨rfl,rfl⟩;go_wp2_with fail
     refine H3.out.mono ?_;rintro e w' ⟨rfl,rfl⟩;go_wp2;go_ret;exact⟨jf (by rw[HV.out,hs'];cases b3<;>rfl),ja _ _⟩
 · have hs':decide (nm.size≤50)=false:=decide_eq_false hs;have hsi:(50:Int)<(nm.size:Int):=by omega
   go_enter Tryz.func58,Tryz.ntmps58;go_wp2;go_ret;exact⟨jf (by rw[HV.out,hs'];rfl),ja _ _⟩
theorem jle {v:Value} {n:Nod} {b:Bool} {w:World} (h:jbe w v n) (hb:Zu n=b):Calls Tryz.prog 58 #[v] w (Say (.bool b) w):=by
 subst hb;obtain⟨v1,v2,v3,rfl,h⟩:=h;exact jhz n v1 v2 v3 w h
theorem jhb {l:PL} (h:ZV l=true):l.length≤20∧∀x ∈ l,x.1.size≤50∧x.2.size≤50:=by
 unfold ZV at h;simp only[Bool.and_eq_true,decide_eq_true_eq,List.all_eq_true] at h;refine⟨h.1,fun x hx=>?_⟩;have:=h.2 x hx;unfold YD at this;simpa only[Bool.and_eq_true,decide_eq_true_eq] using this
theorem jg8 {l:TL} (h:Z0 l=true):l.length≤20∧∀x ∈ l,x.2.1.size≤50∧x.2.2.size≤50:=by
 unfold Z0 at h;simp only[Bool.and_eq_true,decide_eq_true_eq,List.all_eq_true] at h;refine⟨h.1,fun x hx=>?_⟩;have:=h.2 x hx;unfold Yq at this;simpa only[Bool.and_eq_true,decide_eq_true_eq] using this
def Ji (n:Pd):Bool:=decide (n.name.size≤50)&&(decide (n.owner.size≤50)&&(decide (n.key.size≤50)&&(decide (n.node.size≤50)&&(Vec.Yc n.need&&(ZV n.labels&&(Z0 n.sel&&JQ n.tols))))))
theorem jfU {n:Pd} (h:Ji n=true):n.name.size≤50∧n.owner.size≤50∧n.key.size≤50∧n.node.size≤50∧Vec.Yc n.need=true∧ZV n.labels=true∧Z0 n.sel=true∧JQ n.tols=true:=by
 unfold Ji at h;simpa only[Bool.and_eq_true,decide_eq_true_eq] using h
def Y2 (n:Bd):Bool:=decide (n.name.size≤50)&&Z0 n.sel
def Zl (l:List Bd):Bool:=decide (l.length≤20)&&l.all Y2
theorem jek {l:List Bd} {n:Bd} {k:Nat} (h:l[k]?=some n) (g:Y2 n=false):Zl l=false:=by
 unfold Zl;have:l.all Y2=false:=by
  rw[List.all_eq_false];exact⟨n,List.mem_of_getElem? h,by rw[g];decide⟩
 rw[this];simp
theorem jjB (a:Option Addr) (len cap:Nat) (l:List Bd) (w:World) (hr:zB w a len l) :
 Calls Tryz.prog 57 #[.slice a len cap] w (Say (.bool (Zl l)) w):=by
 have hl:=hr.1;have hm:=hr.2.1;unfold maxLen at hm;by_cases h20:20<len
 · have HV:=lH (show Zl l=false by unfold Zl;rw[hl];simp;omega);clear hr hl;go_enter Tryz.func57,Tryz.ntmps57;go_wp2;go_ret;exact⟨jf HV.out.symm,Kept.refl _⟩
 · have h20':len≤20:=by omega
   by_cases h0:len=0
   · subst h0;have HV:=lH (show Zl l=true by rw[List.eq_nil_of_length_eq_zero hl];rfl);clear hr hl h20;go_enter Tryz.func57,Tryz.ntmps57;go_wp2;refine wp_loop_rounds 1 ?_;rw[rounds_succ];go_wp2;go_ret;exact⟨jf HV.out.symm,Kept.refl _⟩
   · obtain⟨b,off,rfl⟩:=hr.form.resolve_left h0;have HR:=lH hr;have HL:=lH hl;clear hr hl h0 h20;go_enter Tryz.func57,Tryz.ntmps57;go_wp2;go_loopw [3] (fun i wr=>∃k:Nat,k≤len∧i=.int .i64 k∧(∀n ∈ l.take k,Y2 n=true)∧Kept w wr) (fun i _=>len-(intOf i).toNat)
     case atStart=>exact⟨0,Nat.zero_le _,rfl,(fun n h=>by cases h),Kept.refl _⟩
     case round =>
      obtain⟨k,hk,rfl,hrest,hK⟩:=hrel;have HS:=lH hrest;have HK:=lH hK;by_cases hlt:k<len
      · obtain⟨n,a1,m1,c1,hn,hd,hb,p0,p1,p2,hat⟩:=(HR.out.kept hK).at_ hlt;have HN:=lH hn;have VD:=lH hat;clear hrest hK hat hd hn;by_cases z:50<n.name.size
        · have z1:(50:Int)<(n.name.size:Int):=by omega
          have HV:=lH (show Zl l=false from jek HN.out (by unfold Y2;simp;omega));clear z;go_wp2;go_ret;exact⟨jf HV.out.symm,HK.out⟩
        · have z1:(n.name.size:Int)≤50:=by omega
          have Z2:=lH (show n.name.size≤50 by omega);clear z
          cases f:Z0 n.sel with
          | false =>
           have HV:=lH (show Zl l=false from jek HN.out (by unfold Y2;rw[f];simp));have HF:=lH (jcJ VD.out.sel);rw[f] at HF;clear f;go_wp2_with fail
           refine HF.out.mono ?_;rintro e w1 ⟨rfl,rfl⟩;go_wp2;go_ret;exact⟨jf HV.out.symm,HK.out⟩
          | true =>
           have HV:=lH (show Y2 n=true by unfold Y2;rw[f];simp;exact Z2.out);have HF:=lH (jcJ VD.out.sel);rw[f] at HF;clear f;go_wp2_with fail
           refine HF.out.mono ?_;rintro e w1 ⟨rfl,rfl⟩;go_wp2;go_roundw
           case rel=>exact⟨k+1,by omega,by go_num,(fun x hx=>by
            rw[zF HN.out] at hx;rcases List.mem_append.1 hx with hx | hx
            · exact HS.out x hx
            · obtain rfl:x=n:=by simpa using hx
              exact HV.out),HK.out⟩
           case measure=>simp[intOf];omega
      · have HV:=lH (show Zl l=true by
         have e:l.take k=l:=List.take_of_length_le (by rw[HL.out];omega);rw[e] at hrest;unfold Zl;rw[List.all_eq_true.2 hrest,HL.out];simp;omega)
        clear hrest hK;go_wp2;go_ret;exact⟨jf HV.out.symm,HK.out⟩
theorem jmr {v:Value} {l:List Bd} {c:Bool} {w:World} (h:JL w v l) (hc:Zl l=c):Calls Tryz.prog 57 #[v] w (Say (.bool c) w):=by
 subst hc;obtain⟨a,cap,rfl,_,_,hr⟩:=h;exact jjB a _ cap l w hr
theorem jjk (n:Pd) (v1 v2 v3 v4:Value) (w:World) (h:ji w v1 v2 v3 v4 n) :
 Calls Tryz.prog 59 #[jw n v1 v2 v3 v4] w (Say (.bool (Ji n)) w):=by
 obtain⟨x0,x1,x2,l1,l2,l3,l4,x3,x4,x5,x6⟩:=n;obtain⟨W0,hW0⟩:=eX (w.alloc (.cells #[.string x0,.string x1,.int .i64 x2,v1,v2,v3,v4,.string x3,.int .i64 x4,.string x5,.bool x6] 52))
 have hk0:Kept w W0:=by rw[←hW0];exact ja _ _
 have hc:=jb w (.string x0) [.string x1,.int .i64 x2,v1,v2,v3,v4,.string x3,.int .i64 x4,.string x5,.bool x6] 52 W0 (by rw[hW0];exact Kept.refl _);have s0:x0.size≤maxLen:=h.name;have s1:x1.size≤maxLen:=h.owner;have s2:x3.size≤maxLen:=h.key;have s3:x5.size≤maxLen:=h.node;unfold maxLen at s0 s1 s2 s3;obtain⟨b0,hb0⟩:=eX (decide (x0.size≤50))
 obtain⟨b1,hb1⟩:=eX (decide (x1.size≤50))
 obtain⟨b2,hb2⟩:=eX (decide (x3.size≤50))
 obtain⟨b3,hb3⟩:=eX (decide (x5.size≤50))
 obtain⟨b4,hb4⟩:=eX (Vec.Yc l1)
 obtain⟨b5,hb5⟩:=eX (ZV l2)
 obtain⟨b6,hb6⟩:=eX (Z0 l3)
 obtain⟨b7,hb7⟩:=eX (JQ l4)
 obtain⟨Uh,E4,E5,E6,E7,Vd⟩:=lH6 (show Ji ⟨x0,x1,x2,l1,l2,l3,l4,x3,x4,x5,x6⟩=(b0&&(b1&&(b2&&(b3&&(b4&&(b5&&(b6&&b7))))))) by unfold Ji;dsimp only;rw[hb0,hb1,hb2,hb3,hb4,hb5,hb6,hb7]) (show Calls Tryz.prog 108 #[v1] W0 _ from Vec.jeO (h.need.kept hk0) hb4) (show Calls Tryz.prog 109 #[v2] W0 fun e w'=>e=.returned (.bool b5)∧W0=w' by rw[←hb5];exact jeO (h.labels.kept hk0)) (show Calls Tryz.prog 107 #[v3] W0 fun e w'=>e=.returned (.bool b6)∧W0=w' by rw[←hb6];exact jcJ (h.sel.kept hk0)) (show Calls Tryz.prog 111 #[v4] W0 fun e w'=>e=.returned (.bool b7)∧W0=w' by rw[←hb7];exact jmE (h.tols.kept hk0)) hk0;have g0:decide ((x0.size:Int)≤50)=b0:=by rw[←hb0];simp only[decide_eq_decide];omega
 have g1:decide ((x1.size:Int)≤50)=b1:=by rw[←hb1];simp only[decide_eq_decide];omega
 have g2:decide ((x3.size:Int)≤50)=b2:=by rw[←hb2];simp only[decide_eq_decide];omega
 have g3:decide ((x5.size:Int)≤50)=b3:=by rw[←hb3];simp only[decide_eq_decide];omega
 have c0:=hc.at_ 0 _ rfl;have c1:=hc.at_ 1 _ rfl;have c3:=hc.at_ 3 _ rfl;have c4:=hc.at_ 4 _ rfl;have c5:=hc.at_ 5 _ rfl;have c6:=hc.at_ 6 _ rfl;have c7:=hc.at_ 7 _ rfl;have c9:=hc.at_ 9 _ rfl;clear hk0 h hc hb0 hb1 hb2 hb3 hb4 hb5 hb6 hb7;unfold jw;dsimp only
 cases b0 with
 | false =>
  have g0:50<(x0.size:Int):=by have:=of_decide_eq_false g0;omega
  have HV:=lH (show Ji ⟨x0,x1,x2,l1,l2,l3,l4,x3,x4,x5,x6⟩=false by rw[Uh.out];simp);go_enter Tryz.func59,Tryz.ntmps59;go_wp2;try rw[hW0]
  go_ret;exact⟨jf HV.out.symm,Vd.out⟩
 | true =>
  have g0:(x0.size:Int)≤50:=of_decide_eq_true g0
  cases b1 with
  | false =>
   have g1:50<(x1.size:Int):=by have:=of_decide_eq_false g1;omega
   have HV:=lH (show Ji ⟨x0,x1,x2,l1,l2,l3,l4,x3,x4,x5,x6⟩=false by rw[Uh.out];simp);go_enter Tryz.func59,Tryz.ntmps59;go_wp2;try rw[hW0]
   go_ret;exact⟨jf HV.out.symm,Vd.out⟩
  | true =>
   have g1:(x1.size:Int)≤50:=of_decide_eq_true g1
   cases b2 with
   | false =>
    have g2:50<(x3.size:Int):=by have:=of_decide_eq_false g2;omega
    have HV:=lH (show Ji ⟨x0,x1,x2,l1,l2,l3,l4,x3,x4,x5,x6⟩=false by rw[Uh.out];simp);go_enter Tryz.func59,Tryz.ntmps59;go_wp2;try rw[hW0]
    go_ret;exact⟨jf HV.out.symm,Vd.out⟩
   | true =>
    have g2:(x3.size:Int)≤50:=of_decide_eq_true g2
    cases b3 with
    | false =>
     have g3:50<(x5.size:Int):=by have:=of_decide_eq_false g3;omega
     have HV:=lH (show Ji ⟨x0,x1,x2,l1,l2,l3,l4,x3,x4,x5,x6⟩=false by rw[Uh.out];simp);go_enter Tryz.func59,Tryz.ntmps59;go_wp2;try rw[hW0]
     go_ret;exact⟨jf HV.out.symm,Vd.out⟩
    | true =>
     have g3:(x5.size:Int)≤50:=of_decide_eq_true g3
     cases b4 with
     | false =>
      have HV:=lH (show Ji ⟨x0,x1,x2,l1,l2,l3,l4,x3,x4,x5,x6⟩=false by rw[Uh.out];simp);go_enter Tryz.func59,Tryz.ntmps59;go_wp2_with fail
      try rw[hW0]
      refine E4.out.mono ?_;rintro e w9 ⟨rfl,rfl⟩;go_wp2;go_ret;exact⟨jf HV.out.symm,Vd.out⟩
     | true =>
      cases b5 with
      | false =>
       have HV:=lH (show Ji ⟨x0,x1,x2,l1,l2,l3,l4,x3,x4,x5,x6⟩=false by rw[Uh.out];simp);go_enter Tryz.func59,Tryz.ntmps59;go_wp2_with fail
       try rw[hW0]
       refine E4.out.mono ?_;rintro e w9 ⟨rfl,rfl⟩;go_wp2_with fail
       refine E5.out.mono ?_;rintro e w9 ⟨rfl,rfl⟩;go_wp2;go_ret;exact⟨jf HV.out.symm,Vd.out⟩
      | true =>
       cases b6 with
       | false =>
        have HV:=lH (show Ji ⟨x0,x1,x2,l1,l2,l3,l4,x3,x4,x5,x6⟩=false by rw[Uh.out];simp);go_enter Tryz.func59,Tryz.ntmps59;go_wp2_with fail
        try rw[hW0]
        refine E4.out.mono ?_;rintro e w9 ⟨rfl,rfl⟩;go_wp2_with fail
        refine E5.out.mono ?_;rintro e w9 ⟨rfl,rfl⟩;go_wp2_with fail
        refine E6.out.mono ?_;rintro e w9 ⟨rfl,rfl⟩;go_wp2;go_ret;exact⟨jf HV.out.symm,Vd.out⟩
       | true =>
        have HV:=lH (show Ji ⟨x0,x1,x2,l1,l2,l3,l4,x3,x4,x5,x6⟩=b7 by rw[Uh.out];rfl);go_enter Tryz.func59,Tryz.ntmps59;go_wp2_with fail
        try rw[hW0]
        refine E4.out.mono ?_;rintro e w9 ⟨rfl,rfl⟩;go_wp2_with fail
        refine E5.out.mono ?_;rintro e w9 ⟨rfl,rfl⟩;go_wp2_with fail
        refine E6.out.mono ?_;rintro e w9 ⟨rfl,rfl⟩;go_wp2_with fail
        refine E7.out.mono ?_;rintro e w9 ⟨rfl,rfl⟩;go_wp2;go_ret;exact⟨jf HV.out.symm,Vd.out⟩
theorem jlW {v:Value} {n:Pd} {b:Bool} {w:World} (h:jcC w v n) (hb:Ji n=b):Calls Tryz.prog 59 #[v] w (Say (.bool b) w):=by
 subst hb;obtain⟨v1,v2,v3,v4,rfl,h⟩:=h;exact jjk n v1 v2 v3 v4 w h
def XI (s:Clu):Bool:=decide (s.nodes.length≤34)&&(decide (s.pods.length≤130)&&(Zl s.buds&&(s.nodes.all Zu&&s.pods.all Ji)))
theorem qC {a:Option Addr} {len cap:Nat} {l:List Nod} {w:World} (h1:len≤cap) (h2:cap≤maxLen) (h:jt w a len l):Jh w (.slice a len cap) l:=⟨a,cap,by rw[h.1],by rw[h.1];exact h1,h2,by rw[h.1];exact h⟩
theorem jgz {a:Option Addr} {len cap:Nat} {l:List Pd} {w:World} (h1:len≤cap) (h2:cap≤maxLen) (h:jC w a len l):zU w (.slice a len cap) l:=⟨a,cap,by rw[h.1],by rw[h.1];exact h1,h2,by rw[h.1];exact h⟩
theorem jco {a:Option Addr} {len cap:Nat} {l:List Bd} {w:World} (h1:len≤cap) (h2:cap≤maxLen) (h:zB w a len l):JL w (.slice a len cap) l:=⟨a,cap,by rw[h.1],by rw[h.1];exact h1,h2,by rw[h.1];exact h⟩
theorem jgB {α:Type} {f:α→Bool} {l:List α} {k:Nat} {x:α} (hd:l.drop k=x::l.drop (k+1)) (h:f x=true) (hr:(l.drop k).all f=l.all f):(l.drop (k+1)).all f=l.all f:=by
 rw[←hr,hd,List.all_cons,h,Bool.true_and]
theorem jew {α:Type} {f:α→Bool} {l:List α} {k:Nat} {x:α} (hd:l.drop k=x::l.drop (k+1)) (h:f x=false) (hr:(l.drop k).all f=l.all f):l.all f=false:=by
 rw[←hr,hd,List.all_cons,h,Bool.false_and]
theorem jgK {α:Type} {f:α→Bool} {l:List α} {k:Nat} (h:l.length≤k) (hr:(l.drop k).all f=l.all f):l.all f=true:=by
 rw[←hr,List.drop_of_length_le h];rfl
theorem jl2 {v:Value} {s:Clu} {c:Bool} {w:World} (h:jB w v s) (hc:XI s=c):Calls Tryz.prog 24 #[v] w (Say (.bool c) w):=by
 subst hc;obtain⟨v1,v2,v3,rfl,⟨a,cap,rfl,l1,m1,h1⟩,⟨b,cp,rfl,l2,m2,h2⟩,⟨d,cb,rfl,l3,m3,h3⟩⟩:=h;obtain⟨nl,pl,bl⟩:=s;dsimp only at *;obtain⟨len,hlen⟩:=eX (nl.length)
 obtain⟨m,hm⟩:=eX (pl.length)
 obtain⟨n,hn⟩:=eX (bl.length)
 rw[hlen] at h1 l1;rw[hm] at h2 l2;rw[hn] at h3 l3;try rw[hlen]
 try rw[hm]
 try rw[hn]
 skip;obtain⟨Z,hZ⟩:=eX (w.alloc (.cells #[.slice a len cap,.slice b m cp,.slice d n cb] 26))
 have hkz:Kept w Z:=by rw[←hZ];exact ja _ _
 have HQ:=lH (show je w.heap.size [.slice a len cap,.slice b m cp,.slice d n cb] Z from jb w (.slice a len cap) [.slice b m cp,.slice d n cb] 26 Z (by rw[hZ];exact Kept.refl _));obtain⟨e3,he3⟩:=eX (Zl bl)
 obtain⟨HB,HV,HN,HP,Vc,RD,Uk,Uz⟩:=lH8 (jmr (jco l3 m3 (h3.kept hkz)) he3) (show XI ⟨nl,pl,bl⟩=(decide (len≤34)&&(decide (m≤130)&&(e3&&(nl.all Zu&&pl.all Ji)))) by unfold XI;dsimp only;rw[hlen,hm,he3]) (h1.kept hkz) (h2.kept hkz) hkz (Nat.le_trans l1 m1) (Nat.le_trans l2 m2) hlen;have Th:=lH hm;have hml1:=Nat.le_trans l1 m1;have hml2:=Nat.le_trans l2 m2;unfold maxLen at hml1 hml2;clear h1 h2 h3 l1 l2 l3 m1 m2 m3 he3 hkz;obtain⟨cq0,cq1,cq2⟩:=HQ.out.at3;by_cases hA:34<len
 · have HX:=lH (HV.out.trans (by rw[decide_eq_false (show ¬len≤34 by omega),Bool.false_and]));have hA':(34:Int)<(len:Int):=by omega
   rw[HX.out];go_enter Tryz.func24,Tryz.ntmps24;go_wp2;try rw[hZ]
   go_ret;exact⟨rfl,Vc.out⟩
 by_cases hB:130<m
 · have HX:=lH (HV.out.trans (by rw[decide_eq_true (show len≤34 by omega),decide_eq_false (show ¬m≤130 by omega),Bool.false_and,Bool.and_false]));have hA':¬(34:Int)<(len:Int):=by omega
   have hB':(130:Int)<(m:Int):=by omega
   rw[HX.out];go_enter Tryz.func24,Tryz.ntmps24;go_wp2;try rw[hZ]
   go_ret;exact⟨rfl,Vc.out⟩
 have hA':¬(34:Int)<(len:Int):=by omega
 have hB':¬(130:Int)<(m:Int):=by omega
 have HX:=lH (HV.out.trans (by rw[decide_eq_true (show len≤34 by omega),decide_eq_true (show m≤130 by omega),Bool.true_and,Bool.true_and]));rw[HX.out];clear HV HX;go_enter Tryz.func24,Tryz.ntmps24;go_wp2_with fail
 try rw[hZ]
 clear hZ;refine HB.out.mono ?_;rintro e w1 ⟨rfl,kk⟩;have KW:=lH kk;clear kk cq0 cq1 cq2 HB
 cases e3 with
 | false =>
  go_wp2;go_ret;exact⟨rfl,Vc.out.trans KW.out⟩
 | true =>
  have cq0:=(HQ.out.kept KW.out).at_ 0 _ rfl;have cq1:=(HQ.out.kept KW.out).at_ 1 _ rfl;have cq2:=(HQ.out.kept KW.out).at_ 2 _ rfl;go_wp2;go_loopw [3] (fun i wr=>∃k:Nat,k≤len∧i=.int .i64 k∧(nl.drop k).all Zu=nl.all Zu∧Kept Z wr) (fun i _=>len-(intOf i).toNat)
  case atStart=>exact⟨0,Nat.zero_le _,rfl,rfl,KW.out⟩
  case round =>
   clear cq0 cq1 cq2;obtain⟨k,hk,rfl,hrest,hK⟩:=hrel;have HS:=lH hrest;have KN:=lH hK;have cq0:=(HQ.out.kept hK).at_ 0 _ rfl;have cq1:=(HQ.out.kept hK).at_ 1 _ rfl;have cq2:=(HQ.out.kept hK).at_ 2 _ rfl;by_cases hlt:k<len
   · obtain⟨b9,off,rfl⟩:=HN.out.form.resolve_left (by omega);obtain⟨n9,x1,y1,z1,x2,y2,z2,x3,y3,z3,hn,hd,hb,p0,p1,p2,p3,p4,hat⟩:=(HN.out.kept hK).at_ hlt;have HD:=lH hd;obtain⟨t,ht⟩:=eX (Zu n9)
     have HT:=lH ht;have HC:=lH (show Calls Tryz.prog 58 #[zC n9 (.slice x1 y1 z1) (.slice x2 y2 z2) (.slice x3 y3 z3)] wr (Say (.bool t) wr) from jle ⟨_,_,_,rfl,hat⟩ ht);unfold zC at HC;have hkk:(k:Int)<(len:Int):=by omega
     clear hrest hK hat hn hd ht
     cases t with
     | false =>
      have HF:=lH (jew HD.out HT.out HS.out);go_wp2_with fail
      refine HC.out.mono ?_;rintro e w9 ⟨rfl,kk⟩;have KW:=lH (KN.out.trans kk);clear kk;go_wp2;go_ret;exact⟨by rw[HF.out];simp,Vc.out.trans KW.out⟩
     | true =>
      have HF:=lH (jgB HD.out HT.out HS.out);go_wp2_with fail
      refine HC.out.mono ?_;rintro e w9 ⟨rfl,kk⟩;have KW:=lH (KN.out.trans kk);clear kk cq0 cq1 cq2;go_wp2;go_roundw
      case rel=>exact⟨k+1,by omega,by go_num,HF.out,KW.out⟩
      case measure=>simp[intOf];omega
   · have T3:=lH (jgK (by rw[Uz.out];omega) hrest);have hkk:¬(k:Int)<(len:Int):=by omega
     clear hrest hK;clear cq0 cq1 cq2;have cq0:=(HQ.out.kept KN.out).at_ 0 _ rfl;have cq1:=(HQ.out.kept KN.out).at_ 1 _ rfl;have cq2:=(HQ.out.kept KN.out).at_ 2 _ rfl;go_wp2;go_loopw [4] (fun i wr=>∃k:Nat,k≤m∧i=.int .i64 k∧(pl.drop k).all Ji=pl.all Ji∧Kept Z wr) (fun i _=>m-(intOf i).toNat)
     case atStart=>exact⟨0,Nat.zero_le _,rfl,rfl,KN.out⟩
     case round =>
      clear cq0 cq1 cq2;obtain⟨k,hk,rfl,hrest,hK⟩:=hrel;have HS:=lH hrest;have KP:=lH hK;have cq0:=(HQ.out.kept hK).at_ 0 _ rfl;have cq1:=(HQ.out.kept hK).at_ 1 _ rfl;have cq2:=(HQ.out.kept hK).at_ 2 _ rfl;by_cases hlt:k<m
      · obtain⟨b9,off,rfl⟩:=HP.out.form.resolve_left (by omega);obtain⟨n9,x1,y1,z1,x2,y2,z2,x3,y3,z3,x4,y4,z4,hn,hd,hb,p0,p1,p2,p3,p4,p5,p6,p7,p8,p9,p10,hat⟩:=(HP.out.kept hK).at_ hlt;have HD:=lH hd;obtain⟨t,ht⟩:=eX (Ji n9)
        have HT:=lH ht;have HC:=lH (show Calls Tryz.prog 59 #[jw n9 (.slice x1 y1 z1) (.slice x2 y2 z2) (.slice x3 y3 z3) (.slice x4 y4 z4)] wr (Say (.bool t) wr) from jlW ⟨_,_,_,_,rfl,hat⟩ ht);unfold jw at HC;have hkk:(k:Int)<(m:Int):=by omega
        clear hrest hK hat hn hd ht
        cases t with
        | false =>
         have HF:=lH (jew HD.out HT.out HS.out);go_wp2_with fail
         refine HC.out.mono ?_;rintro e w9 ⟨rfl,kk⟩;have KW:=lH (KP.out.trans kk);clear kk;go_wp2;go_ret;exact⟨by rw[HF.out];simp,Vc.out.trans KW.out⟩
        | true =>
         have HF:=lH (jgB HD.out HT.out HS.out);go_wp2_with fail
         refine HC.out.mono ?_;rintro e w9 ⟨rfl,kk⟩;have KW:=lH (KP.out.trans kk);clear kk cq0 cq1 cq2;go_wp2;go_roundw
         case rel=>exact⟨k+1,by omega,by go_num,HF.out,KW.out⟩
         case measure=>simp[intOf];omega
      · have T4:=lH (jgK (by rw[Th.out];omega) hrest);have hkk:¬(k:Int)<(m:Int):=by omega
        clear hrest hK;go_wp2;go_ret;exact⟨by rw[T3.out,T4.out];rfl,Vc.out.trans KP.out⟩
theorem ji2 (a:Option Addr) (len cap:Nat) (l:List Nod) (x:ByteArray) (w:World) (hr:jt w a len l) :
 Calls Tryz.prog 63 #[.slice a len cap,.string x] w fun e w'=>∃v,e=.returned (.tuple #[v,.bool (jk l x).isSome])∧jbe w' v ((jk l x).getD Nod.zero)∧Kept w w':=by
 have hl:=hr.1;have hm:=hr.2.1;unfold maxLen at hm;obtain⟨Z,hZ⟩:=eX (w.alloc (.cells #[.string ⟨#[]⟩,.slice none 0 0,.slice none 0 0,.slice none 0 0,.bool false] 122))
 have hkz:Kept w Z:=by rw[←hZ];exact ja _ _
 obtain⟨HQ,HH,Vc,HR,HL⟩:=lH5 (show zh w.heap.size (.string ⟨#[]⟩) (.slice none 0 0) (.slice none 0 0) (.slice none 0 0) (.bool false) Z from YS w _ _ _ _ _ 122 Z (by rw[hZ];exact Kept.refl _)) (show Z.heap[w.heap.size]?=some (.cells #[.string ⟨#[]⟩,.slice none 0 0,.slice none 0 0,.slice none 0 0,.bool false] 122) by rw[←hZ];exact w.alloc_heap_new _) hkz (hr.kept hkz) hl;obtain⟨⟨y0,y1,y2,y3,y4⟩,x0,x1,x2,x3,x4⟩:=HQ.out;have P0:=lH (Zd ⟨y0,y1,y2,y3,y4⟩ ⟨#[]⟩ none none none 0 0 0 0 0 0 false);by_cases h0:len=0
 · subst h0;have hl0:l=[]:=List.eq_nil_of_length_eq_zero hl;have HF:=lH (show jk l x=none by rw[hl0];rfl);clear hr hl hkz;go_enter Tryz.func63,Tryz.ntmps63;go_wp2;try rw[hZ]
   clear hZ;refine wp_loop_rounds 1 ?_;rw[rounds_succ];go_wp2;obtain⟨WE,hWE⟩:=eX ((((((Z.setCell ⟨w.heap.size,0,none⟩ (.string ⟨#[]⟩)).setCell ⟨w.heap.size,1,none⟩ (.slice none 0 0)).setCell ⟨w.heap.size,2,none⟩ (.slice none 0 0)).setCell ⟨w.heap.size,3,none⟩ (.slice none 0 0)).setCell ⟨w.heap.size,4,none⟩ (.bool false)))
   rw[hWE] at P0 ⊢;clear hWE y0 y1 y2 y3 y4 x0 x1 x2 x3 x4;obtain⟨⟨e0,e1,e2,e3,e4⟩,hsz,hbl,hkp⟩:=P0.out;refine bodyPost_ret (by simp[results,Tryz.results63,go_sem,e0,e1,e2,e3,e4];try rfl) rfl ?_;rw[HF.out];exact⟨_,rfl,(qf 0 _).toR,hkp _ _ (Nat.le_refl _) Vc.out⟩
 · obtain⟨b,off,rfl⟩:=hr.form.resolve_left h0;clear hr hl hkz h0;go_enter Tryz.func63,Tryz.ntmps63;go_wp2;try rw[hZ]
   clear hZ;go_loop [6] (fun i=>∃k:Nat,k≤len∧i=.int .i64 k∧jk (l.drop k) x=jk l x) (fun i=>len-(intOf i).toNat)
   case atStart=>exact⟨0,Nat.zero_le _,rfl,rfl⟩
   case round =>
    obtain⟨k,hk,rfl,hrest⟩:=hrel;have HS:=lH hrest;by_cases hlt:k<len
    · obtain⟨n,a1,m1,c1,a2,m2,c2,a3,m3,c3,hn,hd,hb,p0,p1,p2,p3,p4,hat⟩:=HR.out.at_ hlt;have VD:=lH hat;have HD:=lH hd;clear hrest hat hd hn;by_cases he:eqS n.name x=true
      · have he':(n.name.toList==x.toList)=true:=he;have HF:=lH (show jk l x=some n by rw[←HS.out,HD.out];unfold jk;rw[List.find?_cons,he]);have P:=lH (Zd ⟨y0,y1,y2,y3,y4⟩ n.name a1 a2 a3 m1 c1 m2 c2 m3 c3 n.cordon);obtain⟨⟨z,l1,l2,l3,cd⟩,hnn⟩:∃m,m=n:=⟨n,rfl⟩
        subst hnn;dsimp only at P he' p0 p4;clear he;go_wp2;obtain⟨WE,hWE⟩:=eX ((((((Z.setCell ⟨w.heap.size,0,none⟩ (.string z)).setCell ⟨w.heap.size,1,none⟩ (.slice a1 m1 c1)).setCell ⟨w.heap.size,2,none⟩ (.slice a2 m2 c2)).setCell ⟨w.heap.size,3,none⟩ (.slice a3 m3 c3)).setCell ⟨w.heap.size,4,none⟩ (.bool cd)))
        rw[hWE] at P ⊢;clear hWE y0 y1 y2 y3 y4 x0 x1 x2 x3 x4;obtain⟨⟨e0,e1,e2,e3,e4⟩,hsz,hbl,hkp⟩:=P.out;refine bodyPost_ret (by simp[results,Tryz.results63,go_sem,e0,e1,e2,e3,e4];try rfl) rfl ?_;rw[HF.out];exact⟨_,rfl,⟨_,_,_,rfl,qU VD.out hsz hbl (jih HH.out)⟩,hkp _ _ (Nat.le_refl _) Vc.out⟩
      · have he:eqS n.name x=false:=by simpa using he
        have he':(n.name.toList==x.toList)=false:=he;have HE:=lH (show jk (l.drop k) x=jk (l.drop (k+1)) x by rw[HD.out];unfold jk;rw[List.find?_cons,he]);clear he;go_wp2;go_round
        case rel=>exact⟨k+1,by omega,by go_num,HE.out.symm.trans HS.out⟩
        case measure=>simp[intOf];omega
    · have HF:=lH (show jk l x=none by rw[←hrest,List.drop_of_length_le (by rw[HL.out];omega)];rfl);clear hrest;go_wp2;obtain⟨WE,hWE⟩:=eX ((((((Z.setCell ⟨w.heap.size,0,none⟩ (.string ⟨#[]⟩)).setCell ⟨w.heap.size,1,none⟩ (.slice none 0 0)).setCell ⟨w.heap.size,2,none⟩ (.slice none 0 0)).setCell ⟨w.heap.size,3,none⟩ (.slice none 0 0)).setCell ⟨w.heap.size,4,none⟩ (.bool false)))
      rw[hWE] at P0 ⊢;clear hWE y0 y1 y2 y3 y4 x0 x1 x2 x3 x4;obtain⟨⟨e0,e1,e2,e3,e4⟩,hsz,hbl,hkp⟩:=P0.out;refine bodyPost_ret (by simp[results,Tryz.results63,go_sem,e0,e1,e2,e3,e4];try rfl) rfl ?_;rw[HF.out];exact⟨_,rfl,(qf 0 _).toR,hkp _ _ (Nat.le_refl _) Vc.out⟩
theorem jjl {v:Value} {l:List Nod} {x:ByteArray} {w:World} (h:Jh w v l) :
 Calls Tryz.prog 63 #[v,.string x] w fun e w'=>∃v,e=.returned (.tuple #[v,.bool (jk l x).isSome])∧jbe w' v ((jk l x).getD Nod.zero)∧Kept w w':=by
 obtain⟨a,cap,rfl,_,_,hr⟩:=h;exact ji2 a _ cap l x w hr
end Go.Proofs.YtibepooajeakfaaGreat
