/- C. -/
import Derived.Test.YtabafpoklpiiiaaGreatG0
import Derived.Test.YtabafpoklpiiiaaGreatG1
import Derived.Test.YtabafpoklpiiiaaGreatG2
import Derived.Lib.AppendZerosOnto
import Derived.Lib.Overlaps
import Derived.Sort.KeysCollected
import Derived.Sort.MapsRangeIn
set_option linter.unusedVariables false
set_option maxRecDepth 100000
set_option maxHeartbeats 25600000
namespace Go.Proofs.YtabafpoklpiiiaaGreat
open Go.RowKit
def Xi (d:Array Value):Nat→List Value→Array Value
 | _,[]=>d
 | k,x::r=>Xi (d.setIfInBounds k x) (k+1) r
theorem zF:∀(xs:List Value) (d:Array Value) (k:Nat),(Xi d k xs).size=d.size
 | [],_,_=>rfl
 | x::r,d,k=>by rw[Xi,zF r];simp
theorem zZ:∀(xs:List Value) (d:Array Value) (k j:Nat),k+xs.length≤d.size→(Xi d k xs)[j]?=if k≤j∧j<k+xs.length then xs[j-k]? else d[j]?
 | [],d,k,j,_=>by rw[Xi,if_neg (by simp only[List.length_nil];omega)]
 | x::r,d,k,j,h=>by
  have hl:k+(r.length+1)≤d.size:=by simpa using h
  rw[Xi,zZ r _ _ _ (by simp;omega)];simp only[List.length_cons];by_cases c1:k+1≤j∧j<k+1+r.length
  · rw[if_pos c1,if_pos (by omega),show j-k=(j-(k+1))+1 by omega,List.getElem?_cons_succ]
  · rw[if_neg c1];by_cases c2:j=k
    · subst c2;rw[if_pos (by omega),Nat.sub_self,List.getElem?_cons_zero,Array.getElem?_setIfInBounds_self_of_lt (by omega)]
    · rw[if_neg (by omega),Array.getElem?_setIfInBounds_ne (by omega)]
theorem zV:∀(vs:List Value) (g o:Nat) (w:World) (cur:Array Value) (e:TypeId),w.heap[g]?=some (.cells cur e (0,0))→(w.setCells g o vs).heap[g]?=some (.cells (Xi cur o vs) e (0,0))
 | [],_,_,_,_,_,h=>h
 | v::r,g,o,w,cur,e,h=>by
  rw[World.setCells,Xi];exact zV r g (o+1) _ _ e (heap_setCell_same w g o cur e v h)
theorem zp {w:World} {B:Nat} {e:TypeId} {s g n cap:Nat} {xs:List Value} (h:w.ownsRow B e s (.slice (some ⟨g,0,none⟩) n cap) n xs) :
 ∃cur,B≤g∧w.heap[g]?=some (.cells cur e (0,0))∧n≤cap∧cap≤maxLen∧cur.size=cap*s∧cur.toList.take (n*s)=xs∧xs.length=n*s:=by
 obtain⟨hl,h⟩:=h;rcases h with ⟨h0,_⟩ | ⟨g2,cap2,cur,h0,hb,hg,hn,hm,hs,ht⟩
 · cases h0
 · cases h0
   exact⟨cur,hb,hg,hn,hm,hs,ht,hl⟩
theorem jbO {cur:Array Value} {m:Nat} {xs:List Value} (hl:xs.length=m) (hm:m≤cur.size) (h:∀j,j<m→cur[j]?=xs[j]?):cur.toList.take m=xs:=by
 apply List.ext_getElem?;intro j;rw[List.getElem?_take];by_cases hj:j<m
 · rw[if_pos hj,Array.getElem?_toList];exact h j hj
 · rw[if_neg hj,List.getElem?_eq_none (by omega)]
theorem Yv {cur:Array Value} {m j:Nat} {xs:List Value} (ht:cur.toList.take m=xs) (hj:j<m):cur[j]?=xs[j]?:=by
 rw[←ht,List.getElem?_take,if_pos hj,Array.getElem?_toList]
theorem YB {w:World} {B:Nat} {e:TypeId} {s g n cap:Nat} {xs:List Value} {cur:Array Value} (hB:B≤g) (hg:w.heap[g]?=some (.cells cur e (0,0))) (hn:n≤cap) (hm:cap≤maxLen) (hs:cur.size=cap*s) (hl:xs.length=n*s) (h:∀j,j<n*s→cur[j]?=xs[j]?) :
 w.ownsRow B e s (.slice (some ⟨g,0,none⟩) n cap) n xs :=
 ⟨hl,.inr ⟨g,cap,cur,rfl,hB,hg,hn,hm,hs,jbO hl (by rw[hs];exact Nat.mul_le_mul_right s hn) h⟩⟩
theorem jeW {w:World} {B:Nat} {e:TypeId} {s g n cap o:Nat} {xs vs:List Value} (h:w.ownsRow B e s (.slice (some ⟨g,0,none⟩) n cap) n xs) (ho:o+vs.length≤n*s) :
 (w.setCells g o vs).ownsRow B e s (.slice (some ⟨g,0,none⟩) n cap) n (xs.take o++vs++xs.drop (o+vs.length)):=by
 obtain⟨cur,hB,hg,hn,hm,hs,ht,hl⟩:=zp h;have hns:n*s≤cap*s:=Nat.mul_le_mul_right s hn;refine YB hB (zV vs g o w cur e hg) hn hm (by rw[zF];exact hs) (by simp;omega) (fun j hj=>?_);rw[zZ _ _ _ _ (by omega)];by_cases c1:o≤j∧j<o+vs.length
 · rw[if_pos c1,List.append_assoc,List.getElem?_append_right (by simp;omega),List.getElem?_append_left (by simp;omega)];congr 1
   simp;omega
 · rw[if_neg c1,Yv ht hj];by_cases c2:j<o
   · rw[List.append_assoc,List.getElem?_append_left (by simp;omega),List.getElem?_take,if_pos c2]
   · rw[List.getElem?_append_right (by simp;omega),List.getElem?_drop];congr 1
     simp;omega
theorem XW {w:World} {B:Nat} {e:TypeId} {s g n cap i j:Nat} {xs zs:List Value} (h:w.ownsRow B e s (.slice (some ⟨g,0,none⟩) n cap) n xs) (hij:i≤j) (hj:j≤n) (hz:zs.length=(j-i)*s) :
 ((w.setCells g (i*s) (xs.drop (j*s))).setCells g ((i+(n-j))*s) zs).ownsRow B e s (.slice (some ⟨g,0,none⟩) (i+(n-j)) cap) (i+(n-j)) (xs.take (i*s)++xs.drop (j*s)):=by
 obtain⟨cur,hB,hg,hn,hm,hs,ht,hl⟩:=zp h;have hns:n*s≤cap*s:=Nat.mul_le_mul_right s hn;have his:i*s≤j*s:=Nat.mul_le_mul_right s hij;have hjs:j*s≤n*s:=Nat.mul_le_mul_right s hj;have e1:(i+(n-j))*s=i*s+(n*s-j*s):=by rw[Nat.add_mul,Nat.sub_mul]
 have e2:(j-i)*s=j*s-i*s:=Nat.sub_mul j i s;have hld:(xs.drop (j*s)).length=n*s-j*s:=by rw[List.length_drop,hl]
 refine YB hB (zV zs g _ _ _ e (zV _ g (i*s) w cur e hg)) (by omega) hm (by rw[zF,zF];exact hs) (by rw[List.length_append,List.length_take,hld,hl,e1];omega) (fun t htl=>?_);rw[e1] at htl ⊢;rw[zZ _ _ _ _ (by rw[zF,hz,e2];omega),if_neg (by omega),zZ _ _ _ _ (by rw[hld];omega),hld];by_cases c1:t<i*s
 · rw[if_neg (by omega),Yv ht (by omega),List.getElem?_append_left (by rw[List.length_take,hl];omega),List.getElem?_take,if_pos c1]
 · rw[if_pos (by omega),List.getElem?_append_right (by rw[List.length_take,hl];omega),List.length_take,hl];congr 1
   omega
theorem jdm {w:World} {B:Nat} {e:TypeId} {s g n cap i:Nat} {xs vs:List Value} (h:w.ownsRow B e s (.slice (some ⟨g,0,none⟩) n cap) n xs) (hi:i≤n) (hv:vs.length=s) (hr:n+1≤cap) :
 ((w.setCells g ((i+1)*s) (xs.drop (i*s))).setCells g (i*s) vs).ownsRow B e s (.slice (some ⟨g,0,none⟩) (n+1) cap) (n+1) (xs.take (i*s)++vs++xs.drop (i*s)):=by
 obtain⟨cur,hB,hg,hn,hm,hs,ht,hl⟩:=zp h;have hns:(n+1)*s≤cap*s:=Nat.mul_le_mul_right s hr;have his:i*s≤n*s:=Nat.mul_le_mul_right s hi;have e0:(n+1)*s=n*s+s:=by rw[Nat.add_mul,Nat.one_mul]
 have e1:(i+1)*s=i*s+s:=by rw[Nat.add_mul,Nat.one_mul]
 have hld:(xs.drop (i*s)).length=n*s-i*s:=by rw[List.length_drop,hl]
 refine YB hB (zV vs g _ _ _ e (zV _ g ((i+1)*s) w cur e hg)) hr hm (by rw[zF,zF];exact hs) (by rw[List.length_append,List.length_append,List.length_take,hld,hl,e0];omega) (fun t htl=>?_);rw[e0] at htl;rw[zZ _ _ _ _ (by rw[zF,hv];omega),hv];by_cases c1:t<i*s
 · rw[if_neg (by omega),zZ _ _ _ _ (by rw[hld,e1];omega),if_neg (by omega),Yv ht (by omega),List.append_assoc,List.getElem?_append_left (by rw[List.length_take,hl];omega),List.getElem?_take,if_pos c1]
 · by_cases c2:t<i*s+s
   · rw[if_pos (by omega),List.append_assoc,List.getElem?_append_right (by rw[List.length_take,hl];omega),List.getElem?_append_left (by rw[List.length_take,hl,hv];omega),List.length_take,hl];congr 1
     omega
   · rw[if_neg (by omega),zZ _ _ _ _ (by rw[hld,e1];omega),hld,e1,if_pos (by omega),List.getElem?_append_right (by rw[List.length_append,List.length_take,hl,hv];omega),List.length_append,List.length_take,hl,hv];congr 1
     omega
theorem JW (w:World) (dT sT ty elem:TypeId) (i0:TypeInfo) (b o dLen dCap:Nat) (a:Addr) (sLen sCap:Nat) (cs:List Value)
 (hu:Tryz.prog.underlying dT=some (.slice elem)) (hi:Tryz.prog.info? elem=some i0) (hn:cs.length=Nat.min sLen dLen*i0.size)
 (hsrc:∀j v,cs[j]?=some v→w.cell? (a.add j)=some v) (hc:∀j,j<cs.length→(w.cell? ⟨b,o+j,none⟩).isSome=true) (hf:∀j,j<cs.length→w.frozen? ⟨b,o+j,none⟩=false) (h1:∀v ∈ cs,v.oneCell'=true) :
 (Builtin.copy_ #[dT,sT] ty #[.slice (some ⟨b,o,none⟩) dLen dCap,.slice (some a) sLen sCap]).run Tryz.prog w=.ok (goInt (Nat.min sLen dLen)) (w.setCells b o cs):=by
 have hl:=run_loadCells_list (P:=Tryz.prog) w a cs hsrc;have hst:=run_storeCells_cells (P:=Tryz.prog) b o cs 0 w (by simpa using hc) (by simpa using hf) h1;simp[Builtin.copy_,run_underlying hu,Builtin.lenOf,Builtin.firstCells,sizeOf,typeInfo,hi,←hn,hl,hst]
theorem Zm (w:World) (t e ty:TypeId) (i0:TypeInfo) (z:Value) (ht:Tryz.prog.underlying t=some (.slice e)) (hi:Tryz.prog.info? e=some i0) (hz:i0.zero=some z) (b o n c:Nat) (hn:0<n) (h1:∀v ∈ (Builtin.zeroCells z.cells n).toList,v.oneCell'=true)
 (hc:∀j,j<(Builtin.zeroCells z.cells n).size→(w.cell? ⟨b,o+j,none⟩).isSome=true) (hf:∀j,j<(Builtin.zeroCells z.cells n).size→w.frozen? ⟨b,o+j,none⟩=false) :
 (Builtin.clear_ #[t] ty #[.slice (some ⟨b,o,none⟩) n c]).run Tryz.prog w=.ok (.tuple #[]) (w.setCells b o (Builtin.zeroCells z.cells n).toList):=by
 have hst:=run_storeCells_cells (P:=Tryz.prog) b o (Builtin.zeroCells z.cells n).toList 0 w (by simpa using hc) (by simpa using hf) h1;simp only[Nat.add_zero] at hst;obtain⟨m,rfl⟩:∃m,n=m+1:=⟨n-1,by omega⟩
 simp[Builtin.clear_,run_underlying ht,zeroValue,typeInfo,hi,hz,hst]
def jdA (c:Int) (n:Pd) (w:World) (e:Ending) (w':World):Prop:=(c=0→∃v,e=.returned v∧JP w.heap.size w' v n)∧(c≠0→e=.panicked [jV c])∧Kept w w'
theorem jdA.bad {c:Int} {n:Pd} {w w':World} (hc:c≠0) (hb:Kept w w'):jdA c n w (.panicked [jV c]) w':=⟨fun g=>absurd g hc,fun _=>rfl,hb⟩
abbrev SX:=Option Addr×Nat×Nat
abbrev NX:=Nod×SX×SX×SX
abbrev slV (x:SX):Value:=.slice x.1 x.2.1 x.2.2
def At3 (w:World) (z:NX):Prop:=zA w (slV z.2.1) (slV z.2.2.1) (slV z.2.2.2) z.1
abbrev PX:=Pd×SX×SX×SX×SX
def At4 (w:World) (z:PX):Prop:=jq w (slV z.2.1) (slV z.2.2.1) (slV z.2.2.2.1) (slV z.2.2.2.2) z.1
def Btw (lo hi:Nat) (a:Option Addr):Prop:=∀b off sp,a=some ⟨b,off,sp⟩→lo≤b∧b<hi
theorem Btw.up {lo hi lo' hi':Nat} {a:Option Addr} (h:Btw lo hi a) (h1:lo'≤lo) (h2:hi≤hi'):Btw lo' hi' a:=fun b o s e=>⟨Nat.le_trans h1 (h b o s e).1,Nat.lt_of_lt_of_le (h b o s e).2 h2⟩
theorem Btw.behind {lo hi:Nat} {a:Option Addr} (h:Btw lo hi a):jz lo a:=fun b o s e=>(h b o s e).1
def qN (lo hi:Nat) (z:PX):Prop:=Btw lo hi z.2.1.1∧Btw lo hi z.2.2.1.1∧Btw lo hi z.2.2.2.1.1∧Btw lo hi z.2.2.2.2.1
theorem qN.up {lo hi lo' hi':Nat} {z:PX} (h:qN lo hi z) (h1:lo'≤lo) (h2:hi≤hi'):qN lo' hi' z:=⟨h.1.up h1 h2,h.2.1.up h1 h2,h.2.2.1.up h1 h2,h.2.2.2.up h1 h2⟩
theorem jq.at4 {w:World} {n:Pd} {x1 x2 x3 x4:SX} (h:jq w (slV x1) (slV x2) (slV x3) (slV x4) n):At4 w (n,x1,x2,x3,x4):=h
theorem Reads.grown {α:Type} {L:Lay α} {w w':World} {row:Option Nat} {a:Option Addr} {m c:Nat} {l:List α} (h:Reads L w (.slice a m c) l) (hg:w.grownBy w' row) (hb:∀b off sp,a=some ⟨b,off,sp⟩→some b≠row):Reads L w' (.slice a m c) l:=by
 obtain⟨a',cap',e,h1,h2,h3,h4,h5,h6⟩:=h
 cases e
 refine⟨a,c,rfl,h1,h2,h3,h4,h5,h6.imp id ?_⟩;rintro ⟨b,off,rfl,hlt,hc⟩;exact⟨b,off,rfl,Nat.lt_of_lt_of_le hlt hg.size,fun i x j u hi hj=>(World.cell?_of_block (a:=⟨b,off+i*L.m+j,none⟩) (hg.block b hlt (hb b off none rfl))).trans (hc i x j u hi hj)⟩
theorem Vec.Reads.grown {w w':World} {row:Option Nat} {a:Option Addr} {m c:Nat} {l:Vec.V} (h:Vec.Reads w (.slice a m c) l) (hg:w.grownBy w' row) (hb:∀b off sp,a=some ⟨b,off,sp⟩→some b≠row):Vec.Reads w' (.slice a m c) l:=by
 obtain⟨a',cap',e,h1,h2,h3,h4,h5,h6⟩:=h
 cases e
 refine⟨a,c,rfl,h1,h2,h3,h4,h5,h6.imp id ?_⟩;rintro ⟨b,off,rfl,hlt,hc⟩;exact⟨b,off,rfl,Nat.lt_of_lt_of_le hlt hg.size,fun i hi=>⟨(World.cell?_of_block (a:=⟨b,off+i*2,none⟩) (hg.block b hlt (hb b off none rfl))).trans (hc i hi).1,(World.cell?_of_block (a:=⟨b,off+i*2+1,none⟩) (hg.block b hlt (hb b off none rfl))).trans (hc i hi).2⟩⟩
theorem jdP (x:NX) (u:Value) (h:u ∈ [Value.string x.1.name,slV x.2.1,slV x.2.2.1,slV x.2.2.2,.bool x.1.cordon]):u.oneCell'=true:=by
 simp only[List.mem_cons,List.not_mem_nil,or_false] at h;rcases h with rfl | rfl | rfl | rfl | rfl<;>rfl
def zH:Lay NX:={ m:=5,cs:=fun x=>[.string x.1.name,slV x.2.1,slV x.2.2.1,slV x.2.2.2,.bool x.1.cordon],fine:=fun _=>True,len:=fun _=>rfl,one:=jdP,pos:=by decide }
theorem jek {w:World} {T:TypeId} {B:Nat} {v:Value} {lx:List NX} (ho:Own zH T w B v lx) (hf:∀z ∈ lx,At3 w z):Yc w v (lx.map fun z=>z.1):=by
 obtain⟨a,cap,rfl,h1,h2,h3⟩:=ho.at_;obtain⟨g0,g1,g2,g3⟩:=h3;refine⟨a,cap,by rw[List.length_map],by rw[List.length_map];exact h1,h2,rfl,by rw[List.length_map];exact g1,?_⟩;rw[List.length_map];rcases g3 with g3 | ⟨b,off,rfl,hb,hc⟩
 · exact .inl g3
 · refine .inr ⟨b,off,rfl,hb,fun i n hi=>?_⟩;rw[List.getElem?_map] at hi;obtain⟨z,hz,rfl⟩:=Option.map_eq_some_iff.1 hi;exact⟨_,_,_,_,_,_,_,_,_,hc i z 0 _ hz rfl,hc i z 1 _ hz rfl,hc i z 2 _ hz rfl,hc i z 3 _ hz rfl,hc i z 4 _ hz rfl,hf z (List.mem_of_getElem? hz)⟩
theorem X5 (x:PX) (u:Value) (h:u ∈ [Value.string x.1.name,.string x.1.owner,.int .i64 x.1.prio,slV x.2.1,slV x.2.2.1,slV x.2.2.2.1,slV x.2.2.2.2,.string x.1.key,.int .i64 x.1.most,.string x.1.node,.bool x.1.hold]):u.oneCell'=true:=by
 simp only[List.mem_cons,List.not_mem_nil,or_false] at h;rcases h with rfl | rfl | rfl | rfl | rfl | rfl | rfl | rfl | rfl | rfl | rfl<;>rfl
def PodLay0:Lay PX:={ m:=11,cs:=fun x=>[.string x.1.name,.string x.1.owner,.int .i64 x.1.prio,slV x.2.1,slV x.2.2.1,slV x.2.2.2.1,slV x.2.2.2.2,.string x.1.key,.int .i64 x.1.most,.string x.1.node,.bool x.1.hold],fine:=fun _=>True,len:=fun _=>rfl,one:=X5,pos:=by decide }
theorem ZY {w:World} {T:TypeId} {B:Nat} {v:Value} {lx:List PX} (ho:Own PodLay0 T w B v lx) (hf:∀z ∈ lx,At4 w z):Jw w v (lx.map fun z=>z.1):=by
 obtain⟨a,cap,rfl,h1,h2,h3⟩:=ho.at_;obtain⟨g0,g1,g2,g3⟩:=h3;refine⟨a,cap,by rw[List.length_map],by rw[List.length_map];exact h1,h2,rfl,by rw[List.length_map];exact g1,?_⟩;rw[List.length_map];rcases g3 with g3 | ⟨b,off,rfl,hb,hc⟩
 · exact .inl g3
 · refine .inr ⟨b,off,rfl,hb,fun i n hi=>?_⟩;rw[List.getElem?_map] at hi;obtain⟨z,hz,rfl⟩:=Option.map_eq_some_iff.1 hi;exact⟨slV z.2.1,slV z.2.2.1,slV z.2.2.2.1,slV z.2.2.2.2,hc i z 0 _ hz rfl,hc i z 1 _ hz rfl,hc i z 2 _ hz rfl,hc i z 3 _ hz rfl,hc i z 4 _ hz rfl,hc i z 5 _ hz rfl,hc i z 6 _ hz rfl,hc i z 7 _ hz rfl,hc i z 8 _ hz rfl,hc i z 9 _ hz rfl,hc i z 10 _ hz rfl,hf z (List.mem_of_getElem? hz)⟩
def jei (c:Int) (n:Bd) (w:World) (e:Ending) (w':World):Prop:=(c=0→∃v,e=.returned v∧JO w.heap.size w' v n)∧(c≠0→e=.panicked [jV c])∧Kept w w'
theorem jei.bad {c:Int} {n:Bd} {w w':World} (hc:c≠0) (hb:Kept w w'):jei c n w (.panicked [jV c]) w':=⟨fun g=>absurd g hc,fun _=>rfl,hb⟩
abbrev BX:=Bd×SX
def At1 (w:World) (z:BX):Prop:=zB w (slV z.2) z.1
theorem jft (x:BX) (u:Value) (h:u ∈ [Value.string x.1.name,slV x.2,.int .i64 x.1.floor]):u.oneCell'=true:=by
 simp only[List.mem_cons,List.not_mem_nil,or_false] at h;rcases h with rfl | rfl | rfl<;>rfl
def zN:Lay BX:={ m:=3,cs:=fun x=>[.string x.1.name,slV x.2,.int .i64 x.1.floor],fine:=fun _=>True,len:=fun _=>rfl,one:=jft,pos:=by decide }
theorem jeR {w:World} {T:TypeId} {B:Nat} {v:Value} {lx:List BX} (ho:Own zN T w B v lx) (hf:∀z ∈ lx,At1 w z):YM w v (lx.map fun z=>z.1):=by
 obtain⟨a,cap,rfl,h1,h2,h3⟩:=ho.at_;obtain⟨g0,g1,g2,g3⟩:=h3;refine⟨a,cap,by rw[List.length_map],by rw[List.length_map];exact h1,h2,rfl,by rw[List.length_map];exact g1,?_⟩;rw[List.length_map];rcases g3 with g3 | ⟨b,off,rfl,hb,hc⟩
 · exact .inl g3
 · refine .inr ⟨b,off,rfl,hb,fun i n hi=>?_⟩;rw[List.getElem?_map] at hi;obtain⟨z,hz,rfl⟩:=Option.map_eq_some_iff.1 hi;exact⟨slV z.2,hc i z 0 _ hz rfl,hc i z 1 _ hz rfl,hc i z 2 _ hz rfl,hf z (List.mem_of_getElem? hz)⟩
structure jb (S:Nat→Prop) (w w':World):Prop where
 os:w'.os=w.os
 tape:w'.tape=w.tape
 output:w'.output=w.output
 size:w.heap.size≤w'.heap.size
 block:∀k,k<w.heap.size→¬S k→w'.heap[k]?=w.heap[k]?
theorem jb.trans {S:Nat→Prop} {a b c:World} (h:jb S a b) (k:jb S b c):jb S a c :=
 ⟨k.os.trans h.os,k.tape.trans h.tape,k.output.trans h.output,Nat.le_trans h.size k.size,fun i hi hs=>(k.block i (Nat.lt_of_lt_of_le hi h.size) hs).trans (h.block i hi hs)⟩
theorem jb.mono {S S':Nat→Prop} {a b:World} (h:jb S a b) (hs:∀k,S k→S' k):jb S' a b:=⟨h.os,h.tape,h.output,h.size,fun i hi hn=>h.block i hi fun e=>hn (hs i e)⟩
theorem jb.of {S:Nat→Prop} {a b:World} (k:Kept a b):jb S a b:=⟨k.os,k.tape,k.output,k.size,fun i hi _=>k.block i hi⟩
theorem jb.below {S:Nat→Prop} {a b c:World} (k:Kept a b) (h:jb S b c) (hs:∀i,S i→a.heap.size≤i):Kept a c :=
 ⟨h.os.trans k.os,h.tape.trans k.tape,h.output.trans k.output,Nat.le_trans k.size h.size,fun i hi=>(h.block i (Nat.lt_of_lt_of_le hi k.size) fun e=>by have:=hs i e;omega).trans (k.block i hi)⟩
theorem jb.cell {S:Nat→Prop} {a:World} (g i:Nat) (u:Value) (hg:S g):jb S a (a.setCell ⟨g,i,none⟩ u) :=
 ⟨rfl,rfl,rfl,by simp[World.setCell],fun k _ hn=>Below.heap_setCell a ⟨g,i,none⟩ u k (fun e=>hn (by rw[show k=g from e];exact hg))⟩
theorem jb.cells {S:Nat→Prop} (g:Nat) (hg:S g):∀(vs:List Value) (o:Nat) (a:World),jb S a (a.setCells g o vs)
 | [],_,a=>jb.of (Kept.refl a)
 | v::r,o,a=>by rw[World.setCells];exact(jb.cell g o v hg).trans (jb.cells g hg r (o+1) _)
theorem jb.grown {S:Nat→Prop} {a b:World} {o:Option Nat} (h:a.grownBy b o) (hs:∀k,o=some k→S k):jb S a b :=
 ⟨h.os,h.tape,h.output,h.size,fun i hi hn=>h.block i hi fun e=>hn (hs i e.symm)⟩
theorem jb.drew {S:Nat→Prop} (a:World):jb S a a.drew:=jb.of (Kept.drew a)
theorem jb.at_below {S:Nat→Prop} {B:Nat} {a b:World} (h:jb S a b) (hb:∀i,S i→B≤i) (hB:B≤a.heap.size):Below B a b:=⟨h.os,h.tape,h.output,h.size,fun i hi=>h.block i (by omega) fun e=>by have:=hb i e;omega⟩
def Off (S:Nat→Prop) (w:World) (Φ:World→Prop):Prop:=∀w',jb S w w'→Φ w'
theorem Off.here {S:Nat→Prop} {w:World} {Φ:World→Prop} (h:Off S w Φ):Φ w:=h w (jb.of (Kept.refl w))
theorem Off.step {S:Nat→Prop} {w w':World} {Φ:World→Prop} (h:Off S w Φ) (g:jb S w w'):Off S w' Φ:=fun u k=>h u (g.trans k)
theorem Off.less {S S':Nat→Prop} {w:World} {Φ:World→Prop} (h:Off S w Φ) (hs:∀k,S' k→S k):Off S' w Φ:=fun u k=>h u (k.mono hs)
theorem Off.imp {S:Nat→Prop} {w:World} {Φ Ψ:World→Prop} (h:Off S w Φ) (f:∀u,Φ u→Ψ u):Off S w Ψ:=fun u k=>f u (h u k)
theorem Off.of {S:Nat→Prop} {a w:World} {Φ:World→Prop} (h:∀u,Kept a u→Φ u) (k:Kept a w) (hs:∀i,S i→a.heap.size≤i):Off S w Φ:=fun u g=>h u (g.below k hs)
theorem Off.new {S S':Nat→Prop} {w w':World} {Φ:World→Prop} (h:Off S w Φ) (g:jb S w w') (hs:∀k,S' k→S k∨w.heap.size≤k):Off S' w' Φ:=fun u k =>
 h u ⟨k.os.trans g.os,k.tape.trans g.tape,k.output.trans g.output,Nat.le_trans g.size k.size,fun i hi hn=>(k.block i (Nat.lt_of_lt_of_le hi g.size) fun e=>by rcases hs i e with e | e;exact hn e;omega).trans (g.block i hi hn)⟩
theorem Xd {S:Nat→Prop} {o:Option Addr} {B:Nat} (hb:jz B o) (hs:∀k,B≤k→¬S k):∀b off sp,o=some ⟨b,off,sp⟩→¬S b:=fun b off sp e=>hs b (hb b off sp e)
theorem jk.goff {α:Type} {L:Lay α} {S:Nat→Prop} {w w':World} {a:Option Addr} {len:Nat} {l:List α} (h:jk L w a len l) (g:jb S w w') (hn:∀b off sp,a=some ⟨b,off,sp⟩→¬S b):jk L w' a len l:=by
 obtain⟨h0,h1,h2,h3⟩:=h;refine⟨h0,h1,h2,h3.imp id ?_⟩;rintro ⟨b,off,ha,hb,hc⟩;exact⟨b,off,ha,Nat.lt_of_lt_of_le hb g.size,fun i x j u hi hj=>(World.cell?_of_block (w:=w) (g.block b hb (hn b off none ha))).trans (hc i x j u hi hj)⟩
theorem Reads.goff {α:Type} {L:Lay α} {S:Nat→Prop} {w w':World} {a:Option Addr} {m c:Nat} {l:List α} (h:Reads L w (.slice a m c) l) (g:jb S w w') (hn:∀b off sp,a=some ⟨b,off,sp⟩→¬S b):Reads L w' (.slice a m c) l:=by
 obtain⟨a',c',e,h1,h2,h3⟩:=h
 cases e
 exact⟨a,c,rfl,h1,h2,h3.goff g hn⟩
theorem Vec.js.goff {S:Nat→Prop} {w w':World} {a:Option Addr} {len:Nat} {l:Vec.V} (h:Vec.js w a len l) (g:jb S w w') (hn:∀b off sp,a=some ⟨b,off,sp⟩→¬S b):Vec.js w' a len l:=by
 obtain⟨h0,h1,h2,h3⟩:=h;refine⟨h0,h1,h2,h3.imp id ?_⟩;rintro ⟨b,off,ha,hb,hc⟩;refine⟨b,off,ha,Nat.lt_of_lt_of_le hb g.size,fun i hi=>?_⟩;have e:∀j,w'.cell? ⟨b,j,none⟩=w.cell? ⟨b,j,none⟩:=fun j=>World.cell?_of_block (a:=⟨b,j,none⟩) (g.block b hb (hn b off none ha));rw[e,e];exact hc i hi
theorem Vec.Reads.goff {S:Nat→Prop} {w w':World} {a:Option Addr} {m c:Nat} {l:Vec.V} (h:Vec.Reads w (.slice a m c) l) (g:jb S w w') (hn:∀b off sp,a=some ⟨b,off,sp⟩→¬S b):Vec.Reads w' (.slice a m c) l:=by
 obtain⟨a',c',e,h1,h2,h3⟩:=h
 cases e
 exact⟨a,c,rfl,h1,h2,Vec.js.goff h3 g hn⟩
theorem jq.off {S:Nat→Prop} {B:Nat} {w:World} {n:Pd} {b1 b2 b3 b4:Option Addr} {n1 d1 n2 d2 n3 d3 n4 d4:Nat} (h:jq w (.slice b1 n1 d1) (.slice b2 n2 d2) (.slice b3 n3 d3) (.slice b4 n4 d4) n) (g1:jz B b1) (g2:jz B b2) (g3:jz B b3) (g4:jz B b4) (hs:∀k,B≤k→¬S k) :
 Off S w fun u=>jq u (.slice b1 n1 d1) (.slice b2 n2 d2) (.slice b3 n3 d3) (.slice b4 n4 d4) n:=fun u g =>
 ⟨h.name,h.owner,h.key,h.node,h.prio,h.most,h.need.goff g (Xd g1 hs),h.labels.goff g (Xd g2 hs),h.sel.goff g (Xd g3 hs),h.tols.goff g (Xd g4 hs)⟩
theorem zA.off {S:Nat→Prop} {B:Nat} {w:World} {n:Nod} {b1 b2 b3:Option Addr} {n1 d1 n2 d2 n3 d3:Nat} (h:zA w (.slice b1 n1 d1) (.slice b2 n2 d2) (.slice b3 n3 d3) n) (g1:jz B b1) (g2:jz B b2) (g3:jz B b3) (hs:∀k,B≤k→¬S k) :
 Off S w fun u=>zA u (.slice b1 n1 d1) (.slice b2 n2 d2) (.slice b3 n3 d3) n:=fun u g =>
 ⟨h.size,h.cap.goff g (Xd g1 hs),h.labels.goff g (Xd g2 hs),h.taints.goff g (Xd g3 hs)⟩
theorem zB.off {S:Nat→Prop} {B:Nat} {w:World} {n:Bd} {b1:Option Addr} {n1 d1:Nat} (h:zB w (.slice b1 n1 d1) n) (g1:jz B b1) (hs:∀k,B≤k→¬S k) :
 Off S w fun u=>zB u (.slice b1 n1 d1) n:=fun u g=>⟨h.name,h.floor,h.sel.goff g (Xd g1 hs)⟩
theorem Own.goff {α:Type} {L:Lay α} {e:TypeId} {S:Nat→Prop} {w w':World} {B:Nat} {v:Value} {l:List α} (h:Own L e w B v l) (g:jb S w w') (hn:∀k,v.ownBlock=some k→¬S k):Own L e w' B v l:=by
 obtain⟨⟨h0,h1⟩,hf⟩:=h;refine⟨⟨h0,h1.imp id ?_⟩,hf⟩;rintro ⟨q,cap,cur,rfl,hbg,hg,hr⟩;have hlt:q<w.heap.size:=by
  rcases Nat.lt_or_ge q w.heap.size with hlt | hge
  · exact hlt
  · rw[Array.getElem?_eq_none hge] at hg;cases hg
 exact⟨q,cap,cur,rfl,hbg,(g.block q hlt (hn q rfl)).trans hg,hr⟩
structure Deep {X:Type} (L:Lay X) (T:TypeId) (At:World→X→Prop) (w:World) (B:Nat) (v:Value) (lx:List X):Prop where
 own:Own L T w B v lx
 off:∀z ∈ lx,Off (fun b=>v.ownBlock=some b) w fun u=>At u z
theorem Deep.ats {X:Type} {L:Lay X} {T:TypeId} {At:World→X→Prop} {w:World} {B:Nat} {v:Value} {lx:List X} (h:Deep L T At w B v lx):∀z ∈ lx,At w z:=fun z hz=>(h.off z hz).here
theorem Deep.kept {X:Type} {L:Lay X} {T:TypeId} {At:World→X→Prop} {w w':World} {B:Nat} {v:Value} {lx:List X} (h:Deep L T At w B v lx) (k:Kept w w'):Deep L T At w' B v lx:=⟨h.own.kept k,fun z hz=>(h.off z hz).step (jb.of k)⟩
theorem Deep.less {X:Type} {L:Lay X} {T:TypeId} {At:World→X→Prop} {w:World} {B B':Nat} {v:Value} {lx:List X} (h:Deep L T At w B v lx) (hb:B'≤B):Deep L T At w B' v lx:=⟨h.own.base_le hb,h.off⟩
theorem Deep.goff {X:Type} {L:Lay X} {T:TypeId} {At:World→X→Prop} {w w':World} {B q:Nat} {v:Value} {lx:List X} (h:Deep L T At w B v lx) (g:jb (fun b=>b=q) w w') (hq:q<B) (ha:∀z ∈ lx,Off (fun b=>v.ownBlock=some b∨b=q) w fun u=>At u z):Deep L T At w' B v lx :=
 ⟨h.own.goff g (fun k hk e=>by
  have hl:B≤k:=by
   rcases h.own.1.2 with ⟨rfl,_⟩ | ⟨q2,cap,cur,rfl,hb,_⟩
   · cases hk
   · cases hk;exact hb
  omega),fun z hz=>((ha z hz).step (g.mono fun k e=>.inr e)).less fun k e=>.inl e⟩
theorem jR {X:Type} {L:Lay X} {T:TypeId} {w:World} {B:Nat} {v:Value} {lx:List X} (h:Own L T w B v lx):∀g,v.ownBlock=some g→B≤g∧g<w.heap.size:=h.1.lt
theorem Own.cell_at {X:Type} {L:Lay X} {T:TypeId} {w:World} {B g n cap:Nat} {lx:List X} (h:Own L T w B (.slice (some ⟨g,0,none⟩) n cap) lx) {k:Nat} {z:X} (hz:lx[k]?=some z) {j:Nat} {u:Value} (hu:(L.cs z)[j]?=some u):w.cell? ⟨g,k*L.m+j,none⟩=some u:=by
 obtain⟨a,c,e,_,_,h3⟩:=h.at_
 cases e
 have hk:k<lx.length:=(List.getElem?_eq_some_iff.1 hz).1;obtain⟨x,hx,_,_,_,hc⟩:=h3.cells hk;obtain rfl:x=z:=by rw[hz] at hx;exact(Option.some.inj hx).symm
 have:=hc j u hu;rwa [Nat.zero_add] at this
theorem Own.frozen_at {X:Type} {L:Lay X} {T:TypeId} {w:World} {B g n cap:Nat} {lx:List X} (h:Own L T w B (.slice (some ⟨g,0,none⟩) n cap) lx) (j:Nat):w.frozen? ⟨g,j,none⟩=false:=by
 obtain⟨a,c,e,_⟩:=h.at_
 cases e
 exact h.1.frozenAt j
theorem Zb {X:Type} (L:Lay X):∀(lx:List X) (k:Nat) (z:X),k<lx.length→(jd L lx).take (k*L.m)++L.cs z++(jd L lx).drop (k*L.m+L.m)=jd L (lx.set k z)
 | [],_,_,h=>by simp at h
 | x::t,0,z,_=>by
  rw[Nat.zero_mul,List.take_zero,List.nil_append,Nat.zero_add,List.set_cons_zero];unfold jd;rw[List.flatMap_cons,List.flatMap_cons,List.drop_append_of_le_length (by rw[L.len];exact Nat.le_refl _),List.drop_of_length_le (by rw[L.len];exact Nat.le_refl _),List.nil_append]
 | x::t,k+1,z,h=>by
  have ih:=Zb L t k z (by simpa using h);rw[List.set_cons_succ];unfold jd at ih ⊢;rw[List.flatMap_cons,List.flatMap_cons,←ih,Nat.add_mul,Nat.one_mul];have hx:(L.cs x).length=L.m:=L.len x;rw[show k*L.m+L.m=(L.cs x).length+k*L.m by rw[hx,Nat.add_comm],List.take_length_add_append,show (L.cs x).length+k*L.m+L.m=(L.cs x).length+(k*L.m+L.m) by omega,List.drop_length_add_append];simp only[List.append_assoc];rw[show (L.cs x).length+k*L.m=k*L.m+L.m by rw[hx,Nat.add_comm]]
theorem Own.Zz {X:Type} {L:Lay X} {T:TypeId} {w:World} {B g n cap:Nat} {lx:List X} (h:Own L T w B (.slice (some ⟨g,0,none⟩) n cap) lx) {k:Nat} (hk:k<lx.length) (z:X) (hf:L.fine z):Own L T (w.setCells g (k*L.m) (L.cs z)) B (.slice (some ⟨g,0,none⟩) n cap) (lx.set k z):=by
 obtain⟨a,c,e,_⟩:=h.at_
 cases e
 have hm:k*L.m+L.m≤lx.length*L.m:=by rw[←Nat.succ_mul];exact Nat.mul_le_mul_right _ hk
 have:=jeW h.1 (o:=k*L.m) (vs:=L.cs z) (by rw[L.len];exact hm);rw[L.len,Zb L lx k z hk] at this;refine⟨by rw[List.length_set];exact this,fun x hx=>?_⟩;rcases List.mem_or_eq_of_mem_set hx with hx | hx
 · exact h.2 x hx
 · subst hx;exact hf
theorem qz {w:World} {B:Nat} {v:Value} {lx:List PX} {T:TypeId} (h:Deep PodLay0 T At4 w B v lx):Jw w v (lx.map fun z=>z.1):=ZY h.own h.ats
def JI (o:Option ByteArray) (w:World) (e:Ending) (w':World):Prop:=(∀d,o=some d→e=.returned (.string d))∧(o=none→e=.panicked [jV 3])∧Kept w w'
theorem JI.bad {o:Option ByteArray} {w w':World} (h:o=none) (k:Kept w w'):JI o w (.panicked [jV 3]) w':=⟨(fun d e=>by rw[h] at e;cases e),(fun _=>rfl),k⟩
theorem JI.good {o:Option ByteArray} {d:ByteArray} {w w':World} (h:o=some d) (k:Kept w w'):JI o w (.returned (.string d)) w':=⟨(fun c e=>by rw[h] at e;cases e;rfl),(fun e=>by rw[h] at e;cases e),k⟩
theorem jdI (a:Option Addr) (m c:Nat) (l:PL) (key:ByteArray) (w:World) (h:Reads zc w (.slice a m c) l):Calls Tryz.prog 254 #[.slice a m c,.string key] w (JI (zh l key) w):=by
 obtain⟨go,hgo⟩:=eX (zh l key)
 rw[hgo];have HG:=lH (jeP h (x:=go.getD ByteArray.empty) (b:=go.isSome) (by unfold ZZ;rw[hgo]) (by unfold JZ;rw[hgo]));clear h hgo;go_enter Tryz.func254,Tryz.ntmps254;go_wp2_with fail
 refine HG.out.mono ?_;rintro e w1 ⟨rfl,kk⟩;have K:=lH kk;clear kk
 cases go with
 | none =>
  go_wp2;exact⟨rfl,JI.bad rfl K.out⟩
 | some d =>
  go_wp2;go_ret;exact JI.good rfl K.out
theorem jeG {key name:ByteArray} {n:Nod} {l:List Nod} (h:eqS n.name name=true):domV key name (n::l)=zh n.labels key:=by rw[domV,if_pos h]
theorem jed {key name:ByteArray} {n:Nod} {l:List Nod} (h:eqS n.name name=false):domV key name (n::l)=domV key name l:=by rw[domV,if_neg (by rw[h];decide)]
theorem jbe (s1 s2 s3:Option Addr) (n1 e1 n2 e2 n3 e3:Nat) (nodes:List Nod) (key name:ByteArray) (w:World) (hn:jt w s1 n1 nodes) (hb1:n1≤100000) :
 Calls Tryz.prog 243 #[.agg #[.slice s1 n1 e1,.slice s2 n2 e2,.slice s3 n3 e3],.string key,.string name] w (JI (domV key name nodes) w):=by
 obtain⟨Z,hZ⟩:=eX (w.alloc (.cells #[.slice s1 n1 e1,.slice s2 n2 e2,.slice s3 n3 e3] 35))
 have hkz:Kept w Z:=by rw[←hZ];exact ja _ _
 obtain⟨Vh,HN,VN,Vd⟩:=lH4 (jc w (.slice s1 n1 e1) [.slice s2 n2 e2,.slice s3 n3 e3] 35 Z (by rw[hZ];exact Kept.refl _)) hn hn.1 hkz;clear hn hkz;go_enter Tryz.func243,Tryz.ntmps243;have y0:=Vh.out.at_ 0 _ rfl;go_upto_region 1 with fail
 try rw[hZ]
 clear hZ;go_wp2;clear y0;go_loopw [12] (fun i wr=>∃k:Nat,k≤n1∧i=.int .i64 k∧domV key name (nodes.drop k)=domV key name nodes∧Kept Z wr) (fun i _=>n1-(intOf i).toNat)
 case atStart=>exact⟨0,Nat.zero_le _,rfl,rfl,Kept.refl _⟩
 case round =>
  obtain⟨k,hk,rfl,hR,hK⟩:=hrel;obtain⟨HR,HK,Us⟩:=lH3 hR (Vd.out.trans hK) hK;by_cases hlt:k<n1
  · obtain⟨g,off,rfl⟩:=HN.out.form.resolve_left (by omega);obtain⟨n,b1,k1,d1,b2,k2,d2,b3,k3,d3,hn,hd,hb,u0,u1,u2,u3,u4,hat⟩:=(HN.out.kept HK.out).at_ hlt;have VM:=lH hat;have HD:=lH hd;have hkk:(k:Int)<(n1:Int):=by omega
    have hk0:¬(k:Int)<0:=by omega
    obtain⟨wx,hwx⟩:=eX (wr.alloc (.cells #[.string n.name,.slice b1 k1 d1,.slice b2 k2 d2,.slice b3 k3 d3,.bool n.cordon] 29))
    have hkx:Kept wr wx:=by rw[←hwx];exact ja _ _
    have Vt:=lH (jc wr (.string n.name) [.slice b1 k1 d1,.slice b2 k2 d2,.slice b3 k3 d3,.bool n.cordon] 29 wx (by rw[hwx];exact Kept.refl _));obtain⟨bq,hbq⟩:=eX (wr.heap.size)
    rw[hbq] at Vt;have KX:=lH hkx;go_upto_region 4 with fail
    try rw[hwx]
    try rw[hbq]
    clear hwx hbq hd hb hn hR hK hkx hk0 hkk hat u0 u1 u2 u3 u4;have t0:=Vt.out.at_ 0 _ rfl;have t2:=Vt.out.at_ 2 _ rfl;obtain⟨t,ht⟩:=eX ((n.name.toList==name.toList))
    have HT:=lH (show eqS n.name name=t from ht)
    cases t with
    | false =>
     have HX:=lH (show domV key name (nodes.drop (k+1))=domV key name nodes by rw[←HR.out,HD.out,jed HT.out]);go_wp2;go_roundw
     case rel=>exact⟨k+1,by omega,by go_num,HX.out,Us.out.trans KX.out⟩
     case measure=>simp[intOf];omega
    | true =>
     have HX:=lH (show zh n.labels key=domV key name nodes by rw[←HR.out,HD.out,jeG HT.out]);go_wp2_with fail
     refine(jdI b2 k2 d2 n.labels key wx (VM.out.labels.kept KX.out)).mono ?_;rintro e w3 ⟨h1,h2,kk⟩;have K3:=lH (HK.out.trans (KX.out.trans kk));clear kk;rw[HX.out] at h1 h2
     cases ho:domV key name nodes with
     | none =>
      obtain rfl:=h2 ho;have HO:=lH ho;clear h1 h2 ho;go_wp2;exact⟨rfl,JI.bad HO.out K3.out⟩
     | some d =>
      obtain rfl:=h1 d ho;have HO:=lH ho;clear h1 h2 ho;go_wp2;go_ret;exact JI.good HO.out K3.out
  · have hge:¬(k:Int)<(n1:Int):=by omega
    have HO:=lH (show domV key name nodes=none by rw[←HR.out,List.drop_of_length_le (by rw[VN.out];omega)];rfl);clear hR hK;go_wp2;exact⟨rfl,JI.bad HO.out HK.out⟩
theorem jdg (p q:Pd) (a1 a2 a3 a4 b1 b2 b3 b4:Option Addr) (m1 c1 m2 c2 m3 c3 m4 c4 k1 d1 k2 d2 k3 d3 k4 d4:Nat) (w:World):Calls Tryz.prog 255 #[jo p (.slice a1 m1 c1) (.slice a2 m2 c2) (.slice a3 m3 c3) (.slice a4 m4 c4),jo q (.slice b1 k1 d1) (.slice b2 k2 d2) (.slice b3 k3 d3) (.slice b4 k4 d4)] w (Say (.bool (Zk p q)) w):=by
 obtain⟨Z,hZ⟩:=eX ((w.alloc (.cells #[.string p.name,.string p.owner,.int .i64 p.prio,.slice a1 m1 c1,.slice a2 m2 c2,.slice a3 m3 c3,.slice a4 m4 c4,.string p.key,.int .i64 p.most,.string p.node,.bool p.hold] 41)).alloc (.cells #[.string q.name,.string q.owner,.int .i64 q.prio,.slice b1 k1 d1,.slice b2 k2 d2,.slice b3 k3 d3,.slice b4 k4 d4,.string q.key,.int .i64 q.most,.string q.node,.bool q.hold] 41))
 have hkz:Kept w Z:=by rw[←hZ];exact ji _ _ _
 have hp:=jc w (.string p.name) [.string p.owner,.int .i64 p.prio,.slice a1 m1 c1,.slice a2 m2 c2,.slice a3 m3 c3,.slice a4 m4 c4,.string p.key,.int .i64 p.most,.string p.node,.bool p.hold] 41 Z (by rw[←hZ];exact ja _ _);have hq:je (w.heap.size+1) [.string q.name,.string q.owner,.int .i64 q.prio,.slice b1 k1 d1,.slice b2 k2 d2,.slice b3 k3 d3,.slice b4 k4 d4,.string q.key,.int .i64 q.most,.string q.node,.bool q.hold] Z:=by
  have dd:=jc (w.alloc (.cells #[.string p.name,.string p.owner,.int .i64 p.prio,.slice a1 m1 c1,.slice a2 m2 c2,.slice a3 m3 c3,.slice a4 m4 c4,.string p.key,.int .i64 p.most,.string p.node,.bool p.hold] 41)) (.string q.name) [.string q.owner,.int .i64 q.prio,.slice b1 k1 d1,.slice b2 k2 d2,.slice b3 k3 d3,.slice b4 k4 d4,.string q.key,.int .i64 q.most,.string q.node,.bool q.hold] 41 Z (by rw[hZ];exact Kept.refl _);rw[World.size_alloc] at dd;exact dd
 have p0:=hp.at_ 0 _ rfl;have p1:=hp.at_ 1 _ rfl;have q0:=hq.at_ 0 _ rfl;have q1:=hq.at_ 1 _ rfl;have q10:=hq.at_ 10 _ rfl;have HK:=lH hkz;obtain⟨t0,h0⟩:=eX ((p.owner.toList==([]:List UInt8)))
 obtain⟨t1,h1⟩:=eX ((q.owner.toList==p.owner.toList))
 obtain⟨t2,h2⟩:=eX ((q.name.toList==p.name.toList))
 obtain⟨t3,h3⟩:=eX (q.hold)
 have HV:=lH (show Zk p q=(!t0&&(t1&&(!t3&&!t2))) by unfold Zk eqS;rw[Xb,h0,h1,h2,h3]);rw[h3] at q10;rw[h3] at hZ;clear hp hq hkz;unfold jo;rw[h3];clear h3;go_enter Tryz.func255,Tryz.ntmps255
 cases t0 with
 | true =>
  go_wp2;try rw[hZ]
  go_ret;exact⟨jr (by rw[HV.out];rfl),by first | exact HK.out | (rw[hZ];exact HK.out)⟩
 | false =>
  cases t1 with
  | false =>
   go_wp2;try rw[hZ]
   go_ret;exact⟨jr (by rw[HV.out];rfl),by first | exact HK.out | (rw[hZ];exact HK.out)⟩
  | true =>
   cases t3 with
   | true =>
    go_wp2;try rw[hZ]
    go_ret;exact⟨jr (by rw[HV.out];rfl),by first | exact HK.out | (rw[hZ];exact HK.out)⟩
   | false =>
    cases t2 with
    | true =>
     go_wp2;try rw[hZ]
     go_ret;exact⟨jr (by rw[HV.out];rfl),by first | exact HK.out | (rw[hZ];exact HK.out)⟩
    | false =>
     go_wp2;try rw[hZ]
     go_ret;exact⟨jr (by rw[HV.out];rfl),by first | exact HK.out | (rw[hZ];exact HK.out)⟩
open Go.RowKit Go.Maps Go.WideShapes Go.WideMaps
theorem Xj:Keyed Tryz.prog 9:=string_keyed Tryz.underlying9
theorem jfL (w:World):(zeroValue 3).run Tryz.prog w=.ok (.int .i64 0) w:=by kernel_rfl
abbrev mk9 (x:ByteArray):Lit:=.string x.data.toList
theorem jcx {x y:ByteArray} (h:mk9 x=mk9 y):x=y:=by
 injection h with h
 cases x;cases y
 simp only at h;congr 1
 exact Array.toList_inj.1 h
structure jg6 (w:World) (b n:Nat) (D:DataW Unit) (f:ByteArray→Int) (dom:ByteArray→Bool):Prop where
 own:w.ownsMap Tryz.prog 9 (plainElem Tryz.prog 3) b n D
 at_:∀x,D.atKey (mk9 x) (.lit (.int .i64 0))=.lit (.int .i64 (f x))
 has:∀x,Maps.has D (mk9 x)=dom x
 map:IsMap D
def jT (w:World) (b n:Nat) (f:ByteArray→Int) (dom:ByteArray→Bool):Prop:=∃D:DataW Unit,jg6 w b n D f dom
theorem jT.made (w:World):jT (w.alloc (.map #[] 0)) w.heap.size 0 (fun _=>0) (fun _=>false) :=
 ⟨.map [],World.ownsMap_made w _ _ _,fun _=>rfl,fun _=>rfl,isMap_empty⟩
theorem jT.block {w w':World} {b n:Nat} {f:ByteArray→Int} {dom:ByteArray→Bool} (h:jT w b n f dom) (hb:w'.heap[b]?=w.heap[b]?):jT w' b n f dom:=by
 obtain⟨D,⟨es,clock,h1,h2⟩,h3,h4,h5⟩:=h;exact⟨D,⟨es,clock,hb.trans h1,h2⟩,h3,h4,h5⟩
theorem jT.lt {w:World} {b n:Nat} {f:ByteArray→Int} {dom:ByteArray→Bool} (h:jT w b n f dom):b<w.heap.size:=by
 obtain⟨D,h,-⟩:=h;exact h.lt
theorem jT.kept {w w':World} {b n:Nat} {f:ByteArray→Int} {dom:ByteArray→Bool} (h:jT w b n f dom) (k:Kept w w'):jT w' b n f dom:=h.block (k.block b h.lt)
theorem jT.eq {w:World} {b n:Nat} {f g:ByteArray→Int} {dom dem:ByteArray→Bool} (h:jT w b n f dom) (hf:∀x,f x=g x) (hd:∀x,dom x=dem x):jT w b n g dem:=by
 obtain⟨D,h1,h2,h3,h4⟩:=h;exact⟨D,h1,fun x=>by rw[h2,hf],fun x=>by rw[h3,hd],h4⟩
theorem jT.look {w:World} {b n:Nat} {f:ByteArray→Int} {dom:ByteArray→Bool} (h:jT w b n f dom) (x:ByteArray) (hx:x.size≤maxLen):(Instr.lookup 301 (.map (some b)) (.string x) false).run Tryz.prog w=.ok (.int .i64 (f x)) w:=by
 obtain⟨D,h1,h2,h3,h4⟩:=h;obtain⟨c,hrun,hat,-⟩:=h1.lookup_int (t:=301) Xj Tryz.underlying301 Tryz.underlying3 (jfL _) (keyOf_string_mk Tryz.underlying9 hx);rw[hrun];have:=(h2 x).symm.trans hat;injection this with this;injection this with _ this;rw[this]
theorem jT.put {w:World} {b n:Nat} {f:ByteArray→Int} {dom:ByteArray→Bool} (h:jT w b n f dom) (hn:n<maxLen) (x:ByteArray) (hx:x.size≤maxLen) (c:Int) (hc:-9223372036854775808≤c∧c≤9223372036854775807) :
 ∃w',(Instr.mapUpdate 301 (.map (some b)) (.string x) (.int .i64 c)).run Tryz.prog w=.ok () w'∧jT w' b (n+1) (fun y=>if y=x then c else f y) (fun y=>if y=x then true else dom y)∧jb (fun i=>i=b) w w':=by
 obtain⟨D,h1,h2,h3,h4⟩:=h;obtain⟨w',hrun,ho,hg⟩:=h1.update (t:=301) Xj Tryz.underlying301 hn (keyOf_string_mk Tryz.underlying9 hx) (plainElem_int (H:=Unit) Tryz.underlying3 (WalkArith.wf_i64 hc));refine⟨w',hrun,⟨_,ho,fun y=>?_,fun y=>?_,h4.put _ _⟩,jb.grown hg fun k e=>by cases e;rfl⟩
 · by_cases e:y=x
   · subst e;rw[if_pos rfl,atKey_put_same h4 (show WideAt.IsKeyLit (.string _) from trivial)]
   · rw[if_neg e,atKey_put_other (fun g=>e (jcx g)),h2]
 · by_cases e:y=x
   · subst e;rw[if_pos rfl,has_put_same h4 (show WideAt.IsKeyLit (.string _) from trivial)]
   · rw[if_neg e,has_put_other (fun g=>e (jcx g)),h3]
theorem jT.mono1 {w:World} {b n n':Nat} {f:ByteArray→Int} {dom:ByteArray→Bool} (h:jT w b n f dom) (hn:n≤n'):jT w b n' f dom:=by
 obtain⟨D,h1,h2,h3,h4⟩:=h;exact⟨D,h1.mono hn,h2,h3,h4⟩
theorem jdM (s1 s2 s3 a1 a2 a3 a4:Option Addr) (n1 e1 n2 e2 n3 e3 m1 c1 m2 c2 m3 c3 m4 c4:Nat) (p:Pd) (nodes:List Nod) (pods:List Pd) (w:World) (hn:jt w s1 n1 nodes) (hp:jv w s2 n2 pods) (hb1:n1≤100000) (hb2:n2≤100000) :
 Calls Tryz.prog 244 #[.agg #[.slice s1 n1 e1,.slice s2 n2 e2,.slice s3 n3 e3],jo p (.slice a1 m1 c1) (.slice a2 m2 c2) (.slice a3 m3 c3) (.slice a4 m4 c4)] w fun e w'=>∃b n,e=.returned (.map (some b))∧jT w' b n (fun d=>(inD p pods d nodes:Int)) (fun d=>JF p.key d nodes)∧w.heap.size≤b∧n≤100000∧Kept w w':=by
 obtain⟨Z,hZ⟩:=eX ((w.alloc (.cells #[.slice s1 n1 e1,.slice s2 n2 e2,.slice s3 n3 e3] 35)).alloc (.cells #[.string p.name,.string p.owner,.int .i64 p.prio,.slice a1 m1 c1,.slice a2 m2 c2,.slice a3 m3 c3,.slice a4 m4 c4,.string p.key,.int .i64 p.most,.string p.node,.bool p.hold] 41))
 have hkz:Kept w Z:=by rw[←hZ];exact ji _ _ _
 have hzs:Z.heap.size=w.heap.size+2:=by rw[←hZ];simp
 have Vh:=lH (jc w (.slice s1 n1 e1) [.slice s2 n2 e2,.slice s3 n3 e3] 35 Z (by rw[←hZ];exact ja _ _));have Vk:=lH (show je (w.heap.size+1) [.string p.name,.string p.owner,.int .i64 p.prio,.slice a1 m1 c1,.slice a2 m2 c2,.slice a3 m3 c3,.slice a4 m4 c4,.string p.key,.int .i64 p.most,.string p.node,.bool p.hold] Z by
  have dd:=jc (w.alloc (.cells #[.slice s1 n1 e1,.slice s2 n2 e2,.slice s3 n3 e3] 35)) (.string p.name) [.string p.owner,.int .i64 p.prio,.slice a1 m1 c1,.slice a2 m2 c2,.slice a3 m3 c3,.slice a4 m4 c4,.string p.key,.int .i64 p.most,.string p.node,.bool p.hold] 41 Z (by rw[hZ];exact Kept.refl _);rw[World.size_alloc] at dd;exact dd)
 obtain⟨Y,hY⟩:=eX (Z.alloc (.map #[] 0))
 have hky:Kept Z Y:=by rw[←hY];exact ja _ _
 obtain⟨V6,T0,Vh,Vk,Td⟩:=lH5 (show jT Y Z.heap.size 0 (fun _=>0) (fun _=>false) by rw[←hY];exact jT.made Z) (show Y.heap.size=Z.heap.size+1 by rw[←hY,World.size_alloc]) (Vh.out.kept hky) (Vk.out.kept hky) (hkz.trans hky);obtain⟨mb,hmb⟩:=eX (Z.heap.size)
 rw[hmb] at V6 T0;obtain⟨VS,Vc,HN,HP,VN,VO⟩:=lH6 (show w.heap.size+2≤mb by omega) hzs hn hp hn.1 hp.1;clear hn hp hkz hky hzs;have hmm:=@run_makeMap Tryz.prog;unfold jo;go_enter Tryz.func244,Tryz.ntmps244;have y0:=Vh.out.at_ 0 _ rfl;have y1:=Vh.out.at_ 1 _ rfl;have z0:=(show je w.heap.size _ Z from jc w (.slice s1 n1 e1) [.slice s2 n2 e2,.slice s3 n3 e3] 35 Z (by rw[←hZ];exact ja _ _)).at_ 1 _ rfl;go_upto_region 2 with fail
 try rw[hZ]
 try rw[hY]
 try rw[hmb]
 clear hZ hY hmb hmm z0;go_wp2;clear y0 y1;skip;go_loopw [17] (fun i wr=>∃k:Nat,k≤n2∧i=.int .i64 k∧(∃dom,jT wr mb k (fun x=>(onN p x (pods.take k):Int)) dom)∧jb (fun i=>i=mb) Y wr) (fun i _=>n2-(intOf i).toNat)
 case atStart=>exact⟨0,Nat.zero_le _,rfl,⟨_,V6.out.eq (fun _=>rfl) (fun _=>rfl)⟩,jb.of (Kept.refl _)⟩
 case round =>
  obtain⟨k,hk,rfl,⟨dom,hM⟩,hG⟩:=hrel;obtain⟨HM,HG,KW⟩:=lH3 hM hG (show Kept w wr from jb.below Td.out hG fun i e=>by have:=VS.out;omega);by_cases hlt:k<n2
  · obtain⟨g,off,rfl⟩:=HP.out.form.resolve_left (by omega);obtain⟨q,b1,k1,d1,b2,k2,d2,b3,k3,d3,b4,k4,d4,hn,hd,hb,u0,u1,u2,u3,u4,u5,u6,u7,u8,u9,u10,hat⟩:=(HP.out.kept KW.out).at_ hlt;have VP:=lH (show pods.take (k+1)=pods.take k++[q] by rw[List.take_add_one,hn];rfl);have VI:=lH hat.node;have hkk:(k:Int)<(n2:Int):=by omega
    have hk0:¬(k:Int)<0:=by omega
    obtain⟨wx,hwx⟩:=eX (wr.alloc (.cells #[.string q.name,.string q.owner,.int .i64 q.prio,.slice b1 k1 d1,.slice b2 k2 d2,.slice b3 k3 d3,.slice b4 k4 d4,.string q.key,.int .i64 q.most,.string q.node,.bool q.hold] 41))
    have hkx:Kept wr wx:=by rw[←hwx];exact ja _ _
    have Vt:=lH (jc wr (.string q.name) [.string q.owner,.int .i64 q.prio,.slice b1 k1 d1,.slice b2 k2 d2,.slice b3 k3 d3,.slice b4 k4 d4,.string q.key,.int .i64 q.most,.string q.node,.bool q.hold] 41 wx (by rw[hwx];exact Kept.refl _));obtain⟨bq,hbq⟩:=eX (wr.heap.size)
    rw[hbq] at Vt;obtain⟨Vn,UA,Nd,KX⟩:=lH4 (show mb<bq by rw[←hbq];have:=T0.out;have:=hG.size;omega) ((Vk.out.block (hG.block _ (by have:=Vk.out.lt;exact this) (by have:=VS.out;omega))).kept hkx) (hM.kept hkx) hkx;go_upto_region 5 with fail
    try rw[hwx]
    try rw[hbq]
    clear hwx hbq hd hb hat hM hG hkx hk0 hkk u0 u1 u2 u3 u4 u5 u6 u7 u8 u9 u10;obtain⟨r0,r1,r2,r3,r4,r5,r6,r7,r8,r9,r10⟩:=UA.out.at11;obtain⟨t0,t1,t2,t3,t4,t5,t6,t7,t8,t9,t10⟩:=Vt.out.at11;go_wp2_with fail
    refine(jdg p q a1 a2 a3 a4 b1 b2 b3 b4 m1 c1 m2 c2 m3 c3 m4 c4 k1 d1 k2 d2 k3 d3 k4 d4 wx).mono ?_;rintro e w3 ⟨rfl,kk⟩;clear r0 t0 r1 t1 r2 t2 r3 t3 r4 t4 r5 t5 r6 t6 r7 t7 r8 t8 r9 t9 r10 t10;have Te:=lH kk;have Tf:=lH (Nd.out.kept kk);have t9:=(Vt.out.kept kk).at_ 9 _ rfl;clear kk;obtain⟨bb,hbb⟩:=eX (Zk p q)
    have Va:=lH hbb;rw[hbb];clear hbb
    cases bb with
    | false =>
     go_wp2;go_roundw
     case rel =>
      refine⟨k+1,by omega,by go_num,⟨dom,(Tf.out.mono1 (Nat.le_succ k)).eq (fun x=>?_) (fun _=>rfl)⟩,(HG.out.trans (jb.of KX.out)).trans (jb.of Te.out)⟩;rw[VP.out,qW];show ((onN p x (pods.take k):Nat):Int)=((onN p x (pods.take k)+((if Zk p q=true∧q.node=x then 1 else 0)+0):Nat):Int);rw[if_neg (by rw[Va.out];simp)];rfl
     case measure=>simp[intOf];omega
    | true =>
     have hsz:onN p q.node (pods.take k)≤k:=Nat.le_trans (qw _ _ _) (by rw[List.length_take];omega);have hlook:=Tf.out.look q.node VI.out;obtain⟨v,hv⟩:=eX (onN p q.node (pods.take k))
     have HV:=lH hv;rw[hv] at hlook hsz;obtain⟨v1,hv1⟩:∃z:Nat,v+1=z:=⟨_,rfl⟩
     have hv2:(v:Int)+1=(v1:Int):=by omega
     have hv3:IntKind.i64.wrap (v1:Int)=(v1:Int):=IntWalk.i64_in _ (by omega);obtain⟨w4,hput,hM4,hG4⟩:=Tf.out.put (by unfold maxLen;omega) q.node VI.out (v1:Int) (by omega);obtain⟨T3,Tg,Nf⟩:=lH3 hM4 hG4 hv1;clear hM4 hG4 hv hv1;go_wp2;go_roundw
     case rel =>
      refine⟨k+1,by omega,by go_num,⟨_,T3.out.eq (fun x=>?_) (fun _=>rfl)⟩,((HG.out.trans (jb.of KX.out)).trans (jb.of Te.out)).trans Tg.out⟩;rw[VP.out,qW];show _=((onN p x (pods.take k)+((if Zk p q=true∧q.node=x then 1 else 0)+0):Nat):Int);by_cases hx:x=q.node
      · rw[if_pos hx,if_pos ⟨Va.out,hx.symm⟩,hx,HV.out,←Nf.out]
      · rw[if_neg hx,if_neg (fun g=>hx g.2.symm)];rfl
     case measure=>simp[intOf];omega
  · have hge:¬(k:Int)<(n2:Int):=by omega
    have hM:=HM.out;rw[List.take_of_length_le (by rw[VO.out];omega)] at hM;obtain⟨HM,Vh,Vk⟩:=lH3 hM (Vh.out.block (hG.block _ Vh.out.lt (by have:=VS.out;omega))) (Vk.out.block (hG.block _ Vk.out.lt (by have:=VS.out;omega)));obtain⟨X,hX⟩:=eX (wr.alloc (.map #[] 0))
    have hkx:Kept wr X:=by rw[←hX];exact ja _ _
    have V6:=lH (show jT X wr.heap.size 0 (fun _=>0) (fun _=>false) by rw[←hX];exact jT.made wr);have T4:=lH (show X.heap.size=wr.heap.size+1 by rw[←hX,World.size_alloc]);obtain⟨mc,hmc⟩:=eX (wr.heap.size)
    rw[hmc] at V6 T4;obtain⟨UU,HM,Vh,Vk,KX⟩:=lH5 (show mb<mc by rw[←hmc];have:=T0.out;have:=hG.size;omega) (HM.out.kept hkx) (Vh.out.kept hkx) (Vk.out.kept hkx) (KW.out.trans hkx);clear hM hG hkx;have hmm:=@run_makeMap Tryz.prog;go_upto_region 9 with fail
    try rw[hX]
    try rw[hmc]
    clear hX hmc hmm;have y0:=Vh.out.at_ 0 _ rfl;go_wp2;clear y0;go_loopw [34] (fun i wr=>∃k:Nat,k≤n1∧i=.int .i64 k∧jT wr mc k (fun d=>(inD p pods d (nodes.take k):Int)) (fun d=>JF p.key d (nodes.take k))∧jb (fun i=>i=mc) X wr) (fun i _=>n1-(intOf i).toNat)
    case atStart=>exact⟨0,Nat.zero_le _,rfl,V6.out.eq (fun _=>rfl) (fun _=>rfl),jb.of (Kept.refl _)⟩
    case round =>
     obtain⟨k,hk,rfl,hN,hG⟩:=hrel;obtain⟨HC,HG,KW⟩:=lH3 hN hG (show Kept w wr from jb.below KX.out hG fun i e=>by have:=VS.out;have:=UU.out;omega);by_cases hlt:k<n1
     · obtain⟨g,off,rfl⟩:=HN.out.form.resolve_left (by omega);obtain⟨n,b1,k1,d1,b2,k2,d2,b3,k3,d3,hn,hd,hb,u0,u1,u2,u3,u4,hat⟩:=(HN.out.kept KW.out).at_ hlt;have VP:=lH (show nodes.take (k+1)=nodes.take k++[n] by rw[List.take_add_one,hn];rfl);have VM:=lH hat;have hkk:(k:Int)<(n1:Int):=by omega
       have hk0:¬(k:Int)<0:=by omega
       obtain⟨wx,hwx⟩:=eX (wr.alloc (.cells #[.string n.name,.slice b1 k1 d1,.slice b2 k2 d2,.slice b3 k3 d3,.bool n.cordon] 29))
       have hkx:Kept wr wx:=by rw[←hwx];exact ja _ _
       have Vt:=lH (jc wr (.string n.name) [.slice b1 k1 d1,.slice b2 k2 d2,.slice b3 k3 d3,.bool n.cordon] 29 wx (by rw[hwx];exact Kept.refl _));obtain⟨bq,hbq⟩:=eX (wr.heap.size)
       rw[hbq] at Vt;obtain⟨UA,Ng,Nh,KX1⟩:=lH4 ((Vk.out.block (hG.block _ Vk.out.lt (by have:=VS.out;have:=UU.out;omega))).kept hkx) (hN.kept hkx) ((HM.out.block (hG.block _ HM.out.lt (by have:=UU.out;omega))).kept hkx) hkx;go_upto_region 12 with fail
       try rw[hwx]
       try rw[hbq]
       clear hwx hbq hd hb hat hN hG hkx hk0 hkk u0 u1 u2 u3 u4;have r7:=UA.out.at_ 7 _ rfl;have t2:=Vt.out.at_ 2 _ rfl;obtain⟨go,hgo⟩:=eX (zh n.labels p.key)
       have Ut:=lH hgo;go_wp2_with fail
       refine(jeP (VM.out.labels.kept KX1.out) (x:=go.getD ByteArray.empty) (b:=go.isSome) (by unfold ZZ;rw[hgo]) (by unfold JZ;rw[hgo])).mono ?_;rintro e w3 ⟨rfl,kk⟩;obtain⟨Te,Th,Tf⟩:=lH3 kk (Ng.out.kept kk) (Nh.out.kept kk);have t0:=(Vt.out.kept kk).at_ 0 _ rfl;clear kk hgo r7 t2
       cases go with
       | none =>
        go_wp2;go_roundw
        case rel =>
         refine⟨k+1,by omega,by go_num,(Th.out.mono1 (Nat.le_succ k)).eq (fun x=>?_) (fun x=>?_),(HG.out.trans (jb.of KX1.out)).trans (jb.of Te.out)⟩
         · rw[VP.out,qT];show ((inD p pods x (nodes.take k):Nat):Int)=((inD p pods x (nodes.take k)+((if zh n.labels p.key=some x then onN p n.name pods else 0)+0):Nat):Int);rw[if_neg (by rw[Ut.out];simp)];rfl
         · rw[VP.out];unfold JF;rw[List.any_append,List.any_cons,Ut.out];simp
        case measure=>simp[intOf];omega
       | some d =>
        have hds:d.size≤maxLen:=jaC VM.out.labels.fine Ut.out;have hb1a:inD p pods d (nodes.take k)≤100000*100000:=Nat.le_trans (ja6 _ _ _ _) (Nat.mul_le_mul (by rw[List.length_take];omega) (by rw[VO.out];omega));have hb2a:onN p n.name pods≤100000:=Nat.le_trans (qw _ _ _) (by rw[VO.out];omega);have hl1:=Th.out.look d hds;have hl2:=Tf.out.look n.name VM.out.size;obtain⟨x1,hx1⟩:=eX (inD p pods d (nodes.take k))
        obtain⟨x2,hx2⟩:=eX (onN p n.name pods)
        have UB:=lH hx1;have UC:=lH hx2;rw[hx1] at hl1 hb1a;rw[hx2] at hl2 hb2a;obtain⟨x3,hx3⟩:∃z:Nat,x1+x2=z:=⟨_,rfl⟩
        have hx4:(x1:Int)+(x2:Int)=(x3:Int):=by omega
        have hx5:IntKind.i64.wrap (x3:Int)=(x3:Int):=IntWalk.i64_in _ (by omega);obtain⟨w4,hput,hM4,hG4⟩:=Th.out.put (by unfold maxLen;omega) d hds (x3:Int) (by omega);obtain⟨T3,Tg,UD⟩:=lH3 hM4 hG4 hx3;clear hM4 hG4 hx1 hx2 hx3;go_wp2;go_roundw
        case rel =>
         refine⟨k+1,by omega,by go_num,T3.out.eq (fun x=>?_) (fun x=>?_),((HG.out.trans (jb.of KX1.out)).trans (jb.of Te.out)).trans Tg.out⟩
         · rw[VP.out,qT];show _=((inD p pods x (nodes.take k)+((if zh n.labels p.key=some x then onN p n.name pods else 0)+0):Nat):Int);by_cases hx:x=d
           · subst hx;rw[if_pos rfl,if_pos Ut.out,UC.out,UB.out,←UD.out];rfl
           · rw[if_neg hx,if_neg (fun g=>hx (by rw[Ut.out] at g;exact(Option.some.inj g).symm))];rfl
         · rw[VP.out];unfold JF;rw[List.any_append,List.any_cons,Ut.out];by_cases hx:x=d
           · subst hx;simp
           · rw[if_neg hx];simp[show ¬d=x from fun e=>hx e.symm]
        case measure=>simp[intOf];omega
     · have hge:¬(k:Int)<(n1:Int):=by omega
       have hM:=HC.out;rw[List.take_of_length_le (by rw[VN.out];omega)] at hM;have HC:=lH hM;clear hM hN hG;go_wp2;go_ret;exact⟨mc,rfl,k,HC.out,by have:=VS.out;have:=UU.out;omega,by omega,KW.out⟩
open Go.RowKit Go.Maps Go.Sort Go.Shelf Go.WideShapes
attribute [local go_sem] Oper.semAt_some
def VAt (D:DataW Unit) (p:List UInt8×Int):Prop:=∀zd,D.atKey (.string p.1) zd=.lit (.int .i64 p.2)
def je8 (D:DataW Unit) (ps:List (List UInt8×Int)):Prop:=(ps.map (·.1)).Perm (strKeys D)∧(∀x,x ∈ ps.map (·.1)↔has D (.string x)=true)∧∀p ∈ ps,VAt D p
def jfD (D:DataW Unit) (ps:List (List UInt8×Int)):Prop:=(ps.map (·.1)).Nodup∧(∀x ∈ ps.map (·.1),has D (.string x)=true)∧∀p ∈ ps,VAt D p
theorem jbN (F:Fence) (n:Nat) (h8:F.fn 257) (hro:F.round=none) (hn:1≤n) (l Bm b nn:Nat) (D0:DataW Unit) (J Jx:List Int→World→Prop)
 (hY:∀pre x W,J pre W→pre.length<Maps.size D0→YieldAt F (n-1) Tryz.prog l #[.int .i64 x] W fun e W' =>
   (e=.returned (.bool true)∧J (pre++[x]) W'∧KeepsWalks W W')∨(e=.returned (.bool false)∧Jx (pre++[x]) W'))
 (W:World) (hJ:AbidesFrom W.heap.size J) (hm:W.cell? ⟨Bm,0,none⟩=some (.map (some b))) (hown:W.ownsMap Tryz.prog 9 (plainElem Tryz.prog 3) b nn D0) (h0:J [] W) :
 CallsIn F n Tryz.prog 257 #[.func (.yield l) #[] #[],.pointer (some ⟨Bm,0,none⟩)] W fun e W'=>(∃v,e=.returned v) ∧
  ((∃xs,(∃ps,je8 D0 ps∧xs=ps.map (·.2))∧J xs W')∨(∃pre,(∃ps,jfD D0 ps∧pre=ps.map (·.2))∧Jx pre W')):=by
 refine callsIn_of_wp Tryz.func257 rfl h8 ?_ hro;simp only[Tryz.ntmps257,List.size_toArray,List.length_cons,List.length_nil,Nat.reduceAdd,Nat.reduceSub,Array.replicate_succ,Array.replicate_zero,List.push_toArray,List.append_toArray,List.nil_append,List.cons_append]
 gi_wp2_with (first
  | (gi_at_range;refine wpListIn_range_own _ rfl _ 301 rfl 9 3 Xj Tryz.underlying301 _ b nn _ rfl hown ?_;intro w0 hrg0 hg0 hs0)
  | gi_in)
 go_frame
 gi_loopw [4] (fun _ wr=>∃(left:Lit→Bool) (cnt:Nat) (ps:List (List UInt8×Int)),wr.ranges Tryz.prog 9 (plainElem Tryz.prog 3) b W.heap.size nn D0 left cnt∧ps.length+cnt≤Maps.size D0∧Collected D0 left (ps.map (·.1))∧(∀p ∈ ps,VAt D0 p)∧J (ps.map (·.2)) wr)
  (fun _ wr=>wr.rangeLeft b W.heap.size)
 case atStart =>
  exact⟨_,_,[],hrg0,by simp,Collected.start D0,by simp,hJ [] W w0 none h0 hg0 (fun r e=>by cases e)⟩
 case round =>
  obtain⟨left,cnt,ps,hrg,hcs,hC,hV,hJs⟩:=hrel
  gi_wp2_with (first
   | (gi_at_next;refine wpListIn_next_ranges _ rfl _ rfl 9 Xj (plainElem Tryz.prog 3) encStr (Value.int .i64) (fun key kl hk=>by obtain⟨x,hx,_⟩:=Maps.keyOf_str Tryz.underlying9 hk;exact⟨x,hx⟩) (fun v y hv=>by obtain⟨c,rfl,_⟩:=plainElem_int_inv Tryz.underlying3 hv;exact⟨c,rfl⟩) b W.heap.size nn _ _ _ rfl hrg ?_ ?_)
   | gi_in)
  · intro hc0 hl0;gi_wp2
    go_end0
    exact⟨⟨_,rfl⟩,.inl ⟨_,⟨ps,⟨hC.perm hown Xj Tryz.underlying9 hl0,fun x=>by rw[hC.2 x,hl0];simp,hV⟩,rfl⟩,hJs⟩⟩
  · intro x c kl yd yp w2 cnt2 hkey hlk hv hat hrg2 hlt hg2 hs2 hen;obtain⟨x',ex,rfl,_⟩:=Maps.keyOf_str Tryz.underlying9 hkey;obtain rfl:x=x':=encStr_inj ex;obtain⟨c',ec,ez,_⟩:=plainElem_int_inv Tryz.underlying3 hv;obtain rfl:c=c':=by simpa using ec
    obtain rfl:yd=.lit (.int .i64 c):=(Prod.mk.inj ez).1;have hJ2:J (ps.map (·.2)) w2:=hJ _ wr w2 (some W.heap.size) hJs hg2 (fun r e=>by cases e;exact⟨Nat.le_refl _,hrg.iter_walk⟩);obtain⟨fn,tmps,assign,body,hy,hR⟩:=hY (ps.map (·.2)) c w2 hJ2 (by simp;omega);clear hs2;gi_wp2
    refine hR.mono ?_;have hC2:Collected D0 (fun z=>left z&&!z.sameKey (.string x)) ((ps++[(x,c)]).map (·.1)):=by simpa using hC.step hlk hat
    have hV2:∀p ∈ ps++[(x,c)],VAt D0 p:=fun p hp=>(List.mem_append.1 hp).elim (hV p) (fun e=>by simp at e;subst e;exact hat);rintro e W3 (⟨rfl,hJ3,hk3⟩ | ⟨rfl,hJx3⟩)
    · gi_wp2
      have hrg3:=hrg2.of_walks hk3;go_roundw
      case rel=>exact⟨_,cnt2,ps++[(x,c)],hrg3,by simp;omega,hC2,hV2,by simpa using hJ3⟩
      case measure=>rw[hrg3.left_eq,hrg.left_eq];exact hlt
    · gi_wp2
      refine bodyPost_ret (results_none rfl _ _ _) rfl ?_;exact⟨⟨_,rfl⟩,.inr ⟨_,⟨ps++[(x,c)],⟨hC2.1,fun y hy=>((hC2.2 y).1 hy).1,hV2⟩,by simp⟩,hJx3⟩⟩
theorem jaF (F:Fence) (n:Nat) (h7:F.fn 257) (hro:F.round=none) (hn:1≤n) (Bm b nn:Nat) (D0:DataW Unit) (w:World) (hBm:Bm<w.heap.size)
 (hm:w.cell? ⟨Bm,0,none⟩=some (.map (some b))) (hown:w.ownsMap Tryz.prog 9 (plainElem Tryz.prog 3) b nn D0) :
 SeqStopsK F n Tryz.prog 257 #[.pointer (some ⟨Bm,0,none⟩)] (fun c:Int=>#[Value.int .i64 c]) KeepsWalks (fun xs=>∃ps,je8 D0 ps∧xs=ps.map (·.2)) (fun pre=>∃ps,jfD D0 ps∧pre=ps.map (·.2)) (Maps.size D0) w:=fun l J Jx W hW hJ _ hY h0=>by
 have hown':W.ownsMap Tryz.prog 9 (plainElem Tryz.prog 3) b nn D0:=by
  have hbl:=hown.lt;obtain⟨es,clock,hb,Ft,hs,hD⟩:=hown;exact⟨es,clock,(hW.block b hbl).trans hb,Ft,hs,hD⟩
 exact jbN F n h7 hro hn l Bm b nn D0 J Jx hY W hJ ((hW.cell (p:=⟨Bm,0,none⟩) hBm).trans hm) hown' h0
theorem jbY (mb:Option Nat) (w:World) :
 Calls Tryz.prog 247 #[.map mb] w fun e w'=>e=.returned (.func (.func 257) #[] #[.pointer (some ⟨w.heap.size,0,none⟩)])∧w'=w.alloc (.cells #[.map mb] 301):=by
 have hmf:=hmfL (P:=Tryz.prog);go_enter Tryz.func247,Tryz.ntmps247;go_wp2;go_ret;exact⟨rfl,rfl⟩
theorem jel:(Tryz.prog.info? 3).map (fun i=>(i.zero,i.size,i.bytes))=some (some (.int .i64 0),1,8):=by kernel_rfl
theorem ja0 {W W':World} (h:KeepsOthers W W'):KeepsWalks W W':=⟨h.size,fun k o hk hw=>h.same k o hk (by cases o<;>first | rfl | cases hw)⟩
def jdh (base:Nat) (W:World) (v:Value) (zs:List Int):Prop:=W.ownsRow base 3 1 v zs.length (zs.map (Value.int .i64))∧(v=.slice none 0 0↔zs=[])
theorem jaS (F:Fence) (n:Nat) (h3:F.fn 256) (h5:F.fn 257) (hro:F.round=none) (hn:3≤n) (Bs b nn:Nat) (D0:DataW Unit) (hlen:Maps.size D0≤1000000) (w:World)
 (hBs:Bs<w.heap.size) (hcs:w.cell? ⟨Bs,0,none⟩=some (.map (some b))) (hown:w.ownsMap Tryz.prog 9 (plainElem Tryz.prog 3) b nn D0) :
 CallsIn F n Tryz.prog 256 #[.slice none 0 0,.func (.func 257) #[] #[.pointer (some ⟨Bs,0,none⟩)]] w fun e W'=>∃v xs,e=.returned v∧(∃ps,je8 D0 ps∧xs=ps.map (·.2))∧jdh w.heap.size W' v xs∧Below w.heap.size w W':=by
 have h1:1≤n:=by omega
 obtain⟨i0,hi,hz0,hz1,hz2⟩:=info_parts jel;refine callsIn_of_wp_marks Tryz.func256 rfl h3 ?_ hro;simp only[Tryz.ntmps256,List.size_toArray,List.length_cons,List.length_nil,Nat.reduceAdd,Nat.reduceSub,Array.replicate_succ,Array.replicate_zero,List.push_toArray,List.append_toArray,List.nil_append,List.cons_append];gi_wp2
 have bO:=Boxed.new w 211 (.slice none 0 0);have hB0:Below w.heap.size w (w.alloc (.cells #[.slice none 0 0] 211)):=(Below.refl _ w).alloc (Nat.le_refl _) _;have hown0:(w.alloc (.cells #[.slice none 0 0] 211)).ownsMap Tryz.prog 9 (plainElem Tryz.prog 3) b nn D0:=by
  have hbl:=hown.lt;obtain⟨es,clock,hb,Ft,hs,hD⟩:=hown;exact⟨es,clock,(Below.heap_alloc _ _ b hbl).trans hb,Ft,hs,hD⟩
 refine wpIn_rangeFunc_ownG hro h1 (gf:=257) (lb:=#[.pointer (some ⟨Bs,0,none⟩)]) rfl h5 (enters_of Tryz.func257 (by kernel_rfl) rfl)
  (jaF F (n-1) h5 hro (by omega) Bs b nn D0 _ (by simp;omega) ((hB0.cell (p:=⟨Bs,0,none⟩) hBs).trans hcs) hown0) (fun h k=>h.trans k) (fun W l o o' _ h _ hw=>KeepsWalks.putObj o' h hw) (Below.refl _ _) (fun _=>rfl)
  (fun pre W=>(∃v,Boxed W w.heap.size 211 v∧W.ownsRow w.heap.size 3 1 v pre.length (pre.map (Value.int .i64))∧(v=.slice none 0 0↔pre=[]))∧Below w.heap.size w W)
  (fun _ _ _=>False)
  (OwnFrom.and (Own.from (holdsRow_own w.heap.size w.heap.size 211 3 1 (fun pre=>pre.length) (fun pre=>pre.map (Value.int .i64)) (fun pre v=>v=.slice none 0 0↔pre=[])) _) (ownFrom_below (Nat.le_refl _) (by simp)))
  (fun _ _ _ _ _ hs _ _=>hs)
  ⟨⟨_,bO,World.ownsRow_nil _ _ _ _,by simp⟩,hB0⟩
  (fun x=>{ tmps:=#[.slice none 0 0,.func (.func 257) #[] #[.pointer (some ⟨Bs,0,none⟩)],.pointer (some ⟨w.heap.size,0,none⟩),undef,.slice none 0 0,.int .i64 x,.func (.func 257) #[] #[.pointer (some ⟨Bs,0,none⟩)],.int .i64 x,undef,undef,undef,undef,undef],defers:=[] }) ?assign ?body ?done ?stop
 case assign =>
  intro l x W K hK;gi_wp2
  exact hK
 case body =>
  rintro l pre x W ⟨⟨v,hv,hrow,hnil⟩,hB⟩ hlt;have hc:=hv.cell;gi_wp2_with (gi_at_builtin;refine wpListIn_append_own _ rfl _ _ 211 rfl w.heap.size 3 i0 (.int .i64 0) 1 8 Tryz.underlying211 hi hz0 hz1 hz2 rfl (by decide) _ _ _ rfl (hrow.alloc _) ⟨W.heap.size,0,none⟩ 1 1 [.int .i64 x] rfl rfl (cell_one_new _ _ _) (by simp[Value.oneCell']) (by unfold maxLen;omega) (by omega) (by have:=hB.size;simp;omega) ?_;intro v' w1 hown' hgrow _;obtain⟨g',cap',rfl⟩:=ownsRow_succ hown';obtain⟨hv1,hv2,hr2,hk2,hb2⟩:=hv.appended (by decide) hrow hB.size (Nat.le_refl _) hown' hgrow;have hc1:=hv1.cell;have hf1:=hv1.frozen)
  exact⟨hk2.from _,ja0 hk2,⟨_,hv2,by simpa using hr2,by simp⟩,hB.trans hb2⟩
 case done =>
  rintro D ys W hD hS ⟨⟨v,hv,hrow,hnil⟩,hB⟩ hK;have hc:=hv.cell;gi_wp2
  refine⟨by simp,.inl ⟨_,_,rfl,run_takeDeferred hK,?_⟩⟩;exact⟨_,results_tmp rfl _ _ _,v,ys,rfl,hS,⟨ownsRow_putObj hrow _ hK rfl,hnil⟩,hB.trans (belowK_b (w:=w) (Nat.le_refl _) W D _ _ (by simp at hD;omega) hK rfl rfl)⟩
 case stop =>
  rintro D c pre W _ _ h _;exact h.elim
theorem jbu (Bs b nn:Nat) (f:ByteArray→Int) (dom:ByteArray→Bool) (w:World) (hn:nn≤1000000) (hBs:Bs<w.heap.size) (hcs:w.cell? ⟨Bs,0,none⟩=some (.map (some b))) (h:jT w b nn f dom) :
 Calls Tryz.prog 246 #[.func (.func 257) #[] #[.pointer (some ⟨Bs,0,none⟩)]] w fun e w'=>∃v zs,e=.returned v∧jdh w.heap.size w' v zs∧(∀x,dom x=true→f x ∈ zs)∧(∀z ∈ zs,∃x,dom x=true∧z=f x)∧zs.length≤1000000∧Kept w w':=by
 obtain⟨D,h1,h2,h3,h4⟩:=h;have hsz:Maps.size D≤1000000:=Nat.le_trans h1.size_le hn;have HA:=lH (jaS Fence.wide 3 trivial trivial rfl (by omega) Bs b nn D hsz w hBs hcs h1);have HC:=lH (show Calls Tryz.prog 256 #[.slice none 0 0,.func (.func 257) #[] #[.pointer (some ⟨Bs,0,none⟩)]] w _ from callsIn_wide.1 HA.out);clear h1 hcs;go_enter Tryz.func246,Tryz.ntmps246;go_wp2_with fail
 refine HC.out.mono ?_;rintro e w1 ⟨v,xs,rfl,⟨ps,hps,rfl⟩,ho,hb⟩;obtain⟨HO,HB,HP⟩:=lH3 ho hb hps;clear ho hb hps;have key:∀y:List UInt8,(⟨⟨y⟩⟩:ByteArray).data.toList=y:=fun _=>rfl;have hl:(ps.map (·.2)).length≤1000000:=by
  rw[List.length_map];have h5:ps.length=(strKeys D).length:=by rw[←HP.out.1.length_eq,List.length_map]
  have h6:(strKeys D).length≤Maps.size D:=by
   cases D<;>first | exact Nat.zero_le _ | (show (List.filterMap _ _).length≤_;exact List.length_filterMap_le _ _) | simp[strKeys,Maps.size]
  omega
 go_wp2;go_ret;refine⟨v,_,rfl,HO.out,fun x hx=>?_,fun z hz=>?_,hl,HB.out⟩
 · have hm:=(HP.out.2.1 x.data.toList).2 ((h3 x).trans hx);obtain⟨p,hp,e⟩:=List.mem_map.1 hm;have hv:=HP.out.2.2 p hp (.lit (.int .i64 0));rw[e] at hv;have:=(h2 x).symm.trans hv;injection this with this;injection this with _ this;exact List.mem_map.2 ⟨p,hp,this.symm⟩
 · obtain⟨p,hp,rfl⟩:=List.mem_map.1 hz;refine⟨⟨⟨p.1⟩⟩,?_,?_⟩
   · rw[←h3];exact(HP.out.2.1 p.1).1 (List.mem_map_of_mem hp)
   · have hv:=HP.out.2.2 p hp (.lit (.int .i64 0));have:=(h2 ⟨⟨p.1⟩⟩).symm.trans hv;injection this with this;injection this with _ this;exact this.symm
end Go.Proofs.YtabafpoklpiiiaaGreat
namespace Go.Proofs.YtabafpoklpiiiaaGreat
open Go.RowKit
theorem jdh.cells {base:Nat} {W:World} {v:Value} {zs:List Int} (h:jdh base W v zs) (h0:zs≠[]):∃g cap,v=.slice (some ⟨g,0,none⟩) zs.length cap∧∀j,j<zs.length→W.cell? ⟨g,0+j,none⟩=some (.int .i64 (zs.getD j 0)):=by
 obtain⟨⟨hl,h⟩,-⟩:=h;rcases h with ⟨-,hz⟩ | ⟨g,cap,cur,rfl,-,hh,-,-,-,ht⟩
 · exact absurd (List.eq_nil_of_length_eq_zero hz) h0
 · refine⟨g,cap,rfl,fun j hj=>?_⟩;rw[Nat.zero_add,Lib.cell_of_heap hh];have h1:(cur.toList.take (zs.length*1))[j]?=some (.int .i64 (zs.getD j 0)):=by
    rw[ht,List.getElem?_map,List.getElem?_eq_getElem hj];simp[List.getD,hj]
   rw[List.getElem?_take_of_lt (by omega)] at h1;simpa using h1
theorem foldl_min:∀(l:List Int) (m:Int),l.foldl min m≤m∧(∀z ∈ l,l.foldl min m≤z)∧(l.foldl min m=m∨l.foldl min m ∈ l)
 | [],m=>⟨Int.le_refl _,fun z h=>absurd h (by simp),.inl rfl⟩
 | x::t,m=>by
  obtain⟨h1,h2,h3⟩:=foldl_min t (min m x);rw[List.foldl_cons];refine⟨by omega,fun z hz=>?_,?_⟩
  · rcases List.mem_cons.1 hz with rfl | hz
    · omega
    · exact h2 z hz
  · rcases h3 with h3 | h3
    · by_cases g:m≤x
      · exact .inl (by rw[h3];omega)
      · exact .inr (by rw[h3,show min m x=x by omega];simp)
    · exact .inr (by simp[h3])
theorem jfx {zs:List Int} (h:zs≠[]):(∀z ∈ zs,Lib.minOf zs≤z)∧Lib.minOf zs ∈ zs:=by
 cases zs with
 | nil=>exact absurd rfl h
 | cons x t =>
  obtain⟨h1,h2,h3⟩:=foldl_min (x::t) x;refine⟨h2,?_⟩;show (x::t).foldl min x ∈ _;rcases h3 with h3 | h3
  · rw[h3];simp
  · exact h3
theorem jdv {w:World} {a:Option Addr} {m:Nat} {nodes:List Nod} (h:jt w a m nodes) {key name d:ByteArray} (hd:domV key name nodes=some d):d.size≤maxLen:=by
 have:=XR hd;unfold JF at this;rw[List.any_eq_true] at this;obtain⟨n,hn,he⟩:=this;have he:zh n.labels key=some d:=by simpa using he
 obtain⟨k,hk,e⟩:=List.getElem_of_mem hn;rcases h.2.2 with h0 | ⟨b,off,-,-,hc⟩
 · rw[h.1] at hk;omega
 · obtain⟨_,_,_,_,_,_,_,_,_,_,_,_,_,_,hN⟩:=hc k n (by rw[List.getElem?_eq_getElem hk,e]);exact jaC hN.labels.fine he
theorem jcC (s1 s2 s3 a1 a2 a3 a4:Option Addr) (n1 e1 n2 e2 n3 e3 m1 c1 m2 c2 m3 c3 m4 c4:Nat) (p:Pd) (s:Clu) (name:ByteArray) (w:World) (hn:jt w s1 n1 s.nodes) (hp:jv w s2 n2 s.pods) (hb1:n1≤100000) (hb2:n2≤100000) :
 Calls Tryz.prog 219 #[.agg #[.slice s1 n1 e1,.slice s2 n2 e2,.slice s3 n3 e3],jo p (.slice a1 m1 c1) (.slice a2 m2 c2) (.slice a3 m3 c3) (.slice a4 m4 c4),.string name] w fun e w'=>(∀d,domV p.key name s.nodes=some d→e=.returned (.int .i64 (Zn p s d)))∧(domV p.key name s.nodes=none→e=.panicked [jV 3])∧Kept w w':=by
 obtain⟨Z,hZ⟩:=eX ((w.alloc (.cells #[.slice s1 n1 e1,.slice s2 n2 e2,.slice s3 n3 e3] 35)).alloc (.cells #[.string p.name,.string p.owner,.int .i64 p.prio,.slice a1 m1 c1,.slice a2 m2 c2,.slice a3 m3 c3,.slice a4 m4 c4,.string p.key,.int .i64 p.most,.string p.node,.bool p.hold] 41))
 have hkz:Kept w Z:=by rw[←hZ];exact ji _ _ _
 have Vh:=lH (jc w (.slice s1 n1 e1) [.slice s2 n2 e2,.slice s3 n3 e3] 35 Z (by rw[←hZ];exact ja _ _));have Vk:=lH (show je (w.heap.size+1) [.string p.name,.string p.owner,.int .i64 p.prio,.slice a1 m1 c1,.slice a2 m2 c2,.slice a3 m3 c3,.slice a4 m4 c4,.string p.key,.int .i64 p.most,.string p.node,.bool p.hold] Z by
  have dd:=jc (w.alloc (.cells #[.slice s1 n1 e1,.slice s2 n2 e2,.slice s3 n3 e3] 35)) (.string p.name) [.string p.owner,.int .i64 p.prio,.slice a1 m1 c1,.slice a2 m2 c2,.slice a3 m3 c3,.slice a4 m4 c4,.string p.key,.int .i64 p.most,.string p.node,.bool p.hold] 41 Z (by rw[hZ];exact Kept.refl _);rw[World.size_alloc] at dd;exact dd)
 obtain⟨HN,HP,VN,VO,K⟩:=lH5 hn hp hn.1 hp.1 hkz;clear hn hp hkz;unfold jo;go_enter Tryz.func219,Tryz.ntmps219;go_upto_region 1 with fail
 try rw[hZ]
 clear hZ;obtain⟨y0,y1,y2⟩:=Vh.out.at3;have r7:=Vk.out.at_ 7 _ rfl;go_wp2_with fail
 refine(jbe s1 s2 s3 n1 e1 n2 e2 n3 e3 s.nodes p.key name Z (HN.out.kept K.out) hb1).mono ?_;rintro e w1 ⟨h1,h2,kk⟩;obtain⟨Vh,Vk,K⟩:=lH3 (Vh.out.kept kk) (Vk.out.kept kk) (K.out.trans kk);clear kk y0 y1 y2 r7
 cases ho:domV p.key name s.nodes with
 | none =>
  obtain rfl:=h2 ho;have HO:=lH ho;clear h1 h2 ho;go_wp2;exact⟨rfl,(fun d e=>by rw[HO.out] at e;cases e),(fun _=>rfl),K.out⟩
 | some d =>
  obtain rfl:=h1 d ho;have HO:=lH ho;have hds:=jdv HN.out ho;have T5:=lH hds;have TG:=lH (XR ho);clear h1 h2 ho hds;obtain⟨y0,y1,y2⟩:=Vh.out.at3;obtain⟨r0,r1,r2,r3,r4,r5,r6,r7,r8,r9,r10⟩:=Vk.out.at11;go_wp2_with fail
  have TA:=jdM s1 s2 s3 a1 a2 a3 a4 n1 e1 n2 e2 n3 e3 m1 c1 m2 c2 m3 c3 m4 c4 p s.nodes s.pods w1 (HN.out.kept K.out) (HP.out.kept K.out) hb1 hb2;unfold jo at TA;refine TA.mono ?_;clear TA;rintro e w2 ⟨mc,nn,rfl,hM,hmc,hnn,kk⟩;obtain⟨HM,Ni,K,UU⟩:=lH4 hM K.out.size (K.out.trans kk) hmc;have KS:=lH K.out.size;clear kk hM hmc y0 y1 y2 r0 r1 r2 r3 r4 r5 r6 r7 r8 r9 r10;have hb9:inD p s.pods d s.nodes≤100000*100000:=Nat.le_trans (ja6 _ _ _ _) (Nat.mul_le_mul (by rw[VN.out];omega) (by rw[VO.out];omega));have hl1:=HM.out.look d T5.out;obtain⟨x1,hx1⟩:=eX (inD p s.pods d s.nodes)
  have UB:=lH hx1;rw[hx1] at hl1 hb9;obtain⟨x3,hx3⟩:∃z:Nat,x1+1=z:=⟨_,rfl⟩
  have hx4:(x1:Int)+1=(x3:Int):=by omega
  have hx5:IntKind.i64.wrap (x3:Int)=(x3:Int):=IntWalk.i64_in _ (by omega);obtain⟨w4,hput,hM4,hG4⟩:=HM.out.put (by unfold maxLen;omega) d T5.out (x3:Int) (by omega);have UD:=lH hx3;have Ti:=lH (show jT w4 mc (nn+1) (fun e=>((inD p s.pods e s.nodes+(if e=d then 1 else 0):Nat):Int)) (fun e=>JF p.key e s.nodes) from hM4.eq (fun e=>by
   by_cases he:e=d
   · subst he;rw[if_pos rfl,if_pos rfl,UB.out,UD.out]
   · rw[if_neg he,if_neg he];rfl) (fun e=>by
   by_cases he:e=d
   · subst he;rw[if_pos rfl,TG.out]
   · rw[if_neg he]))
  have Tg:=lH hG4;have hb10:x3≤100000*100000+1:=by omega
  have T6:=lH hb10;have T7:=lH hnn;clear hM4 hG4 hx1 hx3 hb9 hb10;go_upto_region 4 with fail
  clear hl1 hput hx4 hx5;have J:=lH (Kept.drew w4);refine wp_region_held_drew (S:=fun W=>jT W mc (nn+1) (fun e=>((inD p s.pods e s.nodes+(if e=d then 1 else 0):Nat):Int)) (fun e=>JF p.key e s.nodes)) (by kernel_rfl) (Ti.out.kept J.out) (fun hHeld=>?_);refine tR 0 rfl (by kernel_rfl) (fun _ _ _=>id) (Or.inl ⟨by rfl,(by intro W hSw;go_simp<;>with_reducible rfl)⟩) ‹_› ?_;refine tR 1 rfl (by kernel_rfl) (fun _ _ _=>id) (Or.inl ⟨by rfl,(by intro W hSw;go_simp<;>with_reducible rfl)⟩) ‹_› ?_;refine tR 2 rfl (by kernel_rfl) (fun _ _ _=>id) (Or.inl ⟨by rfl,(by intro W hSw;have hl:=hSw.look d T5.out;go_simp<;>with_reducible rfl)⟩) ‹_› ?_;refine tR 3 rfl (by kernel_rfl) (fun _ _ _=>id) (Or.inl ⟨by rfl,(by intro W hSw;go_simp<;>with_reducible rfl)⟩) ‹_› ?_;try simp only[nA,nB,nC,nD,nE]
  skip;refine rd1 4 fun K9 Ky=>?_;go_simp;refine(jbY (some mc) _).mono ?_;rintro e w5 ⟨rfl,rfl⟩;have kq:=ja w4.drew (.cells #[.map (some mc)] 301);obtain⟨w5,hw5⟩:=eX (w4.drew.alloc (.cells #[.map (some mc)] 301))
  have hcs:je w4.drew.heap.size [.map (some mc)] w5:=jc w4.drew (.map (some mc)) [] 301 w5 (by rw[hw5];exact Kept.refl _);rw[hw5] at kq ⊢;obtain⟨bs,hbs⟩:=eX (w4.drew.heap.size)
  rw[hbs] at hcs ⊢;have RJ:=lH hcs;have J:=lH (J.out.trans kq);clear hcs kq hw5 hbs;refine Ky.out _ _ (Ti.out.kept J.out) (fun _=>?_);clear Ky K9;try simp only[nA,nB,nC,nD,nE]
  refine rd1 5 fun K9 Ky=>?_;go_simp;refine(jbu bs mc (nn+1) _ _ w5 (by have:=T7.out;omega) RJ.out.lt (RJ.out.at_ 0 _ rfl) (Ti.out.kept J.out)).mono ?_;rintro e w6 ⟨v,zs,rfl,ho,hz1,hz2,hzl,kk⟩;have J:=lH (J.out.trans kk);have hzd:=hz1 d TG.out;have hz0:zs≠[]:=fun e=>by rw[e] at hzd;cases hzd
  obtain⟨g,cap,rfl,hc⟩:=ho.cells hz0;obtain⟨HC,UT,Nj,RK,Nk⟩:=lH5 hc hz1 hz2 hz0 hzl;clear kk ho hc hz1 hz2 hz0 hzd hzl;refine Ky.out _ _ (Ti.out.kept J.out) (fun _=>?_);clear Ky K9;try simp only[nA,nB,nC,nD,nE]
  refine rd1 6 fun K9 Ky=>?_;go_simp;refine(Tryz.slices_Min_int g 0 zs.length cap zs w6 (List.length_pos_iff.2 RK.out) (Nat.le_refl _) (by have:=Nk.out;omega) HC.out).mono ?_;rintro e w7 ⟨rfl,rfl⟩;rw[List.take_length];refine Ky.out _ _ (Ti.out.kept J.out) (fun _=>?_);clear Ky K9;try simp only[nA,nB,nC,nD,nE]
  obtain⟨hm1,hm2⟩:=jfx RK.out;obtain⟨c,hcd,hce⟩:=Nj.out _ hm2;obtain⟨zm,hzm⟩:∃z:Nat,inD p s.pods c s.nodes+(if c=d then 1 else 0)=z:=⟨_,rfl⟩
  rw[hzm] at hce;rw[hce] at hm1 ⊢;have HL:=lH (jeB (p:=p) (pods:=s.pods) (nodes:=s.nodes) (d:=d) (m:=inD p s.pods d s.nodes+1) (z:=zm) TG.out rfl (fun e he=>by have:=hm1 _ (UT.out e he);omega) ⟨c,hcd,hzm.symm⟩);have hle:zm≤x3:=by have h:=hm1 _ (UT.out d TG.out);rw[if_pos rfl,UB.out] at h;have:=UD.out;omega
  have Uj:=lH (show Zn p s d=(x3:Int)-(zm:Int) by unfold Zn;rw[HL.out,UB.out,UD.out]);have hx6:(inD p s.pods d s.nodes+(if d=d then 1 else 0))=x3:=by rw[if_pos rfl,UB.out,UD.out]
  try rw[hx6]
  obtain⟨y,hy⟩:∃y:Nat,x3-zm=y:=⟨_,rfl⟩
  have hy1:(x3:Int)-(zm:Int)=(y:Int):=by omega
  have hy2:IntKind.i64.wrap (y:Int)=(y:Int):=IntWalk.i64_in _ (by have:=T6.out;omega);clear hm1 hm2 hcd hce hzm;refine tR 7 rfl (by kernel_rfl) (fun _ _ _=>id) (Or.inl ⟨by rfl,(by intro W hSw;go_simp<;>with_reducible rfl)⟩) ‹_› ?_;refine tR 8 rfl (by kernel_rfl) (fun _ _ _=>id) (Or.inl ⟨by rfl,(by intro W hSw;go_simp<;>with_reducible rfl)⟩) ‹_› ?_;try simp only[nA,nB,nC,nD,nE]
  refine wpAnyH_done (by kernel_rfl) ?_ _;go_wp2;go_ret;refine⟨fun d9 e9=>?_,fun e9=>?_,(jb.below K.out Tg.out fun i e=>by have:=UU.out;have:=Ni.out;omega).trans J.out⟩
  · rw[HO.out] at e9
    cases e9
    rw[Uj.out,hy1];have hv:IntKind.i64.wrap (((inD p s.pods d s.nodes:Nat):Int)+1-(zm:Int))=(y:Int):=by
     rw[UB.out,show (x1:Int)+1-(zm:Int)=(y:Int) by have:=UD.out;omega];exact hy2
    exact congrArg (fun z=>Ending.returned (.int .i64 z)) hv
  · rw[HO.out] at e9
    cases e9
open Go.RowKit Go.Shelf
def SkR (o:Option Int) (w:World) (e:Ending) (w':World):Prop:=(∀z,o=some z→e=.returned (.int .i64 z))∧(o=none→e=.panicked [jV 3])∧Kept w w'
theorem XD (B:Nat) (q:Nat) (x y:Int) (w:World) (hq:w.cell? ⟨q,0,none⟩=some (.int .i64 y)) (hzq:w.frozen? ⟨q,0,none⟩=false) (hBq:B≤q) :
 CallsD Tryz.prog 242 #[.pointer (some ⟨q,0,none⟩)] (.panicking [jV x]) w fun e u' w' =>
  e=.returned (.tuple #[])∧u'=.panicking [{ jV x with recovered:=true }]∧w'=w.setCell ⟨q,0,none⟩ (.int .i64 x)∧w'.cell? ⟨q,0,none⟩=some (.int .i64 x)∧Below B w w':=by
 have hta:∀W,(Instr.typeAssert (.iface 53 (.int .i64 x)) 20 53 false).run Tryz.prog W=.ok (.int .i64 x) W:=fun _=>by kernel_rfl
 refine callsD_of_wpS Tryz.func242 rfl fun c₀ cs hu=>?_;apply wpS_seq;apply wpS_region;simp[wpOpsS,go_sem,recoverD,hu,Tryz.ntmps242,Exit.thenS];apply wpS_seq;apply wpS_region;simp[wpOpsS,go_sem,recoverD,Exit.thenS];refine wpS_cond (t:=true) (by simp[Act.eval,Array.replicate]) ?_;simp only[if_true];refine wpS_of_wp ?_;simp[Array.replicate];go_wp2;simp[bodyPostS,results,Tryz.results242];exact⟨World.cell?_setCell_same' _ _ _ (by rw[hq];rfl),(Below.refl B w).setCell (p:=⟨q,0,none⟩) hBq _⟩
theorem ja9 (q:Addr) (w:World) :
 CallsD Tryz.prog 242 #[.pointer (some q)] .returning w fun e u' w'=>e=.returned (.tuple #[])∧u'=.returning∧w'=w:=by
 refine callsD_of_wpS Tryz.func242 rfl fun c₀ cs hu=>?_;apply wpS_seq;apply wpS_region;simp[wpOpsS,go_sem,recoverD,hu,Tryz.ntmps242,Exit.thenS];apply wpS_seq;apply wpS_region;simp[wpOpsS,go_sem,recoverD,hu,Exit.thenS];refine wpS_cond (t:=false) (by simp[Act.eval,Array.replicate]) ?_;simp only[Bool.false_eq_true,if_false];refine wpS_of_wp (wp_skip ?_)
 cases c₀
 simp_all [bodyPostS,results,Tryz.results242]
theorem jbX (Q1 Q2 Q3:Nat) (o:Option Int) (w:World) (hk:∀W,Kept w W→Calls Tryz.prog 218 #[.pointer (some ⟨Q1,0,none⟩),.pointer (some ⟨Q2,0,none⟩),.pointer (some ⟨Q3,0,none⟩)] W (SkR o W)) :
 Calls Tryz.prog 217 #[.func (.func 218) #[] #[.pointer (some ⟨Q1,0,none⟩),.pointer (some ⟨Q2,0,none⟩),.pointer (some ⟨Q3,0,none⟩)]] w fun e w'=>e=.returned (.tuple #[.int .i64 (o.getD 0),.int .i64 (if o.isSome=true then 0 else 3)])∧Kept w w':=by
 have hmf:=hmfL (P:=Tryz.prog);obtain⟨Z,hZ⟩:=eX (w.alloc (.cells #[.int .i64 0] 53))
 have hkz:Kept w Z:=by rw[←hZ];exact ja _ _
 obtain⟨HK,Nl,TH⟩:=lH3 hkz (jc w (.int .i64 0) [] 53 Z (by rw[hZ];exact Kept.refl _)) (hk Z hkz);clear hk hkz;go_enter_defers Tryz.func217,Tryz.ntmps217
 go_wp2_with fail
 try rw[hZ]
 refine TH.out.mono ?_;rintro e1 w1 ⟨h0,h1,hb⟩;have KK:=lH (HK.out.trans hb);have T8:=lH (Nl.out.kept hb);have ze:=T8.out.at_ 0 _ rfl;have zf:=T8.out.free 0
 cases o with
 | some z =>
  obtain rfl:=h0 z rfl;clear h0 h1 hb hZ;go_wp2_with fail
  have FE:=lH (T8.out.set (j:=0) (u:=.int .i64 0) (by simp));have KF:=lH (show Kept w (w1.setCell ⟨w.heap.size,0,none⟩ (.int .i64 0)) from KK.out.setCell (p:=⟨w.heap.size,0,none⟩) (Nat.le_refl _) _);obtain⟨WF,hWF⟩:=eX (w1.setCell ⟨w.heap.size,0,none⟩ (.int .i64 0))
  rw[hWF] at FE KF ⊢;have fe:=FE.out.at_ 0 _ rfl;clear hWF ze zf;refine leaves_cons (f:=242) (args:=#[.pointer (some ⟨w.heap.size,0,none⟩)]) (by simp) (by simp[go_sem]) ?_;refine(ja9 ⟨w.heap.size,0,none⟩ _).mono ?_;rintro e u' w'' ⟨rfl,rfl,rfl⟩;simp[Leaves,settle,results,Tryz.results217,go_sem,fe];exact KF.out
 | none =>
  obtain rfl:=h1 rfl;clear h0 h1 hb hZ;go_wp2_with fail
  refine leaves_cons (f:=242) (args:=#[.pointer (some ⟨w.heap.size,0,none⟩)]) (by simp) (by simp[go_sem]) ?_;refine(XD w.heap.size w.heap.size 3 0 _ ze zf (Nat.le_refl _)).mono ?_;rintro e u' w'' ⟨rfl,rfl,rfl,q2,q3⟩;have KF:=lH (show Kept w _ from Below.trans KK.out q3);obtain⟨WF,hWF⟩:=eX (w1.setCell ⟨w.heap.size,0,none⟩ (.int .i64 3))
  rw[hWF] at q2 KF ⊢;clear hWF q3 ze zf;simp[Leaves,settle,results,Tryz.results217,go_sem,q2];exact KF.out
theorem jdw (Q1 Q2 Q3:Nat) (s1 s2 s3 a1 a2 a3 a4:Option Addr) (n1 e1 n2 e2 n3 e3 m1 c1 m2 c2 m3 c3 m4 c4:Nat) (p:Pd) (s:Clu) (name:ByteArray) (w:World) (hq1:je Q1 [.slice s1 n1 e1,.slice s2 n2 e2,.slice s3 n3 e3] w) (hq2:je Q2 [.string p.name,.string p.owner,.int .i64 p.prio,.slice a1 m1 c1,.slice a2 m2 c2,.slice a3 m3 c3,.slice a4 m4 c4,.string p.key,.int .i64 p.most,.string p.node,.bool p.hold] w) (hq3:je Q3 [.string name] w) (hn:jt w s1 n1 s.nodes) (hp:jv w s2 n2 s.pods) (hb1:n1≤100000) (hb2:n2≤100000) :
 Calls Tryz.prog 218 #[.pointer (some ⟨Q1,0,none⟩),.pointer (some ⟨Q2,0,none⟩),.pointer (some ⟨Q3,0,none⟩)] w (SkR ((domV p.key name s.nodes).map (Zn p s)) w):=by
 have HS:=lH (jcC s1 s2 s3 a1 a2 a3 a4 n1 e1 n2 e2 n3 e3 m1 c1 m2 c2 m3 c3 m4 c4 p s name w hn hp hb1 hb2);unfold jo at HS;have y0:=hq1.at_ 0 _ rfl;have y1:=hq1.at_ 1 _ rfl;have y2:=hq1.at_ 2 _ rfl;have r0:=hq2.at_ 0 _ rfl;have r1:=hq2.at_ 1 _ rfl;have r2:=hq2.at_ 2 _ rfl;have r3:=hq2.at_ 3 _ rfl;have r4:=hq2.at_ 4 _ rfl;have r5:=hq2.at_ 5 _ rfl;have r6:=hq2.at_ 6 _ rfl;have r7:=hq2.at_ 7 _ rfl;have r8:=hq2.at_ 8 _ rfl;have r9:=hq2.at_ 9 _ rfl;have r10:=hq2.at_ 10 _ rfl;have z0:=hq3.at_ 0 _ rfl;clear hq1 hq2 hq3 hn hp;go_enter Tryz.func218,Tryz.ntmps218;go_wp2_with fail
 refine HS.out.mono ?_;rintro e w1 ⟨h1,h2,kk⟩;have K:=lH kk;clear kk HS y0 y1 y2 r0 r1 r2 r3 r4 r5 r6 r7 r8 r9 r10 z0
 cases ho:domV p.key name s.nodes with
 | none =>
  obtain rfl:=h2 ho;have HO:=lH ho;clear h1 h2 ho;go_wp2;exact⟨rfl,(fun z e=>by cases e),(fun _=>rfl),K.out⟩
 | some d =>
  obtain rfl:=h1 d ho;have HO:=lH ho;clear h1 h2 ho;obtain⟨z,hz⟩:=eX (Zn p s d)
  rw[hz];have HZ:=lH hz;clear hz;go_wp2;go_ret;exact⟨(fun y e=>by rw[HO.out] at e;cases e;exact congrArg (fun z=>Ending.returned (.int .i64 z)) HZ.out.symm),(fun e=>by rw[HO.out] at e;cases e),K.out⟩
theorem jeZ (s1 s2 s3 a1 a2 a3 a4:Option Addr) (n1 e1 n2 e2 n3 e3 m1 c1 m2 c2 m3 c3 m4 c4:Nat) (p:Pd) (s:Clu) (name:ByteArray) (w:World) (hn:jt w s1 n1 s.nodes) (hp:jv w s2 n2 s.pods) (hb1:n1≤100000) (hb2:n2≤100000) :
 Calls Tryz.prog 189 #[.agg #[.slice s1 n1 e1,.slice s2 n2 e2,.slice s3 n3 e3],jo p (.slice a1 m1 c1) (.slice a2 m2 c2) (.slice a3 m3 c3) (.slice a4 m4 c4),.string name] w (Say (.tuple #[.int .i64 (Jv p s name).1,.bool (Jv p s name).2]) w):=by
 have hmf:=hmfL (P:=Tryz.prog);obtain⟨Y,hY⟩:=eX ((w.alloc (.cells #[.slice s1 n1 e1,.slice s2 n2 e2,.slice s3 n3 e3] 35)).alloc (.cells #[.string p.name,.string p.owner,.int .i64 p.prio,.slice a1 m1 c1,.slice a2 m2 c2,.slice a3 m3 c3,.slice a4 m4 c4,.string p.key,.int .i64 p.most,.string p.node,.bool p.hold] 41))
 have hky:Kept w Y:=by rw[←hY];exact ji _ _ _
 have hys:Y.heap.size=w.heap.size+2:=by rw[←hY];simp
 have hsb:=jc w (.slice s1 n1 e1) [.slice s2 n2 e2,.slice s3 n3 e3] 35 Y (by rw[←hY];exact ja _ _);have hpb:je (w.heap.size+1) [.string p.name,.string p.owner,.int .i64 p.prio,.slice a1 m1 c1,.slice a2 m2 c2,.slice a3 m3 c3,.slice a4 m4 c4,.string p.key,.int .i64 p.most,.string p.node,.bool p.hold] Y:=by
  have dd:=jc (w.alloc (.cells #[.slice s1 n1 e1,.slice s2 n2 e2,.slice s3 n3 e3] 35)) (.string p.name) [.string p.owner,.int .i64 p.prio,.slice a1 m1 c1,.slice a2 m2 c2,.slice a3 m3 c3,.slice a4 m4 c4,.string p.key,.int .i64 p.most,.string p.node,.bool p.hold] 41 Y (by rw[hY];exact Kept.refl _);rw[World.size_alloc] at dd;exact dd
 obtain⟨Z,hZ⟩:=eX (Y.alloc (.cells #[.string name] 9))
 have hkz:Kept Y Z:=by rw[←hZ];exact ja _ _
 have hnb:je (w.heap.size+2) [.string name] Z:=by
  have dd:=jc Y (.string name) [] 9 Z (by rw[hZ];exact Kept.refl _);rw[hys] at dd;exact dd
 have hYZ:((w.alloc (.cells #[.slice s1 n1 e1,.slice s2 n2 e2,.slice s3 n3 e3] 35)).alloc (.cells #[.string p.name,.string p.owner,.int .i64 p.prio,.slice a1 m1 c1,.slice a2 m2 c2,.slice a3 m3 c3,.slice a4 m4 c4,.string p.key,.int .i64 p.most,.string p.node,.bool p.hold] 41)).alloc (.cells #[.string name] 9)=Z:=by rw[hY];exact hZ
 obtain⟨Vh,Vk,Vl,K,HN,HP⟩:=lH6 (hsb.kept hkz) (hpb.kept hkz) hnb (hky.trans hkz) (hn.kept (hky.trans hkz)) (hp.kept (hky.trans hkz));clear hn hp hky hkz hys hsb hpb hnb hY hZ;obtain⟨t0,h0⟩:=eX ((p.key.toList==([]:List UInt8)))
 have HI:=lH (show zq p.key=t0 by rw[Xb,h0]);have r7:=Vk.out.at_ 7 _ rfl;unfold jo;go_enter Tryz.func189,Tryz.ntmps189
 cases t0 with
 | true =>
  have HV:=lH (show Jv p s name=(0,true) by unfold Jv;rw[if_pos HI.out]);go_wp2;try rw[hYZ]
  go_ret2
  rw[HV.out];exact⟨rfl,by first | exact K.out | (rw[hYZ];exact K.out)⟩
 | false =>
  have HC:=lH (jbX w.heap.size (w.heap.size+1) (w.heap.size+2) ((domV p.key name s.nodes).map (Zn p s)) Z fun W k=>jdw w.heap.size (w.heap.size+1) (w.heap.size+2) s1 s2 s3 a1 a2 a3 a4 n1 e1 n2 e2 n3 e3 m1 c1 m2 c2 m3 c3 m4 c4 p s name W (Vh.out.kept k) (Vk.out.kept k) (Vl.out.kept k) (HN.out.kept k) (HP.out.kept k) hb1 hb2);have HV:=lH (show Jv p s name=(((domV p.key name s.nodes).map (Zn p s)).getD 0,((domV p.key name s.nodes).map (Zn p s)).isSome) by
   unfold Jv;rw[if_neg (by rw[HI.out];decide)]
   cases domV p.key name s.nodes<;>rfl)
  obtain⟨o,ho⟩:=eX ((domV p.key name s.nodes).map (Zn p s))
  rw[ho] at HC HV;clear ho;go_upto_region 3 with fail
  try rw[hYZ]
  clear hYZ r7 h0;go_wp2_with fail
  refine HC.out.mono ?_;rintro e w1 ⟨rfl,kk⟩;have K:=lH (K.out.trans kk);clear kk
  cases o with
  | none =>
   have HW:=lH (show Jv p s name=(0,false) from HV.out);go_wp2;go_ret2
   rw[HW.out];exact⟨rfl,K.out⟩
  | some z =>
   have HW:=lH (show Jv p s name=(z,true) from HV.out);go_wp2;go_ret2
   rw[HW.out];exact⟨rfl,K.out⟩
theorem jdU (a a9:Option Addr) (len cap cap9:Nat) (l:List ByteArray) (w:World) (hr:jk jK w a len l) (hr9:jk jK w a9 len l) :
 Calls Tryz.prog 33 #[.slice a len cap,.slice a9 len cap9] w fun e w'=>e=.returned (.bool true)∧Kept w w':=by
 have hl:=hr.1;have hm:=hr.2.1;unfold maxLen at hm;by_cases h0:len=0
 · subst h0;clear hr hl hr9;go_enter Tryz.func33,Tryz.ntmps33;go_wp2;refine wp_loop_rounds 1 ?_;rw[rounds_succ];go_wp2;go_ret;exact⟨rfl,Kept.refl _⟩
 · obtain⟨b,off,rfl⟩:∃b off,a=some ⟨b,off,none⟩:=by
    rcases hr.form with h | h
    · exact absurd h h0
    · exact h
   obtain⟨b9,off9,rfl⟩:∃b off,a9=some ⟨b,off,none⟩:=by
    rcases hr9.form with h | h
    · exact absurd h h0
    · exact h
   have HR:=lH hr;have Nn:=lH hr9;clear hr hl hr9 h0;go_enter Tryz.func33,Tryz.ntmps33;go_wp2;go_loopw [5] (fun i wr=>∃k:Nat,k≤len∧i=.int .i64 k∧Kept w wr) (fun i _=>len-(intOf i).toNat)
   case atStart=>exact⟨0,Nat.zero_le _,rfl,Kept.refl _⟩
   case round =>
    obtain⟨k,hk,rfl,hK⟩:=hrel;have HK:=lH hK;by_cases hlt:k<len
    · obtain⟨x,hx,hd,hb,hz,c1⟩:=(HR.out.kept hK).str hlt;obtain⟨x9,hx9,_,hb9,_,d1⟩:=(Nn.out.kept hK).str hlt;obtain rfl:x=x9:=by rw[hx] at hx9;exact Option.some.inj hx9
      clear hx hd hx9 hK;go_wp2;go_quiet (fail)
      go_wp2;go_roundw
      case rel=>exact⟨k+1,by omega,by go_num,HK.out.trans (Kept.drewN _ _)⟩
      case measure=>simp[intOf];omega
    · clear hK;go_wp2;go_ret;exact⟨rfl,HK.out⟩
theorem jgv {v v9:Value} {l:List ByteArray} {w:World} (h:Reads jK w v l) (h9:Reads jK w v9 l):Calls Tryz.prog 33 #[v,v9] w (Say (.bool true) w):=by
 obtain⟨a,cap,rfl,_,_,hr⟩:=h;obtain⟨a9,cap9,rfl,_,_,hr9⟩:=h9;exact jdU a a9 _ cap cap9 l w hr hr9
theorem jfi (x:ByteArray) (u:Value) (h:u ∈ [Value.string x]):u.oneCell'=true:=jda x u h
theorem jgw:(Tryz.prog.info? 9).map (fun i=>(i.zero,i.size,i.bytes))=some (some (.string ByteArray.empty),1,16):=by kernel_rfl
def jgg (r:Int×Vec.V) (w:World) (e:Ending) (w':World):Prop:=∃y,e=.returned (.tuple #[y,.int .i64 r.1])∧Vec.Reads w' y r.2∧Kept w w'
theorem jeg {l:List Nod} {x:ByteArray} {n:Nod} (h:jl l x=some n):n.name=x :=
 jI.1 (List.find?_some (p:=fun n:Nod=>eqS n.name x) h)
theorem jd8 {s:Clu} {x:ByteArray} {n:Nod} (h:jl s.nodes x=some n):Xg s x=jD x s.pods []:=by unfold Xg;rw[h];dsimp only;rw[jeg h]
end Go.Proofs.YtabafpoklpiiiaaGreat
