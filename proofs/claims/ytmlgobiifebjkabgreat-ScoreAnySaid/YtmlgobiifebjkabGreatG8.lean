/- C. -/
import Derived.Test.YtmlgobiifebjkabGreatG1
import Derived.Test.YtmlgobiifebjkabGreatG2
import Derived.Test.YtmlgobiifebjkabGreatG3
import Derived.Test.YtmlgobiifebjkabGreatG4
import Derived.Test.YtmlgobiifebjkabGreatG5
import Derived.Test.YtmlgobiifebjkabGreatG6
import Derived.Test.YtmlgobiifebjkabGreatG7
set_option linter.unusedVariables false
set_option maxRecDepth 100000
set_option maxHeartbeats 25600000
namespace Go.Proofs.YtmlgobiifebjkabGreat
open Go.RowKit
theorem jg8 {w:World} {B e s n G i:Nat} {xs vs:List Value} {ROW:Array Value} (hB:B≤w.heap.size) (hG:n+1≤G) (hm:G≤maxLen) (hi:i≤n) (hx:xs.length=n*s) (hv:vs.length=s) (hR:ROW.size=G*s) (hr:∀t,t<i*s→ROW[t]?=xs[t]?) :
 (((w.alloc (.cells ROW e)).setCells w.heap.size (i*s) vs).setCells w.heap.size ((i+1)*s) (xs.drop (i*s))).ownsRow B e s (.slice (some ⟨w.heap.size,0,none⟩) (n+1) G) (n+1) (xs.take (i*s)++vs++xs.drop (i*s)):=by
 have hns:(n+1)*s≤G*s:=Nat.mul_le_mul_right s hG;have his:i*s≤n*s:=Nat.mul_le_mul_right s hi;have e0:(n+1)*s=n*s+s:=by rw[Nat.add_mul,Nat.one_mul]
 have e1:(i+1)*s=i*s+s:=by rw[Nat.add_mul,Nat.one_mul]
 have hld:(xs.drop (i*s)).length=n*s-i*s:=by rw[List.length_drop,hx]
 refine jaX hB (JY _ _ _ _ _ e (JY vs _ _ _ _ e (World.alloc_heap_new w _))) hG hm (by rw[Js,Js];exact hR) (by rw[List.length_append,List.length_append,List.length_take,hld,hx,e0];omega) (fun t htl=>?_);rw[e0] at htl;rw[Ze _ _ _ _ (by rw[Js,hld,e1];omega),hld,e1];by_cases c1:t<i*s
 · rw[if_neg (by omega),Ze _ _ _ _ (by rw[hv];omega),if_neg (by omega),hr t c1,List.append_assoc,List.getElem?_append_left (by rw[List.length_take,hx];omega),List.getElem?_take,if_pos c1]
 · by_cases c2:t<i*s+s
   · rw[if_neg (by omega),Ze _ _ _ _ (by rw[hv];omega),hv,if_pos (by omega),List.append_assoc,List.getElem?_append_right (by rw[List.length_take,hx];omega),List.getElem?_append_left (by rw[List.length_take,hx,hv];omega),List.length_take,hx];congr 1
     omega
   · rw[if_pos (by omega),List.getElem?_append_right (by rw[List.length_append,List.length_take,hx,hv];omega),List.length_append,List.length_take,hx,hv];congr 1
     omega
def jfw (v:Value) (B n i:Nat) (xs vs:List Value) (w:World) (e:Ending) (w':World):Prop:=∃g c,e=.returned (.slice (some ⟨g,0,none⟩) (n+1) c)∧w'.ownsRow B 35 11 (.slice (some ⟨g,0,none⟩) (n+1) c) (n+1) (xs.take (i*11)++vs++xs.drop (i*11))∧jq (fun b=>v.ownBlock=some b) w w'∧(v.ownBlock=some g∨w.heap.size≤g)
theorem jh3 (v:Value) (n vb vc B:Nat) (xs vs:List Value) (w:World) (hown:w.ownsRow B 35 11 v n xs) (hbase:B≤w.heap.size) (hvl:vs.length=11) (h1v:∀u ∈ vs,u.oneCell'=true) (hvs:∀j u,vs[j]?=some u→w.cell? ⟨vb,j,none⟩=some u) (hbig:n≤100000) :
 Calls Tryz.prog 102 #[v,.int .i64 n,.slice (some ⟨vb,0,none⟩) 1 vc] w (jfw v B n n xs vs w):=by
 obtain⟨i0,hi0,hz0,hz1,hz2⟩:=info_parts jaz;have H:=lH hown;have HL:=lH (show xs.length=n*11 from hown.1);have Ml:=lH (show ∀j u,vs[j]?=some u→w.cell? ((⟨vb,0,none⟩:Addr).add j)=some u from fun j u h=>by rw[Addr.add_lit,Nat.zero_add];exact hvs j u h);have HB:=lH hbase;have H1:=lH h1v;have HV:=lH (show vs.length=1*11 by rw[hvl]);have t23:=Tryz.underlying23;have key:∀(gg cap1:Nat) (w2:World),w2.ownsRow B 35 11 (.slice (some ⟨gg,0,none⟩) (n+1) cap1) (n+1) (xs++vs)→w.grownBy w2 v.ownBlock→(v.ownBlock=some gg∨gg=w.heap.size)→jfw v B n n xs vs w (.returned (.slice (some ⟨gg,0,none⟩) (n+1) cap1)) w2:=by
  intro gg cap1 w2 h1 h2 h3;refine⟨gg,cap1,rfl,?_,jq.grown h2 fun k e=>e,h3.imp id fun e=>by omega⟩;rw[←HL.out,List.take_length,List.drop_length,List.append_nil];exact h1
 have HK:=lH key;rcases hown.2 with ⟨rfl,h0⟩ | ⟨g,c,cur,rfl,hb,hg,hnc,hcm,-⟩
 · subst h0;clear hown hvl h1v hvs hbase key;go_enter Tryz.func102,Tryz.ntmps102;go_wp2_with (at_builtin;refine wpList_append_lies _ rfl _ _ _ rfl B 35 i0 _ 11 184 t23 hi0 hz0 hz1 hz2 rfl (by decide) (.slice none 0 0) 0 xs rfl H.out ⟨vb,0,none⟩ 1 vc vs rfl HV.out Ml.out H1.out (by decide) (by unfold maxLen;omega) (by omega) HB.out w.heap.size rfl ?_;intro gg cap1 w2 hown1 hgrow hat hlt1)
   have HR:=lH (HK.out gg cap1 w2 hown1 hgrow hat);clear hown1 hgrow hat hlt1;go_wp2;go_ret;exact HR.out
 · have hc':c≤9223372036854775807:=by unfold maxLen at hcm;omega
   clear hown hvl h1v hvs hbase key hb hg;go_enter Tryz.func102,Tryz.ntmps102;go_wp2_with (at_builtin;refine wpList_append_lies _ rfl _ _ _ rfl B 35 i0 _ 11 184 t23 hi0 hz0 hz1 hz2 rfl (by decide) (.slice (some ⟨g,0,none⟩) n c) n xs rfl H.out ⟨vb,0,none⟩ 1 vc vs rfl HV.out Ml.out H1.out (by decide) (by unfold maxLen;omega) (by omega) HB.out w.heap.size rfl ?_;intro gg cap1 w2 hown1 hgrow hat hlt1)
   all_goals
    have HR:=lH (HK.out gg cap1 w2 hown1 hgrow hat);clear hown1 hgrow hat hlt1;go_wp2;go_ret;exact HR.out
theorem je7 (g n c i vb m vc B:Nat) (xs vs:List Value) (w:World) (hown:w.ownsRow B 35 11 (.slice (some ⟨g,0,none⟩) n c) n xs) (hi:i<n) (hm1:m=1) (hroom:n+m≤c) (hvb:vb≠g) (h1c:∀u ∈ xs,u.oneCell'=true) (hvl:vs.length=m*11) (h1v:∀u ∈ vs,u.oneCell'=true) (hvs:∀j u,vs[j]?=some u→w.cell? ⟨vb,j,none⟩=some u)
 (tA:TypeId) (kA:Nat) (hsa:w.shape? vb=some (tA,kA)) (hfa:w.frozen? ⟨vb,0,none⟩=false) (hfe:w.frozen? ⟨vb,kA,none⟩=false) :
 Calls Tryz.prog 102 #[.slice (some ⟨g,0,none⟩) n c,.int .i64 i,.slice (some ⟨vb,0,none⟩) m vc] w fun e w'=>e=.returned (.slice (some ⟨g,0,none⟩) (n+m) c)∧w'=(w.drew.setCells g ((i+m)*11) (xs.drop (i*11))).setCells g (i*11) vs:=by
 obtain⟨i0,hi0,hz0,hzs,hzb⟩:=info_parts jaz;obtain⟨cur,hB,hg,hn,hcm,hs,ht,hl⟩:=J9 hown;have hm:0<m:=by omega
 have hc63:c≤9223372036854775807:=by unfold maxLen at hcm;omega
 have t23:=Tryz.underlying23;have hfr:∀t,w.frozen? ⟨g,t,none⟩=false:=fun t=>hown.frozenAt t;have hcell:∀t,t<n*11→w.cell? ⟨g,t,none⟩=xs[t]?:=fun t h=>hown.cellAt t h;have hsp:∀t,t<(n+m)*11→(w.cell? ⟨g,t,none⟩).isSome=true:=fun t h=>by
  rw[Lib.cell_of_heap hg,Array.getElem?_eq_getElem (by rw[hs];exact Nat.lt_of_lt_of_le h (Nat.mul_le_mul_right 11 hroom))];rfl
 have hz1:¬((m:Int)=0):=by omega
 have hz2:¬((i:Int)=(n:Int)):=by omega
 have hdl:(xs.drop (i*11)).length=n*11-i*11:=by rw[List.length_drop,hl]
 have hks:cur.size≠0:=by rw[hs];omega
 have hsb:w.shape? g=some (35,cur.size):=by unfold World.shape?;rw[hg]
 have hov:∀lb cb,(callFunc 134 #[.slice (some ⟨vb,0,none⟩) m vc,.slice (some ⟨g,(i+m)*11,none⟩) lb cb]).run Tryz.prog w=.ok (.value (.bool false)) w:=fun lb cb=>by
  rw[run_callFunc_extern Tryz.func134 (by kernel_rfl) (by kernel_rfl) (by kernel_rfl) (e:=Extern.SlicesOverlaps.overlaps #[23,23] #[4]) (by kernel_rfl),
   Lib.run_overlaps_apart w 23 4 35 t23 11 (fun w=>by simp[sizeOf,typeInfo,hi0,hzs]) ⟨vb,0,none⟩ ⟨g,(i+m)*11,none⟩ m vc lb cb hvb tA 35 kA cur.size hsa hsb hks hfa hfe]
  rfl
 have hw1:IntKind.i64.wrap ((i:Int)+(m:Int))=(i:Int)+(m:Int):=by rw[IntKind.wrap_i64];omega
 have hb1:(0:Int)≤(i:Int)+(m:Int):=by omega
 have hin:i≤n:=by omega
 have htn:((i:Int)+(m:Int)).toNat=i+m:=by omega
 have hb2:¬(c=i+m):=by omega
 have hb3:(i:Int)≤(n:Int)+(m:Int):=by omega
 have hb4:¬(c=i):=by omega
 have hcp1:∀ty dc sc,(Builtin.copy_ #[23,23] ty #[.slice (some ⟨g,(i+m)*11,none⟩) (n+m-(i+m)) dc,.slice (some ⟨g,i*11,none⟩) (n+m-i) sc]).run Tryz.prog w.drew=.ok (goInt (Nat.min (n+m-i) (n+m-(i+m)))) (w.drew.setCells g ((i+m)*11) (xs.drop (i*11))):=fun ty dc sc =>
  Z7 w.drew _ _ ty 35 i0 g ((i+m)*11) (n+m-(i+m)) dc ⟨g,i*11,none⟩ (n+m-i) sc (xs.drop (i*11)) t23 hi0 (by rw[hdl,hzs];simp only[Nat.min_def];split<;>omega)
   (fun j v hj=>by rw[Addr.add_lit];rw[List.getElem?_drop] at hj;have:=(List.getElem?_eq_some_iff.1 hj).1;exact(hcell _ (by omega)).trans hj)
   (fun j hj=>hsp _ (by omega)) (fun j hj=>hfr _) (fun v hv=>h1c v (List.mem_of_mem_drop hv))
 obtain⟨W1,hW1⟩:∃W1,W1=w.drew.setCells g ((i+m)*11) (xs.drop (i*11)):=⟨_,rfl⟩
 have hsp1:∀k,k<(n+m)*11→(W1.cell? ⟨g,k,none⟩).isSome=true:=fun k hk=>by
  rw[hW1];exact isSome_setCells g (xs.drop (i*11)) ((i+m)*11) w.drew (fun j hj=>hsp _ (by rw[hdl] at hj;omega)) k (hsp k hk)
 have hcp2:∀(W:World),(∀x,W.cell? x=W1.cell? x)→(∀x,W.frozen? x=W1.frozen? x)→∀ty dc,(Builtin.copy_ #[23,23] ty #[.slice (some ⟨g,i*11,none⟩) (n+m-i) dc,.slice (some ⟨vb,0,none⟩) m vc]).run Tryz.prog W=.ok (goInt (Nat.min m (n+m-i))) (W.setCells g (i*11) vs):=fun W hWc hWf ty dc =>
  Z7 W _ _ ty 35 i0 g (i*11) (n+m-i) dc ⟨vb,0,none⟩ m vc vs t23 hi0 (by rw[hvl,hzs];simp only[Nat.min_def];split<;>omega)
   (fun j v hj=>by
     rw[Addr.add_lit,hWc,hW1,World.cell?_setCells_out g _ _ _ _ (fun h _=>absurd h hvb),Nat.zero_add];exact hvs j v hj)
   (fun j hj=>by rw[hWc];exact hsp1 _ (by omega)) (fun j hj=>by rw[hWf,hW1,World.frozen?_setCells];exact hfr _) h1v
 rw[←hW1] at hcp1;clear hown hB hg hcm hs ht hl hm1 hsa hsb hfa hfe hks;go_enter Tryz.func102,Tryz.ntmps102;go_wp2_with (simp only[hov])
 go_region_law (refine step_copy_runI rfl _ _ 23 23 rfl _ _ (by simp[Act.eval,Act.put]) (by simp[Act.eval,Act.put]) (hcp1 _ _ _) ?_)
 go_wp2_with (at_builtin;refine wpList_copy_runI _ rfl _ _ 23 23 rfl _ _ rfl rfl (hcp2 _ (fun _=>rfl) (fun _=>rfl) _ _) ?_)
 go_ret;first | exact⟨rfl,rfl⟩ | exact⟨rfl,by rw[hW1]⟩
theorem jfL (g n c i vb m vc B:Nat) (xs vs:List Value) (w:World) (hown:w.ownsRow B 35 11 (.slice (some ⟨g,0,none⟩) n c) n xs) (hi:i<n) (hm:0<m) (hroom:c<n+m) (hbig:n+m≤100001) (h1c:∀u ∈ xs,u.oneCell'=true) (hvl:vs.length=m*11) (h1v:∀u ∈ vs,u.oneCell'=true) (hvs:∀j u,vs[j]?=some u→w.cell? ⟨vb,j,none⟩=some u) :
 Calls Tryz.prog 102 #[.slice (some ⟨g,0,none⟩) n c,.int .i64 i,.slice (some ⟨vb,0,none⟩) m vc] w fun e w'=>∃G ROW,n+m≤G∧G≤maxLen∧ROW=(xs.take (i*11)).toArray++Builtin.zeroCells Jt (n+m-i)++Builtin.zeroCells Jt (G-(n+m))∧e=.returned (.slice (some ⟨w.heap.size,0,none⟩) (n+m) G) ∧
  w'=(((w.alloc (.cells ROW 35)).drew.setCells w.heap.size (i*11) vs).drew).setCells w.heap.size ((i+m)*11) (xs.drop (i*11)):=by
 obtain⟨i0,hi0,hz0,hzs,hzb⟩:=info_parts jaz;obtain⟨cur,hB,hg,hnc,hcm,hs,ht,hl⟩:=J9 hown;have t23:=Tryz.underlying23;have hcell:∀t,t<n*11→w.cell? ⟨g,t,none⟩=xs[t]?:=fun t h=>hown.cellAt t h;have hcs:∀t v,xs[t]?=some v→w.cell? ⟨g,t,none⟩=some v:=fun t v h=>(hcell t (by rw[←hl];exact(List.getElem?_eq_some_iff.1 h).1)).trans h;have hz1:¬((m:Int)=0):=by omega
 have hz2:¬((i:Int)=(n:Int)):=by omega
 have hz3:(c:Int)<(n:Int)+(m:Int):=by omega
 have hbw:g<w.heap.size:=(hown.lt g rfl).2;have hvw:vb<w.heap.size:=World.block_lt_of_cell? _ _ (hvs 0 _ (List.getElem?_eq_getElem (by omega)));have hkk:(n:Int)+(m:Int)-(i:Int)=((n+m-i:Nat):Int):=by omega
 have hik:i+(n+m-i)=n+m:=by omega
 have hold:(Builtin.firstCells i0.size i (.slice (some ⟨g,0,none⟩) i c)).run Tryz.prog w.drew=.ok (xs.take (i*11)).toArray w.drew:=by
  rw[hzs];exact run_firstCells_some w.drew 11 i ⟨g,0,none⟩ i c (xs.take (i*11)) (by rw[List.length_take,hl];omega) (fun j v hj=>by
   rw[Addr.add_lit,Nat.zero_add];rw[List.getElem?_take] at hj;split at hj
   · exact hcs j v hj
   · cases hj)
 have hrz:∀ty,(Builtin.append_ #[23,3] ty #[.slice (some ⟨g,0,none⟩) i c,.int .i64 ((n:Int)+(m:Int)-(i:Int))]).run Tryz.prog w =
  .ok (.slice (some ⟨w.heap.size,0,none⟩) (n+m) (grownCap w (n+m) c 35)) (w.drew.alloc (.cells ((xs.take (i*11)).toArray++Builtin.zeroCells Jt (n+m-i)++Builtin.zeroCells Jt (grownCap w (n+m) c 35-(n+m))) 35)):=fun ty=>by
  have h:=Lib.run_append_grow_zeros w 23 3 ty 35 i0 (.agg Jt) .i64 .i64 t23 Tryz.underlying3 hi0 hz0 (some ⟨g,0,none⟩) i c (xs.take (i*11)) hold (n+m-i) (by omega) (by omega) (by omega) (by omega) (by rw[hzb];omega) (by rw[hzb,hik];exact growslice_fits hroom (by omega));rw[hik] at h;rw[hkk];exact h
 obtain⟨G,hG⟩:∃G,G=grownCap w (n+m) c 35:=⟨_,rfl⟩
 obtain⟨ROW,hROW⟩:∃ROW:Array Value,ROW=(xs.take (i*11)).toArray++Builtin.zeroCells Jt (n+m-i)++Builtin.zeroCells Jt (G-(n+m)):=⟨_,rfl⟩
 rw[←hG] at hrz;rw[←hROW] at hrz;have hGn:n+m≤G:=by rw[hG];exact grownCap_ge w _ _ _
 have hGM:G≤maxLen:=by rw[hG];exact grownCap_le_maxLen w (n+m) c 35 (by unfold maxLen;omega)
 have hG63:G≤9223372036854775807:=by unfold maxLen at hGM;omega
 have hRl:ROW.size=G*11:=by
  rw[hROW,Array.size_append,Array.size_append,ZW,ZW,List.size_toArray,List.length_take,hl];omega
 obtain⟨W1,hW1⟩:∃W1,W1=w.drew.alloc (.cells ROW 35):=⟨_,rfl⟩
 rw[←hW1] at hrz;have hN:∀j,j<(n+m)*11→(W1.cell? ⟨w.heap.size,j,none⟩).isSome=true:=fun j hj=>by
  rw[hW1,World.cell?_alloc_at (w:=w.drew) ROW _ w.heap.size j rfl,Array.getElem?_eq_getElem (by rw[hRl];exact Nat.lt_of_lt_of_le hj (Nat.mul_le_mul_right 11 hGn))];rfl
 have hNf:∀j,W1.frozen? ⟨w.heap.size,j,none⟩=false:=fun j=>by rw[hW1];exact World.frozen?_alloc_at (w:=w.drew) ROW _ w.heap.size j rfl
 have hOb:∀j v,w.cell? ⟨g,j,none⟩=some v→W1.cell? ⟨g,j,none⟩=some v:=fun j v h=>by rw[hW1,World.cell?_alloc_past (w:=w.drew) _ g j hbw];exact h
 have hOv:∀j v,w.cell? ⟨vb,j,none⟩=some v→W1.cell? ⟨vb,j,none⟩=some v:=fun j v h=>by rw[hW1,World.cell?_alloc_past (w:=w.drew) _ vb j hvw];exact h
 have hcpA:∀(W:World),(∀x,W.cell? x=W1.cell? x)→(∀x,W.frozen? x=W1.frozen? x)→∀ty dc,(Builtin.copy_ #[23,23] ty #[.slice (some ⟨w.heap.size,i*11,none⟩) (n+m-i) dc,.slice (some ⟨vb,0,none⟩) m vc]).run Tryz.prog W=.ok (goInt (Nat.min m (n+m-i))) (W.setCells w.heap.size (i*11) vs):=fun W hWc hWf ty dc =>
  Z7 W _ _ ty 35 i0 w.heap.size (i*11) (n+m-i) dc ⟨vb,0,none⟩ m vc vs t23 hi0 (by rw[hvl,hzs];simp only[Nat.min_def];split<;>omega)
   (fun j v hj=>by rw[Addr.add_lit,hWc,Nat.zero_add];exact hOv _ v (hvs j v hj))
   (fun j hj=>by rw[hWc];exact hN _ (by omega)) (fun j hj=>by rw[hWf];exact hNf _) h1v
 have hGi:¬(G=i):=by omega
 have hGim:¬(G=i+m):=by omega
 have hci:¬(c=i):=by omega
 have hbN:g≠w.heap.size:=by omega
 have hdl:(xs.drop (i*11)).length=n*11-i*11:=by rw[List.length_drop,hl]
 have hcpB:∀(W:World),(∀x,W.cell? x=(W1.setCells w.heap.size (i*11) vs).cell? x)→(∀x,W.frozen? x=(W1.setCells w.heap.size (i*11) vs).frozen? x)→∀ty dc sc,(Builtin.copy_ #[23,23] ty #[.slice (some ⟨w.heap.size,(i+m)*11,none⟩) (n+m-(i+m)) dc,.slice (some ⟨g,i*11,none⟩) (n-i) sc]).run Tryz.prog W=.ok (goInt (Nat.min (n-i) (n+m-(i+m)))) (W.setCells w.heap.size ((i+m)*11) (xs.drop (i*11))):=fun W hWc hWf ty dc sc =>
  Z7 W _ _ ty 35 i0 w.heap.size ((i+m)*11) (n+m-(i+m)) dc ⟨g,i*11,none⟩ (n-i) sc (xs.drop (i*11)) t23 hi0 (by rw[hdl,hzs];simp only[Nat.min_def];split<;>omega)
   (fun j v hj=>by
     rw[Addr.add_lit,hWc,World.cell?_setCells_out _ _ _ _ _ (fun h _=>absurd h hbN)];exact hOb _ v (hcs (i*11+j) v (by rwa [List.getElem?_drop] at hj)))
   (fun j hj=>by rw[hWc];exact isSome_setCells _ _ _ _ (fun t ht=>hN _ (by omega)) _ (hN _ (by omega)))
   (fun j hj=>by rw[hWf,World.frozen?_setCells];exact hNf _) (fun v hv=>h1c v (List.mem_of_mem_drop hv))
 subst hW1;have hE1:∀x,((w.alloc (.cells ROW 35)).drew).cell? x=(w.drew.alloc (.cells ROW 35)).cell? x:=fun x=>rfl;have hE2:∀x,((w.alloc (.cells ROW 35)).drew).frozen? x=(w.drew.alloc (.cells ROW 35)).frozen? x:=fun x=>rfl;have hF1:∀x,(((w.alloc (.cells ROW 35)).drew.setCells w.heap.size (i*11) vs).drew).cell? x=((w.drew.alloc (.cells ROW 35)).setCells w.heap.size (i*11) vs).cell? x:=fun x=>rfl;have hF2:∀x,(((w.alloc (.cells ROW 35)).drew.setCells w.heap.size (i*11) vs).drew).frozen? x=((w.drew.alloc (.cells ROW 35)).setCells w.heap.size (i*11) vs).frozen? x:=fun x=>rfl;have hw1:IntKind.i64.wrap ((i:Int)+(m:Int))=(i:Int)+(m:Int):=by rw[IntKind.wrap_i64];omega
 have hb1:(0:Int)≤(i:Int)+(m:Int):=by omega
 have hin:i≤n:=by omega
 have htn:((i:Int)+(m:Int)).toNat=i+m:=by omega
 have hb3:(i:Int)≤(n:Int):=by omega
 have Uq:=lH hROW;have MQ:=lH hGM;clear hkk hik hold hROW hG hRl hGM hown hB hg hcm hs ht hl;go_enter Tryz.func102,Tryz.ntmps102
 go_wp2_with (first
  | (at_builtin;refine Lib.wpList_append_run _ rfl _ _ _ _ rfl _ _ rfl rfl _ _ (hrz _) ?_)
  | (at_builtin;refine wpList_copy_runI _ rfl _ _ 23 23 rfl _ _ rfl rfl (hcpA _ hE1 hE2 _ _) ?_)
  | (at_builtin;refine wpList_copy_runI _ rfl _ _ 23 23 rfl _ _ rfl rfl (hcpB _ (fun _=>rfl) (fun _=>rfl) _ _ _) ?_))
 go_region_law (refine step_copy_runI rfl _ _ 23 23 rfl (.slice (some ⟨w.heap.size,(i+m)*11,none⟩) (n+m-(i+m)) (G-(i+m))) (.slice (some ⟨g,i*11,none⟩) (n-i) (c-i)) (by simp[Act.eval,Act.put]) (by simp[Act.eval,Act.put]) (hcpB _ hF1 hF2 3 (G-(i+m)) (c-i)) ?_)
 go_wp2;go_ret;exact⟨G,ROW,hGn,MQ.out,Uq.out,rfl,rfl⟩
theorem jfG (v:Value) (n i vb vc B:Nat) (xs vs:List Value) (w:World) (hown:w.ownsRow B 35 11 v n xs) (hbase:B≤w.heap.size) (hi:i≤n) (h1c:∀u ∈ xs,u.oneCell'=true) (hvl:vs.length=11) (h1v:∀u ∈ vs,u.oneCell'=true) (hvs:w.heap[vb]?=some (.cells vs.toArray 35)) (hvb:v.ownBlock≠some vb) (hbig:n≤100000) :
 Calls Tryz.prog 102 #[v,.int .i64 i,.slice (some ⟨vb,0,none⟩) 1 vc] w (jfw v B n i xs vs w):=by
 have hcv:∀j u,vs[j]?=some u→w.cell? ⟨vb,j,none⟩=some u:=fun j u h=>by rw[Lib.cell_of_heap hvs];simpa using h
 by_cases he:i=n
 · subst he;exact jh3 v i vb vc B xs vs w hown hbase hvl h1v hcv hbig
 · have hlt:i<n:=by omega
   rcases hown.2 with ⟨rfl,h0⟩ | ⟨g,c,cur,rfl,hb,hg,hnc,hcm,-⟩
   · omega
   · have hfz:∀t,w.frozen? ⟨vb,t,none⟩=false:=fun t=>by unfold World.frozen?;rw[show w.heap[(⟨vb,t,none⟩:Addr).block]?=some (.cells vs.toArray 35 (0,0)) from hvs];simp
     by_cases hr:n+1≤c
     · refine(je7 g n c i vb 1 vc B xs vs w hown hlt rfl hr (fun e=>hvb (by rw[e];rfl)) h1c (by rw[hvl]) h1v hcv 35 vs.toArray.size (by unfold World.shape?;rw[hvs]) (hfz _) (hfz _)).mono ?_;rintro e w' ⟨rfl,rfl⟩;exact⟨g,c,rfl,jhc (w:=w.drew) (qg hown) hi hvl hr,(((jq.drew w).trans (jq.cells (S:=fun b=>(Value.slice (some ⟨g,0,none⟩) n c).ownBlock=some b) g rfl _ _ _)).trans (jq.cells (S:=fun b=>(Value.slice (some ⟨g,0,none⟩) n c).ownBlock=some b) g rfl _ _ _)),.inl rfl⟩
     · refine(jfL g n c i vb 1 vc B xs vs w hown hlt (by decide) (by omega) (by omega) h1c (by rw[hvl]) h1v hcv).mono ?_;rintro e w' ⟨G,ROW,h1,h2,hROW,rfl,rfl⟩;have hl:xs.length=n*11:=hown.1;have hRl:ROW.size=G*11:=by
        rw[hROW,Array.size_append,Array.size_append,ZW,ZW,List.size_toArray,List.length_take,hl];omega
       have hrow:∀t,t<i*11→ROW[t]?=xs[t]?:=fun t ht=>by
        rw[hROW,Array.append_assoc,Array.getElem?_append_left (by rw[List.size_toArray,List.length_take,hl];omega),List.getElem?_toArray,List.getElem?_take,if_pos ht]
       refine⟨w.heap.size,G,rfl,?_,?_,.inr (Nat.le_refl _)⟩
       · simp only[←drew_setCells];exact qg (qg (jg8 (w:=w) hbase h1 h2 hi hl hvl hRl hrow))
       · have k:Kept w (((w.alloc (.cells ROW 35)).drew.setCells w.heap.size (i*11) vs).drew.setCells w.heap.size ((i+1)*11) (xs.drop (i*11))) :=
          jo _ _ _ _ _ _ (Nat.le_refl _) (Below.drew (jo _ _ _ _ _ _ (Nat.le_refl _) (Below.drew (ja w _))))
         exact jq.of k
theorem jbz (x:ByteArray):∀l:List Pd,(jY x l).length≤l.length
 | []=>Nat.le_refl _
 | p::t=>by
  rw[jY];split
  · simp
  · have:=jbz x t;simp;omega
theorem Yu {S:Nat→Prop} {B i len cap vb vc:Nat} {ap:Option Addr} {w:World} {v1 v3:Value} {s:Clu} (h:zc S B w v1 (.slice ap len cap) v3 s) (z:PX) (hi:i≤len) (hlen:len≤100000) (hB:B≤w.heap.size) (hS:∀k,S k→k<w.heap.size) (hvs:w.heap[vb]?=some (.cells (jg.cs z).toArray 35)) (hvb:(Value.slice ap len cap).ownBlock≠some vb)
 (hz:Off (fun b=>S b∨(Value.slice ap len cap).ownBlock=some b) w fun u=>At4 u z) :
 Calls Tryz.prog 102 #[.slice ap len cap,.int .i64 i,.slice (some ⟨vb,0,none⟩) 1 vc] w fun e w'=>∃g c,e=.returned (.slice (some ⟨g,0,none⟩) (len+1) c)∧zc S B w' v1 (.slice (some ⟨g,0,none⟩) (len+1) c) v3 { s with pods:=s.pods.take i++z.1::s.pods.drop i }∧jq (fun b=>(Value.slice ap len cap).ownBlock=some b) w w':=by
 obtain⟨lx,hmap,hown,hd⟩:=h.pods;obtain⟨a',c',e',_⟩:=hown.at_;have hll:lx.length=len:=by cases e';rfl
 have hx:jb jg (lx.take i++z::lx.drop i)=(jb jg lx).take (i*11)++jg.cs z++(jb jg lx).drop (i*11):=by
  rw[show z::lx.drop i=[z]++lx.drop i from rfl,zJ,zJ,Xc,jah];unfold jb;simp[jg]
 refine(jfG _ len i vb vc B (jb jg lx) (jg.cs z) w (by have:=hown.1;rw[hll] at this;exact this) hB hi (jB _ _) rfl (JN z) hvs hvb hlen).mono ?_;rintro e w' ⟨g,c,rfl,ho,hg,hn⟩;have hn':∀k,(Value.slice (some ⟨g,0,none⟩) (len+1) c).ownBlock=some k→(Value.slice ap len cap).ownBlock=some k∨w.heap.size≤k:=fun k hk=>by
  obtain rfl:g=k:=Option.some.inj hk;exact hn
 have hd':∀y ∈ lx.take i++z::lx.drop i,Off (fun b=>S b∨(Value.slice ap len cap).ownBlock=some b) w fun u=>At4 u y:=fun y hy=>by
  rcases List.mem_append.1 hy with hy | hy
  · exact hd y (List.mem_of_mem_take hy)
  · rcases List.mem_cons.1 hy with rfl | hy
    · exact hz
    · exact hd y (List.mem_of_mem_drop hy)
 refine⟨g,c,rfl,h.turn hg hn' hS ⟨lx.take i++z::lx.drop i,by rw[List.map_append,List.map_cons,List.map_take,List.map_drop,hmap],⟨?_,fun x hx=>trivial⟩,zc.els (B:=B) hd' hg hn'⟩,hg⟩;have h2:(lx.take i++z::lx.drop i).length=len+1:=by rw[List.length_append,List.length_cons,List.length_take,List.length_drop,hll];omega
 rw[h2,hx];exact ho
theorem jjf (a b d:Option Addr) (len cap m c n e:Nat) (nl:List Nod) (pl:List Pd) (bl:List Bd) (p:Pd) (s1 s2 s3 s4:Option Addr) (t1 u1 t2 u2 t3 u3 t4 u4:Nat) (w:World) (hn:jE w a len nl) (hp:jN w b m pl) (hb:Jc w d n bl) (h1:len≤cap) (h2:cap≤maxLen) (h3:m≤c) (h4:c≤maxLen) (h5:n≤e) (h6:e≤maxLen) (hl:jH ⟨nl,pl,bl⟩) (hP:js w (.slice s1 t1 u1) (.slice s2 t2 u2) (.slice s3 t3 u3) (.slice s4 t4 u4) p) (hLP:Ju p) :
 Calls Tryz.prog 64 #[.agg #[.slice a len cap,.slice b m c,.slice d n e],jr p (.slice s1 t1 u1) (.slice s2 t2 u2) (.slice s3 t3 u3) (.slice s4 t4 u4)] w fun e w'=>∃a1 n1 c1 a2 n2 c2 a3 n3 c3,e=.returned (.agg #[.slice a1 n1 c1,.slice a2 n2 c2,.slice a3 n3 c3])∧zc (fun b=>b<w.heap.size) w.heap.size w' (.slice a1 n1 c1) (.slice a2 n2 c2) (.slice a3 n3 c3) (JT ⟨nl,pl,bl⟩ p)∧Kept w w':=by
 obtain⟨p0,p1,p2,q1,q2,q3,q4,p3,p4,p5,p6⟩:=p;obtain⟨Z,hZ⟩:∃Z,((w.alloc (.cells #[.slice a len cap,.slice b m c,.slice d n e] 26)).alloc (.cells #[.string p0,.string p1,.int .i64 p2,.slice s1 t1 u1,.slice s2 t2 u2,.slice s3 t3 u3,.slice s4 t4 u4,.string p3,.int .i64 p4,.string p5,.bool p6] 35)).alloc (.cells #[.slice none 0 0,.slice none 0 0,.slice none 0 0] 26)=Z:=⟨_,rfl⟩
 have hkz:Kept w Z:=by rw[←hZ];exact(jm _ _ _).trans (ja _ _)
 have hzs:Z.heap.size=w.heap.size+3:=by rw[←hZ];simp
 have cc:=jd w (.slice a len cap) [.slice b m c,.slice d n e] 26 Z (by rw[←hZ];exact jm _ _ _);have o0:=cc.at_ 0 _ rfl;have o1:=cc.at_ 1 _ rfl;have o2:=cc.at_ 2 _ rfl;have Vj:=lH (show jf (w.heap.size+1) [.string p0,.string p1,.int .i64 p2,.slice s1 t1 u1,.slice s2 t2 u2,.slice s3 t3 u3,.slice s4 t4 u4,.string p3,.int .i64 p4,.string p5,.bool p6] Z by
  have dd:=jd (w.alloc (.cells #[.slice a len cap,.slice b m c,.slice d n e] 26)) (.string p0) [.string p1,.int .i64 p2,.slice s1 t1 u1,.slice s2 t2 u2,.slice s3 t3 u3,.slice s4 t4 u4,.string p3,.int .i64 p4,.string p5,.bool p6] 35 Z (by rw[←hZ];exact ja _ _);rw[World.size_alloc] at dd;exact dd)
 have HQ:=lH (show jf (w.heap.size+2) [.slice none 0 0,.slice none 0 0,.slice none 0 0] Z by
  have dd:=jd ((w.alloc (.cells #[.slice a len cap,.slice b m c,.slice d n e] 26)).alloc (.cells #[.string p0,.string p1,.int .i64 p2,.slice s1 t1 u1,.slice s2 t2 u2,.slice s3 t3 u3,.slice s4 t4 u4,.string p3,.int .i64 p4,.string p5,.bool p6] 35)) (.slice none 0 0) [.slice none 0 0,.slice none 0 0] 26 Z (by rw[hZ];exact Kept.refl _);rw[World.size_alloc,World.size_alloc] at dd;exact dd)
 have y0:=Vj.out.at_ 0 _ rfl;have HO:=lH (jbW a b d len cap m c n e nl pl bl p0 Z (hn.kept hkz) (hp.kept hkz) (hb.kept hkz) h1 h2 h3 h4 h5 h6 hl);have Ve:=lH hkz;have Vm:=lH hzs;have NG:=lH hl.podsN;have Rp:=lH (hP.kept hkz);have V1:=lH hLP;clear hn hp hb h1 h2 h3 h4 h5 h6 hl hkz hzs cc hP hLP;unfold jr;dsimp only;go_enter Tryz.func64,Tryz.ntmps64;go_wp2_with fail
 try rw[hZ]
 go_wp2_with fail
 try rw[hZ]
 clear hZ o0 o1 o2 y0;refine HO.out.mono ?_;rintro e1 w1 ⟨a1,n1,c1,a2,n2,c2,a3,n3,c3,rfl,ho,k1⟩;obtain⟨W1,hW1⟩:∃W,w1.alloc (.cells #[.slice a1 n1 c1,.slice a2 n2 c2,.slice a3 n3 c3] 26)=W:=⟨_,rfl⟩
 have hkw:Kept w1 W1:=by rw[←hW1];exact ja _ _
 have HC:=lH (ho.more (q:=w1.heap.size) hkw (Nat.le_refl _));have HW:=lH (show jf w1.heap.size [.slice a1 n1 c1,.slice a2 n2 c2,.slice a3 n3 c3] W1 from jd w1 (.slice a1 n1 c1) [.slice a2 n2 c2,.slice a3 n3 c3] 26 W1 (by rw[hW1];exact Kept.refl _));have HQ:=lH (HQ.out.kept (k1.trans hkw));have Vj:=lH (Vj.out.kept (k1.trans hkw));have Rp:=lH (Rp.out.kept (k1.trans hkw));have K:=lH (k1.trans hkw);have Vp:=lH (show Z.heap.size≤w1.heap.size∧w1.heap.size<W1.heap.size from⟨k1.size,by rw[←hW1,World.size_alloc];exact Nat.lt_succ_self _⟩);clear ho k1 hkw;obtain⟨v1,v2,v3,hu,hat⟩:=HC.out.toR
 cases hu
 obtain⟨ap,cp,ep,l1,l2,hpat⟩:=hat.pods
 cases ep
 have TS:=lH hpat;clear hat l1 l2;have TT:=lH (show (zU ⟨nl,pl,bl⟩ p0).pods.length≤100000 from Nat.le_trans (jbz p0 pl) NG.out);obtain⟨l9,hl9⟩:∃l,(zU ⟨nl,pl,bl⟩ p0).pods=l:=⟨_,rfl⟩
 obtain⟨len9,hlen9⟩:∃q,l9.length=q:=⟨_,rfl⟩
 have Rq:=lH (show l9=jY p0 pl by rw[←hl9];rfl);have TF:=lH hlen9;skip;rw[hl9] at TS TT HW HC ⊢;rw[hlen9] at TS TT HW HC ⊢;try rw[hl9] at hW1
 try rw[hlen9] at hW1
 have Up:=lH (show (zU ⟨nl,pl,bl⟩ p0)=⟨nl,l9,bl⟩ by rw[Rq.out];rfl);rw[Up.out] at HC;clear hl9 hlen9 hpat;go_wp2_with fail
 try rw[hW1]
 try clear hW1
 have HS:=lH (show ∀W,jf (w.heap.size+1) [.string p0,.string p1,.int .i64 p2,.slice s1 t1 u1,.slice s2 t2 u2,.slice s3 t3 u3,.slice s4 t4 u4,.string p3,.int .i64 p4,.string p5,.bool p6] W→W.cell? ⟨w.heap.size+1,0,none⟩=some (.string p0)∧W.cell? ⟨w.heap.size+1,1,none⟩=some (.string p1)∧W.cell? ⟨w.heap.size+1,2,none⟩=some (.int .i64 p2)∧W.cell? ⟨w.heap.size+1,3,none⟩=some (.slice s1 t1 u1)∧W.cell? ⟨w.heap.size+1,4,none⟩=some (.slice s2 t2 u2)∧W.cell? ⟨w.heap.size+1,5,none⟩=some (.slice s3 t3 u3)∧W.cell? ⟨w.heap.size+1,6,none⟩=some (.slice s4 t4 u4)∧W.cell? ⟨w.heap.size+1,7,none⟩=some (.string p3)∧W.cell? ⟨w.heap.size+1,8,none⟩=some (.int .i64 p4)∧W.cell? ⟨w.heap.size+1,9,none⟩=some (.string p5)∧W.cell? ⟨w.heap.size+1,10,none⟩=some (.bool p6) from fun W h=>⟨h.at_ 0 _ rfl,h.at_ 1 _ rfl,h.at_ 2 _ rfl,h.at_ 3 _ rfl,h.at_ 4 _ rfl,h.at_ 5 _ rfl,h.at_ 6 _ rfl,h.at_ 7 _ rfl,h.at_ 8 _ rfl,h.at_ 9 _ rfl,h.at_ 10 _ rfl⟩);have Ua:=lH (fun W (k:Kept W1 W)=>Vj.out.kept k);skip;refine wp_region_held_drew (S:=fun W=>W.cell? ⟨w.heap.size+1,0,none⟩=some (.string p0)∧W.cell? ⟨w.heap.size+1,1,none⟩=some (.string p1)∧W.cell? ⟨w.heap.size+1,2,none⟩=some (.int .i64 p2)∧W.cell? ⟨w.heap.size+1,3,none⟩=some (.slice s1 t1 u1)∧W.cell? ⟨w.heap.size+1,4,none⟩=some (.slice s2 t2 u2)∧W.cell? ⟨w.heap.size+1,5,none⟩=some (.slice s3 t3 u3)∧W.cell? ⟨w.heap.size+1,6,none⟩=some (.slice s4 t4 u4)∧W.cell? ⟨w.heap.size+1,7,none⟩=some (.string p3)∧W.cell? ⟨w.heap.size+1,8,none⟩=some (.int .i64 p4)∧W.cell? ⟨w.heap.size+1,9,none⟩=some (.string p5)∧W.cell? ⟨w.heap.size+1,10,none⟩=some (.bool p6)) (by kernel_rfl) (HS.out _ (Ua.out _ (Kept.drew _))) (fun hHeld=>?_);refine tkI 0 ?_;refine tkI 2 ?_;refine tkI 4 ?_;refine tkI 5 ?_;refine tkI 7 ?_;try simp only[nP]
 refine rdH (rs:=[1,3]) (h:=coH (fun K9 Ky=>?_) (coH (fun K9 Ky=>?_) AllReadyH.nil))
 · skip;have yq:W1.drew.cell? ⟨w1.heap.size,1,none⟩=some (.slice a2 len9 c2):=(HW.out.kept (Kept.drew W1)).at_ 1 _ rfl;go_simp;refine Ky.out _ _ (HS.out _ (Ua.out _ (Kept.drew W1))) (fun _=>?_);clear Ky K9 yq;try simp only[nP]
   have yq:W1.drew.cell? ⟨w1.heap.size,1,none⟩=some (.slice a2 len9 c2):=HW.out.at_ 1 _ rfl;refine rd1 3 fun K9 Ky=>?_;go_simp;refine Ky.out _ _ (HS.out _ (Ua.out _ (Kept.drew _))) (fun _=>?_);clear Ky K9 yq;try simp only[nP]
   refine rd1 6 fun K9 Ky=>?_;go_simp;refine(qi a2 len9 c2 l9 p0 _ (TS.out.kept (Kept.drew _))).mono ?_;rintro e2 w2 ⟨rfl,kk⟩;have J1:=lH ((Kept.drew W1).trans kk);clear kk;refine Ky.out _ _ (HS.out _ (Ua.out _ J1.out)) (fun _=>?_);clear Ky K9;try simp only[nP]
   refine rd1 8 fun K9 Ky=>?_;go_simp;have V2:=Zg ⟨p0,p1,p2,q1,q2,q3,q4,p3,p4,p5,p6⟩ (.slice s1 t1 u1) (.slice s2 t2 u2) (.slice s3 t3 u3) (.slice s4 t4 u4) w2 (Rp.out.kept J1.out) V1.out;unfold jr at V2;dsimp only at V2;refine V2.mono ?_;clear V2;rintro e3 w3 ⟨v,rfl,hv,kk⟩;have J2:=lH (J1.out.trans kk);obtain⟨x1,y1,z1,x2,y2,z2,x3,y3,z3,x4,y4,z4,hv9,sp,g1,g2,g3,g4⟩:=hv;have hv9:v=.agg #[.string p0,.string p1,.int .i64 p2,.slice x1 y1 z1,.slice x2 y2 z2,.slice x3 y3 z3,.slice x4 y4 z4,.string p3,.int .i64 p4,.string p5,.bool p6]:=hv9;subst hv9;have HG:=lH (show Z.heap.size≤w1.heap.size∧w1.heap.size<w2.heap.size from⟨Vp.out.1,Nat.lt_of_lt_of_le Vp.out.2 J1.out.size⟩);have VM:=lH (show Off (fun b=>(b<Z.heap.size∨b=w1.heap.size)∨(Value.slice a2 len9 c2).ownBlock=some b) w3 fun u=>At4 u (⟨p0,p1,p2,q1,q2,q3,q4,p3,p4,p5,p6⟩,(x1,y1,z1),(x2,y2,z2),(x3,y3,z3),(x4,y4,z4)) from js.off (B:=w2.heap.size) sp g1 g2 g3 g4 (fun b hb h=>by
    have h1:=HG.out;rcases h with (h | h) | h
    · omega
    · omega
    · have:=((HC.out.kept J1.out).lt b h).2;omega))
   clear kk sp g1 g2 g3 g4;refine Ky.out _ _ (HS.out _ (Ua.out _ J2.out)) (fun _=>?_);clear Ky K9;try simp only[nP]
   refine rd1 9 fun K9 Ky=>?_;go_simp;have J3:=lH (J2.out.trans (ja w3 (.cells #[.string p0,.string p1,.int .i64 p2,.slice x1 y1 z1,.slice x2 y2 z2,.slice x3 y3 z3,.slice x4 y4 z4,.string p3,.int .i64 p4,.string p5,.bool p6] 35)));have HV:=lH (show (w3.alloc (.cells #[.string p0,.string p1,.int .i64 p2,.slice x1 y1 z1,.slice x2 y2 z2,.slice x3 y3 z3,.slice x4 y4 z4,.string p3,.int .i64 p4,.string p5,.bool p6] 35)).heap[w3.heap.size]?=some (.cells #[.string p0,.string p1,.int .i64 p2,.slice x1 y1 z1,.slice x2 y2 z2,.slice x3 y3 z3,.slice x4 y4 z4,.string p3,.int .i64 p4,.string p5,.bool p6] 35) from World.alloc_heap_new w3 _);have VM:=lH (VM.out.step (jq.of (ja w3 (.cells #[.string p0,.string p1,.int .i64 p2,.slice x1 y1 z1,.slice x2 y2 z2,.slice x3 y3 z3,.slice x4 y4 z4,.string p3,.int .i64 p4,.string p5,.bool p6] 35))));refine Ky.out _ _ (HS.out _ (Ua.out _ J3.out)) (fun _=>?_);clear Ky K9;try simp only[nP]
   obtain⟨w4,hw4⟩:∃W,w3.alloc (.cells #[.string p0,.string p1,.int .i64 p2,.slice x1 y1 z1,.slice x2 y2 z2,.slice x3 y3 z3,.slice x4 y4 z4,.string p3,.int .i64 p4,.string p5,.bool p6] 35)=W:=⟨_,rfl⟩
   rw[hw4] at J3 HV VM ⊢;clear hw4;refine rd1 10 fun K9 Ky=>?_;go_simp;refine(Yu (HC.out.kept J3.out) (⟨p0,p1,p2,q1,q2,q3,q4,p3,p4,p5,p6⟩,(x1,y1,z1),(x2,y2,z2),(x3,y3,z3),(x4,y4,z4)) (i:=placeN p0 l9) (by have:=XA p0 l9;rw[TF.out] at this;exact this) TT.out (by have:=J3.out.size;have:=Vp.out;omega) (fun b hb=>by have:=J3.out.size;have:=Vp.out;rcases hb with hb | hb<;>omega) HV.out (fun e=>by have h1:=((HC.out.kept J2.out).lt _ e).2;omega) VM.out).mono ?_;rintro e5 w5 ⟨g,c9,rfl,hc5,hg5⟩;have U8:=lH hc5;have Ur:=lH (((HW.out.kept J3.out)).block (hg5.block _ (by have:=J3.out.size;have:=Vp.out;omega) (fun e=>HC.out.sep _ e (.inr rfl))));have VP:=lH ((HQ.out.kept J3.out).block (hg5.block _ (by have:=J3.out.size;have:=Vp.out;have:=Vm.out;omega) (fun e=>HC.out.sep _ e (.inl (by have:=Vm.out;omega)))));have Vs:=lH ((Ua.out _ J3.out).block (hg5.block _ (by have:=J3.out.size;have:=Vp.out;have:=Vm.out;omega) (fun e=>HC.out.sep _ e (.inl (by have:=Vm.out;omega)))));have K5:=lH (show Kept w w5 from Below.trans (Ve.out.trans (K.out.trans J3.out)) (hg5.at_below (B:=w.heap.size) (fun q e=>by have:=(HC.out.lt q e).1;have:=Vm.out;omega) (Ve.out.trans (K.out.trans J3.out)).size));clear hc5 hg5;refine Ky.out _ _ (HS.out _ Vs.out) (fun _=>?_);clear Ky K9;try simp only[nP]
   refine tkI 11 ?_;try simp only[nP]
   have q1:=Ur.out.at_ 1 _ rfl;have f1:=Ur.out.free 1;refine rd1 12 fun K9 Ky=>?_;go_simp;have Tu:=lH (Vs.out.other (p:=w1.heap.size) (j:=1) (u:=.slice (some ⟨g,0,none⟩) (len9+1) c9) (by have:=Vp.out;have:=Vm.out;omega));have VK:=lH (VP.out.other (p:=w1.heap.size) (j:=1) (u:=.slice (some ⟨g,0,none⟩) (len9+1) c9) (by have:=Vp.out;have:=Vm.out;omega));have Ud:=lH (show jf w1.heap.size [.slice a1 n1 c1,.slice (some ⟨g,0,none⟩) (len9+1) c9,.slice a3 n3 c3] (w5.setCell ⟨w1.heap.size,1,none⟩ (.slice (some ⟨g,0,none⟩) (len9+1) c9)) from Ur.out.set (j:=1) (by simp));have U9:=lH (U8.out.step (jq.cell (S:=fun b=>b<Z.heap.size∨b=w1.heap.size) w1.heap.size 1 (.slice (some ⟨g,0,none⟩) (len9+1) c9) (.inr rfl)));have K6:=lH (show Kept w (w5.setCell ⟨w1.heap.size,1,none⟩ (.slice (some ⟨g,0,none⟩) (len9+1) c9)) from K5.out.setCell (p:=⟨w1.heap.size,1,none⟩) (by have:=Vp.out;have:=Vm.out;show w.heap.size≤w1.heap.size;omega) _);refine Ky.out _ _ (HS.out _ Tu.out) (fun _=>?_);clear Ky K9 q1 f1;try simp only[nP]
   refine wpAnyH_done (by kernel_rfl) ?_ _;have y0:=Ud.out.at_ 0 _ rfl;have y1:=Ud.out.at_ 1 _ rfl;have y2:=Ud.out.at_ 2 _ rfl;have z0:=VK.out.at_ 0 _ rfl;have z1:=VK.out.at_ 1 _ rfl;have z2:=VK.out.at_ 2 _ rfl;have f0:=VK.out.free 0;have f1:=VK.out.free 1;have f2:=VK.out.free 2;have PP:=lH (jW (vs:=[.slice a1 n1 c1,.slice (some ⟨g,0,none⟩) (len9+1) c9,.slice a3 n3 c3]) VK.out rfl);go_wp2;obtain⟨WE,hWE⟩:∃W,(w5.setCell ⟨w1.heap.size,1,none⟩ (.slice (some ⟨g,0,none⟩) (len9+1) c9)).setCells (w.heap.size+2) 0 [.slice a1 n1 c1,.slice (some ⟨g,0,none⟩) (len9+1) c9,.slice a3 n3 c3]=W:=⟨_,rfl⟩
   have hWE2:((((w5.setCell ⟨w1.heap.size,1,none⟩ (.slice (some ⟨g,0,none⟩) (len9+1) c9)).setCell ⟨(w.heap.size+2),0,none⟩ (.slice a1 n1 c1)).setCell ⟨(w.heap.size+2),1,none⟩ (.slice (some ⟨g,0,none⟩) (len9+1) c9)).setCell ⟨(w.heap.size+2),2,none⟩ (.slice a3 n3 c3))=WE:=hWE;rw[hWE] at PP;try rw[hWE2]
   have GE:=lH (show jq (fun b=>b<Z.heap.size∨b=w1.heap.size) (w5.setCell ⟨w1.heap.size,1,none⟩ (.slice (some ⟨g,0,none⟩) (len9+1) c9)) WE by rw[←hWE];exact jq.cells (S:=fun b=>b<Z.heap.size∨b=w1.heap.size) _ (.inl (by have:=Vm.out;omega)) _ _ _);clear hWE hWE2;obtain⟨PCC,hsz,hbl,hkp⟩:=PP.out;refine bodyPost_ret (by simp[results,Tryz.results64,go_sem,PCC.at_ 0 _ rfl,PCC.at_ 1 _ rfl,PCC.at_ 2 _ rfl];try rfl) rfl ?_;have VN:=(U9.out.step GE.out).less (B':=w.heap.size) (S':=fun b=>b<w.heap.size) Ve.out.size (fun b hb=>.inl (Nat.lt_of_lt_of_le hb Ve.out.size));rw[show l9.take (placeN p0 l9)++⟨p0,p1,p2,q1,q2,q3,q4,p3,p4,p5,p6⟩::l9.drop (placeN p0 l9)=zY ⟨p0,p1,p2,q1,q2,q3,q4,p3,p4,p5,p6⟩ (jY p0 pl) by rw[←Rq.out];exact Ym (p:=⟨p0,p1,p2,q1,q2,q3,q4,p3,p4,p5,p6⟩) (l:=l9)] at VN;exact⟨_,_,_,_,_,_,_,_,_,rfl,VN,hkp _ _ (by omega) K6.out⟩
 · skip;have yq:W1.drew.cell? ⟨w1.heap.size,1,none⟩=some (.slice a2 len9 c2):=HW.out.at_ 1 _ rfl;go_simp;refine Ky.out _ _ (HS.out _ (Ua.out _ (Kept.drew _))) (fun _=>?_);clear Ky K9 yq;try simp only[nP]
   refine rdH (rs:=[1,6]) (h:=coH (fun K9 Ky=>?_) (coH (fun K9 Ky=>?_) AllReadyH.nil))
   · skip;have yq:W1.drew.cell? ⟨w1.heap.size,1,none⟩=some (.slice a2 len9 c2):=(HW.out.kept (Kept.drew W1)).at_ 1 _ rfl;go_simp;refine Ky.out _ _ (HS.out _ (Ua.out _ (Kept.drew W1))) (fun _=>?_);clear Ky K9 yq;try simp only[nP]
     refine rd1 6 fun K9 Ky=>?_;go_simp;refine(qi a2 len9 c2 l9 p0 _ (TS.out.kept (Kept.drew _))).mono ?_;rintro e2 w2 ⟨rfl,kk⟩;have J1:=lH ((Kept.drew W1).trans kk);clear kk;refine Ky.out _ _ (HS.out _ (Ua.out _ J1.out)) (fun _=>?_);clear Ky K9;try simp only[nP]
     refine rd1 8 fun K9 Ky=>?_;go_simp;have V2:=Zg ⟨p0,p1,p2,q1,q2,q3,q4,p3,p4,p5,p6⟩ (.slice s1 t1 u1) (.slice s2 t2 u2) (.slice s3 t3 u3) (.slice s4 t4 u4) w2 (Rp.out.kept J1.out) V1.out;unfold jr at V2;dsimp only at V2;refine V2.mono ?_;clear V2;rintro e3 w3 ⟨v,rfl,hv,kk⟩;have J2:=lH (J1.out.trans kk);obtain⟨x1,y1,z1,x2,y2,z2,x3,y3,z3,x4,y4,z4,hv9,sp,g1,g2,g3,g4⟩:=hv;have hv9:v=.agg #[.string p0,.string p1,.int .i64 p2,.slice x1 y1 z1,.slice x2 y2 z2,.slice x3 y3 z3,.slice x4 y4 z4,.string p3,.int .i64 p4,.string p5,.bool p6]:=hv9;subst hv9;have HG:=lH (show Z.heap.size≤w1.heap.size∧w1.heap.size<w2.heap.size from⟨Vp.out.1,Nat.lt_of_lt_of_le Vp.out.2 J1.out.size⟩);have VM:=lH (show Off (fun b=>(b<Z.heap.size∨b=w1.heap.size)∨(Value.slice a2 len9 c2).ownBlock=some b) w3 fun u=>At4 u (⟨p0,p1,p2,q1,q2,q3,q4,p3,p4,p5,p6⟩,(x1,y1,z1),(x2,y2,z2),(x3,y3,z3),(x4,y4,z4)) from js.off (B:=w2.heap.size) sp g1 g2 g3 g4 (fun b hb h=>by
      have h1:=HG.out;rcases h with (h | h) | h
      · omega
      · omega
      · have:=((HC.out.kept J1.out).lt b h).2;omega))
     clear kk sp g1 g2 g3 g4;refine Ky.out _ _ (HS.out _ (Ua.out _ J2.out)) (fun _=>?_);clear Ky K9;try simp only[nP]
     refine rd1 9 fun K9 Ky=>?_;go_simp;have J3:=lH (J2.out.trans (ja w3 (.cells #[.string p0,.string p1,.int .i64 p2,.slice x1 y1 z1,.slice x2 y2 z2,.slice x3 y3 z3,.slice x4 y4 z4,.string p3,.int .i64 p4,.string p5,.bool p6] 35)));have HV:=lH (show (w3.alloc (.cells #[.string p0,.string p1,.int .i64 p2,.slice x1 y1 z1,.slice x2 y2 z2,.slice x3 y3 z3,.slice x4 y4 z4,.string p3,.int .i64 p4,.string p5,.bool p6] 35)).heap[w3.heap.size]?=some (.cells #[.string p0,.string p1,.int .i64 p2,.slice x1 y1 z1,.slice x2 y2 z2,.slice x3 y3 z3,.slice x4 y4 z4,.string p3,.int .i64 p4,.string p5,.bool p6] 35) from World.alloc_heap_new w3 _);have VM:=lH (VM.out.step (jq.of (ja w3 (.cells #[.string p0,.string p1,.int .i64 p2,.slice x1 y1 z1,.slice x2 y2 z2,.slice x3 y3 z3,.slice x4 y4 z4,.string p3,.int .i64 p4,.string p5,.bool p6] 35))));refine Ky.out _ _ (HS.out _ (Ua.out _ J3.out)) (fun _=>?_);clear Ky K9;try simp only[nP]
     obtain⟨w4,hw4⟩:∃W,w3.alloc (.cells #[.string p0,.string p1,.int .i64 p2,.slice x1 y1 z1,.slice x2 y2 z2,.slice x3 y3 z3,.slice x4 y4 z4,.string p3,.int .i64 p4,.string p5,.bool p6] 35)=W:=⟨_,rfl⟩
     rw[hw4] at J3 HV VM ⊢;clear hw4;refine rd1 10 fun K9 Ky=>?_;go_simp;refine(Yu (HC.out.kept J3.out) (⟨p0,p1,p2,q1,q2,q3,q4,p3,p4,p5,p6⟩,(x1,y1,z1),(x2,y2,z2),(x3,y3,z3),(x4,y4,z4)) (i:=placeN p0 l9) (by have:=XA p0 l9;rw[TF.out] at this;exact this) TT.out (by have:=J3.out.size;have:=Vp.out;omega) (fun b hb=>by have:=J3.out.size;have:=Vp.out;rcases hb with hb | hb<;>omega) HV.out (fun e=>by have h1:=((HC.out.kept J2.out).lt _ e).2;omega) VM.out).mono ?_;rintro e5 w5 ⟨g,c9,rfl,hc5,hg5⟩;have U8:=lH hc5;have Ur:=lH (((HW.out.kept J3.out)).block (hg5.block _ (by have:=J3.out.size;have:=Vp.out;omega) (fun e=>HC.out.sep _ e (.inr rfl))));have VP:=lH ((HQ.out.kept J3.out).block (hg5.block _ (by have:=J3.out.size;have:=Vp.out;have:=Vm.out;omega) (fun e=>HC.out.sep _ e (.inl (by have:=Vm.out;omega)))));have Vs:=lH ((Ua.out _ J3.out).block (hg5.block _ (by have:=J3.out.size;have:=Vp.out;have:=Vm.out;omega) (fun e=>HC.out.sep _ e (.inl (by have:=Vm.out;omega)))));have K5:=lH (show Kept w w5 from Below.trans (Ve.out.trans (K.out.trans J3.out)) (hg5.at_below (B:=w.heap.size) (fun q e=>by have:=(HC.out.lt q e).1;have:=Vm.out;omega) (Ve.out.trans (K.out.trans J3.out)).size));clear hc5 hg5;refine Ky.out _ _ (HS.out _ Vs.out) (fun _=>?_);clear Ky K9;try simp only[nP]
     refine tkI 11 ?_;try simp only[nP]
     have q1:=Ur.out.at_ 1 _ rfl;have f1:=Ur.out.free 1;refine rd1 12 fun K9 Ky=>?_;go_simp;have Tu:=lH (Vs.out.other (p:=w1.heap.size) (j:=1) (u:=.slice (some ⟨g,0,none⟩) (len9+1) c9) (by have:=Vp.out;have:=Vm.out;omega));have VK:=lH (VP.out.other (p:=w1.heap.size) (j:=1) (u:=.slice (some ⟨g,0,none⟩) (len9+1) c9) (by have:=Vp.out;have:=Vm.out;omega));have Ud:=lH (show jf w1.heap.size [.slice a1 n1 c1,.slice (some ⟨g,0,none⟩) (len9+1) c9,.slice a3 n3 c3] (w5.setCell ⟨w1.heap.size,1,none⟩ (.slice (some ⟨g,0,none⟩) (len9+1) c9)) from Ur.out.set (j:=1) (by simp));have U9:=lH (U8.out.step (jq.cell (S:=fun b=>b<Z.heap.size∨b=w1.heap.size) w1.heap.size 1 (.slice (some ⟨g,0,none⟩) (len9+1) c9) (.inr rfl)));have K6:=lH (show Kept w (w5.setCell ⟨w1.heap.size,1,none⟩ (.slice (some ⟨g,0,none⟩) (len9+1) c9)) from K5.out.setCell (p:=⟨w1.heap.size,1,none⟩) (by have:=Vp.out;have:=Vm.out;show w.heap.size≤w1.heap.size;omega) _);refine Ky.out _ _ (HS.out _ Tu.out) (fun _=>?_);clear Ky K9 q1 f1;try simp only[nP]
     refine wpAnyH_done (by kernel_rfl) ?_ _;have y0:=Ud.out.at_ 0 _ rfl;have y1:=Ud.out.at_ 1 _ rfl;have y2:=Ud.out.at_ 2 _ rfl;have z0:=VK.out.at_ 0 _ rfl;have z1:=VK.out.at_ 1 _ rfl;have z2:=VK.out.at_ 2 _ rfl;have f0:=VK.out.free 0;have f1:=VK.out.free 1;have f2:=VK.out.free 2;have PP:=lH (jW (vs:=[.slice a1 n1 c1,.slice (some ⟨g,0,none⟩) (len9+1) c9,.slice a3 n3 c3]) VK.out rfl);go_wp2;obtain⟨WE,hWE⟩:∃W,(w5.setCell ⟨w1.heap.size,1,none⟩ (.slice (some ⟨g,0,none⟩) (len9+1) c9)).setCells (w.heap.size+2) 0 [.slice a1 n1 c1,.slice (some ⟨g,0,none⟩) (len9+1) c9,.slice a3 n3 c3]=W:=⟨_,rfl⟩
     have hWE2:((((w5.setCell ⟨w1.heap.size,1,none⟩ (.slice (some ⟨g,0,none⟩) (len9+1) c9)).setCell ⟨(w.heap.size+2),0,none⟩ (.slice a1 n1 c1)).setCell ⟨(w.heap.size+2),1,none⟩ (.slice (some ⟨g,0,none⟩) (len9+1) c9)).setCell ⟨(w.heap.size+2),2,none⟩ (.slice a3 n3 c3))=WE:=hWE;rw[hWE] at PP;try rw[hWE2]
     have GE:=lH (show jq (fun b=>b<Z.heap.size∨b=w1.heap.size) (w5.setCell ⟨w1.heap.size,1,none⟩ (.slice (some ⟨g,0,none⟩) (len9+1) c9)) WE by rw[←hWE];exact jq.cells (S:=fun b=>b<Z.heap.size∨b=w1.heap.size) _ (.inl (by have:=Vm.out;omega)) _ _ _);clear hWE hWE2;obtain⟨PCC,hsz,hbl,hkp⟩:=PP.out;refine bodyPost_ret (by simp[results,Tryz.results64,go_sem,PCC.at_ 0 _ rfl,PCC.at_ 1 _ rfl,PCC.at_ 2 _ rfl];try rfl) rfl ?_;have VN:=(U9.out.step GE.out).less (B':=w.heap.size) (S':=fun b=>b<w.heap.size) Ve.out.size (fun b hb=>.inl (Nat.lt_of_lt_of_le hb Ve.out.size));rw[show l9.take (placeN p0 l9)++⟨p0,p1,p2,q1,q2,q3,q4,p3,p4,p5,p6⟩::l9.drop (placeN p0 l9)=zY ⟨p0,p1,p2,q1,q2,q3,q4,p3,p4,p5,p6⟩ (jY p0 pl) by rw[←Rq.out];exact Ym (p:=⟨p0,p1,p2,q1,q2,q3,q4,p3,p4,p5,p6⟩) (l:=l9)] at VN;exact⟨_,_,_,_,_,_,_,_,_,rfl,VN,hkp _ _ (by omega) K6.out⟩
   · skip;go_simp;refine(qi a2 len9 c2 l9 p0 _ (TS.out.kept (Kept.drew _))).mono ?_;rintro e2 w2 ⟨rfl,kk⟩;have J1:=lH ((Kept.drew W1).trans kk);clear kk;refine Ky.out _ _ (HS.out _ (Ua.out _ J1.out)) (fun _=>?_);clear Ky K9;try simp only[nP]
     refine rdH (rs:=[1,8]) (h:=coH (fun K9 Ky=>?_) (coH (fun K9 Ky=>?_) AllReadyH.nil))
     · skip;have yq:w2.cell? ⟨w1.heap.size,1,none⟩=some (.slice a2 len9 c2):=(HW.out.kept J1.out).at_ 1 _ rfl;go_simp;refine Ky.out _ _ (HS.out _ (Ua.out _ J1.out)) (fun _=>?_);clear Ky K9 yq;try simp only[nP]
       refine rd1 8 fun K9 Ky=>?_;go_simp;have V2:=Zg ⟨p0,p1,p2,q1,q2,q3,q4,p3,p4,p5,p6⟩ (.slice s1 t1 u1) (.slice s2 t2 u2) (.slice s3 t3 u3) (.slice s4 t4 u4) w2 (Rp.out.kept J1.out) V1.out;unfold jr at V2;dsimp only at V2;refine V2.mono ?_;clear V2;rintro e3 w3 ⟨v,rfl,hv,kk⟩;have J2:=lH (J1.out.trans kk);obtain⟨x1,y1,z1,x2,y2,z2,x3,y3,z3,x4,y4,z4,hv9,sp,g1,g2,g3,g4⟩:=hv;have hv9:v=.agg #[.string p0,.string p1,.int .i64 p2,.slice x1 y1 z1,.slice x2 y2 z2,.slice x3 y3 z3,.slice x4 y4 z4,.string p3,.int .i64 p4,.string p5,.bool p6]:=hv9;subst hv9;have HG:=lH (show Z.heap.size≤w1.heap.size∧w1.heap.size<w2.heap.size from⟨Vp.out.1,Nat.lt_of_lt_of_le Vp.out.2 J1.out.size⟩);have VM:=lH (show Off (fun b=>(b<Z.heap.size∨b=w1.heap.size)∨(Value.slice a2 len9 c2).ownBlock=some b) w3 fun u=>At4 u (⟨p0,p1,p2,q1,q2,q3,q4,p3,p4,p5,p6⟩,(x1,y1,z1),(x2,y2,z2),(x3,y3,z3),(x4,y4,z4)) from js.off (B:=w2.heap.size) sp g1 g2 g3 g4 (fun b hb h=>by
        have h1:=HG.out;rcases h with (h | h) | h
        · omega
        · omega
        · have:=((HC.out.kept J1.out).lt b h).2;omega))
       clear kk sp g1 g2 g3 g4;refine Ky.out _ _ (HS.out _ (Ua.out _ J2.out)) (fun _=>?_);clear Ky K9;try simp only[nP]
       refine rd1 9 fun K9 Ky=>?_;go_simp;have J3:=lH (J2.out.trans (ja w3 (.cells #[.string p0,.string p1,.int .i64 p2,.slice x1 y1 z1,.slice x2 y2 z2,.slice x3 y3 z3,.slice x4 y4 z4,.string p3,.int .i64 p4,.string p5,.bool p6] 35)));have HV:=lH (show (w3.alloc (.cells #[.string p0,.string p1,.int .i64 p2,.slice x1 y1 z1,.slice x2 y2 z2,.slice x3 y3 z3,.slice x4 y4 z4,.string p3,.int .i64 p4,.string p5,.bool p6] 35)).heap[w3.heap.size]?=some (.cells #[.string p0,.string p1,.int .i64 p2,.slice x1 y1 z1,.slice x2 y2 z2,.slice x3 y3 z3,.slice x4 y4 z4,.string p3,.int .i64 p4,.string p5,.bool p6] 35) from World.alloc_heap_new w3 _);have VM:=lH (VM.out.step (jq.of (ja w3 (.cells #[.string p0,.string p1,.int .i64 p2,.slice x1 y1 z1,.slice x2 y2 z2,.slice x3 y3 z3,.slice x4 y4 z4,.string p3,.int .i64 p4,.string p5,.bool p6] 35))));refine Ky.out _ _ (HS.out _ (Ua.out _ J3.out)) (fun _=>?_);clear Ky K9;try simp only[nP]
       obtain⟨w4,hw4⟩:∃W,w3.alloc (.cells #[.string p0,.string p1,.int .i64 p2,.slice x1 y1 z1,.slice x2 y2 z2,.slice x3 y3 z3,.slice x4 y4 z4,.string p3,.int .i64 p4,.string p5,.bool p6] 35)=W:=⟨_,rfl⟩
       rw[hw4] at J3 HV VM ⊢;clear hw4;refine rd1 10 fun K9 Ky=>?_;go_simp;refine(Yu (HC.out.kept J3.out) (⟨p0,p1,p2,q1,q2,q3,q4,p3,p4,p5,p6⟩,(x1,y1,z1),(x2,y2,z2),(x3,y3,z3),(x4,y4,z4)) (i:=placeN p0 l9) (by have:=XA p0 l9;rw[TF.out] at this;exact this) TT.out (by have:=J3.out.size;have:=Vp.out;omega) (fun b hb=>by have:=J3.out.size;have:=Vp.out;rcases hb with hb | hb<;>omega) HV.out (fun e=>by have h1:=((HC.out.kept J2.out).lt _ e).2;omega) VM.out).mono ?_;rintro e5 w5 ⟨g,c9,rfl,hc5,hg5⟩;have U8:=lH hc5;have Ur:=lH (((HW.out.kept J3.out)).block (hg5.block _ (by have:=J3.out.size;have:=Vp.out;omega) (fun e=>HC.out.sep _ e (.inr rfl))));have VP:=lH ((HQ.out.kept J3.out).block (hg5.block _ (by have:=J3.out.size;have:=Vp.out;have:=Vm.out;omega) (fun e=>HC.out.sep _ e (.inl (by have:=Vm.out;omega)))));have Vs:=lH ((Ua.out _ J3.out).block (hg5.block _ (by have:=J3.out.size;have:=Vp.out;have:=Vm.out;omega) (fun e=>HC.out.sep _ e (.inl (by have:=Vm.out;omega)))));have K5:=lH (show Kept w w5 from Below.trans (Ve.out.trans (K.out.trans J3.out)) (hg5.at_below (B:=w.heap.size) (fun q e=>by have:=(HC.out.lt q e).1;have:=Vm.out;omega) (Ve.out.trans (K.out.trans J3.out)).size));clear hc5 hg5;refine Ky.out _ _ (HS.out _ Vs.out) (fun _=>?_);clear Ky K9;try simp only[nP]
       refine tkI 11 ?_;try simp only[nP]
       have q1:=Ur.out.at_ 1 _ rfl;have f1:=Ur.out.free 1;refine rd1 12 fun K9 Ky=>?_;go_simp;have Tu:=lH (Vs.out.other (p:=w1.heap.size) (j:=1) (u:=.slice (some ⟨g,0,none⟩) (len9+1) c9) (by have:=Vp.out;have:=Vm.out;omega));have VK:=lH (VP.out.other (p:=w1.heap.size) (j:=1) (u:=.slice (some ⟨g,0,none⟩) (len9+1) c9) (by have:=Vp.out;have:=Vm.out;omega));have Ud:=lH (show jf w1.heap.size [.slice a1 n1 c1,.slice (some ⟨g,0,none⟩) (len9+1) c9,.slice a3 n3 c3] (w5.setCell ⟨w1.heap.size,1,none⟩ (.slice (some ⟨g,0,none⟩) (len9+1) c9)) from Ur.out.set (j:=1) (by simp));have U9:=lH (U8.out.step (jq.cell (S:=fun b=>b<Z.heap.size∨b=w1.heap.size) w1.heap.size 1 (.slice (some ⟨g,0,none⟩) (len9+1) c9) (.inr rfl)));have K6:=lH (show Kept w (w5.setCell ⟨w1.heap.size,1,none⟩ (.slice (some ⟨g,0,none⟩) (len9+1) c9)) from K5.out.setCell (p:=⟨w1.heap.size,1,none⟩) (by have:=Vp.out;have:=Vm.out;show w.heap.size≤w1.heap.size;omega) _);refine Ky.out _ _ (HS.out _ Tu.out) (fun _=>?_);clear Ky K9 q1 f1;try simp only[nP]
       refine wpAnyH_done (by kernel_rfl) ?_ _;have y0:=Ud.out.at_ 0 _ rfl;have y1:=Ud.out.at_ 1 _ rfl;have y2:=Ud.out.at_ 2 _ rfl;have z0:=VK.out.at_ 0 _ rfl;have z1:=VK.out.at_ 1 _ rfl;have z2:=VK.out.at_ 2 _ rfl;have f0:=VK.out.free 0;have f1:=VK.out.free 1;have f2:=VK.out.free 2;have PP:=lH (jW (vs:=[.slice a1 n1 c1,.slice (some ⟨g,0,none⟩) (len9+1) c9,.slice a3 n3 c3]) VK.out rfl);go_wp2;obtain⟨WE,hWE⟩:∃W,(w5.setCell ⟨w1.heap.size,1,none⟩ (.slice (some ⟨g,0,none⟩) (len9+1) c9)).setCells (w.heap.size+2) 0 [.slice a1 n1 c1,.slice (some ⟨g,0,none⟩) (len9+1) c9,.slice a3 n3 c3]=W:=⟨_,rfl⟩
       have hWE2:((((w5.setCell ⟨w1.heap.size,1,none⟩ (.slice (some ⟨g,0,none⟩) (len9+1) c9)).setCell ⟨(w.heap.size+2),0,none⟩ (.slice a1 n1 c1)).setCell ⟨(w.heap.size+2),1,none⟩ (.slice (some ⟨g,0,none⟩) (len9+1) c9)).setCell ⟨(w.heap.size+2),2,none⟩ (.slice a3 n3 c3))=WE:=hWE;rw[hWE] at PP;try rw[hWE2]
       have GE:=lH (show jq (fun b=>b<Z.heap.size∨b=w1.heap.size) (w5.setCell ⟨w1.heap.size,1,none⟩ (.slice (some ⟨g,0,none⟩) (len9+1) c9)) WE by rw[←hWE];exact jq.cells (S:=fun b=>b<Z.heap.size∨b=w1.heap.size) _ (.inl (by have:=Vm.out;omega)) _ _ _);clear hWE hWE2;obtain⟨PCC,hsz,hbl,hkp⟩:=PP.out;refine bodyPost_ret (by simp[results,Tryz.results64,go_sem,PCC.at_ 0 _ rfl,PCC.at_ 1 _ rfl,PCC.at_ 2 _ rfl];try rfl) rfl ?_;have VN:=(U9.out.step GE.out).less (B':=w.heap.size) (S':=fun b=>b<w.heap.size) Ve.out.size (fun b hb=>.inl (Nat.lt_of_lt_of_le hb Ve.out.size));rw[show l9.take (placeN p0 l9)++⟨p0,p1,p2,q1,q2,q3,q4,p3,p4,p5,p6⟩::l9.drop (placeN p0 l9)=zY ⟨p0,p1,p2,q1,q2,q3,q4,p3,p4,p5,p6⟩ (jY p0 pl) by rw[←Rq.out];exact Ym (p:=⟨p0,p1,p2,q1,q2,q3,q4,p3,p4,p5,p6⟩) (l:=l9)] at VN;exact⟨_,_,_,_,_,_,_,_,_,rfl,VN,hkp _ _ (by omega) K6.out⟩
     · skip;go_simp;have V2:=Zg ⟨p0,p1,p2,q1,q2,q3,q4,p3,p4,p5,p6⟩ (.slice s1 t1 u1) (.slice s2 t2 u2) (.slice s3 t3 u3) (.slice s4 t4 u4) w2 (Rp.out.kept J1.out) V1.out;unfold jr at V2;dsimp only at V2;refine V2.mono ?_;clear V2;rintro e3 w3 ⟨v,rfl,hv,kk⟩;have J2:=lH (J1.out.trans kk);obtain⟨x1,y1,z1,x2,y2,z2,x3,y3,z3,x4,y4,z4,hv9,sp,g1,g2,g3,g4⟩:=hv;have hv9:v=.agg #[.string p0,.string p1,.int .i64 p2,.slice x1 y1 z1,.slice x2 y2 z2,.slice x3 y3 z3,.slice x4 y4 z4,.string p3,.int .i64 p4,.string p5,.bool p6]:=hv9;subst hv9;have HG:=lH (show Z.heap.size≤w1.heap.size∧w1.heap.size<w2.heap.size from⟨Vp.out.1,Nat.lt_of_lt_of_le Vp.out.2 J1.out.size⟩);have VM:=lH (show Off (fun b=>(b<Z.heap.size∨b=w1.heap.size)∨(Value.slice a2 len9 c2).ownBlock=some b) w3 fun u=>At4 u (⟨p0,p1,p2,q1,q2,q3,q4,p3,p4,p5,p6⟩,(x1,y1,z1),(x2,y2,z2),(x3,y3,z3),(x4,y4,z4)) from js.off (B:=w2.heap.size) sp g1 g2 g3 g4 (fun b hb h=>by
        have h1:=HG.out;rcases h with (h | h) | h
        · omega
        · omega
        · have:=((HC.out.kept J1.out).lt b h).2;omega))
       clear kk sp g1 g2 g3 g4;refine Ky.out _ _ (HS.out _ (Ua.out _ J2.out)) (fun _=>?_);clear Ky K9;try simp only[nP]
       refine rdH (rs:=[1,9]) (h:=coH (fun K9 Ky=>?_) (coH (fun K9 Ky=>?_) AllReadyH.nil))
       · skip;have yq:w3.cell? ⟨w1.heap.size,1,none⟩=some (.slice a2 len9 c2):=(HW.out.kept J2.out).at_ 1 _ rfl;go_simp;refine Ky.out _ _ (HS.out _ (Ua.out _ J2.out)) (fun _=>?_);clear Ky K9 yq;try simp only[nP]
         refine rd1 9 fun K9 Ky=>?_;go_simp;have J3:=lH (J2.out.trans (ja w3 (.cells #[.string p0,.string p1,.int .i64 p2,.slice x1 y1 z1,.slice x2 y2 z2,.slice x3 y3 z3,.slice x4 y4 z4,.string p3,.int .i64 p4,.string p5,.bool p6] 35)));have HV:=lH (show (w3.alloc (.cells #[.string p0,.string p1,.int .i64 p2,.slice x1 y1 z1,.slice x2 y2 z2,.slice x3 y3 z3,.slice x4 y4 z4,.string p3,.int .i64 p4,.string p5,.bool p6] 35)).heap[w3.heap.size]?=some (.cells #[.string p0,.string p1,.int .i64 p2,.slice x1 y1 z1,.slice x2 y2 z2,.slice x3 y3 z3,.slice x4 y4 z4,.string p3,.int .i64 p4,.string p5,.bool p6] 35) from World.alloc_heap_new w3 _);have VM:=lH (VM.out.step (jq.of (ja w3 (.cells #[.string p0,.string p1,.int .i64 p2,.slice x1 y1 z1,.slice x2 y2 z2,.slice x3 y3 z3,.slice x4 y4 z4,.string p3,.int .i64 p4,.string p5,.bool p6] 35))));refine Ky.out _ _ (HS.out _ (Ua.out _ J3.out)) (fun _=>?_);clear Ky K9;try simp only[nP]
         obtain⟨w4,hw4⟩:∃W,w3.alloc (.cells #[.string p0,.string p1,.int .i64 p2,.slice x1 y1 z1,.slice x2 y2 z2,.slice x3 y3 z3,.slice x4 y4 z4,.string p3,.int .i64 p4,.string p5,.bool p6] 35)=W:=⟨_,rfl⟩
         rw[hw4] at J3 HV VM ⊢;clear hw4;refine rd1 10 fun K9 Ky=>?_;go_simp;refine(Yu (HC.out.kept J3.out) (⟨p0,p1,p2,q1,q2,q3,q4,p3,p4,p5,p6⟩,(x1,y1,z1),(x2,y2,z2),(x3,y3,z3),(x4,y4,z4)) (i:=placeN p0 l9) (by have:=XA p0 l9;rw[TF.out] at this;exact this) TT.out (by have:=J3.out.size;have:=Vp.out;omega) (fun b hb=>by have:=J3.out.size;have:=Vp.out;rcases hb with hb | hb<;>omega) HV.out (fun e=>by have h1:=((HC.out.kept J2.out).lt _ e).2;omega) VM.out).mono ?_;rintro e5 w5 ⟨g,c9,rfl,hc5,hg5⟩;have U8:=lH hc5;have Ur:=lH (((HW.out.kept J3.out)).block (hg5.block _ (by have:=J3.out.size;have:=Vp.out;omega) (fun e=>HC.out.sep _ e (.inr rfl))));have VP:=lH ((HQ.out.kept J3.out).block (hg5.block _ (by have:=J3.out.size;have:=Vp.out;have:=Vm.out;omega) (fun e=>HC.out.sep _ e (.inl (by have:=Vm.out;omega)))));have Vs:=lH ((Ua.out _ J3.out).block (hg5.block _ (by have:=J3.out.size;have:=Vp.out;have:=Vm.out;omega) (fun e=>HC.out.sep _ e (.inl (by have:=Vm.out;omega)))));have K5:=lH (show Kept w w5 from Below.trans (Ve.out.trans (K.out.trans J3.out)) (hg5.at_below (B:=w.heap.size) (fun q e=>by have:=(HC.out.lt q e).1;have:=Vm.out;omega) (Ve.out.trans (K.out.trans J3.out)).size));clear hc5 hg5;refine Ky.out _ _ (HS.out _ Vs.out) (fun _=>?_);clear Ky K9;try simp only[nP]
         refine tkI 11 ?_;try simp only[nP]
         have q1:=Ur.out.at_ 1 _ rfl;have f1:=Ur.out.free 1;refine rd1 12 fun K9 Ky=>?_;go_simp;have Tu:=lH (Vs.out.other (p:=w1.heap.size) (j:=1) (u:=.slice (some ⟨g,0,none⟩) (len9+1) c9) (by have:=Vp.out;have:=Vm.out;omega));have VK:=lH (VP.out.other (p:=w1.heap.size) (j:=1) (u:=.slice (some ⟨g,0,none⟩) (len9+1) c9) (by have:=Vp.out;have:=Vm.out;omega));have Ud:=lH (show jf w1.heap.size [.slice a1 n1 c1,.slice (some ⟨g,0,none⟩) (len9+1) c9,.slice a3 n3 c3] (w5.setCell ⟨w1.heap.size,1,none⟩ (.slice (some ⟨g,0,none⟩) (len9+1) c9)) from Ur.out.set (j:=1) (by simp));have U9:=lH (U8.out.step (jq.cell (S:=fun b=>b<Z.heap.size∨b=w1.heap.size) w1.heap.size 1 (.slice (some ⟨g,0,none⟩) (len9+1) c9) (.inr rfl)));have K6:=lH (show Kept w (w5.setCell ⟨w1.heap.size,1,none⟩ (.slice (some ⟨g,0,none⟩) (len9+1) c9)) from K5.out.setCell (p:=⟨w1.heap.size,1,none⟩) (by have:=Vp.out;have:=Vm.out;show w.heap.size≤w1.heap.size;omega) _);refine Ky.out _ _ (HS.out _ Tu.out) (fun _=>?_);clear Ky K9 q1 f1;try simp only[nP]
         refine wpAnyH_done (by kernel_rfl) ?_ _;have y0:=Ud.out.at_ 0 _ rfl;have y1:=Ud.out.at_ 1 _ rfl;have y2:=Ud.out.at_ 2 _ rfl;have z0:=VK.out.at_ 0 _ rfl;have z1:=VK.out.at_ 1 _ rfl;have z2:=VK.out.at_ 2 _ rfl;have f0:=VK.out.free 0;have f1:=VK.out.free 1;have f2:=VK.out.free 2;have PP:=lH (jW (vs:=[.slice a1 n1 c1,.slice (some ⟨g,0,none⟩) (len9+1) c9,.slice a3 n3 c3]) VK.out rfl);go_wp2;obtain⟨WE,hWE⟩:∃W,(w5.setCell ⟨w1.heap.size,1,none⟩ (.slice (some ⟨g,0,none⟩) (len9+1) c9)).setCells (w.heap.size+2) 0 [.slice a1 n1 c1,.slice (some ⟨g,0,none⟩) (len9+1) c9,.slice a3 n3 c3]=W:=⟨_,rfl⟩
         have hWE2:((((w5.setCell ⟨w1.heap.size,1,none⟩ (.slice (some ⟨g,0,none⟩) (len9+1) c9)).setCell ⟨(w.heap.size+2),0,none⟩ (.slice a1 n1 c1)).setCell ⟨(w.heap.size+2),1,none⟩ (.slice (some ⟨g,0,none⟩) (len9+1) c9)).setCell ⟨(w.heap.size+2),2,none⟩ (.slice a3 n3 c3))=WE:=hWE;rw[hWE] at PP;try rw[hWE2]
         have GE:=lH (show jq (fun b=>b<Z.heap.size∨b=w1.heap.size) (w5.setCell ⟨w1.heap.size,1,none⟩ (.slice (some ⟨g,0,none⟩) (len9+1) c9)) WE by rw[←hWE];exact jq.cells (S:=fun b=>b<Z.heap.size∨b=w1.heap.size) _ (.inl (by have:=Vm.out;omega)) _ _ _);clear hWE hWE2;obtain⟨PCC,hsz,hbl,hkp⟩:=PP.out;refine bodyPost_ret (by simp[results,Tryz.results64,go_sem,PCC.at_ 0 _ rfl,PCC.at_ 1 _ rfl,PCC.at_ 2 _ rfl];try rfl) rfl ?_;have VN:=(U9.out.step GE.out).less (B':=w.heap.size) (S':=fun b=>b<w.heap.size) Ve.out.size (fun b hb=>.inl (Nat.lt_of_lt_of_le hb Ve.out.size));rw[show l9.take (placeN p0 l9)++⟨p0,p1,p2,q1,q2,q3,q4,p3,p4,p5,p6⟩::l9.drop (placeN p0 l9)=zY ⟨p0,p1,p2,q1,q2,q3,q4,p3,p4,p5,p6⟩ (jY p0 pl) by rw[←Rq.out];exact Ym (p:=⟨p0,p1,p2,q1,q2,q3,q4,p3,p4,p5,p6⟩) (l:=l9)] at VN;exact⟨_,_,_,_,_,_,_,_,_,rfl,VN,hkp _ _ (by omega) K6.out⟩
       · skip;go_simp;have J3:=lH (J2.out.trans (ja w3 (.cells #[.string p0,.string p1,.int .i64 p2,.slice x1 y1 z1,.slice x2 y2 z2,.slice x3 y3 z3,.slice x4 y4 z4,.string p3,.int .i64 p4,.string p5,.bool p6] 35)));have HV:=lH (show (w3.alloc (.cells #[.string p0,.string p1,.int .i64 p2,.slice x1 y1 z1,.slice x2 y2 z2,.slice x3 y3 z3,.slice x4 y4 z4,.string p3,.int .i64 p4,.string p5,.bool p6] 35)).heap[w3.heap.size]?=some (.cells #[.string p0,.string p1,.int .i64 p2,.slice x1 y1 z1,.slice x2 y2 z2,.slice x3 y3 z3,.slice x4 y4 z4,.string p3,.int .i64 p4,.string p5,.bool p6] 35) from World.alloc_heap_new w3 _);have VM:=lH (VM.out.step (jq.of (ja w3 (.cells #[.string p0,.string p1,.int .i64 p2,.slice x1 y1 z1,.slice x2 y2 z2,.slice x3 y3 z3,.slice x4 y4 z4,.string p3,.int .i64 p4,.string p5,.bool p6] 35))));refine Ky.out _ _ (HS.out _ (Ua.out _ J3.out)) (fun _=>?_);clear Ky K9;try simp only[nP]
         obtain⟨w4,hw4⟩:∃W,w3.alloc (.cells #[.string p0,.string p1,.int .i64 p2,.slice x1 y1 z1,.slice x2 y2 z2,.slice x3 y3 z3,.slice x4 y4 z4,.string p3,.int .i64 p4,.string p5,.bool p6] 35)=W:=⟨_,rfl⟩
         rw[hw4] at J3 HV VM ⊢;clear hw4;refine rd1 1 fun K9 Ky=>?_;have yq:w4.cell? ⟨w1.heap.size,1,none⟩=some (.slice a2 len9 c2):=(HW.out.kept J3.out).at_ 1 _ rfl;go_simp;refine Ky.out _ _ (HS.out _ (Ua.out _ J3.out)) (fun _=>?_);clear Ky K9 yq;try simp only[nP]
         refine rd1 10 fun K9 Ky=>?_;go_simp;refine(Yu (HC.out.kept J3.out) (⟨p0,p1,p2,q1,q2,q3,q4,p3,p4,p5,p6⟩,(x1,y1,z1),(x2,y2,z2),(x3,y3,z3),(x4,y4,z4)) (i:=placeN p0 l9) (by have:=XA p0 l9;rw[TF.out] at this;exact this) TT.out (by have:=J3.out.size;have:=Vp.out;omega) (fun b hb=>by have:=J3.out.size;have:=Vp.out;rcases hb with hb | hb<;>omega) HV.out (fun e=>by have h1:=((HC.out.kept J2.out).lt _ e).2;omega) VM.out).mono ?_;rintro e5 w5 ⟨g,c9,rfl,hc5,hg5⟩;have U8:=lH hc5;have Ur:=lH (((HW.out.kept J3.out)).block (hg5.block _ (by have:=J3.out.size;have:=Vp.out;omega) (fun e=>HC.out.sep _ e (.inr rfl))));have VP:=lH ((HQ.out.kept J3.out).block (hg5.block _ (by have:=J3.out.size;have:=Vp.out;have:=Vm.out;omega) (fun e=>HC.out.sep _ e (.inl (by have:=Vm.out;omega)))));have Vs:=lH ((Ua.out _ J3.out).block (hg5.block _ (by have:=J3.out.size;have:=Vp.out;have:=Vm.out;omega) (fun e=>HC.out.sep _ e (.inl (by have:=Vm.out;omega)))));have K5:=lH (show Kept w w5 from Below.trans (Ve.out.trans (K.out.trans J3.out)) (hg5.at_below (B:=w.heap.size) (fun q e=>by have:=(HC.out.lt q e).1;have:=Vm.out;omega) (Ve.out.trans (K.out.trans J3.out)).size));clear hc5 hg5;refine Ky.out _ _ (HS.out _ Vs.out) (fun _=>?_);clear Ky K9;try simp only[nP]
         refine tkI 11 ?_;try simp only[nP]
         have q1:=Ur.out.at_ 1 _ rfl;have f1:=Ur.out.free 1;refine rd1 12 fun K9 Ky=>?_;go_simp;have Tu:=lH (Vs.out.other (p:=w1.heap.size) (j:=1) (u:=.slice (some ⟨g,0,none⟩) (len9+1) c9) (by have:=Vp.out;have:=Vm.out;omega));have VK:=lH (VP.out.other (p:=w1.heap.size) (j:=1) (u:=.slice (some ⟨g,0,none⟩) (len9+1) c9) (by have:=Vp.out;have:=Vm.out;omega));have Ud:=lH (show jf w1.heap.size [.slice a1 n1 c1,.slice (some ⟨g,0,none⟩) (len9+1) c9,.slice a3 n3 c3] (w5.setCell ⟨w1.heap.size,1,none⟩ (.slice (some ⟨g,0,none⟩) (len9+1) c9)) from Ur.out.set (j:=1) (by simp));have U9:=lH (U8.out.step (jq.cell (S:=fun b=>b<Z.heap.size∨b=w1.heap.size) w1.heap.size 1 (.slice (some ⟨g,0,none⟩) (len9+1) c9) (.inr rfl)));have K6:=lH (show Kept w (w5.setCell ⟨w1.heap.size,1,none⟩ (.slice (some ⟨g,0,none⟩) (len9+1) c9)) from K5.out.setCell (p:=⟨w1.heap.size,1,none⟩) (by have:=Vp.out;have:=Vm.out;show w.heap.size≤w1.heap.size;omega) _);refine Ky.out _ _ (HS.out _ Tu.out) (fun _=>?_);clear Ky K9 q1 f1;try simp only[nP]
         refine wpAnyH_done (by kernel_rfl) ?_ _;have y0:=Ud.out.at_ 0 _ rfl;have y1:=Ud.out.at_ 1 _ rfl;have y2:=Ud.out.at_ 2 _ rfl;have z0:=VK.out.at_ 0 _ rfl;have z1:=VK.out.at_ 1 _ rfl;have z2:=VK.out.at_ 2 _ rfl;have f0:=VK.out.free 0;have f1:=VK.out.free 1;have f2:=VK.out.free 2;have PP:=lH (jW (vs:=[.slice a1 n1 c1,.slice (some ⟨g,0,none⟩) (len9+1) c9,.slice a3 n3 c3]) VK.out rfl);go_wp2;obtain⟨WE,hWE⟩:∃W,(w5.setCell ⟨w1.heap.size,1,none⟩ (.slice (some ⟨g,0,none⟩) (len9+1) c9)).setCells (w.heap.size+2) 0 [.slice a1 n1 c1,.slice (some ⟨g,0,none⟩) (len9+1) c9,.slice a3 n3 c3]=W:=⟨_,rfl⟩
         have hWE2:((((w5.setCell ⟨w1.heap.size,1,none⟩ (.slice (some ⟨g,0,none⟩) (len9+1) c9)).setCell ⟨(w.heap.size+2),0,none⟩ (.slice a1 n1 c1)).setCell ⟨(w.heap.size+2),1,none⟩ (.slice (some ⟨g,0,none⟩) (len9+1) c9)).setCell ⟨(w.heap.size+2),2,none⟩ (.slice a3 n3 c3))=WE:=hWE;rw[hWE] at PP;try rw[hWE2]
         have GE:=lH (show jq (fun b=>b<Z.heap.size∨b=w1.heap.size) (w5.setCell ⟨w1.heap.size,1,none⟩ (.slice (some ⟨g,0,none⟩) (len9+1) c9)) WE by rw[←hWE];exact jq.cells (S:=fun b=>b<Z.heap.size∨b=w1.heap.size) _ (.inl (by have:=Vm.out;omega)) _ _ _);clear hWE hWE2;obtain⟨PCC,hsz,hbl,hkp⟩:=PP.out;refine bodyPost_ret (by simp[results,Tryz.results64,go_sem,PCC.at_ 0 _ rfl,PCC.at_ 1 _ rfl,PCC.at_ 2 _ rfl];try rfl) rfl ?_;have VN:=(U9.out.step GE.out).less (B':=w.heap.size) (S':=fun b=>b<w.heap.size) Ve.out.size (fun b hb=>.inl (Nat.lt_of_lt_of_le hb Ve.out.size));rw[show l9.take (placeN p0 l9)++⟨p0,p1,p2,q1,q2,q3,q4,p3,p4,p5,p6⟩::l9.drop (placeN p0 l9)=zY ⟨p0,p1,p2,q1,q2,q3,q4,p3,p4,p5,p6⟩ (jY p0 pl) by rw[←Rq.out];exact Ym (p:=⟨p0,p1,p2,q1,q2,q3,q4,p3,p4,p5,p6⟩) (l:=l9)] at VN;exact⟨_,_,_,_,_,_,_,_,_,rfl,VN,hkp _ _ (by omega) K6.out⟩
def jcG (x:ByteArray) (c:Int):Nod:=⟨x,[(⟨#[99,112,117]⟩,c)],[],[],false⟩
def jbJ (x:ByteArray) (c:Int) (y:ByteArray):Pd:=⟨x,⟨#[]⟩,0,[(⟨#[99,112,117]⟩,c)],[],[],[],⟨#[]⟩,0,y,false⟩
theorem jco (w:World) (c:Int) (h:-9223372036854775808≤c∧c≤9223372036854775807) (W:World) (k:Kept (w.alloc (.cells #[.string ⟨#[99,112,117]⟩,.int .i64 c] 128)) W):Vec.Reads W (.slice (some ⟨w.heap.size,0,none⟩) 1 1) [(⟨#[99,112,117]⟩,c)]:=by
 have cc:=jd w (.string ⟨#[99,112,117]⟩) [.int .i64 c] 128 W k;refine⟨_,1,rfl,(by decide:(1:Nat)≤1),(by decide:(1:Nat)≤maxLen),rfl,(by decide:(1:Nat)≤maxLen),fun i hi=>?_,.inr ⟨w.heap.size,0,rfl,cc.lt,fun i hi=>?_⟩⟩
 · obtain rfl:i=0:=by simpa using hi
   exact⟨(by decide:(3:Nat)≤maxLen),h.1,h.2⟩
 · obtain rfl:i=0:=by simpa using hi
   exact⟨cc.at_ 0 _ rfl,cc.at_ 1 _ rfl⟩
theorem jku (x:ByteArray) (c:Int) (hc:-9223372036854775808≤c∧c≤9223372036854775807) (hx:x.size≤maxLen) (w:World) :
 Calls Tryz.prog 22 #[.string x,.int .i64 c] w fun e w'=>∃b1 n1 d1,e=.returned (.agg #[.string x,.slice b1 n1 d1,.slice none 0 0,.slice none 0 0,.bool false])∧zp w' (.slice b1 n1 d1) (.slice none 0 0) (.slice none 0 0) (jcG x c)∧Kept w w'∧∀b o z,b1=some ⟨b,o,z⟩→w.heap.size<b:=by
 have cc:=jd w (.string ⟨#[]⟩) [.slice none 0 0,.slice none 0 0,.slice none 0 0,.bool false] 71 _ (Kept.refl _);obtain⟨W0,hW0⟩:∃W,w.alloc (.cells #[.string ⟨#[]⟩,.slice none 0 0,.slice none 0 0,.slice none 0 0,.bool false] 71)=W:=⟨_,rfl⟩
 have hs:W0.heap.size=w.heap.size+1:=by rw[←hW0];simp
 rw[hW0] at cc;obtain⟨W1,hW1⟩:∃W,W0.alloc (.cells #[.string ⟨#[99,112,117]⟩,.int .i64 c] 128)=W:=⟨_,rfl⟩
 have HR:=lH (jco W0 c hc W1 (by rw[hW1];exact Kept.refl _));rw[hs] at HR;have c1:=cc.kept (W':=W1) (by rw[←hW1];exact ja _ _);have KW:=lH (show Kept w W1 by rw[←hW1,←hW0];exact jm _ _ _);have y0:=c1.at_ 0 _ rfl;have y1:=c1.at_ 1 _ rfl;have y2:=c1.at_ 2 _ rfl;have y3:=c1.at_ 3 _ rfl;have y4:=c1.at_ 4 _ rfl;have f0:=c1.free 0;have f1:=c1.free 1;have f2:=c1.free 2;have f3:=c1.free 3;have f4:=c1.free 4;have P:=lH (jW (vs:=[.string x,.slice (some ⟨w.heap.size+1,0,none⟩) 1 1,.slice none 0 0,.slice none 0 0,.bool false]) c1 rfl);clear c1 cc;go_enter Tryz.func22,Tryz.ntmps22;go_wp2;try rw[hW0]
 try rw[hW1]
 obtain⟨WE,hWE⟩:∃W,W1.setCells w.heap.size 0 [.string x,.slice (some ⟨w.heap.size+1,0,none⟩) 1 1,.slice none 0 0,.slice none 0 0,.bool false]=W:=⟨_,rfl⟩
 have hWE2:(((((W1.setCell ⟨w.heap.size,0,none⟩ (.string x)).setCell ⟨w.heap.size,1,none⟩ (.slice (some ⟨w.heap.size+1,0,none⟩) 1 1)).setCell ⟨w.heap.size,2,none⟩ (.slice none 0 0)).setCell ⟨w.heap.size,3,none⟩ (.slice none 0 0)).setCell ⟨w.heap.size,4,none⟩ (.bool false))=WE:=hWE;rw[hWE] at P;try rw[hWE2]
 clear hWE hWE2;obtain⟨PC,hsz,hbl,hkp⟩:=P.out;refine bodyPost_ret (by simp[results,Tryz.results22,go_sem,PC.at_ 0 _ rfl,PC.at_ 1 _ rfl,PC.at_ 2 _ rfl,PC.at_ 3 _ rfl,PC.at_ 4 _ rfl];try rfl) rfl ?_;exact⟨_,_,_,rfl,⟨hx,(HR.out.far hsz (fun b o s e=>hbl b (by cases e;omega))),Reads.nil _,Reads.nil _⟩,hkp _ _ (Nat.le_refl _) KW.out,fun b o z e=>by cases e;omega⟩
theorem jff (x:ByteArray) (c:Int) (hc:-9223372036854775808≤c∧c≤9223372036854775807) (hx:x.size≤maxLen) (w:World) :
 Calls Tryz.prog 22 #[.string x,.int .i64 c] w fun e w'=>∃b1 n1 d1,e=.returned (.agg #[.string x,.slice b1 n1 d1,.slice none 0 0,.slice none 0 0,.bool false])∧zp w' (.slice b1 n1 d1) (.slice none 0 0) (.slice none 0 0) (jcG x c)∧Kept w w' :=
 (jku x c hc hx w).mono fun e w' ⟨b,n,d,h1,h2,h3,_⟩=>⟨b,n,d,h1,h2,h3⟩
theorem jkW (x:ByteArray) (c:Int) (y:ByteArray) (hc:-9223372036854775808≤c∧c≤9223372036854775807) (hx:x.size≤maxLen) (hy:y.size≤maxLen) (w:World) :
 Calls Tryz.prog 23 #[.string x,.int .i64 c,.string y] w fun e w'=>∃b1 n1 d1,e=.returned (.agg #[.string x,.string ⟨#[]⟩,.int .i64 0,.slice b1 n1 d1,.slice none 0 0,.slice none 0 0,.slice none 0 0,.string ⟨#[]⟩,.int .i64 0,.string y,.bool false])∧js w' (.slice b1 n1 d1) (.slice none 0 0) (.slice none 0 0) (.slice none 0 0) (jbJ x c y)∧Kept w w'∧∀b o z,b1=some ⟨b,o,z⟩→w.heap.size<b:=by
 have cc:=jd w (.string ⟨#[]⟩) [.string ⟨#[]⟩,.int .i64 0,.slice none 0 0,.slice none 0 0,.slice none 0 0,.slice none 0 0,.string ⟨#[]⟩,.int .i64 0,.string ⟨#[]⟩,.bool false] 35 _ (Kept.refl _);obtain⟨W0,hW0⟩:∃W,w.alloc (.cells #[.string ⟨#[]⟩,.string ⟨#[]⟩,.int .i64 0,.slice none 0 0,.slice none 0 0,.slice none 0 0,.slice none 0 0,.string ⟨#[]⟩,.int .i64 0,.string ⟨#[]⟩,.bool false] 35)=W:=⟨_,rfl⟩
 have hs:W0.heap.size=w.heap.size+1:=by rw[←hW0];simp
 rw[hW0] at cc;obtain⟨W1,hW1⟩:∃W,W0.alloc (.cells #[.string ⟨#[99,112,117]⟩,.int .i64 c] 128)=W:=⟨_,rfl⟩
 have HR:=lH (jco W0 c hc W1 (by rw[hW1];exact Kept.refl _));rw[hs] at HR;have c1:=cc.kept (W':=W1) (by rw[←hW1];exact ja _ _);have KW:=lH (show Kept w W1 by rw[←hW1,←hW0];exact jm _ _ _);have y0:=c1.at_ 0 _ rfl;have y1:=c1.at_ 1 _ rfl;have y2:=c1.at_ 2 _ rfl;have y3:=c1.at_ 3 _ rfl;have y4:=c1.at_ 4 _ rfl;have y5:=c1.at_ 5 _ rfl;have y6:=c1.at_ 6 _ rfl;have y7:=c1.at_ 7 _ rfl;have y8:=c1.at_ 8 _ rfl;have y9:=c1.at_ 9 _ rfl;have y10:=c1.at_ 10 _ rfl;have f0:=c1.free 0;have f1:=c1.free 1;have f2:=c1.free 2;have f3:=c1.free 3;have f4:=c1.free 4;have f5:=c1.free 5;have f6:=c1.free 6;have f7:=c1.free 7;have f8:=c1.free 8;have f9:=c1.free 9;have f10:=c1.free 10;have P:=lH (jW (vs:=[.string x,.string ⟨#[]⟩,.int .i64 0,.slice (some ⟨w.heap.size+1,0,none⟩) 1 1,.slice none 0 0,.slice none 0 0,.slice none 0 0,.string ⟨#[]⟩,.int .i64 0,.string y,.bool false]) c1 rfl);clear c1 cc;go_enter Tryz.func23,Tryz.ntmps23;go_wp2;try rw[hW0]
 try rw[hW1]
 obtain⟨WE,hWE⟩:∃W,W1.setCells w.heap.size 0 [.string x,.string ⟨#[]⟩,.int .i64 0,.slice (some ⟨w.heap.size+1,0,none⟩) 1 1,.slice none 0 0,.slice none 0 0,.slice none 0 0,.string ⟨#[]⟩,.int .i64 0,.string y,.bool false]=W:=⟨_,rfl⟩
 have hWE2:(((((((((((W1.setCell ⟨w.heap.size,0,none⟩ (.string x)).setCell ⟨w.heap.size,1,none⟩ (.string ⟨#[]⟩)).setCell ⟨w.heap.size,2,none⟩ (.int .i64 0)).setCell ⟨w.heap.size,3,none⟩ (.slice (some ⟨w.heap.size+1,0,none⟩) 1 1)).setCell ⟨w.heap.size,4,none⟩ (.slice none 0 0)).setCell ⟨w.heap.size,5,none⟩ (.slice none 0 0)).setCell ⟨w.heap.size,6,none⟩ (.slice none 0 0)).setCell ⟨w.heap.size,7,none⟩ (.string ⟨#[]⟩)).setCell ⟨w.heap.size,8,none⟩ (.int .i64 0)).setCell ⟨w.heap.size,9,none⟩ (.string y)).setCell ⟨w.heap.size,10,none⟩ (.bool false))=WE:=hWE;rw[hWE] at P;try rw[hWE2]
 clear hWE hWE2;obtain⟨PC,hsz,hbl,hkp⟩:=P.out;refine bodyPost_ret (by simp[results,Tryz.results23,go_sem,PC.at_ 0 _ rfl,PC.at_ 1 _ rfl,PC.at_ 2 _ rfl,PC.at_ 3 _ rfl,PC.at_ 4 _ rfl,PC.at_ 5 _ rfl,PC.at_ 6 _ rfl,PC.at_ 7 _ rfl,PC.at_ 8 _ rfl,PC.at_ 9 _ rfl,PC.at_ 10 _ rfl];try rfl) rfl ?_;exact⟨_,_,_,rfl,⟨hx,(by decide:(0:Nat)≤maxLen),(by decide:(0:Nat)≤maxLen),hy,(by decide:(-9223372036854775808:Int)≤0∧(0:Int)≤9223372036854775807),(by decide:(-9223372036854775808:Int)≤0∧(0:Int)≤9223372036854775807),(HR.out.far hsz (fun b o s e=>hbl b (by cases e;omega))),Reads.nil _,Reads.nil _,Reads.nil _⟩,hkp _ _ (Nat.le_refl _) KW.out,fun b o z e=>by cases e;omega⟩
theorem Y6 {X:Type} {L:Lay X} {lx:List X} {q:Nat} {v:Value} {vs:List Value} {W:World} (hc:jb L lx=v::vs) (c:jf q (v::vs) W) (hf:∀x ∈ lx,L.fine x) (hm:lx.length≤maxLen):jh L W (some ⟨q,0,none⟩) lx.length lx :=
 ⟨rfl,hm,hf,.inr ⟨q,0,rfl,c.lt,fun i x j u hi hj=>by
  have:=Y4 L lx i x j u hi hj;rw[hc] at this;rw[Nat.zero_add];exact c.at_ _ u this⟩⟩
theorem Y7 {w:World} {a:Option Addr} {len:Nat} {lx:List NX} (h:jh zD w a len lx) (hf:∀z ∈ lx,At3 w z):jE w a len (lx.map fun z=>z.1):=by
 obtain⟨g0,g1,g2,g3⟩:=h;refine⟨by rw[List.length_map];exact g0,g1,g3.imp id ?_⟩;rintro ⟨b,off,rfl,hb,hc⟩;refine⟨b,off,rfl,hb,fun i n hi=>?_⟩;rw[List.getElem?_map] at hi;obtain⟨z,hz,rfl⟩:=Option.map_eq_some_iff.1 hi;exact⟨_,_,_,_,_,_,_,_,_,hc i z 0 _ hz rfl,hc i z 1 _ hz rfl,hc i z 2 _ hz rfl,hc i z 3 _ hz rfl,hc i z 4 _ hz rfl,hf z (List.mem_of_getElem? hz)⟩
theorem jbA {w:World} {a:Option Addr} {len:Nat} {lx:List PX} (h:jh jg w a len lx) (hf:∀z ∈ lx,At4 w z):jN w a len (lx.map fun z=>z.1):=by
 obtain⟨g0,g1,g2,g3⟩:=h;refine⟨by rw[List.length_map];exact g0,g1,g3.imp id ?_⟩;rintro ⟨b,off,rfl,hb,hc⟩;refine⟨b,off,rfl,hb,fun i n hi=>?_⟩;rw[List.getElem?_map] at hi;obtain⟨z,hz,rfl⟩:=Option.map_eq_some_iff.1 hi;exact⟨_,_,_,_,hc i z 0 _ hz rfl,hc i z 1 _ hz rfl,hc i z 2 _ hz rfl,hc i z 3 _ hz rfl,hc i z 4 _ hz rfl,hc i z 5 _ hz rfl,hc i z 6 _ hz rfl,hc i z 7 _ hz rfl,hc i z 8 _ hz rfl,hc i z 9 _ hz rfl,hc i z 10 _ hz rfl,hf z (List.mem_of_getElem? hz)⟩
theorem jaC (w:World):Jc w none 0 []:=⟨rfl,by decide,.inl rfl⟩
theorem jbp (x:ByteArray) (c:Int) (y:ByteArray) (hc:-9223372036854775808≤c∧c≤9223372036854775807) (hx:x.size≤maxLen) (hy:y.size≤maxLen) (w:World) :
 Calls Tryz.prog 23 #[.string x,.int .i64 c,.string y] w fun e w'=>∃b1 n1 d1,e=.returned (.agg #[.string x,.string ⟨#[]⟩,.int .i64 0,.slice b1 n1 d1,.slice none 0 0,.slice none 0 0,.slice none 0 0,.string ⟨#[]⟩,.int .i64 0,.string y,.bool false])∧js w' (.slice b1 n1 d1) (.slice none 0 0) (.slice none 0 0) (.slice none 0 0) (jbJ x c y)∧Kept w w' :=
 (jkW x c y hc hx hy w).mono fun e w' ⟨b,n,d,h1,h2,h3,_⟩=>⟨b,n,d,h1,h2,h3⟩
def Yy (W:World) (q:Nat):Prop:=∀i u,W.cell? ⟨q,i,none⟩=some u→∃a n c,u=.slice a n c
theorem zk {W:World} {q:Nat} {a1 a2 a3:Option Addr} {m1 c1 m2 c2 m3 c3:Nat} {T:TypeId} {fr:Nat×Nat} (hh:W.heap[q]?=some (.cells #[.slice a1 m1 c1,.slice a2 m2 c2,.slice a3 m3 c3] T fr)):Yy W q:=by
 intro i u h;rw[Lib.cell_of_heap hh] at h
 match i,h with
 | 0,h=>cases h;exact⟨_,_,_,rfl⟩
 | 1,h=>cases h;exact⟨_,_,_,rfl⟩
 | 2,h=>cases h;exact⟨_,_,_,rfl⟩
 | i+3,h=>simp at h
theorem Yy.noRow {W:World} {q:Nat} (h:Yy W q):jb2 W q:=fun o x u h1 _=>by
 obtain⟨_,_,_,e⟩:=h _ _ h1
 cases e
theorem qG {α:Type} {L:Lay α} {w w':World} {a:Option Addr} {len:Nat} {l:List α} {N:Nat} (hL:∀x,∃u,(L.cs x)[0]?=some u∧∀a n c,u≠.slice a n c) (h:jh L w a len l) (hs:w'.heap.size=w.heap.size) (hb:∀b,b≠N→w'.heap[b]?=w.heap[b]?) (hn:Yy w N):jh L w' a len l:=by
 obtain⟨h3,h4,h5,h6⟩:=h;refine⟨h3,h4,h5,?_⟩;rcases h6 with h6 | ⟨b,off,rfl,hlt,hc⟩
 · exact .inl h6
 · cases l with
   | nil=>exact .inl h3.symm
   | cons x t =>
    have hne:b≠N:=by
     rintro rfl;obtain⟨u,g0,g1⟩:=hL x;obtain⟨_,_,_,e⟩:=hn _ _ (hc 0 x 0 _ rfl g0);exact g1 _ _ _ e
    exact .inr ⟨b,off,rfl,by rw[hs];exact hlt,fun i x j u hi hj=>(World.cell?_of_block (a:=⟨b,off+i*L.m+j,none⟩) (hb b hne)).trans (hc i x j u hi hj)⟩
theorem Zc {α:Type} {L:Lay α} {w w':World} {v:Value} {l:List α} {N:Nat} (hL:∀x,∃u,(L.cs x)[0]?=some u∧∀a n c,u≠.slice a n c) (h:Reads L w v l) (hs:w'.heap.size=w.heap.size) (hb:∀b,b≠N→w'.heap[b]?=w.heap[b]?) (hn:Yy w N):Reads L w' v l:=by
 obtain⟨a,cap,rfl,h1,h2,h3⟩:=h;exact⟨a,cap,rfl,h1,h2,qG hL h3 hs hb hn⟩
theorem jk4 (x:ByteArray×ByteArray):∃u,(jF.cs x)[0]?=some u∧∀a n c,u≠.slice a n c:=⟨_,rfl,fun _ _ _ e=>by cases e⟩
theorem jk5 (x:NT):∃u,(jx.cs x)[0]?=some u∧∀a n c,u≠.slice a n c:=⟨_,rfl,fun _ _ _ e=>by cases e⟩
theorem jhL (x:Int×ByteArray×ByteArray):∃u,(jP.cs x)[0]?=some u∧∀a n c,u≠.slice a n c:=⟨_,rfl,fun _ _ _ e=>by cases e⟩
theorem jmK (x:NX):∃u,(zD.cs x)[0]?=some u∧∀a n c,u≠.slice a n c:=⟨_,rfl,fun _ _ _ e=>by cases e⟩
theorem jmr (x:PX):∃u,(jg.cs x)[0]?=some u∧∀a n c,u≠.slice a n c:=⟨_,rfl,fun _ _ _ e=>by cases e⟩
theorem jmE (x:BX):∃u,(zt.cs x)[0]?=some u∧∀a n c,u≠.slice a n c:=⟨_,rfl,fun _ _ _ e=>by cases e⟩
theorem jfl {w:World} {a:Option Addr} {len:Nat} {lx:List BX} (h:jh zt w a len lx) (hf:∀z ∈ lx,At1 w z):Jc w a len (lx.map fun z=>z.1):=by
 obtain⟨g0,g1,g2,g3⟩:=h;refine⟨by rw[List.length_map];exact g0,g1,g3.imp id ?_⟩;rintro ⟨b,off,rfl,hb,hc⟩;refine⟨b,off,rfl,hb,fun i n hi=>?_⟩;rw[List.getElem?_map] at hi;obtain⟨z,hz,rfl⟩:=Option.map_eq_some_iff.1 hi;exact⟨_,hc i z 0 _ hz rfl,hc i z 1 _ hz rfl,hc i z 2 _ hz rfl,hf z (List.mem_of_getElem? hz)⟩
section
variable {w w':World} {N:Nat} (hs:w'.heap.size=w.heap.size) (hb:∀b,b≠N→w'.heap[b]?=w.heap[b]?) (hn:Yy w N)
include hs hb hn
theorem jbj {v:Value} {l:List Nod} (h:zV w v l):zV w' v l:=by
 obtain⟨a,cap,rfl,h1,h2,h3⟩:=h;obtain⟨lx,hm,hr,hat⟩:=jcX h3;exact⟨a,cap,rfl,h1,h2,by rw[←hm];exact Y7 (by rw[hm];exact qG jmK hr hs hb hn) fun z hz=>jau (hat z hz) hs hb hn.noRow⟩
theorem jcr {v:Value} {l:List Pd} (h:zr w v l):zr w' v l:=by
 obtain⟨a,cap,rfl,h1,h2,h3⟩:=h;obtain⟨lx,hm,hr,hat⟩:=jcY h3;exact⟨a,cap,rfl,h1,h2,by
  rw[←hm];exact jbA (by rw[hm];exact qG jmr hr hs hb hn) fun z hz=>by
   have g:=hat z hz;exact⟨g.name,g.owner,g.key,g.node,g.prio,g.most,jbw g.need hs hb hn.noRow,Zc jk4 g.labels hs hb hn,Zc jhL g.sel hs hb hn,Zc jk5 g.tols hs hb hn⟩⟩
theorem jcf {v:Value} {l:List Bd} (h:JG w v l):JG w' v l:=by
 obtain⟨a,cap,rfl,h1,h2,h3⟩:=h;obtain⟨lx,hm,hr,hat⟩:=jcQ h3;exact⟨a,cap,rfl,h1,h2,by
  rw[←hm];exact jfl (by rw[hm];exact qG jmE hr hs hb hn) fun z hz=>by
   have g:=hat z hz;exact⟨g.name,g.floor,Zc jhL g.sel hs hb hn⟩⟩
theorem zj {v:Value} {s:Clu} (h:jA w v s):jA w' v s:=by
 obtain⟨v1,v2,v3,e,g⟩:=h;exact⟨v1,v2,v3,e,jbj hs hb hn g.nodes,jcr hs hb hn g.pods,jcf hs hb hn g.buds⟩
end
end Go.Proofs.YtmlgobiifebjkabGreat
namespace Go.Proofs.YtmlgobiifebjkabGreat
open Go.RowKit
theorem jaQ {v:Value} {s:Clu} {w:World} (h:jA w v s) (hl:jH s) (e1:s.nodes.length≤1000) (e2:s.pods.length≤1000) (e3:s.buds.length≤1000):Calls Tryz.prog 10 #[v] w fun e w'=>∃v,e=.returned v∧jA w' v s∧Kept w w':=by
 obtain⟨v1,v2,v3,rfl,⟨a,cap,rfl,l1,m1,h1⟩,⟨b,cp,rfl,l2,m2,h2⟩,⟨d,cb,rfl,l3,m3,h3⟩⟩:=h;obtain⟨nl,pl,bl⟩:=s;dsimp only at *;obtain⟨len,hlen⟩:∃q,nl.length=q:=⟨_,rfl⟩
 obtain⟨m,hm⟩:∃q,pl.length=q:=⟨_,rfl⟩
 obtain⟨n,hn⟩:∃q,bl.length=q:=⟨_,rfl⟩
 rw[hlen] at h1 l1;rw[hm] at h2 l2;rw[hn] at h3 l3;try rw[hlen]
 try rw[hm]
 try rw[hn]
 obtain⟨Z,hZ⟩:∃Z,(w.alloc (.cells #[.slice a len cap,.slice b m cp,.slice d n cb] 26)).alloc (.cells #[.slice none 0 0,.slice none 0 0,.slice none 0 0] 51)=Z:=⟨_,rfl⟩
 have hkz:Kept w Z:=by rw[←hZ];exact jm _ _ _
 have cc:=jd w (.slice a len cap) [.slice b m cp,.slice d n cb] 26 Z (by rw[←hZ];exact ja _ _);have HH:=lH (show jf (w.heap.size+1) [.slice none 0 0,.slice none 0 0,.slice none 0 0] Z by
  have dd:=jd (w.alloc (.cells #[.slice a len cap,.slice b m cp,.slice d n cb] 26)) (.slice none 0 0) [.slice none 0 0,.slice none 0 0] 51 Z (by rw[hZ];exact Kept.refl _);rw[World.size_alloc] at dd;exact dd)
 have HN:=lH (fun W (k:Kept Z W)=>jmu (qV l1 m1 (h1.kept (hkz.trans k))) hl.nodes e1);have HP:=lH (fun W (k:Kept Z W)=>jlN (jgu l2 m2 (h2.kept (hkz.trans k))) hl.pods e2);have HB:=lH (fun W (k:Kept Z W)=>jlR (jcF l3 m3 (h3.kept (hkz.trans k))) hl.buds e3);have Ve:=lH hkz;have Tl:=lH (show ∀W,Kept Z W→Yy W (w.heap.size+1) from fun W k=>by
  have hh:Z.heap[w.heap.size+1]?=some (.cells #[.slice none 0 0,.slice none 0 0,.slice none 0 0] 51):=by
   have:=(w.alloc (.cells #[.slice a len cap,.slice b m cp,.slice d n cb] 26)).alloc_heap_new (.cells #[.slice none 0 0,.slice none 0 0,.slice none 0 0] 51);rw[World.size_alloc,hZ] at this;exact this
  exact zk ((k.block _ (Array.getElem?_eq_some_iff.1 hh).1).trans hh))
 have HS:=lH (show ∀W,Kept Z W→W.cell? ⟨w.heap.size,0,none⟩=some (.slice a len cap)∧W.cell? ⟨w.heap.size,1,none⟩=some (.slice b m cp)∧W.cell? ⟨w.heap.size,2,none⟩=some (.slice d n cb) from fun W k=>⟨(cc.kept k).at_ 0 _ rfl,(cc.kept k).at_ 1 _ rfl,(cc.kept k).at_ 2 _ rfl⟩);have Uc:=lH (show ∀U W:World,(∀b,b≠w.heap.size+1→U.heap[b]?=W.heap[b]?)→Kept Z W→U.cell? ⟨w.heap.size,0,none⟩=some (.slice a len cap)∧U.cell? ⟨w.heap.size,1,none⟩=some (.slice b m cp)∧U.cell? ⟨w.heap.size,2,none⟩=some (.slice d n cb) from fun U W e k=>by
  have c:=(cc.kept k).block (e _ (by omega));exact⟨c.at_ 0 _ rfl,c.at_ 1 _ rfl,c.at_ 2 _ rfl⟩)
 clear h1 h2 h3 l1 l2 l3 m1 m2 m3 hkz cc hl e1 e2 e3;go_enter Tryz.func10,Tryz.ntmps10;go_wp2_with fail
 try rw[hZ]
 clear hZ;refine wp_region_held_drew (S:=fun W=>W.cell? ⟨w.heap.size,0,none⟩=some (.slice a len cap)∧W.cell? ⟨w.heap.size,1,none⟩=some (.slice b m cp)∧W.cell? ⟨w.heap.size,2,none⟩=some (.slice d n cb)) (by kernel_rfl) (HS.out _ (Kept.drew _)) (fun hHeld=>?_);refine tkI 0 ?_;refine tkI 1 ?_;refine tkI 3 ?_;refine tkI 4 ?_;refine tkI 6 ?_;refine tkI 7 ?_;try simp only[nP]
 have J:=lH (Kept.drew Z);refine rd1 2 fun K9 Ky=>?_;go_simp;refine(HN.out _ J.out).mono ?_;rintro e1 w1 ⟨u1,rfl,hr,kk⟩;have J:=lH (J.out.trans kk);have hr2:=hr;obtain⟨x1,q1,rfl,-,-,-⟩:=hr2;rw[hlen] at hr;try rw[hlen]
 have RR1:=lH hr;clear hr kk;refine Ky.out _ _ (HS.out _ J.out) (fun _=>?_);clear Ky K9;try simp only[nP]
 refine rd1 5 fun K9 Ky=>?_;go_simp;refine(HP.out _ J.out).mono ?_;rintro e2 w2 ⟨u2,rfl,hr,kk⟩;have J:=lH (J.out.trans kk);have RR1:=lH (RR1.out.kept kk);have hr2:=hr;obtain⟨x2,q2,rfl,-,-,-⟩:=hr2;rw[hm] at hr;try rw[hm]
 have RR2:=lH hr;clear hr kk;refine Ky.out _ _ (HS.out _ J.out) (fun _=>?_);clear Ky K9;try simp only[nP]
 refine rd1 8 fun K9 Ky=>?_;go_simp;refine(HB.out _ J.out).mono ?_;rintro e3 w3 ⟨u3,rfl,hr,kk⟩;have J:=lH (J.out.trans kk);have RR1:=lH (RR1.out.kept kk);have RR2:=lH (RR2.out.kept kk);have hr2:=hr;obtain⟨x3,q3,rfl,-,-,-⟩:=hr2;rw[hn] at hr;try rw[hn]
 have RR3:=lH hr;clear hr kk;refine Ky.out _ _ (HS.out _ J.out) (fun _=>?_);clear Ky K9;try simp only[nP]
 refine tkI 9 ?_;try simp only[nP]
 have H9:=lH (HH.out.kept J.out);have z0:=H9.out.at_ 0 _ rfl;have z1:=H9.out.at_ 1 _ rfl;have z2:=H9.out.at_ 2 _ rfl;have f0:=H9.out.free 0;have f1:=H9.out.free 1;have f2:=H9.out.free 2;have PP:=lH (jW (vs:=[.slice x1 len q1,.slice x2 m q2,.slice x3 n q3]) H9.out rfl);refine rd1 10 fun K9 Ky=>?_;go_simp;obtain⟨WE,hWE⟩:∃W,w3.setCells (w.heap.size+1) 0 [.slice x1 len q1,.slice x2 m q2,.slice x3 n q3]=W:=⟨_,rfl⟩
 have hWE2:(((w3.setCell ⟨(w.heap.size+1),0,none⟩ (.slice x1 len q1)).setCell ⟨(w.heap.size+1),1,none⟩ (.slice x2 m q2)).setCell ⟨(w.heap.size+1),2,none⟩ (.slice x3 n q3))=WE:=hWE;rw[hWE] at PP;try rw[hWE2]
 obtain⟨PC,hsz,hbl,hkp⟩:=PP.out;skip;refine Ky.out _ _ (Uc.out _ _ hbl J.out) (fun _=>?_);clear Ky K9 z0 z1 z2 f0 f1 f2;try simp only[nP]
 refine wpAnyH_done (by kernel_rfl) ?_ _;go_wp2;refine bodyPost_ret (by simp[results,Tryz.results10,go_sem,PC.at_ 0 _ rfl,PC.at_ 1 _ rfl,PC.at_ 2 _ rfl];try rfl) rfl ?_;have SL:=Tl.out _ J.out;exact⟨_,rfl,⟨_,_,_,rfl,jbj hsz hbl SL RR1.out,jcr hsz hbl SL RR2.out,jcf hsz hbl SL RR3.out⟩,hkp _ _ (Nat.le_succ _) (Ve.out.trans J.out)⟩
theorem jdr {r:Int×Vec.V} {w w':World} {e:Ending} (h:Vec.YT r w e w'):Z1 r w e w':=by
 obtain⟨v,e,h,k⟩:=h;exact⟨v,e,h.at_,k⟩
theorem jmL {v:Value} {s:Clu} {w:World} (h:jA w v s) (x:ByteArray) (hl:jH s):Calls Tryz.prog 84 #[v,.string x] w (Z1 (zy s x) w):=by
 obtain⟨v1,v2,v3,rfl,⟨a,cap,rfl,l1,m1,h1⟩,⟨b,cp,rfl,l2,m2,h2⟩,⟨d,cb,rfl,l3,m3,h3⟩⟩:=h;exact(jjF a b d _ cap _ cp _ cb s.nodes s.pods x w h1 h2 hl.nodes).mono fun _ _ h=>jdr h
theorem jmH {v:Value} {s:Clu} {w:World} (h:jA w v s) (x:ByteArray) (hl:jH s):Calls Tryz.prog 213 #[v,.string x] w (Z1 (J4 s x) w):=by
 obtain⟨v1,v2,v3,rfl,⟨a,cap,rfl,l1,m1,h1⟩,⟨b,cp,rfl,l2,m2,h2⟩,⟨d,cb,rfl,l3,m3,h3⟩⟩:=h;exact(jjE a b d _ cap _ cp _ cb s.nodes s.pods x w h1 h2 hl.nodes).mono fun _ _ h=>jdr h
theorem onR {v:Value} {s:Clu} {w:World} (h:jA w v s) (x:ByteArray) (hl:jH s):Calls Tryz.prog 105 #[v,.string x] w fun e w'=>∃y,e=.returned y∧zr w' y (onP x s.pods)∧Kept w w':=by
 obtain⟨v1,v2,v3,rfl,⟨a,cap,rfl,l1,m1,h1⟩,⟨b,cp,rfl,l2,m2,h2⟩,⟨d,cb,rfl,l3,m3,h3⟩⟩:=h;exact jks b a d _ cp _ cap _ cb s.pods x w h2 hl.pods hl.podsN
theorem jA.nAt {w:World} {v2 v3:Value} {b:Option Addr} {m cp:Nat} {s:Clu} (h:jA w (zv (.slice b m cp) v2 v3) s):jE w b m s.nodes∧m=s.nodes.length:=by
 obtain⟨_,_,_,e,g0⟩:=h
 cases e
 obtain⟨a',cap',e,_,_,h⟩:=g0.nodes
 cases e
 exact⟨h,rfl⟩
theorem jA.pAt {w:World} {v1 v3:Value} {b:Option Addr} {m cp:Nat} {s:Clu} (h:jA w (zv v1 (.slice b m cp) v3) s):jN w b m s.pods∧m=s.pods.length:=by
 obtain⟨_,_,_,e,g0⟩:=h
 cases e
 obtain⟨a',cap',e,_,_,h⟩:=g0.pods
 cases e
 exact⟨h,rfl⟩
theorem jfx (p:Pd) (n:Nod) (a1 a2 a3 a4:Option Addr) (m1 c1 m2 c2 m3 c3 m4 c4:Nat) (b1 b2 b3:Option Addr) (k1 d1 k2 d2 k3 d3:Nat) (w:World) (hp:js w (.slice a1 m1 c1) (.slice a2 m2 c2) (.slice a3 m3 c3) (.slice a4 m4 c4) p) (hn:zp w (.slice b1 k1 d1) (.slice b2 k2 d2) (.slice b3 k3 d3) n):Calls Tryz.prog 204 #[jr p (.slice a1 m1 c1) (.slice a2 m2 c2) (.slice a3 m3 c3) (.slice a4 m4 c4),zw n (.slice b1 k1 d1) (.slice b2 k2 d2) (.slice b3 k3 d3)] w (Say (.bool (JW p n)) w):=by
 obtain⟨t,ht⟩:∃t,Jb p.sel n.labels=t:=⟨_,rfl⟩
 have U5:=lH (fun (W:World) (k:Kept w W)=>jml (hp.sel.kept k) (hn.labels.kept k) ht);obtain⟨cd,hcd⟩:∃t,n.cordon=t:=⟨_,rfl⟩
 have HV:=lH (show JW p n=(!cd&&t) by unfold JW;rw[ht,hcd]);clear ht;obtain⟨Z,hZ⟩:∃Z,(w.alloc (.cells #[.string p.name,.string p.owner,.int .i64 p.prio,.slice a1 m1 c1,.slice a2 m2 c2,.slice a3 m3 c3,.slice a4 m4 c4,.string p.key,.int .i64 p.most,.string p.node,.bool p.hold] 35)).alloc (.cells #[.string n.name,.slice b1 k1 d1,.slice b2 k2 d2,.slice b3 k3 d3,.bool cd] 71)=Z:=⟨_,rfl⟩
 have hkz:Kept w Z:=by rw[←hZ];exact jm _ _ _
 have Vd:=lH (jd w (.string p.name) [.string p.owner,.int .i64 p.prio,.slice a1 m1 c1,.slice a2 m2 c2,.slice a3 m3 c3,.slice a4 m4 c4,.string p.key,.int .i64 p.most,.string p.node,.bool p.hold] 35 Z (by rw[←hZ];exact ja _ _));have Vb:=lH (show jf (w.heap.size+1) [.string n.name,.slice b1 k1 d1,.slice b2 k2 d2,.slice b3 k3 d3,.bool cd] Z by
  have dd:=jd (w.alloc (.cells #[.string p.name,.string p.owner,.int .i64 p.prio,.slice a1 m1 c1,.slice a2 m2 c2,.slice a3 m3 c3,.slice a4 m4 c4,.string p.key,.int .i64 p.most,.string p.node,.bool p.hold] 35)) (.string n.name) [.slice b1 k1 d1,.slice b2 k2 d2,.slice b3 k3 d3,.bool cd] 71 Z (by rw[hZ];exact Kept.refl _);rw[World.size_alloc] at dd;exact dd)
 have K:=lH hkz;have HM:=lH (U5.out Z hkz);clear U5 hp hn hkz;have r5:=Vd.out.at_ 5 _ rfl;have q2:=Vb.out.at_ 2 _ rfl;have q4:=Vb.out.at_ 4 _ rfl;unfold jr zw;rw[hcd];clear hcd;go_enter Tryz.func204,Tryz.ntmps204
 cases cd with
 | true =>
  go_wp2;try rw[hZ]
  go_ret;exact⟨je (by rw[HV.out];rfl),by first | exact K.out | (rw[hZ];exact K.out)⟩
 | false =>
  go_wp2_with fail
  try rw[hZ]
  refine HM.out.mono ?_;rintro e w1 ⟨rfl,kk⟩;have K:=lH (K.out.trans kk);clear kk hZ;go_wp2;go_ret;exact⟨je (by rw[HV.out];rfl),K.out⟩
theorem jfV (p:Pd) (n:Nod) (a1 a2 a3 a4:Option Addr) (m1 c1 m2 c2 m3 c3 m4 c4:Nat) (b1 b2 b3:Option Addr) (k1 d1 k2 d2 k3 d3:Nat) (w:World) (hp:js w (.slice a1 m1 c1) (.slice a2 m2 c2) (.slice a3 m3 c3) (.slice a4 m4 c4) p) (hn:zp w (.slice b1 k1 d1) (.slice b2 k2 d2) (.slice b3 k3 d3) n):Calls Tryz.prog 205 #[jr p (.slice a1 m1 c1) (.slice a2 m2 c2) (.slice a3 m3 c3) (.slice a4 m4 c4),zw n (.slice b1 k1 d1) (.slice b2 k2 d2) (.slice b3 k3 d3)] w (Say (.bool (ZH p n)) w):=by
 obtain⟨t,ht⟩:∃t,(za p.tols n.taints).isSome=t:=⟨_,rfl⟩
 obtain⟨⟨x,y,mm⟩,hx⟩:∃x,wT (za p.tols n.taints)=x:=⟨_,rfl⟩
 have U5:=lH (fun (W:World) (k:Kept w W)=>jmf (hp.tols.kept k) (hn.taints.kept k) hx ht);have HV:=lH (show ZH p n=(!t) by unfold ZH;rw[ht]);clear ht hx;obtain⟨Z,hZ⟩:∃Z,(w.alloc (.cells #[.string p.name,.string p.owner,.int .i64 p.prio,.slice a1 m1 c1,.slice a2 m2 c2,.slice a3 m3 c3,.slice a4 m4 c4,.string p.key,.int .i64 p.most,.string p.node,.bool p.hold] 35)).alloc (.cells #[.string n.name,.slice b1 k1 d1,.slice b2 k2 d2,.slice b3 k3 d3,.bool n.cordon] 71)=Z:=⟨_,rfl⟩
 have hkz:Kept w Z:=by rw[←hZ];exact jm _ _ _
 have Vd:=lH (jd w (.string p.name) [.string p.owner,.int .i64 p.prio,.slice a1 m1 c1,.slice a2 m2 c2,.slice a3 m3 c3,.slice a4 m4 c4,.string p.key,.int .i64 p.most,.string p.node,.bool p.hold] 35 Z (by rw[←hZ];exact ja _ _));have Vb:=lH (show jf (w.heap.size+1) [.string n.name,.slice b1 k1 d1,.slice b2 k2 d2,.slice b3 k3 d3,.bool n.cordon] Z by
  have dd:=jd (w.alloc (.cells #[.string p.name,.string p.owner,.int .i64 p.prio,.slice a1 m1 c1,.slice a2 m2 c2,.slice a3 m3 c3,.slice a4 m4 c4,.string p.key,.int .i64 p.most,.string p.node,.bool p.hold] 35)) (.string n.name) [.slice b1 k1 d1,.slice b2 k2 d2,.slice b3 k3 d3,.bool n.cordon] 71 Z (by rw[hZ];exact Kept.refl _);rw[World.size_alloc] at dd;exact dd)
 have K:=lH hkz;have HM:=lH (U5.out Z hkz);clear U5 hp hn hkz;have r6:=Vd.out.at_ 6 _ rfl;have q3:=Vb.out.at_ 3 _ rfl;unfold jr zw;go_enter Tryz.func205,Tryz.ntmps205;go_wp2_with fail
 try rw[hZ]
 refine HM.out.mono ?_;rintro e w1 ⟨rfl,kk⟩;have K:=lH (K.out.trans kk);clear kk hZ;go_wp2;go_ret;exact⟨je (by rw[HV.out]),K.out.trans (ja _ _)⟩
theorem jdL (s1 s2 s3:Option Addr) (n1 e1 n2 e2 n3 e3:Nat) (a1 a2 a3 a4:Option Addr) (m1 c1 m2 c2 m3 c3 m4 c4:Nat) (p:Pd) (s:Clu) (name:ByteArray) (w:World) (hs:jA w (zv (.slice s1 n1 e1) (.slice s2 n2 e2) (.slice s3 n3 e3)) s) (hl:jH s):Calls Tryz.prog 206 #[.agg #[.slice s1 n1 e1,.slice s2 n2 e2,.slice s3 n3 e3],jr p (.slice a1 m1 c1) (.slice a2 m2 c2) (.slice a3 m3 c3) (.slice a4 m4 c4),.string name] w (Say (.bool (JP s p name)) w):=by
 have hn1:=hs.nAt.2;have hn2:=hs.pAt.2;have g1:=hl.nodesN;have g2:=hl.podsN;obtain⟨Z,hZ⟩:∃Z,(w.alloc (.cells #[.slice s1 n1 e1,.slice s2 n2 e2,.slice s3 n3 e3] 26)).alloc (.cells #[.string p.name,.string p.owner,.int .i64 p.prio,.slice a1 m1 c1,.slice a2 m2 c2,.slice a3 m3 c3,.slice a4 m4 c4,.string p.key,.int .i64 p.most,.string p.node,.bool p.hold] 35)=Z:=⟨_,rfl⟩
 have hkz:Kept w Z:=by rw[←hZ];exact jm _ _ _
 have Vd:=lH (jd w (.slice s1 n1 e1) [.slice s2 n2 e2,.slice s3 n3 e3] 26 Z (by rw[←hZ];exact ja _ _));have Vb:=lH (show jf (w.heap.size+1) [.string p.name,.string p.owner,.int .i64 p.prio,.slice a1 m1 c1,.slice a2 m2 c2,.slice a3 m3 c3,.slice a4 m4 c4,.string p.key,.int .i64 p.most,.string p.node,.bool p.hold] Z by
  have dd:=jd (w.alloc (.cells #[.slice s1 n1 e1,.slice s2 n2 e2,.slice s3 n3 e3] 26)) (.string p.name) [.string p.owner,.int .i64 p.prio,.slice a1 m1 c1,.slice a2 m2 c2,.slice a3 m3 c3,.slice a4 m4 c4,.string p.key,.int .i64 p.most,.string p.node,.bool p.hold] 35 Z (by rw[hZ];exact Kept.refl _);rw[World.size_alloc] at dd;exact dd)
 have K:=lH hkz;have HS:=lH (jjQ s1 s2 s3 a1 a2 a3 a4 n1 e1 n2 e2 n3 e3 m1 c1 m2 c2 m3 c3 m4 c4 p s name Z (hs.nAt.1.kept hkz) (hs.pAt.1.kept hkz) (by omega) (by omega));clear hs hkz hl hn1 hn2 g1 g2;obtain⟨t7,h7⟩:∃t,(p.key.toList==([]:List UInt8))=t:=⟨_,rfl⟩
 have H7:=lH (show zZ p.key=t7 by rw[JA,h7]);have y0:=Vd.out.at_ 0 _ rfl;have y1:=Vd.out.at_ 1 _ rfl;have y2:=Vd.out.at_ 2 _ rfl;have r0:=Vb.out.at_ 0 _ rfl;have r1:=Vb.out.at_ 1 _ rfl;have r2:=Vb.out.at_ 2 _ rfl;have r3:=Vb.out.at_ 3 _ rfl;have r4:=Vb.out.at_ 4 _ rfl;have r5:=Vb.out.at_ 5 _ rfl;have r6:=Vb.out.at_ 6 _ rfl;have r7:=Vb.out.at_ 7 _ rfl;have r8:=Vb.out.at_ 8 _ rfl;have r9:=Vb.out.at_ 9 _ rfl;have r10:=Vb.out.at_ 10 _ rfl;unfold jr at HS ⊢;go_enter Tryz.func206,Tryz.ntmps206
 cases t7 with
 | true =>
  have HV:=lH (show JP s p name=false by unfold JP;rw[if_pos H7.out]);go_wp2;try rw[hZ]
  go_ret;exact⟨je HV.out.symm,by first | exact K.out | (rw[hZ];exact K.out)⟩
 | false =>
  have HV:=lH (show JP s p name=(!(zN p s name).2||decide (p.most<(zN p s name).1)) by unfold JP;rw[if_neg (by rw[H7.out];decide)]);obtain⟨z,hz⟩:∃z,(zN p s name).1=z:=⟨_,rfl⟩
  obtain⟨b,hb⟩:∃z,(zN p s name).2=z:=⟨_,rfl⟩
  rw[hz,hb] at HS HV;clear hz hb;go_upto_region 3 with fail
  try rw[hZ]
  clear hZ;go_wp2_with fail
  refine HS.out.mono ?_;rintro e w1 ⟨rfl,kk⟩;have K:=lH (K.out.trans kk);have r8:=(Vb.out.kept kk).at_ 8 _ rfl;clear kk y0 y1 y2 r0 r1 r2 r3 r4 r5 r6 r7 r9 r10
  cases b with
  | false =>
   go_wp2;go_ret;exact⟨je (by rw[HV.out];rfl),K.out⟩
  | true =>
   by_cases hlt:p.most<z
   · have TU:=lH hlt;go_wp2;go_ret;exact⟨je (by rw[HV.out,decide_eq_true TU.out];rfl),K.out⟩
   · have TU:=lH hlt;have hle:z≤p.most:=by omega
     clear hlt;go_wp2;go_ret;exact⟨je (by rw[HV.out,decide_eq_false (by have:=TU.out;omega)];rfl),K.out⟩
theorem jfH (s1 s2 s3:Option Addr) (n1 e1 n2 e2 n3 e3:Nat) (a1 a2 a3 a4:Option Addr) (m1 c1 m2 c2 m3 c3 m4 c4:Nat) (p:Pd) (s:Clu) (name:ByteArray) (w:World) (hs:jA w (zv (.slice s1 n1 e1) (.slice s2 n2 e2) (.slice s3 n3 e3)) s) (hl:jH s) (hp:js w (.slice a1 m1 c1) (.slice a2 m2 c2) (.slice a3 m3 c3) (.slice a4 m4 c4) p):Calls Tryz.prog 207 #[.agg #[.slice s1 n1 e1,.slice s2 n2 e2,.slice s3 n3 e3],jr p (.slice a1 m1 c1) (.slice a2 m2 c2) (.slice a3 m3 c3) (.slice a4 m4 c4),.string name] w (Say (.bool (ZR s p name)) w):=by
 obtain⟨Z,hZ⟩:∃Z,(w.alloc (.cells #[.slice s1 n1 e1,.slice s2 n2 e2,.slice s3 n3 e3] 26)).alloc (.cells #[.string p.name,.string p.owner,.int .i64 p.prio,.slice a1 m1 c1,.slice a2 m2 c2,.slice a3 m3 c3,.slice a4 m4 c4,.string p.key,.int .i64 p.most,.string p.node,.bool p.hold] 35)=Z:=⟨_,rfl⟩
 have hkz:Kept w Z:=by rw[←hZ];exact jm _ _ _
 have Vd:=lH (jd w (.slice s1 n1 e1) [.slice s2 n2 e2,.slice s3 n3 e3] 26 Z (by rw[←hZ];exact ja _ _));have Vb:=lH (show jf (w.heap.size+1) [.string p.name,.string p.owner,.int .i64 p.prio,.slice a1 m1 c1,.slice a2 m2 c2,.slice a3 m3 c3,.slice a4 m4 c4,.string p.key,.int .i64 p.most,.string p.node,.bool p.hold] Z by
  have dd:=jd (w.alloc (.cells #[.slice s1 n1 e1,.slice s2 n2 e2,.slice s3 n3 e3] 26)) (.string p.name) [.string p.owner,.int .i64 p.prio,.slice a1 m1 c1,.slice a2 m2 c2,.slice a3 m3 c3,.slice a4 m4 c4,.string p.key,.int .i64 p.most,.string p.node,.bool p.hold] 35 Z (by rw[hZ];exact Kept.refl _);rw[World.size_alloc] at dd;exact dd)
 have K:=lH hkz;have HF:=lH (jmH (hs.kept hkz) name hl);unfold zv at HF;have HP:=lH (hp.need.kept hkz);clear hs hkz hl hp;have y0:=Vd.out.at_ 0 _ rfl;have y1:=Vd.out.at_ 1 _ rfl;have y2:=Vd.out.at_ 2 _ rfl;unfold jr;obtain⟨c,hc⟩:∃c,(J4 s name).1=c:=⟨_,rfl⟩
 obtain⟨fl,hfl⟩:∃c,(J4 s name).2=c:=⟨_,rfl⟩
 obtain⟨q,hq⟩:∃q,Vec.jG fl p.need=q:=⟨_,rfl⟩
 have HV:=lH (show ZR s p name=(decide (c=0)&&q) by unfold ZR;rw[hc,hfl,hq]);have HQ:=lH hq;go_enter Tryz.func207,Tryz.ntmps207;go_wp2_with fail
 try rw[hZ]
 refine HF.out.mono ?_;rintro e w1 ⟨y,rfl,hy,kk⟩;rw[hc];rw[hfl] at hy;have HY:=lH hy;have K:=lH (K.out.trans kk);have HP:=lH (HP.out.kept kk);have r3:=(Vb.out.kept kk).at_ 3 _ rfl;clear kk hZ hc hfl hq hy HF y0 y1 y2;by_cases h0:c=0
 · subst h0;go_wp2_with fail
   refine(Vec.jmF HP.out HY.out HQ.out).mono ?_;rintro e w2 ⟨rfl,kk⟩;have K:=lH (K.out.trans kk);clear kk;go_wp2;go_ret;exact⟨je (by rw[HV.out];rfl),K.out⟩
 · have h0b:(c==0)=false:=by simpa using h0
   have H0:=lH h0;clear h0;go_wp2;go_ret;exact⟨je (by rw[HV.out,decide_eq_false H0.out];rfl),K.out⟩
end Go.Proofs.YtmlgobiifebjkabGreat
