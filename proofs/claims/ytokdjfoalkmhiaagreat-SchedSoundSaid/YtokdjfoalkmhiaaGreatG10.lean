/- C. -/
import Derived.Test.YtokdjfoalkmhiaaGreatG1
import Derived.Test.YtokdjfoalkmhiaaGreatG3
import Derived.Test.YtokdjfoalkmhiaaGreatG6
import Derived.Test.YtokdjfoalkmhiaaGreatG7
import Derived.Test.YtokdjfoalkmhiaaGreatG8
import Derived.Test.YtokdjfoalkmhiaaGreatG9
set_option linter.unusedVariables false
set_option maxRecDepth 100000
set_option maxHeartbeats 25600000
namespace Go.Proofs.YtokdjfoalkmhiaaGreat
open Go.RowKit
theorem jiB {w:World} {B e s n G i:Nat} {xs vs:List Value} {ROW:Array Value} (hB:B≤w.heap.size) (hG:n+1≤G) (hm:G≤maxLen) (hi:i≤n) (hx:xs.length=n*s) (hv:vs.length=s) (hR:ROW.size=G*s) (hr:∀t,t<i*s→ROW[t]?=xs[t]?) :
 (((w.alloc (.cells ROW e)).setCells w.heap.size (i*s) vs).setCells w.heap.size ((i+1)*s) (xs.drop (i*s))).ownsRow B e s (.slice (some ⟨w.heap.size,0,none⟩) (n+1) G) (n+1) (xs.take (i*s)++vs++xs.drop (i*s)):=by
 have hns:(n+1)*s≤G*s:=Nat.mul_le_mul_right s hG;have his:i*s≤n*s:=Nat.mul_le_mul_right s hi;have e0:(n+1)*s=n*s+s:=by rw[Nat.add_mul,Nat.one_mul]
 have e1:(i+1)*s=i*s+s:=by rw[Nat.add_mul,Nat.one_mul]
 have hld:(xs.drop (i*s)).length=n*s-i*s:=by rw[List.length_drop,hx]
 refine qx hB (Zg _ _ _ _ _ e (Zg vs _ _ _ _ e (World.alloc_heap_new w _))) hG hm (by rw[JA,JA];exact hR) (by rw[List.length_append,List.length_append,List.length_take,hld,hx,e0];omega) (fun t htl=>?_);rw[e0] at htl;rw[Zn _ _ _ _ (by rw[JA,hld,e1];omega),hld,e1];by_cases c1:t<i*s
 · rw[if_neg (by omega),Zn _ _ _ _ (by rw[hv];omega),if_neg (by omega),hr t c1,List.append_assoc,List.getElem?_append_left (by rw[List.length_take,hx];omega),List.getElem?_take,if_pos c1]
 · by_cases c2:t<i*s+s
   · rw[if_neg (by omega),Zn _ _ _ _ (by rw[hv];omega),hv,if_pos (by omega),List.append_assoc,List.getElem?_append_right (by rw[List.length_take,hx];omega),List.getElem?_append_left (by rw[List.length_take,hx,hv];omega),List.length_take,hx];congr 1
     omega
   · rw[if_pos (by omega),List.getElem?_append_right (by rw[List.length_append,List.length_take,hx,hv];omega),List.length_append,List.length_take,hx,hv];congr 1
     omega
def jfp (v:Value) (B n i:Nat) (xs vs:List Value) (w:World) (e:Ending) (w':World):Prop:=∃g c,e=.returned (.slice (some ⟨g,0,none⟩) (n+1) c)∧w'.ownsRow B 44 11 (.slice (some ⟨g,0,none⟩) (n+1) c) (n+1) (xs.take (i*11)++vs++xs.drop (i*11))∧jg (fun b=>v.ownBlock=some b) w w'∧(v.ownBlock=some g∨w.heap.size≤g)
theorem jio (v:Value) (n vb vc B:Nat) (xs vs:List Value) (w:World) (hown:w.ownsRow B 44 11 v n xs) (hbase:B≤w.heap.size) (hvl:vs.length=11) (h1v:∀u ∈ vs,u.oneCell'=true) (hvs:∀j u,vs[j]?=some u→w.cell? ⟨vb,j,none⟩=some u) (hbig:n≤100000) :
 Calls Tryz.prog 116 #[v,.int .i64 n,.slice (some ⟨vb,0,none⟩) 1 vc] w (jfp v B n n xs vs w):=by
 obtain⟨i0,hi0,hz0,hz1,hz2⟩:=info_parts qD;obtain⟨H,HL,RY,HB,H1,HV⟩:=lH6 hown (show xs.length=n*11 from hown.1) (show ∀j u,vs[j]?=some u→w.cell? ((⟨vb,0,none⟩:Addr).add j)=some u from fun j u h=>by rw[Addr.add_lit,Nat.zero_add];exact hvs j u h) hbase h1v (show vs.length=1*11 by rw[hvl]);have t23:=Tryz.underlying23;have key:∀(gg cap1:Nat) (w2:World),w2.ownsRow B 44 11 (.slice (some ⟨gg,0,none⟩) (n+1) cap1) (n+1) (xs++vs)→w.grownBy w2 v.ownBlock→(v.ownBlock=some gg∨gg=w.heap.size)→jfp v B n n xs vs w (.returned (.slice (some ⟨gg,0,none⟩) (n+1) cap1)) w2:=by
  intro gg cap1 w2 h1 h2 h3;refine⟨gg,cap1,rfl,?_,jg.grown h2 fun k e=>e,h3.imp id fun e=>by omega⟩;rw[←HL.out,List.take_length,List.drop_length,List.append_nil];exact h1
 have HK:=lH key;rcases hown.2 with ⟨rfl,h0⟩ | ⟨g,c,cur,rfl,hb,hg,hnc,hcm,-⟩
 · subst h0;clear hown hvl h1v hvs hbase key;go_enter Tryz.func116,Tryz.ntmps116;go_wp2_with (at_builtin;refine wpList_append_lies _ rfl _ _ _ rfl B 44 i0 _ 11 184 t23 hi0 hz0 hz1 hz2 rfl (by decide) (.slice none 0 0) 0 xs rfl H.out ⟨vb,0,none⟩ 1 vc vs rfl HV.out RY.out H1.out (by decide) (by unfold maxLen;omega) (by omega) HB.out w.heap.size rfl ?_;intro gg cap1 w2 hown1 hgrow hat hlt1)
   have HR:=lH (HK.out gg cap1 w2 hown1 hgrow hat);clear hown1 hgrow hat hlt1;go_wp2;go_ret;exact HR.out
 · have hc':c≤9223372036854775807:=by unfold maxLen at hcm;omega
   clear hown hvl h1v hvs hbase key hb hg;go_enter Tryz.func116,Tryz.ntmps116;go_wp2_with (at_builtin;refine wpList_append_lies _ rfl _ _ _ rfl B 44 i0 _ 11 184 t23 hi0 hz0 hz1 hz2 rfl (by decide) (.slice (some ⟨g,0,none⟩) n c) n xs rfl H.out ⟨vb,0,none⟩ 1 vc vs rfl HV.out RY.out H1.out (by decide) (by unfold maxLen;omega) (by omega) HB.out w.heap.size rfl ?_;intro gg cap1 w2 hown1 hgrow hat hlt1)
   all_goals
    have HR:=lH (HK.out gg cap1 w2 hown1 hgrow hat);clear hown1 hgrow hat hlt1;go_wp2;go_ret;exact HR.out
theorem jfL (g n c i vb m vc B:Nat) (xs vs:List Value) (w:World) (hown:w.ownsRow B 44 11 (.slice (some ⟨g,0,none⟩) n c) n xs) (hi:i<n) (hm1:m=1) (hroom:n+m≤c) (hvb:vb≠g) (h1c:∀u ∈ xs,u.oneCell'=true) (hvl:vs.length=m*11) (h1v:∀u ∈ vs,u.oneCell'=true) (hvs:∀j u,vs[j]?=some u→w.cell? ⟨vb,j,none⟩=some u)
 (tA:TypeId) (kA:Nat) (hsa:w.shape? vb=some (tA,kA)) (hfa:w.frozen? ⟨vb,0,none⟩=false) (hfe:w.frozen? ⟨vb,kA,none⟩=false) :
 Calls Tryz.prog 116 #[.slice (some ⟨g,0,none⟩) n c,.int .i64 i,.slice (some ⟨vb,0,none⟩) m vc] w fun e w'=>e=.returned (.slice (some ⟨g,0,none⟩) (n+m) c)∧w'=(w.drew.setCells g ((i+m)*11) (xs.drop (i*11))).setCells g (i*11) vs:=by
 obtain⟨i0,hi0,hz0,hzs,hzb⟩:=info_parts qD;obtain⟨cur,hB,hg,hn,hcm,hs,ht,hl⟩:=Jw hown;have hm:0<m:=by omega
 have hc63:c≤9223372036854775807:=by unfold maxLen at hcm;omega
 have t23:=Tryz.underlying23;have hfr:∀t,w.frozen? ⟨g,t,none⟩=false:=fun t=>hown.frozenAt t;have hcell:∀t,t<n*11→w.cell? ⟨g,t,none⟩=xs[t]?:=fun t h=>hown.cellAt t h;have hsp:∀t,t<(n+m)*11→(w.cell? ⟨g,t,none⟩).isSome=true:=fun t h=>by
  rw[Lib.cell_of_heap hg,Array.getElem?_eq_getElem (by rw[hs];exact Nat.lt_of_lt_of_le h (Nat.mul_le_mul_right 11 hroom))];rfl
 have hz1:¬((m:Int)=0):=by omega
 have hz2:¬((i:Int)=(n:Int)):=by omega
 have hdl:(xs.drop (i*11)).length=n*11-i*11:=by rw[List.length_drop,hl]
 have hks:cur.size≠0:=by rw[hs];omega
 have hsb:w.shape? g=some (44,cur.size):=by unfold World.shape?;rw[hg]
 have hov:∀lb cb,(callFunc 174 #[.slice (some ⟨vb,0,none⟩) m vc,.slice (some ⟨g,(i+m)*11,none⟩) lb cb]).run Tryz.prog w=.ok (.value (.bool false)) w:=fun lb cb=>by
  rw[run_callFunc_extern Tryz.func174 (by kernel_rfl) (by kernel_rfl) (by kernel_rfl) (e:=Extern.SlicesOverlaps.overlaps #[23,23] #[4]) (by kernel_rfl),
   Lib.run_overlaps_apart w 23 4 44 t23 11 (fun w=>by simp[sizeOf,typeInfo,hi0,hzs]) ⟨vb,0,none⟩ ⟨g,(i+m)*11,none⟩ m vc lb cb hvb tA 44 kA cur.size hsa hsb hks hfa hfe]
  rfl
 have hw1:IntKind.i64.wrap ((i:Int)+(m:Int))=(i:Int)+(m:Int):=by rw[IntKind.wrap_i64];omega
 have hb1:(0:Int)≤(i:Int)+(m:Int):=by omega
 have hin:i≤n:=by omega
 have htn:((i:Int)+(m:Int)).toNat=i+m:=by omega
 have hb2:¬(c=i+m):=by omega
 have hb3:(i:Int)≤(n:Int)+(m:Int):=by omega
 have hb4:¬(c=i):=by omega
 have hcp1:∀ty dc sc,(Builtin.copy_ #[23,23] ty #[.slice (some ⟨g,(i+m)*11,none⟩) (n+m-(i+m)) dc,.slice (some ⟨g,i*11,none⟩) (n+m-i) sc]).run Tryz.prog w.drew=.ok (goInt (Nat.min (n+m-i) (n+m-(i+m)))) (w.drew.setCells g ((i+m)*11) (xs.drop (i*11))):=fun ty dc sc =>
  Yw w.drew _ _ ty 44 i0 g ((i+m)*11) (n+m-(i+m)) dc ⟨g,i*11,none⟩ (n+m-i) sc (xs.drop (i*11)) t23 hi0 (by rw[hdl,hzs];simp only[Nat.min_def];split<;>omega)
   (fun j v hj=>by rw[Addr.add_lit];rw[List.getElem?_drop] at hj;have:=(List.getElem?_eq_some_iff.1 hj).1;exact(hcell _ (by omega)).trans hj)
   (fun j hj=>hsp _ (by omega)) (fun j hj=>hfr _) (fun v hv=>h1c v (List.mem_of_mem_drop hv))
 obtain⟨W1,hW1⟩:∃W1,W1=w.drew.setCells g ((i+m)*11) (xs.drop (i*11)):=⟨_,rfl⟩
 have hsp1:∀k,k<(n+m)*11→(W1.cell? ⟨g,k,none⟩).isSome=true:=fun k hk=>by
  rw[hW1];exact isSome_setCells g (xs.drop (i*11)) ((i+m)*11) w.drew (fun j hj=>hsp _ (by rw[hdl] at hj;omega)) k (hsp k hk)
 have hcp2:∀(W:World),(∀x,W.cell? x=W1.cell? x)→(∀x,W.frozen? x=W1.frozen? x)→∀ty dc,(Builtin.copy_ #[23,23] ty #[.slice (some ⟨g,i*11,none⟩) (n+m-i) dc,.slice (some ⟨vb,0,none⟩) m vc]).run Tryz.prog W=.ok (goInt (Nat.min m (n+m-i))) (W.setCells g (i*11) vs):=fun W hWc hWf ty dc =>
  Yw W _ _ ty 44 i0 g (i*11) (n+m-i) dc ⟨vb,0,none⟩ m vc vs t23 hi0 (by rw[hvl,hzs];simp only[Nat.min_def];split<;>omega)
   (fun j v hj=>by
     rw[Addr.add_lit,hWc,hW1,World.cell?_setCells_out g _ _ _ _ (fun h _=>absurd h hvb),Nat.zero_add];exact hvs j v hj)
   (fun j hj=>by rw[hWc];exact hsp1 _ (by omega)) (fun j hj=>by rw[hWf,hW1,World.frozen?_setCells];exact hfr _) h1v
 rw[←hW1] at hcp1;clear hown hB hg hcm hs ht hl hm1 hsa hsb hfa hfe hks;go_enter Tryz.func116,Tryz.ntmps116;go_wp2_with (simp only[hov])
 go_region_law (refine step_copy_runI rfl _ _ 23 23 rfl _ _ (by simp[Act.eval,Act.put]) (by simp[Act.eval,Act.put]) (hcp1 _ _ _) ?_)
 go_wp2_with (at_builtin;refine wpList_copy_runI _ rfl _ _ 23 23 rfl _ _ rfl rfl (hcp2 _ (fun _=>rfl) (fun _=>rfl) _ _) ?_)
 go_ret;first | exact⟨rfl,rfl⟩ | exact⟨rfl,by rw[hW1]⟩
theorem jgT (g n c i vb m vc B:Nat) (xs vs:List Value) (w:World) (hown:w.ownsRow B 44 11 (.slice (some ⟨g,0,none⟩) n c) n xs) (hi:i<n) (hm:0<m) (hroom:c<n+m) (hbig:n+m≤100001) (h1c:∀u ∈ xs,u.oneCell'=true) (hvl:vs.length=m*11) (h1v:∀u ∈ vs,u.oneCell'=true) (hvs:∀j u,vs[j]?=some u→w.cell? ⟨vb,j,none⟩=some u) :
 Calls Tryz.prog 116 #[.slice (some ⟨g,0,none⟩) n c,.int .i64 i,.slice (some ⟨vb,0,none⟩) m vc] w fun e w'=>∃G ROW,n+m≤G∧G≤maxLen∧ROW=(xs.take (i*11)).toArray++Builtin.zeroCells zQ (n+m-i)++Builtin.zeroCells zQ (G-(n+m))∧e=.returned (.slice (some ⟨w.heap.size,0,none⟩) (n+m) G) ∧
  w'=(((w.alloc (.cells ROW 44)).drew.setCells w.heap.size (i*11) vs).drew).setCells w.heap.size ((i+m)*11) (xs.drop (i*11)):=by
 obtain⟨i0,hi0,hz0,hzs,hzb⟩:=info_parts qD;obtain⟨cur,hB,hg,hnc,hcm,hs,ht,hl⟩:=Jw hown;have t23:=Tryz.underlying23;have hcell:∀t,t<n*11→w.cell? ⟨g,t,none⟩=xs[t]?:=fun t h=>hown.cellAt t h;have hcs:∀t v,xs[t]?=some v→w.cell? ⟨g,t,none⟩=some v:=fun t v h=>(hcell t (by rw[←hl];exact(List.getElem?_eq_some_iff.1 h).1)).trans h;have hz1:¬((m:Int)=0):=by omega
 have hz2:¬((i:Int)=(n:Int)):=by omega
 have hz3:(c:Int)<(n:Int)+(m:Int):=by omega
 have hbw:g<w.heap.size:=(hown.lt g rfl).2;have hvw:vb<w.heap.size:=World.block_lt_of_cell? _ _ (hvs 0 _ (List.getElem?_eq_getElem (by omega)));have hkk:(n:Int)+(m:Int)-(i:Int)=((n+m-i:Nat):Int):=by omega
 have hik:i+(n+m-i)=n+m:=by omega
 have hold:(Builtin.firstCells i0.size i (.slice (some ⟨g,0,none⟩) i c)).run Tryz.prog w.drew=.ok (xs.take (i*11)).toArray w.drew:=by
  rw[hzs];exact run_firstCells_some w.drew 11 i ⟨g,0,none⟩ i c (xs.take (i*11)) (by rw[List.length_take,hl];omega) (fun j v hj=>by
   rw[Addr.add_lit,Nat.zero_add];rw[List.getElem?_take] at hj;split at hj
   · exact hcs j v hj
   · cases hj)
 have hrz:∀ty,(Builtin.append_ #[23,3] ty #[.slice (some ⟨g,0,none⟩) i c,.int .i64 ((n:Int)+(m:Int)-(i:Int))]).run Tryz.prog w =
  .ok (.slice (some ⟨w.heap.size,0,none⟩) (n+m) (grownCap w (n+m) c 44)) (w.drew.alloc (.cells ((xs.take (i*11)).toArray++Builtin.zeroCells zQ (n+m-i)++Builtin.zeroCells zQ (grownCap w (n+m) c 44-(n+m))) 44)):=fun ty=>by
  have h:=Lib.run_append_grow_zeros w 23 3 ty 44 i0 (.agg zQ) .i64 .i64 t23 Tryz.underlying3 hi0 hz0 (some ⟨g,0,none⟩) i c (xs.take (i*11)) hold (n+m-i) (by omega) (by omega) (by omega) (by omega) (by rw[hzb];omega) (by rw[hzb,hik];exact growslice_fits hroom (by omega));rw[hik] at h;rw[hkk];exact h
 obtain⟨G,hG⟩:∃G,G=grownCap w (n+m) c 44:=⟨_,rfl⟩
 obtain⟨ROW,hROW⟩:∃ROW:Array Value,ROW=(xs.take (i*11)).toArray++Builtin.zeroCells zQ (n+m-i)++Builtin.zeroCells zQ (G-(n+m)):=⟨_,rfl⟩
 rw[←hG] at hrz;rw[←hROW] at hrz;have hGn:n+m≤G:=by rw[hG];exact grownCap_ge w _ _ _
 have hGM:G≤maxLen:=by rw[hG];exact grownCap_le_maxLen w (n+m) c 44 (by unfold maxLen;omega)
 have hG63:G≤9223372036854775807:=by unfold maxLen at hGM;omega
 have hRl:ROW.size=G*11:=by
  rw[hROW,Array.size_append,Array.size_append,Ze,Ze,List.size_toArray,List.length_take,hl];omega
 obtain⟨W1,hW1⟩:∃W1,W1=w.drew.alloc (.cells ROW 44):=⟨_,rfl⟩
 rw[←hW1] at hrz;have hN:∀j,j<(n+m)*11→(W1.cell? ⟨w.heap.size,j,none⟩).isSome=true:=fun j hj=>by
  rw[hW1,World.cell?_alloc_at (w:=w.drew) ROW _ w.heap.size j rfl,Array.getElem?_eq_getElem (by rw[hRl];exact Nat.lt_of_lt_of_le hj (Nat.mul_le_mul_right 11 hGn))];rfl
 have hNf:∀j,W1.frozen? ⟨w.heap.size,j,none⟩=false:=fun j=>by rw[hW1];exact World.frozen?_alloc_at (w:=w.drew) ROW _ w.heap.size j rfl
 have hOb:∀j v,w.cell? ⟨g,j,none⟩=some v→W1.cell? ⟨g,j,none⟩=some v:=fun j v h=>by rw[hW1,World.cell?_alloc_past (w:=w.drew) _ g j hbw];exact h
 have hOv:∀j v,w.cell? ⟨vb,j,none⟩=some v→W1.cell? ⟨vb,j,none⟩=some v:=fun j v h=>by rw[hW1,World.cell?_alloc_past (w:=w.drew) _ vb j hvw];exact h
 have hcpA:∀(W:World),(∀x,W.cell? x=W1.cell? x)→(∀x,W.frozen? x=W1.frozen? x)→∀ty dc,(Builtin.copy_ #[23,23] ty #[.slice (some ⟨w.heap.size,i*11,none⟩) (n+m-i) dc,.slice (some ⟨vb,0,none⟩) m vc]).run Tryz.prog W=.ok (goInt (Nat.min m (n+m-i))) (W.setCells w.heap.size (i*11) vs):=fun W hWc hWf ty dc =>
  Yw W _ _ ty 44 i0 w.heap.size (i*11) (n+m-i) dc ⟨vb,0,none⟩ m vc vs t23 hi0 (by rw[hvl,hzs];simp only[Nat.min_def];split<;>omega)
   (fun j v hj=>by rw[Addr.add_lit,hWc,Nat.zero_add];exact hOv _ v (hvs j v hj))
   (fun j hj=>by rw[hWc];exact hN _ (by omega)) (fun j hj=>by rw[hWf];exact hNf _) h1v
 have hGi:¬(G=i):=by omega
 have hGim:¬(G=i+m):=by omega
 have hci:¬(c=i):=by omega
 have hbN:g≠w.heap.size:=by omega
 have hdl:(xs.drop (i*11)).length=n*11-i*11:=by rw[List.length_drop,hl]
 have hcpB:∀(W:World),(∀x,W.cell? x=(W1.setCells w.heap.size (i*11) vs).cell? x)→(∀x,W.frozen? x=(W1.setCells w.heap.size (i*11) vs).frozen? x)→∀ty dc sc,(Builtin.copy_ #[23,23] ty #[.slice (some ⟨w.heap.size,(i+m)*11,none⟩) (n+m-(i+m)) dc,.slice (some ⟨g,i*11,none⟩) (n-i) sc]).run Tryz.prog W=.ok (goInt (Nat.min (n-i) (n+m-(i+m)))) (W.setCells w.heap.size ((i+m)*11) (xs.drop (i*11))):=fun W hWc hWf ty dc sc =>
  Yw W _ _ ty 44 i0 w.heap.size ((i+m)*11) (n+m-(i+m)) dc ⟨g,i*11,none⟩ (n-i) sc (xs.drop (i*11)) t23 hi0 (by rw[hdl,hzs];simp only[Nat.min_def];split<;>omega)
   (fun j v hj=>by
     rw[Addr.add_lit,hWc,World.cell?_setCells_out _ _ _ _ _ (fun h _=>absurd h hbN)];exact hOb _ v (hcs (i*11+j) v (by rwa [List.getElem?_drop] at hj)))
   (fun j hj=>by rw[hWc];exact isSome_setCells _ _ _ _ (fun t ht=>hN _ (by omega)) _ (hN _ (by omega)))
   (fun j hj=>by rw[hWf,World.frozen?_setCells];exact hNf _) (fun v hv=>h1c v (List.mem_of_mem_drop hv))
 subst hW1;have hE1:∀x,((w.alloc (.cells ROW 44)).drew).cell? x=(w.drew.alloc (.cells ROW 44)).cell? x:=fun x=>rfl;have hE2:∀x,((w.alloc (.cells ROW 44)).drew).frozen? x=(w.drew.alloc (.cells ROW 44)).frozen? x:=fun x=>rfl;have hF1:∀x,(((w.alloc (.cells ROW 44)).drew.setCells w.heap.size (i*11) vs).drew).cell? x=((w.drew.alloc (.cells ROW 44)).setCells w.heap.size (i*11) vs).cell? x:=fun x=>rfl;have hF2:∀x,(((w.alloc (.cells ROW 44)).drew.setCells w.heap.size (i*11) vs).drew).frozen? x=((w.drew.alloc (.cells ROW 44)).setCells w.heap.size (i*11) vs).frozen? x:=fun x=>rfl;have hw1:IntKind.i64.wrap ((i:Int)+(m:Int))=(i:Int)+(m:Int):=by rw[IntKind.wrap_i64];omega
 have hb1:(0:Int)≤(i:Int)+(m:Int):=by omega
 have hin:i≤n:=by omega
 have htn:((i:Int)+(m:Int)).toNat=i+m:=by omega
 have hb3:(i:Int)≤(n:Int):=by omega
 have V9:=lH hROW;have NC:=lH hGM;clear hkk hik hold hROW hG hRl hGM hown hB hg hcm hs ht hl;go_enter Tryz.func116,Tryz.ntmps116
 go_wp2_with (first
  | (at_builtin;refine Lib.wpList_append_run _ rfl _ _ _ _ rfl _ _ rfl rfl _ _ (hrz _) ?_)
  | (at_builtin;refine wpList_copy_runI _ rfl _ _ 23 23 rfl _ _ rfl rfl (hcpA _ hE1 hE2 _ _) ?_)
  | (at_builtin;refine wpList_copy_runI _ rfl _ _ 23 23 rfl _ _ rfl rfl (hcpB _ (fun _=>rfl) (fun _=>rfl) _ _ _) ?_))
 go_region_law (refine step_copy_runI rfl _ _ 23 23 rfl (.slice (some ⟨w.heap.size,(i+m)*11,none⟩) (n+m-(i+m)) (G-(i+m))) (.slice (some ⟨g,i*11,none⟩) (n-i) (c-i)) (by simp[Act.eval,Act.put]) (by simp[Act.eval,Act.put]) (hcpB _ hF1 hF2 3 (G-(i+m)) (c-i)) ?_)
 go_wp2;go_ret;exact⟨G,ROW,hGn,NC.out,V9.out,rfl,rfl⟩
theorem jgM (v:Value) (n i vb vc B:Nat) (xs vs:List Value) (w:World) (hown:w.ownsRow B 44 11 v n xs) (hbase:B≤w.heap.size) (hi:i≤n) (h1c:∀u ∈ xs,u.oneCell'=true) (hvl:vs.length=11) (h1v:∀u ∈ vs,u.oneCell'=true) (hvs:w.heap[vb]?=some (.cells vs.toArray 44)) (hvb:v.ownBlock≠some vb) (hbig:n≤100000) :
 Calls Tryz.prog 116 #[v,.int .i64 i,.slice (some ⟨vb,0,none⟩) 1 vc] w (jfp v B n i xs vs w):=by
 have hcv:∀j u,vs[j]?=some u→w.cell? ⟨vb,j,none⟩=some u:=fun j u h=>by rw[Lib.cell_of_heap hvs];simpa using h
 by_cases he:i=n
 · subst he;exact jio v i vb vc B xs vs w hown hbase hvl h1v hcv hbig
 · have hlt:i<n:=by omega
   rcases hown.2 with ⟨rfl,h0⟩ | ⟨g,c,cur,rfl,hb,hg,hnc,hcm,-⟩
   · omega
   · have hfz:∀t,w.frozen? ⟨vb,t,none⟩=false:=fun t=>by unfold World.frozen?;rw[show w.heap[(⟨vb,t,none⟩:Addr).block]?=some (.cells vs.toArray 44 (0,0)) from hvs];simp
     by_cases hr:n+1≤c
     · refine(jfL g n c i vb 1 vc B xs vs w hown hlt rfl hr (fun e=>hvb (by rw[e];rfl)) h1c (by rw[hvl]) h1v hcv 44 vs.toArray.size (by unfold World.shape?;rw[hvs]) (hfz _) (hfz _)).mono ?_;rintro e w' ⟨rfl,rfl⟩;exact⟨g,c,rfl,jiJ (w:=w.drew) (X9 hown) hi hvl hr,(((jg.drew w).trans (jg.cells (S:=fun b=>(Value.slice (some ⟨g,0,none⟩) n c).ownBlock=some b) g rfl _ _ _)).trans (jg.cells (S:=fun b=>(Value.slice (some ⟨g,0,none⟩) n c).ownBlock=some b) g rfl _ _ _)),.inl rfl⟩
     · refine(jgT g n c i vb 1 vc B xs vs w hown hlt (by decide) (by omega) (by omega) h1c (by rw[hvl]) h1v hcv).mono ?_;rintro e w' ⟨G,ROW,h1,h2,hROW,rfl,rfl⟩;have hl:xs.length=n*11:=hown.1;have hRl:ROW.size=G*11:=by
        rw[hROW,Array.size_append,Array.size_append,Ze,Ze,List.size_toArray,List.length_take,hl];omega
       have hrow:∀t,t<i*11→ROW[t]?=xs[t]?:=fun t ht=>by
        rw[hROW,Array.append_assoc,Array.getElem?_append_left (by rw[List.size_toArray,List.length_take,hl];omega),List.getElem?_toArray,List.getElem?_take,if_pos ht]
       refine⟨w.heap.size,G,rfl,?_,?_,.inr (Nat.le_refl _)⟩
       · simp only[←drew_setCells];exact X9 (X9 (jiB (w:=w) hbase h1 h2 hi hl hvl hRl hrow))
       · have k:Kept w (((w.alloc (.cells ROW 44)).drew.setCells w.heap.size (i*11) vs).drew.setCells w.heap.size ((i+1)*11) (xs.drop (i*11))) :=
          jt _ _ _ _ _ _ (Nat.le_refl _) (Below.drew (jt _ _ _ _ _ _ (Nat.le_refl _) (Below.drew (ja w _))))
         exact jg.of k
theorem jb7 (x:ByteArray):∀l:List Pd,(zc x l).length≤l.length
 | []=>Nat.le_refl _
 | p::t=>by
  rw[zc];split
  · simp
  · have:=jb7 x t;simp;omega
theorem YY {S:Nat→Prop} {B i len cap vb vc:Nat} {ap:Option Addr} {w:World} {v1 v3:Value} {s:Clu} (h:jO S B w v1 (.slice ap len cap) v3 s) (z:PX) (hi:i≤len) (hlen:len≤100000) (hB:B≤w.heap.size) (hS:∀k,S k→k<w.heap.size) (hvs:w.heap[vb]?=some (.cells (PodLay0.cs z).toArray 44)) (hvb:(Value.slice ap len cap).ownBlock≠some vb)
 (hz:Off (fun b=>S b∨(Value.slice ap len cap).ownBlock=some b) w fun u=>At4 u z) :
 Calls Tryz.prog 116 #[.slice ap len cap,.int .i64 i,.slice (some ⟨vb,0,none⟩) 1 vc] w fun e w'=>∃g c,e=.returned (.slice (some ⟨g,0,none⟩) (len+1) c)∧jO S B w' v1 (.slice (some ⟨g,0,none⟩) (len+1) c) v3 { s with pods:=s.pods.take i++z.1::s.pods.drop i }∧jg (fun b=>(Value.slice ap len cap).ownBlock=some b) w w':=by
 obtain⟨lx,hmap,hown,hd⟩:=h.pods;obtain⟨a',c',e',_⟩:=hown.at_;have hll:lx.length=len:=by cases e';rfl
 have hx:je PodLay0 (lx.take i++z::lx.drop i)=(je PodLay0 lx).take (i*11)++PodLay0.cs z++(je PodLay0 lx).drop (i*11):=by
  rw[show z::lx.drop i=[z]++lx.drop i from rfl,JD,JD,Xr,jaz];unfold je;simp[PodLay0]
 refine(jgM _ len i vb vc B (je PodLay0 lx) (PodLay0.cs z) w (by have:=hown.1;rw[hll] at this;exact this) hB hi (Jk _ _) rfl (qL z) hvs hvb hlen).mono ?_;rintro e w' ⟨g,c,rfl,ho,hg,hn⟩;have hn':∀k,(Value.slice (some ⟨g,0,none⟩) (len+1) c).ownBlock=some k→(Value.slice ap len cap).ownBlock=some k∨w.heap.size≤k:=fun k hk=>by
  obtain rfl:g=k:=Option.some.inj hk;exact hn
 have hd':∀y ∈ lx.take i++z::lx.drop i,Off (fun b=>S b∨(Value.slice ap len cap).ownBlock=some b) w fun u=>At4 u y:=fun y hy=>by
  rcases List.mem_append.1 hy with hy | hy
  · exact hd y (List.mem_of_mem_take hy)
  · rcases List.mem_cons.1 hy with rfl | hy
    · exact hz
    · exact hd y (List.mem_of_mem_drop hy)
 refine⟨g,c,rfl,h.turn hg hn' hS ⟨lx.take i++z::lx.drop i,by rw[List.map_append,List.map_cons,List.map_take,List.map_drop,hmap],⟨?_,fun x hx=>trivial⟩,jO.els (B:=B) hd' hg hn'⟩,hg⟩;have h2:(lx.take i++z::lx.drop i).length=len+1:=by rw[List.length_append,List.length_cons,List.length_take,List.length_drop,hll];omega
 rw[h2,hx];exact ho
theorem jj4 (a b d:Option Addr) (len cap m c n e:Nat) (nl:List Nod) (pl:List Pd) (bl:List Bd) (p:Pd) (s1 s2 s3 s4:Option Addr) (t1 u1 t2 u2 t3 u3 t4 u4:Nat) (w:World) (hn:jo w a len nl) (hp:jy w b m pl) (hb:j9 w d n bl) (h1:len≤cap) (h2:cap≤maxLen) (h3:m≤c) (h4:c≤maxLen) (h5:n≤e) (h6:e≤maxLen) (hl:jE ⟨nl,pl,bl⟩) (hP:ji w (.slice s1 t1 u1) (.slice s2 t2 u2) (.slice s3 t3 u3) (.slice s4 t4 u4) p) (hLP:JO p) :
 Calls Tryz.prog 57 #[.agg #[.slice a len cap,.slice b m c,.slice d n e],jx p (.slice s1 t1 u1) (.slice s2 t2 u2) (.slice s3 t3 u3) (.slice s4 t4 u4)] w fun e w'=>∃a1 n1 c1 a2 n2 c2 a3 n3 c3,e=.returned (.agg #[.slice a1 n1 c1,.slice a2 n2 c2,.slice a3 n3 c3])∧jO (fun b=>b<w.heap.size) w.heap.size w' (.slice a1 n1 c1) (.slice a2 n2 c2) (.slice a3 n3 c3) (Jv ⟨nl,pl,bl⟩ p)∧Kept w w':=by
 obtain⟨p0,p1,p2,q1,q2,q3,q4,p3,p4,p5,p6⟩:=p;obtain⟨Z,hZ⟩:=eX (((w.alloc (.cells #[.slice a len cap,.slice b m c,.slice d n e] 26)).alloc (.cells #[.string p0,.string p1,.int .i64 p2,.slice s1 t1 u1,.slice s2 t2 u2,.slice s3 t3 u3,.slice s4 t4 u4,.string p3,.int .i64 p4,.string p5,.bool p6] 44)).alloc (.cells #[.slice none 0 0,.slice none 0 0,.slice none 0 0] 26))
 have hkz:Kept w Z:=by rw[←hZ];exact(jn _ _ _).trans (ja _ _)
 have hzs:Z.heap.size=w.heap.size+3:=by rw[←hZ];simp
 have cc:=jc w (.slice a len cap) [.slice b m c,.slice d n e] 26 Z (by rw[←hZ];exact jn _ _ _);have o0:=cc.at_ 0 _ rfl;have o1:=cc.at_ 1 _ rfl;have o2:=cc.at_ 2 _ rfl;have Vz:=lH (show jf (w.heap.size+1) [.string p0,.string p1,.int .i64 p2,.slice s1 t1 u1,.slice s2 t2 u2,.slice s3 t3 u3,.slice s4 t4 u4,.string p3,.int .i64 p4,.string p5,.bool p6] Z by
  have dd:=jc (w.alloc (.cells #[.slice a len cap,.slice b m c,.slice d n e] 26)) (.string p0) [.string p1,.int .i64 p2,.slice s1 t1 u1,.slice s2 t2 u2,.slice s3 t3 u3,.slice s4 t4 u4,.string p3,.int .i64 p4,.string p5,.bool p6] 44 Z (by rw[←hZ];exact ja _ _);rw[World.size_alloc] at dd;exact dd)
 have HQ:=lH (show jf (w.heap.size+2) [.slice none 0 0,.slice none 0 0,.slice none 0 0] Z by
  have dd:=jc ((w.alloc (.cells #[.slice a len cap,.slice b m c,.slice d n e] 26)).alloc (.cells #[.string p0,.string p1,.int .i64 p2,.slice s1 t1 u1,.slice s2 t2 u2,.slice s3 t3 u3,.slice s4 t4 u4,.string p3,.int .i64 p4,.string p5,.bool p6] 44)) (.slice none 0 0) [.slice none 0 0,.slice none 0 0] 26 Z (by rw[hZ];exact Kept.refl _);rw[World.size_alloc,World.size_alloc] at dd;exact dd)
 have y0:=Vz.out.at_ 0 _ rfl;obtain⟨HO,Vc,Vf,UI,Ts,Ud⟩:=lH6 (jcE a b d len cap m c n e nl pl bl p0 Z (hn.kept hkz) (hp.kept hkz) (hb.kept hkz) h1 h2 h3 h4 h5 h6 hl) hkz hzs hl.podsN (hP.kept hkz) hLP;clear hn hp hb h1 h2 h3 h4 h5 h6 hl hkz hzs cc hP hLP;unfold jx;dsimp only;go_enter Tryz.func57,Tryz.ntmps57;go_wp2_with fail
 try rw[hZ]
 go_wp2_with fail
 try rw[hZ]
 clear hZ o0 o1 o2 y0;refine HO.out.mono ?_;rintro e1 w1 ⟨a1,n1,c1,a2,n2,c2,a3,n3,c3,rfl,ho,k1⟩;obtain⟨W1,hW1⟩:=eX (w1.alloc (.cells #[.slice a1 n1 c1,.slice a2 n2 c2,.slice a3 n3 c3] 26))
 have hkw:Kept w1 W1:=by rw[←hW1];exact ja _ _
 obtain⟨HC,HW,HQ,Vz,Ts,K,Vn⟩:=lH7 (ho.more (q:=w1.heap.size) hkw (Nat.le_refl _)) (show jf w1.heap.size [.slice a1 n1 c1,.slice a2 n2 c2,.slice a3 n3 c3] W1 from jc w1 (.slice a1 n1 c1) [.slice a2 n2 c2,.slice a3 n3 c3] 26 W1 (by rw[hW1];exact Kept.refl _)) (HQ.out.kept (k1.trans hkw)) (Vz.out.kept (k1.trans hkw)) (Ts.out.kept (k1.trans hkw)) (k1.trans hkw) (show Z.heap.size≤w1.heap.size∧w1.heap.size<W1.heap.size from⟨k1.size,by rw[←hW1,World.size_alloc];exact Nat.lt_succ_self _⟩);clear ho k1 hkw;obtain⟨v1,v2,v3,hu,hat⟩:=HC.out.toR
 cases hu
 obtain⟨ap,cp,ep,l1,l2,hpat⟩:=hat.pods
 cases ep
 have UT:=lH hpat;clear hat l1 l2;have Tc:=lH (show (zG ⟨nl,pl,bl⟩ p0).pods.length≤100000 from Nat.le_trans (jb7 p0 pl) UI.out);obtain⟨l9,hl9⟩:=eX ((zG ⟨nl,pl,bl⟩ p0).pods)
 obtain⟨len9,hlen9⟩:=eX (l9.length)
 have Tt:=lH (show l9=zc p0 pl by rw[←hl9];rfl);have Ui:=lH hlen9;skip;rw[hl9] at UT Tc HW HC ⊢;rw[hlen9] at UT Tc HW HC ⊢;try rw[hl9] at hW1
 try rw[hlen9] at hW1
 have VG:=lH (show (zG ⟨nl,pl,bl⟩ p0)=⟨nl,l9,bl⟩ by rw[Tt.out];rfl);rw[VG.out] at HC;clear hl9 hlen9 hpat;go_wp2_with fail
 try rw[hW1]
 try clear hW1
 have HS:=lH (show ∀W,jf (w.heap.size+1) [.string p0,.string p1,.int .i64 p2,.slice s1 t1 u1,.slice s2 t2 u2,.slice s3 t3 u3,.slice s4 t4 u4,.string p3,.int .i64 p4,.string p5,.bool p6] W→W.cell? ⟨w.heap.size+1,0,none⟩=some (.string p0)∧W.cell? ⟨w.heap.size+1,1,none⟩=some (.string p1)∧W.cell? ⟨w.heap.size+1,2,none⟩=some (.int .i64 p2)∧W.cell? ⟨w.heap.size+1,3,none⟩=some (.slice s1 t1 u1)∧W.cell? ⟨w.heap.size+1,4,none⟩=some (.slice s2 t2 u2)∧W.cell? ⟨w.heap.size+1,5,none⟩=some (.slice s3 t3 u3)∧W.cell? ⟨w.heap.size+1,6,none⟩=some (.slice s4 t4 u4)∧W.cell? ⟨w.heap.size+1,7,none⟩=some (.string p3)∧W.cell? ⟨w.heap.size+1,8,none⟩=some (.int .i64 p4)∧W.cell? ⟨w.heap.size+1,9,none⟩=some (.string p5)∧W.cell? ⟨w.heap.size+1,10,none⟩=some (.bool p6) from fun W h=>⟨h.at_ 0 _ rfl,h.at_ 1 _ rfl,h.at_ 2 _ rfl,h.at_ 3 _ rfl,h.at_ 4 _ rfl,h.at_ 5 _ rfl,h.at_ 6 _ rfl,h.at_ 7 _ rfl,h.at_ 8 _ rfl,h.at_ 9 _ rfl,h.at_ 10 _ rfl⟩);have VN:=lH (fun W (k:Kept W1 W)=>Vz.out.kept k);skip;refine wp_region_held_drew (S:=fun W=>W.cell? ⟨w.heap.size+1,0,none⟩=some (.string p0)∧W.cell? ⟨w.heap.size+1,1,none⟩=some (.string p1)∧W.cell? ⟨w.heap.size+1,2,none⟩=some (.int .i64 p2)∧W.cell? ⟨w.heap.size+1,3,none⟩=some (.slice s1 t1 u1)∧W.cell? ⟨w.heap.size+1,4,none⟩=some (.slice s2 t2 u2)∧W.cell? ⟨w.heap.size+1,5,none⟩=some (.slice s3 t3 u3)∧W.cell? ⟨w.heap.size+1,6,none⟩=some (.slice s4 t4 u4)∧W.cell? ⟨w.heap.size+1,7,none⟩=some (.string p3)∧W.cell? ⟨w.heap.size+1,8,none⟩=some (.int .i64 p4)∧W.cell? ⟨w.heap.size+1,9,none⟩=some (.string p5)∧W.cell? ⟨w.heap.size+1,10,none⟩=some (.bool p6)) (by kernel_rfl) (HS.out _ (VN.out _ (Kept.drew _))) (fun hHeld=>?_);refine tkI 0 ?_;refine tkI 2 ?_;refine tkI 4 ?_;refine tkI 5 ?_;refine tkI 7 ?_;try simp only[nP]
 refine rdH (rs:=[1,3]) (h:=coH (fun K9 Ky=>?_) (coH (fun K9 Ky=>?_) AllReadyH.nil))
 · skip;have yq:W1.drew.cell? ⟨w1.heap.size,1,none⟩=some (.slice a2 len9 c2):=(HW.out.kept (Kept.drew W1)).at_ 1 _ rfl;go_simp;refine Ky.out _ _ (HS.out _ (VN.out _ (Kept.drew W1))) (fun _=>?_);clear Ky K9 yq;try simp only[nP]
   have yq:W1.drew.cell? ⟨w1.heap.size,1,none⟩=some (.slice a2 len9 c2):=HW.out.at_ 1 _ rfl;refine rd1 3 fun K9 Ky=>?_;go_simp;refine Ky.out _ _ (HS.out _ (VN.out _ (Kept.drew _))) (fun _=>?_);clear Ky K9 yq;try simp only[nP]
   refine rd1 6 fun K9 Ky=>?_;go_simp;refine(qi a2 len9 c2 l9 p0 _ (UT.out.kept (Kept.drew _))).mono ?_;rintro e2 w2 ⟨rfl,kk⟩;have J1:=lH ((Kept.drew W1).trans kk);clear kk;refine Ky.out _ _ (HS.out _ (VN.out _ J1.out)) (fun _=>?_);clear Ky K9;try simp only[nP]
   refine rd1 8 fun K9 Ky=>?_;go_simp;have VK:=Zt ⟨p0,p1,p2,q1,q2,q3,q4,p3,p4,p5,p6⟩ (.slice s1 t1 u1) (.slice s2 t2 u2) (.slice s3 t3 u3) (.slice s4 t4 u4) w2 (Ts.out.kept J1.out) Ud.out;unfold jx at VK;dsimp only at VK;refine VK.mono ?_;clear VK;rintro e3 w3 ⟨v,rfl,hv,kk⟩;have J2:=lH (J1.out.trans kk);obtain⟨x1,y1,z1,x2,y2,z2,x3,y3,z3,x4,y4,z4,hv9,sp,g1,g2,g3,g4⟩:=hv;have hv9:v=.agg #[.string p0,.string p1,.int .i64 p2,.slice x1 y1 z1,.slice x2 y2 z2,.slice x3 y3 z3,.slice x4 y4 z4,.string p3,.int .i64 p4,.string p5,.bool p6]:=hv9;subst hv9;have HG:=lH (show Z.heap.size≤w1.heap.size∧w1.heap.size<w2.heap.size from⟨Vn.out.1,Nat.lt_of_lt_of_le Vn.out.2 J1.out.size⟩);have Vy:=lH (show Off (fun b=>(b<Z.heap.size∨b=w1.heap.size)∨(Value.slice a2 len9 c2).ownBlock=some b) w3 fun u=>At4 u (⟨p0,p1,p2,q1,q2,q3,q4,p3,p4,p5,p6⟩,(x1,y1,z1),(x2,y2,z2),(x3,y3,z3),(x4,y4,z4)) from ji.off (B:=w2.heap.size) sp g1 g2 g3 g4 (fun b hb h=>by
    have h1:=HG.out;rcases h with (h | h) | h
    · omega
    · omega
    · have:=((HC.out.kept J1.out).lt b h).2;omega))
   clear kk sp g1 g2 g3 g4;refine Ky.out _ _ (HS.out _ (VN.out _ J2.out)) (fun _=>?_);clear Ky K9;try simp only[nP]
   refine rd1 9 fun K9 Ky=>?_;go_simp;obtain⟨J3,HV,Vy⟩:=lH3 (J2.out.trans (ja w3 (.cells #[.string p0,.string p1,.int .i64 p2,.slice x1 y1 z1,.slice x2 y2 z2,.slice x3 y3 z3,.slice x4 y4 z4,.string p3,.int .i64 p4,.string p5,.bool p6] 44))) (show (w3.alloc (.cells #[.string p0,.string p1,.int .i64 p2,.slice x1 y1 z1,.slice x2 y2 z2,.slice x3 y3 z3,.slice x4 y4 z4,.string p3,.int .i64 p4,.string p5,.bool p6] 44)).heap[w3.heap.size]?=some (.cells #[.string p0,.string p1,.int .i64 p2,.slice x1 y1 z1,.slice x2 y2 z2,.slice x3 y3 z3,.slice x4 y4 z4,.string p3,.int .i64 p4,.string p5,.bool p6] 44) from World.alloc_heap_new w3 _) (Vy.out.step (jg.of (ja w3 (.cells #[.string p0,.string p1,.int .i64 p2,.slice x1 y1 z1,.slice x2 y2 z2,.slice x3 y3 z3,.slice x4 y4 z4,.string p3,.int .i64 p4,.string p5,.bool p6] 44))));refine Ky.out _ _ (HS.out _ (VN.out _ J3.out)) (fun _=>?_);clear Ky K9;try simp only[nP]
   obtain⟨w4,hw4⟩:=eX (w3.alloc (.cells #[.string p0,.string p1,.int .i64 p2,.slice x1 y1 z1,.slice x2 y2 z2,.slice x3 y3 z3,.slice x4 y4 z4,.string p3,.int .i64 p4,.string p5,.bool p6] 44))
   rw[hw4] at J3 HV Vy ⊢;clear hw4;refine rd1 10 fun K9 Ky=>?_;go_simp;refine(YY (HC.out.kept J3.out) (⟨p0,p1,p2,q1,q2,q3,q4,p3,p4,p5,p6⟩,(x1,y1,z1),(x2,y2,z2),(x3,y3,z3),(x4,y4,z4)) (i:=placeN p0 l9) (by have:=XW p0 l9;rw[Ui.out] at this;exact this) Tc.out (by have:=J3.out.size;have:=Vn.out;omega) (fun b hb=>by have:=J3.out.size;have:=Vn.out;rcases hb with hb | hb<;>omega) HV.out (fun e=>by have h1:=((HC.out.kept J2.out).lt _ e).2;omega) Vy.out).mono ?_;rintro e5 w5 ⟨g,c9,rfl,hc5,hg5⟩;obtain⟨UC,VU,VS,V7,K5⟩:=lH5 hc5 (((HW.out.kept J3.out)).block (hg5.block _ (by have:=J3.out.size;have:=Vn.out;omega) (fun e=>HC.out.sep _ e (.inr rfl)))) ((HQ.out.kept J3.out).block (hg5.block _ (by have:=J3.out.size;have:=Vn.out;have:=Vf.out;omega) (fun e=>HC.out.sep _ e (.inl (by have:=Vf.out;omega))))) ((VN.out _ J3.out).block (hg5.block _ (by have:=J3.out.size;have:=Vn.out;have:=Vf.out;omega) (fun e=>HC.out.sep _ e (.inl (by have:=Vf.out;omega))))) (show Kept w w5 from Below.trans (Vc.out.trans (K.out.trans J3.out)) (hg5.at_below (B:=w.heap.size) (fun q e=>by have:=(HC.out.lt q e).1;have:=Vf.out;omega) (Vc.out.trans (K.out.trans J3.out)).size));clear hc5 hg5;refine Ky.out _ _ (HS.out _ V7.out) (fun _=>?_);clear Ky K9;try simp only[nP]
   refine tkI 11 ?_;try simp only[nP]
   have q1:=VU.out.at_ 1 _ rfl;have f1:=VU.out.free 1;refine rd1 12 fun K9 Ky=>?_;go_simp;obtain⟨UW,VM,Un,UX,K6⟩:=lH5 (V7.out.other (p:=w1.heap.size) (j:=1) (u:=.slice (some ⟨g,0,none⟩) (len9+1) c9) (by have:=Vn.out;have:=Vf.out;omega)) (VS.out.other (p:=w1.heap.size) (j:=1) (u:=.slice (some ⟨g,0,none⟩) (len9+1) c9) (by have:=Vn.out;have:=Vf.out;omega)) (show jf w1.heap.size [.slice a1 n1 c1,.slice (some ⟨g,0,none⟩) (len9+1) c9,.slice a3 n3 c3] (w5.setCell ⟨w1.heap.size,1,none⟩ (.slice (some ⟨g,0,none⟩) (len9+1) c9)) from VU.out.set (j:=1) (by simp)) (UC.out.step (jg.cell (S:=fun b=>b<Z.heap.size∨b=w1.heap.size) w1.heap.size 1 (.slice (some ⟨g,0,none⟩) (len9+1) c9) (.inr rfl))) (show Kept w (w5.setCell ⟨w1.heap.size,1,none⟩ (.slice (some ⟨g,0,none⟩) (len9+1) c9)) from K5.out.setCell (p:=⟨w1.heap.size,1,none⟩) (by have:=Vn.out;have:=Vf.out;show w.heap.size≤w1.heap.size;omega) _);refine Ky.out _ _ (HS.out _ UW.out) (fun _=>?_);clear Ky K9 q1 f1;try simp only[nP]
   refine wpAnyH_done (by kernel_rfl) ?_ _;obtain⟨y0,y1,y2⟩:=Un.out.at3;obtain⟨z0,z1,z2⟩:=VM.out.at3;have f0:=VM.out.free 0;have f1:=VM.out.free 1;have f2:=VM.out.free 2;have PP:=lH (j5 (vs:=[.slice a1 n1 c1,.slice (some ⟨g,0,none⟩) (len9+1) c9,.slice a3 n3 c3]) VM.out rfl);go_wp2;obtain⟨WE,hWE⟩:=eX ((w5.setCell ⟨w1.heap.size,1,none⟩ (.slice (some ⟨g,0,none⟩) (len9+1) c9)).setCells (w.heap.size+2) 0 [.slice a1 n1 c1,.slice (some ⟨g,0,none⟩) (len9+1) c9,.slice a3 n3 c3])
   have hWE2:((((w5.setCell ⟨w1.heap.size,1,none⟩ (.slice (some ⟨g,0,none⟩) (len9+1) c9)).setCell ⟨(w.heap.size+2),0,none⟩ (.slice a1 n1 c1)).setCell ⟨(w.heap.size+2),1,none⟩ (.slice (some ⟨g,0,none⟩) (len9+1) c9)).setCell ⟨(w.heap.size+2),2,none⟩ (.slice a3 n3 c3))=WE:=hWE;rw[hWE] at PP;try rw[hWE2]
   have GE:=lH (show jg (fun b=>b<Z.heap.size∨b=w1.heap.size) (w5.setCell ⟨w1.heap.size,1,none⟩ (.slice (some ⟨g,0,none⟩) (len9+1) c9)) WE by rw[←hWE];exact jg.cells (S:=fun b=>b<Z.heap.size∨b=w1.heap.size) _ (.inl (by have:=Vf.out;omega)) _ _ _);clear hWE hWE2;obtain⟨PCC,hsz,hbl,hkp⟩:=PP.out;refine bodyPost_ret (by simp[results,Tryz.results57,go_sem,PCC.at_ 0 _ rfl,PCC.at_ 1 _ rfl,PCC.at_ 2 _ rfl];try rfl) rfl ?_;have Vr:=(UX.out.step GE.out).less (B':=w.heap.size) (S':=fun b=>b<w.heap.size) Vc.out.size (fun b hb=>.inl (Nat.lt_of_lt_of_le hb Vc.out.size));rw[show l9.take (placeN p0 l9)++⟨p0,p1,p2,q1,q2,q3,q4,p3,p4,p5,p6⟩::l9.drop (placeN p0 l9)=JU ⟨p0,p1,p2,q1,q2,q3,q4,p3,p4,p5,p6⟩ (zc p0 pl) by rw[←Tt.out];exact YJ (p:=⟨p0,p1,p2,q1,q2,q3,q4,p3,p4,p5,p6⟩) (l:=l9)] at Vr;exact⟨_,_,_,_,_,_,_,_,_,rfl,Vr,hkp _ _ (by omega) K6.out⟩
 · skip;have yq:W1.drew.cell? ⟨w1.heap.size,1,none⟩=some (.slice a2 len9 c2):=HW.out.at_ 1 _ rfl;go_simp;refine Ky.out _ _ (HS.out _ (VN.out _ (Kept.drew _))) (fun _=>?_);clear Ky K9 yq;try simp only[nP]
   refine rdH (rs:=[1,6]) (h:=coH (fun K9 Ky=>?_) (coH (fun K9 Ky=>?_) AllReadyH.nil))
   · skip;have yq:W1.drew.cell? ⟨w1.heap.size,1,none⟩=some (.slice a2 len9 c2):=(HW.out.kept (Kept.drew W1)).at_ 1 _ rfl;go_simp;refine Ky.out _ _ (HS.out _ (VN.out _ (Kept.drew W1))) (fun _=>?_);clear Ky K9 yq;try simp only[nP]
     refine rd1 6 fun K9 Ky=>?_;go_simp;refine(qi a2 len9 c2 l9 p0 _ (UT.out.kept (Kept.drew _))).mono ?_;rintro e2 w2 ⟨rfl,kk⟩;have J1:=lH ((Kept.drew W1).trans kk);clear kk;refine Ky.out _ _ (HS.out _ (VN.out _ J1.out)) (fun _=>?_);clear Ky K9;try simp only[nP]
     refine rd1 8 fun K9 Ky=>?_;go_simp;have VK:=Zt ⟨p0,p1,p2,q1,q2,q3,q4,p3,p4,p5,p6⟩ (.slice s1 t1 u1) (.slice s2 t2 u2) (.slice s3 t3 u3) (.slice s4 t4 u4) w2 (Ts.out.kept J1.out) Ud.out;unfold jx at VK;dsimp only at VK;refine VK.mono ?_;clear VK;rintro e3 w3 ⟨v,rfl,hv,kk⟩;have J2:=lH (J1.out.trans kk);obtain⟨x1,y1,z1,x2,y2,z2,x3,y3,z3,x4,y4,z4,hv9,sp,g1,g2,g3,g4⟩:=hv;have hv9:v=.agg #[.string p0,.string p1,.int .i64 p2,.slice x1 y1 z1,.slice x2 y2 z2,.slice x3 y3 z3,.slice x4 y4 z4,.string p3,.int .i64 p4,.string p5,.bool p6]:=hv9;subst hv9;have HG:=lH (show Z.heap.size≤w1.heap.size∧w1.heap.size<w2.heap.size from⟨Vn.out.1,Nat.lt_of_lt_of_le Vn.out.2 J1.out.size⟩);have Vy:=lH (show Off (fun b=>(b<Z.heap.size∨b=w1.heap.size)∨(Value.slice a2 len9 c2).ownBlock=some b) w3 fun u=>At4 u (⟨p0,p1,p2,q1,q2,q3,q4,p3,p4,p5,p6⟩,(x1,y1,z1),(x2,y2,z2),(x3,y3,z3),(x4,y4,z4)) from ji.off (B:=w2.heap.size) sp g1 g2 g3 g4 (fun b hb h=>by
      have h1:=HG.out;rcases h with (h | h) | h
      · omega
      · omega
      · have:=((HC.out.kept J1.out).lt b h).2;omega))
     clear kk sp g1 g2 g3 g4;refine Ky.out _ _ (HS.out _ (VN.out _ J2.out)) (fun _=>?_);clear Ky K9;try simp only[nP]
     refine rd1 9 fun K9 Ky=>?_;go_simp;obtain⟨J3,HV,Vy⟩:=lH3 (J2.out.trans (ja w3 (.cells #[.string p0,.string p1,.int .i64 p2,.slice x1 y1 z1,.slice x2 y2 z2,.slice x3 y3 z3,.slice x4 y4 z4,.string p3,.int .i64 p4,.string p5,.bool p6] 44))) (show (w3.alloc (.cells #[.string p0,.string p1,.int .i64 p2,.slice x1 y1 z1,.slice x2 y2 z2,.slice x3 y3 z3,.slice x4 y4 z4,.string p3,.int .i64 p4,.string p5,.bool p6] 44)).heap[w3.heap.size]?=some (.cells #[.string p0,.string p1,.int .i64 p2,.slice x1 y1 z1,.slice x2 y2 z2,.slice x3 y3 z3,.slice x4 y4 z4,.string p3,.int .i64 p4,.string p5,.bool p6] 44) from World.alloc_heap_new w3 _) (Vy.out.step (jg.of (ja w3 (.cells #[.string p0,.string p1,.int .i64 p2,.slice x1 y1 z1,.slice x2 y2 z2,.slice x3 y3 z3,.slice x4 y4 z4,.string p3,.int .i64 p4,.string p5,.bool p6] 44))));refine Ky.out _ _ (HS.out _ (VN.out _ J3.out)) (fun _=>?_);clear Ky K9;try simp only[nP]
     obtain⟨w4,hw4⟩:=eX (w3.alloc (.cells #[.string p0,.string p1,.int .i64 p2,.slice x1 y1 z1,.slice x2 y2 z2,.slice x3 y3 z3,.slice x4 y4 z4,.string p3,.int .i64 p4,.string p5,.bool p6] 44))
     rw[hw4] at J3 HV Vy ⊢;clear hw4;refine rd1 10 fun K9 Ky=>?_;go_simp;refine(YY (HC.out.kept J3.out) (⟨p0,p1,p2,q1,q2,q3,q4,p3,p4,p5,p6⟩,(x1,y1,z1),(x2,y2,z2),(x3,y3,z3),(x4,y4,z4)) (i:=placeN p0 l9) (by have:=XW p0 l9;rw[Ui.out] at this;exact this) Tc.out (by have:=J3.out.size;have:=Vn.out;omega) (fun b hb=>by have:=J3.out.size;have:=Vn.out;rcases hb with hb | hb<;>omega) HV.out (fun e=>by have h1:=((HC.out.kept J2.out).lt _ e).2;omega) Vy.out).mono ?_;rintro e5 w5 ⟨g,c9,rfl,hc5,hg5⟩;obtain⟨UC,VU,VS,V7,K5⟩:=lH5 hc5 (((HW.out.kept J3.out)).block (hg5.block _ (by have:=J3.out.size;have:=Vn.out;omega) (fun e=>HC.out.sep _ e (.inr rfl)))) ((HQ.out.kept J3.out).block (hg5.block _ (by have:=J3.out.size;have:=Vn.out;have:=Vf.out;omega) (fun e=>HC.out.sep _ e (.inl (by have:=Vf.out;omega))))) ((VN.out _ J3.out).block (hg5.block _ (by have:=J3.out.size;have:=Vn.out;have:=Vf.out;omega) (fun e=>HC.out.sep _ e (.inl (by have:=Vf.out;omega))))) (show Kept w w5 from Below.trans (Vc.out.trans (K.out.trans J3.out)) (hg5.at_below (B:=w.heap.size) (fun q e=>by have:=(HC.out.lt q e).1;have:=Vf.out;omega) (Vc.out.trans (K.out.trans J3.out)).size));clear hc5 hg5;refine Ky.out _ _ (HS.out _ V7.out) (fun _=>?_);clear Ky K9;try simp only[nP]
     refine tkI 11 ?_;try simp only[nP]
     have q1:=VU.out.at_ 1 _ rfl;have f1:=VU.out.free 1;refine rd1 12 fun K9 Ky=>?_;go_simp;obtain⟨UW,VM,Un,UX,K6⟩:=lH5 (V7.out.other (p:=w1.heap.size) (j:=1) (u:=.slice (some ⟨g,0,none⟩) (len9+1) c9) (by have:=Vn.out;have:=Vf.out;omega)) (VS.out.other (p:=w1.heap.size) (j:=1) (u:=.slice (some ⟨g,0,none⟩) (len9+1) c9) (by have:=Vn.out;have:=Vf.out;omega)) (show jf w1.heap.size [.slice a1 n1 c1,.slice (some ⟨g,0,none⟩) (len9+1) c9,.slice a3 n3 c3] (w5.setCell ⟨w1.heap.size,1,none⟩ (.slice (some ⟨g,0,none⟩) (len9+1) c9)) from VU.out.set (j:=1) (by simp)) (UC.out.step (jg.cell (S:=fun b=>b<Z.heap.size∨b=w1.heap.size) w1.heap.size 1 (.slice (some ⟨g,0,none⟩) (len9+1) c9) (.inr rfl))) (show Kept w (w5.setCell ⟨w1.heap.size,1,none⟩ (.slice (some ⟨g,0,none⟩) (len9+1) c9)) from K5.out.setCell (p:=⟨w1.heap.size,1,none⟩) (by have:=Vn.out;have:=Vf.out;show w.heap.size≤w1.heap.size;omega) _);refine Ky.out _ _ (HS.out _ UW.out) (fun _=>?_);clear Ky K9 q1 f1;try simp only[nP]
     refine wpAnyH_done (by kernel_rfl) ?_ _;obtain⟨y0,y1,y2⟩:=Un.out.at3;obtain⟨z0,z1,z2⟩:=VM.out.at3;have f0:=VM.out.free 0;have f1:=VM.out.free 1;have f2:=VM.out.free 2;have PP:=lH (j5 (vs:=[.slice a1 n1 c1,.slice (some ⟨g,0,none⟩) (len9+1) c9,.slice a3 n3 c3]) VM.out rfl);go_wp2;obtain⟨WE,hWE⟩:=eX ((w5.setCell ⟨w1.heap.size,1,none⟩ (.slice (some ⟨g,0,none⟩) (len9+1) c9)).setCells (w.heap.size+2) 0 [.slice a1 n1 c1,.slice (some ⟨g,0,none⟩) (len9+1) c9,.slice a3 n3 c3])
     have hWE2:((((w5.setCell ⟨w1.heap.size,1,none⟩ (.slice (some ⟨g,0,none⟩) (len9+1) c9)).setCell ⟨(w.heap.size+2),0,none⟩ (.slice a1 n1 c1)).setCell ⟨(w.heap.size+2),1,none⟩ (.slice (some ⟨g,0,none⟩) (len9+1) c9)).setCell ⟨(w.heap.size+2),2,none⟩ (.slice a3 n3 c3))=WE:=hWE;rw[hWE] at PP;try rw[hWE2]
     have GE:=lH (show jg (fun b=>b<Z.heap.size∨b=w1.heap.size) (w5.setCell ⟨w1.heap.size,1,none⟩ (.slice (some ⟨g,0,none⟩) (len9+1) c9)) WE by rw[←hWE];exact jg.cells (S:=fun b=>b<Z.heap.size∨b=w1.heap.size) _ (.inl (by have:=Vf.out;omega)) _ _ _);clear hWE hWE2;obtain⟨PCC,hsz,hbl,hkp⟩:=PP.out;refine bodyPost_ret (by simp[results,Tryz.results57,go_sem,PCC.at_ 0 _ rfl,PCC.at_ 1 _ rfl,PCC.at_ 2 _ rfl];try rfl) rfl ?_;have Vr:=(UX.out.step GE.out).less (B':=w.heap.size) (S':=fun b=>b<w.heap.size) Vc.out.size (fun b hb=>.inl (Nat.lt_of_lt_of_le hb Vc.out.size));rw[show l9.take (placeN p0 l9)++⟨p0,p1,p2,q1,q2,q3,q4,p3,p4,p5,p6⟩::l9.drop (placeN p0 l9)=JU ⟨p0,p1,p2,q1,q2,q3,q4,p3,p4,p5,p6⟩ (zc p0 pl) by rw[←Tt.out];exact YJ (p:=⟨p0,p1,p2,q1,q2,q3,q4,p3,p4,p5,p6⟩) (l:=l9)] at Vr;exact⟨_,_,_,_,_,_,_,_,_,rfl,Vr,hkp _ _ (by omega) K6.out⟩
   · skip;go_simp;refine(qi a2 len9 c2 l9 p0 _ (UT.out.kept (Kept.drew _))).mono ?_;rintro e2 w2 ⟨rfl,kk⟩;have J1:=lH ((Kept.drew W1).trans kk);clear kk;refine Ky.out _ _ (HS.out _ (VN.out _ J1.out)) (fun _=>?_);clear Ky K9;try simp only[nP]
     refine rdH (rs:=[1,8]) (h:=coH (fun K9 Ky=>?_) (coH (fun K9 Ky=>?_) AllReadyH.nil))
     · skip;have yq:w2.cell? ⟨w1.heap.size,1,none⟩=some (.slice a2 len9 c2):=(HW.out.kept J1.out).at_ 1 _ rfl;go_simp;refine Ky.out _ _ (HS.out _ (VN.out _ J1.out)) (fun _=>?_);clear Ky K9 yq;try simp only[nP]
       refine rd1 8 fun K9 Ky=>?_;go_simp;have VK:=Zt ⟨p0,p1,p2,q1,q2,q3,q4,p3,p4,p5,p6⟩ (.slice s1 t1 u1) (.slice s2 t2 u2) (.slice s3 t3 u3) (.slice s4 t4 u4) w2 (Ts.out.kept J1.out) Ud.out;unfold jx at VK;dsimp only at VK;refine VK.mono ?_;clear VK;rintro e3 w3 ⟨v,rfl,hv,kk⟩;have J2:=lH (J1.out.trans kk);obtain⟨x1,y1,z1,x2,y2,z2,x3,y3,z3,x4,y4,z4,hv9,sp,g1,g2,g3,g4⟩:=hv;have hv9:v=.agg #[.string p0,.string p1,.int .i64 p2,.slice x1 y1 z1,.slice x2 y2 z2,.slice x3 y3 z3,.slice x4 y4 z4,.string p3,.int .i64 p4,.string p5,.bool p6]:=hv9;subst hv9;have HG:=lH (show Z.heap.size≤w1.heap.size∧w1.heap.size<w2.heap.size from⟨Vn.out.1,Nat.lt_of_lt_of_le Vn.out.2 J1.out.size⟩);have Vy:=lH (show Off (fun b=>(b<Z.heap.size∨b=w1.heap.size)∨(Value.slice a2 len9 c2).ownBlock=some b) w3 fun u=>At4 u (⟨p0,p1,p2,q1,q2,q3,q4,p3,p4,p5,p6⟩,(x1,y1,z1),(x2,y2,z2),(x3,y3,z3),(x4,y4,z4)) from ji.off (B:=w2.heap.size) sp g1 g2 g3 g4 (fun b hb h=>by
        have h1:=HG.out;rcases h with (h | h) | h
        · omega
        · omega
        · have:=((HC.out.kept J1.out).lt b h).2;omega))
       clear kk sp g1 g2 g3 g4;refine Ky.out _ _ (HS.out _ (VN.out _ J2.out)) (fun _=>?_);clear Ky K9;try simp only[nP]
       refine rd1 9 fun K9 Ky=>?_;go_simp;obtain⟨J3,HV,Vy⟩:=lH3 (J2.out.trans (ja w3 (.cells #[.string p0,.string p1,.int .i64 p2,.slice x1 y1 z1,.slice x2 y2 z2,.slice x3 y3 z3,.slice x4 y4 z4,.string p3,.int .i64 p4,.string p5,.bool p6] 44))) (show (w3.alloc (.cells #[.string p0,.string p1,.int .i64 p2,.slice x1 y1 z1,.slice x2 y2 z2,.slice x3 y3 z3,.slice x4 y4 z4,.string p3,.int .i64 p4,.string p5,.bool p6] 44)).heap[w3.heap.size]?=some (.cells #[.string p0,.string p1,.int .i64 p2,.slice x1 y1 z1,.slice x2 y2 z2,.slice x3 y3 z3,.slice x4 y4 z4,.string p3,.int .i64 p4,.string p5,.bool p6] 44) from World.alloc_heap_new w3 _) (Vy.out.step (jg.of (ja w3 (.cells #[.string p0,.string p1,.int .i64 p2,.slice x1 y1 z1,.slice x2 y2 z2,.slice x3 y3 z3,.slice x4 y4 z4,.string p3,.int .i64 p4,.string p5,.bool p6] 44))));refine Ky.out _ _ (HS.out _ (VN.out _ J3.out)) (fun _=>?_);clear Ky K9;try simp only[nP]
       obtain⟨w4,hw4⟩:=eX (w3.alloc (.cells #[.string p0,.string p1,.int .i64 p2,.slice x1 y1 z1,.slice x2 y2 z2,.slice x3 y3 z3,.slice x4 y4 z4,.string p3,.int .i64 p4,.string p5,.bool p6] 44))
       rw[hw4] at J3 HV Vy ⊢;clear hw4;refine rd1 10 fun K9 Ky=>?_;go_simp;refine(YY (HC.out.kept J3.out) (⟨p0,p1,p2,q1,q2,q3,q4,p3,p4,p5,p6⟩,(x1,y1,z1),(x2,y2,z2),(x3,y3,z3),(x4,y4,z4)) (i:=placeN p0 l9) (by have:=XW p0 l9;rw[Ui.out] at this;exact this) Tc.out (by have:=J3.out.size;have:=Vn.out;omega) (fun b hb=>by have:=J3.out.size;have:=Vn.out;rcases hb with hb | hb<;>omega) HV.out (fun e=>by have h1:=((HC.out.kept J2.out).lt _ e).2;omega) Vy.out).mono ?_;rintro e5 w5 ⟨g,c9,rfl,hc5,hg5⟩;obtain⟨UC,VU,VS,V7,K5⟩:=lH5 hc5 (((HW.out.kept J3.out)).block (hg5.block _ (by have:=J3.out.size;have:=Vn.out;omega) (fun e=>HC.out.sep _ e (.inr rfl)))) ((HQ.out.kept J3.out).block (hg5.block _ (by have:=J3.out.size;have:=Vn.out;have:=Vf.out;omega) (fun e=>HC.out.sep _ e (.inl (by have:=Vf.out;omega))))) ((VN.out _ J3.out).block (hg5.block _ (by have:=J3.out.size;have:=Vn.out;have:=Vf.out;omega) (fun e=>HC.out.sep _ e (.inl (by have:=Vf.out;omega))))) (show Kept w w5 from Below.trans (Vc.out.trans (K.out.trans J3.out)) (hg5.at_below (B:=w.heap.size) (fun q e=>by have:=(HC.out.lt q e).1;have:=Vf.out;omega) (Vc.out.trans (K.out.trans J3.out)).size));clear hc5 hg5;refine Ky.out _ _ (HS.out _ V7.out) (fun _=>?_);clear Ky K9;try simp only[nP]
       refine tkI 11 ?_;try simp only[nP]
       have q1:=VU.out.at_ 1 _ rfl;have f1:=VU.out.free 1;refine rd1 12 fun K9 Ky=>?_;go_simp;obtain⟨UW,VM,Un,UX,K6⟩:=lH5 (V7.out.other (p:=w1.heap.size) (j:=1) (u:=.slice (some ⟨g,0,none⟩) (len9+1) c9) (by have:=Vn.out;have:=Vf.out;omega)) (VS.out.other (p:=w1.heap.size) (j:=1) (u:=.slice (some ⟨g,0,none⟩) (len9+1) c9) (by have:=Vn.out;have:=Vf.out;omega)) (show jf w1.heap.size [.slice a1 n1 c1,.slice (some ⟨g,0,none⟩) (len9+1) c9,.slice a3 n3 c3] (w5.setCell ⟨w1.heap.size,1,none⟩ (.slice (some ⟨g,0,none⟩) (len9+1) c9)) from VU.out.set (j:=1) (by simp)) (UC.out.step (jg.cell (S:=fun b=>b<Z.heap.size∨b=w1.heap.size) w1.heap.size 1 (.slice (some ⟨g,0,none⟩) (len9+1) c9) (.inr rfl))) (show Kept w (w5.setCell ⟨w1.heap.size,1,none⟩ (.slice (some ⟨g,0,none⟩) (len9+1) c9)) from K5.out.setCell (p:=⟨w1.heap.size,1,none⟩) (by have:=Vn.out;have:=Vf.out;show w.heap.size≤w1.heap.size;omega) _);refine Ky.out _ _ (HS.out _ UW.out) (fun _=>?_);clear Ky K9 q1 f1;try simp only[nP]
       refine wpAnyH_done (by kernel_rfl) ?_ _;obtain⟨y0,y1,y2⟩:=Un.out.at3;obtain⟨z0,z1,z2⟩:=VM.out.at3;have f0:=VM.out.free 0;have f1:=VM.out.free 1;have f2:=VM.out.free 2;have PP:=lH (j5 (vs:=[.slice a1 n1 c1,.slice (some ⟨g,0,none⟩) (len9+1) c9,.slice a3 n3 c3]) VM.out rfl);go_wp2;obtain⟨WE,hWE⟩:=eX ((w5.setCell ⟨w1.heap.size,1,none⟩ (.slice (some ⟨g,0,none⟩) (len9+1) c9)).setCells (w.heap.size+2) 0 [.slice a1 n1 c1,.slice (some ⟨g,0,none⟩) (len9+1) c9,.slice a3 n3 c3])
       have hWE2:((((w5.setCell ⟨w1.heap.size,1,none⟩ (.slice (some ⟨g,0,none⟩) (len9+1) c9)).setCell ⟨(w.heap.size+2),0,none⟩ (.slice a1 n1 c1)).setCell ⟨(w.heap.size+2),1,none⟩ (.slice (some ⟨g,0,none⟩) (len9+1) c9)).setCell ⟨(w.heap.size+2),2,none⟩ (.slice a3 n3 c3))=WE:=hWE;rw[hWE] at PP;try rw[hWE2]
       have GE:=lH (show jg (fun b=>b<Z.heap.size∨b=w1.heap.size) (w5.setCell ⟨w1.heap.size,1,none⟩ (.slice (some ⟨g,0,none⟩) (len9+1) c9)) WE by rw[←hWE];exact jg.cells (S:=fun b=>b<Z.heap.size∨b=w1.heap.size) _ (.inl (by have:=Vf.out;omega)) _ _ _);clear hWE hWE2;obtain⟨PCC,hsz,hbl,hkp⟩:=PP.out;refine bodyPost_ret (by simp[results,Tryz.results57,go_sem,PCC.at_ 0 _ rfl,PCC.at_ 1 _ rfl,PCC.at_ 2 _ rfl];try rfl) rfl ?_;have Vr:=(UX.out.step GE.out).less (B':=w.heap.size) (S':=fun b=>b<w.heap.size) Vc.out.size (fun b hb=>.inl (Nat.lt_of_lt_of_le hb Vc.out.size));rw[show l9.take (placeN p0 l9)++⟨p0,p1,p2,q1,q2,q3,q4,p3,p4,p5,p6⟩::l9.drop (placeN p0 l9)=JU ⟨p0,p1,p2,q1,q2,q3,q4,p3,p4,p5,p6⟩ (zc p0 pl) by rw[←Tt.out];exact YJ (p:=⟨p0,p1,p2,q1,q2,q3,q4,p3,p4,p5,p6⟩) (l:=l9)] at Vr;exact⟨_,_,_,_,_,_,_,_,_,rfl,Vr,hkp _ _ (by omega) K6.out⟩
     · skip;go_simp;have VK:=Zt ⟨p0,p1,p2,q1,q2,q3,q4,p3,p4,p5,p6⟩ (.slice s1 t1 u1) (.slice s2 t2 u2) (.slice s3 t3 u3) (.slice s4 t4 u4) w2 (Ts.out.kept J1.out) Ud.out;unfold jx at VK;dsimp only at VK;refine VK.mono ?_;clear VK;rintro e3 w3 ⟨v,rfl,hv,kk⟩;have J2:=lH (J1.out.trans kk);obtain⟨x1,y1,z1,x2,y2,z2,x3,y3,z3,x4,y4,z4,hv9,sp,g1,g2,g3,g4⟩:=hv;have hv9:v=.agg #[.string p0,.string p1,.int .i64 p2,.slice x1 y1 z1,.slice x2 y2 z2,.slice x3 y3 z3,.slice x4 y4 z4,.string p3,.int .i64 p4,.string p5,.bool p6]:=hv9;subst hv9;have HG:=lH (show Z.heap.size≤w1.heap.size∧w1.heap.size<w2.heap.size from⟨Vn.out.1,Nat.lt_of_lt_of_le Vn.out.2 J1.out.size⟩);have Vy:=lH (show Off (fun b=>(b<Z.heap.size∨b=w1.heap.size)∨(Value.slice a2 len9 c2).ownBlock=some b) w3 fun u=>At4 u (⟨p0,p1,p2,q1,q2,q3,q4,p3,p4,p5,p6⟩,(x1,y1,z1),(x2,y2,z2),(x3,y3,z3),(x4,y4,z4)) from ji.off (B:=w2.heap.size) sp g1 g2 g3 g4 (fun b hb h=>by
        have h1:=HG.out;rcases h with (h | h) | h
        · omega
        · omega
        · have:=((HC.out.kept J1.out).lt b h).2;omega))
       clear kk sp g1 g2 g3 g4;refine Ky.out _ _ (HS.out _ (VN.out _ J2.out)) (fun _=>?_);clear Ky K9;try simp only[nP]
       refine rdH (rs:=[1,9]) (h:=coH (fun K9 Ky=>?_) (coH (fun K9 Ky=>?_) AllReadyH.nil))
       · skip;have yq:w3.cell? ⟨w1.heap.size,1,none⟩=some (.slice a2 len9 c2):=(HW.out.kept J2.out).at_ 1 _ rfl;go_simp;refine Ky.out _ _ (HS.out _ (VN.out _ J2.out)) (fun _=>?_);clear Ky K9 yq;try simp only[nP]
         refine rd1 9 fun K9 Ky=>?_;go_simp;obtain⟨J3,HV,Vy⟩:=lH3 (J2.out.trans (ja w3 (.cells #[.string p0,.string p1,.int .i64 p2,.slice x1 y1 z1,.slice x2 y2 z2,.slice x3 y3 z3,.slice x4 y4 z4,.string p3,.int .i64 p4,.string p5,.bool p6] 44))) (show (w3.alloc (.cells #[.string p0,.string p1,.int .i64 p2,.slice x1 y1 z1,.slice x2 y2 z2,.slice x3 y3 z3,.slice x4 y4 z4,.string p3,.int .i64 p4,.string p5,.bool p6] 44)).heap[w3.heap.size]?=some (.cells #[.string p0,.string p1,.int .i64 p2,.slice x1 y1 z1,.slice x2 y2 z2,.slice x3 y3 z3,.slice x4 y4 z4,.string p3,.int .i64 p4,.string p5,.bool p6] 44) from World.alloc_heap_new w3 _) (Vy.out.step (jg.of (ja w3 (.cells #[.string p0,.string p1,.int .i64 p2,.slice x1 y1 z1,.slice x2 y2 z2,.slice x3 y3 z3,.slice x4 y4 z4,.string p3,.int .i64 p4,.string p5,.bool p6] 44))));refine Ky.out _ _ (HS.out _ (VN.out _ J3.out)) (fun _=>?_);clear Ky K9;try simp only[nP]
         obtain⟨w4,hw4⟩:=eX (w3.alloc (.cells #[.string p0,.string p1,.int .i64 p2,.slice x1 y1 z1,.slice x2 y2 z2,.slice x3 y3 z3,.slice x4 y4 z4,.string p3,.int .i64 p4,.string p5,.bool p6] 44))
         rw[hw4] at J3 HV Vy ⊢;clear hw4;refine rd1 10 fun K9 Ky=>?_;go_simp;refine(YY (HC.out.kept J3.out) (⟨p0,p1,p2,q1,q2,q3,q4,p3,p4,p5,p6⟩,(x1,y1,z1),(x2,y2,z2),(x3,y3,z3),(x4,y4,z4)) (i:=placeN p0 l9) (by have:=XW p0 l9;rw[Ui.out] at this;exact this) Tc.out (by have:=J3.out.size;have:=Vn.out;omega) (fun b hb=>by have:=J3.out.size;have:=Vn.out;rcases hb with hb | hb<;>omega) HV.out (fun e=>by have h1:=((HC.out.kept J2.out).lt _ e).2;omega) Vy.out).mono ?_;rintro e5 w5 ⟨g,c9,rfl,hc5,hg5⟩;obtain⟨UC,VU,VS,V7,K5⟩:=lH5 hc5 (((HW.out.kept J3.out)).block (hg5.block _ (by have:=J3.out.size;have:=Vn.out;omega) (fun e=>HC.out.sep _ e (.inr rfl)))) ((HQ.out.kept J3.out).block (hg5.block _ (by have:=J3.out.size;have:=Vn.out;have:=Vf.out;omega) (fun e=>HC.out.sep _ e (.inl (by have:=Vf.out;omega))))) ((VN.out _ J3.out).block (hg5.block _ (by have:=J3.out.size;have:=Vn.out;have:=Vf.out;omega) (fun e=>HC.out.sep _ e (.inl (by have:=Vf.out;omega))))) (show Kept w w5 from Below.trans (Vc.out.trans (K.out.trans J3.out)) (hg5.at_below (B:=w.heap.size) (fun q e=>by have:=(HC.out.lt q e).1;have:=Vf.out;omega) (Vc.out.trans (K.out.trans J3.out)).size));clear hc5 hg5;refine Ky.out _ _ (HS.out _ V7.out) (fun _=>?_);clear Ky K9;try simp only[nP]
         refine tkI 11 ?_;try simp only[nP]
         have q1:=VU.out.at_ 1 _ rfl;have f1:=VU.out.free 1;refine rd1 12 fun K9 Ky=>?_;go_simp;obtain⟨UW,VM,Un,UX,K6⟩:=lH5 (V7.out.other (p:=w1.heap.size) (j:=1) (u:=.slice (some ⟨g,0,none⟩) (len9+1) c9) (by have:=Vn.out;have:=Vf.out;omega)) (VS.out.other (p:=w1.heap.size) (j:=1) (u:=.slice (some ⟨g,0,none⟩) (len9+1) c9) (by have:=Vn.out;have:=Vf.out;omega)) (show jf w1.heap.size [.slice a1 n1 c1,.slice (some ⟨g,0,none⟩) (len9+1) c9,.slice a3 n3 c3] (w5.setCell ⟨w1.heap.size,1,none⟩ (.slice (some ⟨g,0,none⟩) (len9+1) c9)) from VU.out.set (j:=1) (by simp)) (UC.out.step (jg.cell (S:=fun b=>b<Z.heap.size∨b=w1.heap.size) w1.heap.size 1 (.slice (some ⟨g,0,none⟩) (len9+1) c9) (.inr rfl))) (show Kept w (w5.setCell ⟨w1.heap.size,1,none⟩ (.slice (some ⟨g,0,none⟩) (len9+1) c9)) from K5.out.setCell (p:=⟨w1.heap.size,1,none⟩) (by have:=Vn.out;have:=Vf.out;show w.heap.size≤w1.heap.size;omega) _);refine Ky.out _ _ (HS.out _ UW.out) (fun _=>?_);clear Ky K9 q1 f1;try simp only[nP]
         refine wpAnyH_done (by kernel_rfl) ?_ _;obtain⟨y0,y1,y2⟩:=Un.out.at3;obtain⟨z0,z1,z2⟩:=VM.out.at3;have f0:=VM.out.free 0;have f1:=VM.out.free 1;have f2:=VM.out.free 2;have PP:=lH (j5 (vs:=[.slice a1 n1 c1,.slice (some ⟨g,0,none⟩) (len9+1) c9,.slice a3 n3 c3]) VM.out rfl);go_wp2;obtain⟨WE,hWE⟩:=eX ((w5.setCell ⟨w1.heap.size,1,none⟩ (.slice (some ⟨g,0,none⟩) (len9+1) c9)).setCells (w.heap.size+2) 0 [.slice a1 n1 c1,.slice (some ⟨g,0,none⟩) (len9+1) c9,.slice a3 n3 c3])
         have hWE2:((((w5.setCell ⟨w1.heap.size,1,none⟩ (.slice (some ⟨g,0,none⟩) (len9+1) c9)).setCell ⟨(w.heap.size+2),0,none⟩ (.slice a1 n1 c1)).setCell ⟨(w.heap.size+2),1,none⟩ (.slice (some ⟨g,0,none⟩) (len9+1) c9)).setCell ⟨(w.heap.size+2),2,none⟩ (.slice a3 n3 c3))=WE:=hWE;rw[hWE] at PP;try rw[hWE2]
         have GE:=lH (show jg (fun b=>b<Z.heap.size∨b=w1.heap.size) (w5.setCell ⟨w1.heap.size,1,none⟩ (.slice (some ⟨g,0,none⟩) (len9+1) c9)) WE by rw[←hWE];exact jg.cells (S:=fun b=>b<Z.heap.size∨b=w1.heap.size) _ (.inl (by have:=Vf.out;omega)) _ _ _);clear hWE hWE2;obtain⟨PCC,hsz,hbl,hkp⟩:=PP.out;refine bodyPost_ret (by simp[results,Tryz.results57,go_sem,PCC.at_ 0 _ rfl,PCC.at_ 1 _ rfl,PCC.at_ 2 _ rfl];try rfl) rfl ?_;have Vr:=(UX.out.step GE.out).less (B':=w.heap.size) (S':=fun b=>b<w.heap.size) Vc.out.size (fun b hb=>.inl (Nat.lt_of_lt_of_le hb Vc.out.size));rw[show l9.take (placeN p0 l9)++⟨p0,p1,p2,q1,q2,q3,q4,p3,p4,p5,p6⟩::l9.drop (placeN p0 l9)=JU ⟨p0,p1,p2,q1,q2,q3,q4,p3,p4,p5,p6⟩ (zc p0 pl) by rw[←Tt.out];exact YJ (p:=⟨p0,p1,p2,q1,q2,q3,q4,p3,p4,p5,p6⟩) (l:=l9)] at Vr;exact⟨_,_,_,_,_,_,_,_,_,rfl,Vr,hkp _ _ (by omega) K6.out⟩
       · skip;go_simp;obtain⟨J3,HV,Vy⟩:=lH3 (J2.out.trans (ja w3 (.cells #[.string p0,.string p1,.int .i64 p2,.slice x1 y1 z1,.slice x2 y2 z2,.slice x3 y3 z3,.slice x4 y4 z4,.string p3,.int .i64 p4,.string p5,.bool p6] 44))) (show (w3.alloc (.cells #[.string p0,.string p1,.int .i64 p2,.slice x1 y1 z1,.slice x2 y2 z2,.slice x3 y3 z3,.slice x4 y4 z4,.string p3,.int .i64 p4,.string p5,.bool p6] 44)).heap[w3.heap.size]?=some (.cells #[.string p0,.string p1,.int .i64 p2,.slice x1 y1 z1,.slice x2 y2 z2,.slice x3 y3 z3,.slice x4 y4 z4,.string p3,.int .i64 p4,.string p5,.bool p6] 44) from World.alloc_heap_new w3 _) (Vy.out.step (jg.of (ja w3 (.cells #[.string p0,.string p1,.int .i64 p2,.slice x1 y1 z1,.slice x2 y2 z2,.slice x3 y3 z3,.slice x4 y4 z4,.string p3,.int .i64 p4,.string p5,.bool p6] 44))));refine Ky.out _ _ (HS.out _ (VN.out _ J3.out)) (fun _=>?_);clear Ky K9;try simp only[nP]
         obtain⟨w4,hw4⟩:=eX (w3.alloc (.cells #[.string p0,.string p1,.int .i64 p2,.slice x1 y1 z1,.slice x2 y2 z2,.slice x3 y3 z3,.slice x4 y4 z4,.string p3,.int .i64 p4,.string p5,.bool p6] 44))
         rw[hw4] at J3 HV Vy ⊢;clear hw4;refine rd1 1 fun K9 Ky=>?_;have yq:w4.cell? ⟨w1.heap.size,1,none⟩=some (.slice a2 len9 c2):=(HW.out.kept J3.out).at_ 1 _ rfl;go_simp;refine Ky.out _ _ (HS.out _ (VN.out _ J3.out)) (fun _=>?_);clear Ky K9 yq;try simp only[nP]
         refine rd1 10 fun K9 Ky=>?_;go_simp;refine(YY (HC.out.kept J3.out) (⟨p0,p1,p2,q1,q2,q3,q4,p3,p4,p5,p6⟩,(x1,y1,z1),(x2,y2,z2),(x3,y3,z3),(x4,y4,z4)) (i:=placeN p0 l9) (by have:=XW p0 l9;rw[Ui.out] at this;exact this) Tc.out (by have:=J3.out.size;have:=Vn.out;omega) (fun b hb=>by have:=J3.out.size;have:=Vn.out;rcases hb with hb | hb<;>omega) HV.out (fun e=>by have h1:=((HC.out.kept J2.out).lt _ e).2;omega) Vy.out).mono ?_;rintro e5 w5 ⟨g,c9,rfl,hc5,hg5⟩;obtain⟨UC,VU,VS,V7,K5⟩:=lH5 hc5 (((HW.out.kept J3.out)).block (hg5.block _ (by have:=J3.out.size;have:=Vn.out;omega) (fun e=>HC.out.sep _ e (.inr rfl)))) ((HQ.out.kept J3.out).block (hg5.block _ (by have:=J3.out.size;have:=Vn.out;have:=Vf.out;omega) (fun e=>HC.out.sep _ e (.inl (by have:=Vf.out;omega))))) ((VN.out _ J3.out).block (hg5.block _ (by have:=J3.out.size;have:=Vn.out;have:=Vf.out;omega) (fun e=>HC.out.sep _ e (.inl (by have:=Vf.out;omega))))) (show Kept w w5 from Below.trans (Vc.out.trans (K.out.trans J3.out)) (hg5.at_below (B:=w.heap.size) (fun q e=>by have:=(HC.out.lt q e).1;have:=Vf.out;omega) (Vc.out.trans (K.out.trans J3.out)).size));clear hc5 hg5;refine Ky.out _ _ (HS.out _ V7.out) (fun _=>?_);clear Ky K9;try simp only[nP]
         refine tkI 11 ?_;try simp only[nP]
         have q1:=VU.out.at_ 1 _ rfl;have f1:=VU.out.free 1;refine rd1 12 fun K9 Ky=>?_;go_simp;obtain⟨UW,VM,Un,UX,K6⟩:=lH5 (V7.out.other (p:=w1.heap.size) (j:=1) (u:=.slice (some ⟨g,0,none⟩) (len9+1) c9) (by have:=Vn.out;have:=Vf.out;omega)) (VS.out.other (p:=w1.heap.size) (j:=1) (u:=.slice (some ⟨g,0,none⟩) (len9+1) c9) (by have:=Vn.out;have:=Vf.out;omega)) (show jf w1.heap.size [.slice a1 n1 c1,.slice (some ⟨g,0,none⟩) (len9+1) c9,.slice a3 n3 c3] (w5.setCell ⟨w1.heap.size,1,none⟩ (.slice (some ⟨g,0,none⟩) (len9+1) c9)) from VU.out.set (j:=1) (by simp)) (UC.out.step (jg.cell (S:=fun b=>b<Z.heap.size∨b=w1.heap.size) w1.heap.size 1 (.slice (some ⟨g,0,none⟩) (len9+1) c9) (.inr rfl))) (show Kept w (w5.setCell ⟨w1.heap.size,1,none⟩ (.slice (some ⟨g,0,none⟩) (len9+1) c9)) from K5.out.setCell (p:=⟨w1.heap.size,1,none⟩) (by have:=Vn.out;have:=Vf.out;show w.heap.size≤w1.heap.size;omega) _);refine Ky.out _ _ (HS.out _ UW.out) (fun _=>?_);clear Ky K9 q1 f1;try simp only[nP]
         refine wpAnyH_done (by kernel_rfl) ?_ _;obtain⟨y0,y1,y2⟩:=Un.out.at3;obtain⟨z0,z1,z2⟩:=VM.out.at3;have f0:=VM.out.free 0;have f1:=VM.out.free 1;have f2:=VM.out.free 2;have PP:=lH (j5 (vs:=[.slice a1 n1 c1,.slice (some ⟨g,0,none⟩) (len9+1) c9,.slice a3 n3 c3]) VM.out rfl);go_wp2;obtain⟨WE,hWE⟩:=eX ((w5.setCell ⟨w1.heap.size,1,none⟩ (.slice (some ⟨g,0,none⟩) (len9+1) c9)).setCells (w.heap.size+2) 0 [.slice a1 n1 c1,.slice (some ⟨g,0,none⟩) (len9+1) c9,.slice a3 n3 c3])
         have hWE2:((((w5.setCell ⟨w1.heap.size,1,none⟩ (.slice (some ⟨g,0,none⟩) (len9+1) c9)).setCell ⟨(w.heap.size+2),0,none⟩ (.slice a1 n1 c1)).setCell ⟨(w.heap.size+2),1,none⟩ (.slice (some ⟨g,0,none⟩) (len9+1) c9)).setCell ⟨(w.heap.size+2),2,none⟩ (.slice a3 n3 c3))=WE:=hWE;rw[hWE] at PP;try rw[hWE2]
         have GE:=lH (show jg (fun b=>b<Z.heap.size∨b=w1.heap.size) (w5.setCell ⟨w1.heap.size,1,none⟩ (.slice (some ⟨g,0,none⟩) (len9+1) c9)) WE by rw[←hWE];exact jg.cells (S:=fun b=>b<Z.heap.size∨b=w1.heap.size) _ (.inl (by have:=Vf.out;omega)) _ _ _);clear hWE hWE2;obtain⟨PCC,hsz,hbl,hkp⟩:=PP.out;refine bodyPost_ret (by simp[results,Tryz.results57,go_sem,PCC.at_ 0 _ rfl,PCC.at_ 1 _ rfl,PCC.at_ 2 _ rfl];try rfl) rfl ?_;have Vr:=(UX.out.step GE.out).less (B':=w.heap.size) (S':=fun b=>b<w.heap.size) Vc.out.size (fun b hb=>.inl (Nat.lt_of_lt_of_le hb Vc.out.size));rw[show l9.take (placeN p0 l9)++⟨p0,p1,p2,q1,q2,q3,q4,p3,p4,p5,p6⟩::l9.drop (placeN p0 l9)=JU ⟨p0,p1,p2,q1,q2,q3,q4,p3,p4,p5,p6⟩ (zc p0 pl) by rw[←Tt.out];exact YJ (p:=⟨p0,p1,p2,q1,q2,q3,q4,p3,p4,p5,p6⟩) (l:=l9)] at Vr;exact⟨_,_,_,_,_,_,_,_,_,rfl,Vr,hkp _ _ (by omega) K6.out⟩
theorem jho {x:ByteArray} {l:List Pd} {k:Nat} {n:Pd} (h:l[k]?=some n):(l.take (k+1)).filter (fun p=>eqS p.node x)=(l.take k).filter (fun p=>eqS p.node x)++(if eqS n.node x=true then [n] else []):=by
 rw[zI h,List.filter_append];congr 1
 rw[List.filter_cons,List.filter_nil]
theorem jl0 (a a8 a9:Option Addr) (len cap m8 c8 m9 c9:Nat) (l:List Pd) (x:ByteArray) (w:World) (hr:jy w a len l) (hlow:∀n ∈ l,JO n) (hlen:len≤100000) :
 Calls Tryz.prog 118 #[.agg #[.slice a8 m8 c8,.slice a len cap,.slice a9 m9 c9],.string x] w fun e w'=>∃v,e=.returned v∧Jo w' v (onP x l)∧Kept w w':=by
 have hl:=hr.1;have hm:=hr.2.1;unfold maxLen at hm;obtain⟨i0,hi,hz0,hz1,hz2'⟩:=info_parts qD;obtain⟨Z,hZ⟩:=eX (w.alloc (.cells #[.slice a8 m8 c8,.slice a len cap,.slice a9 m9 c9] 26))
 have hkz:Kept w Z:=by rw[←hZ];exact ja _ _
 have hst:Z.cell? ⟨w.heap.size,1,none⟩=some (.slice a len cap):=(jc w (.slice a8 m8 c8) [.slice a len cap,.slice a9 m9 c9] 26 Z (by rw[hZ];exact Kept.refl _)).at_ 1 _ rfl;obtain⟨HR,HL,Vo,Vc⟩:=lH4 (hr.kept hkz) hl hlow hkz;obtain⟨t,ht⟩:=eX ((x.toList==([]:List UInt8)))
 have Ua:=lH (show zp x=t by rw[JV];exact ht);clear hr hl hkz hlow
 cases t with
 | true =>
  have HE:=lH (show onP x l=[] by unfold onP;rw[if_pos Ua.out]);go_enter Tryz.func118,Tryz.ntmps118;go_wp2;try rw[hZ]
  go_ret;exact⟨_,rfl,by rw[HE.out];exact⟨none,0,rfl,Nat.le_refl _,by decide,rfl,by decide,.inl rfl⟩,by first | exact Vc.out | (rw[hZ];exact Vc.out)⟩
 | false =>
  have HE:=lH (show onP x l=l.filter (fun p=>eqS p.node x) by unfold onP;rw[if_neg (by rw[Ua.out];decide)]);go_enter Tryz.func118,Tryz.ntmps118;go_wp2;try rw[hZ]
  clear hZ hst ht;go_loopw [5,13] (fun v i wr=>∃k:Nat,k≤len∧i=.int .i64 k∧∃lx:List PX,(lx.map fun z=>z.1)=(l.take k).filter (fun p=>eqS p.node x)∧lx.length≤k∧Deep PodLay0 44 At4 wr Z.heap.size v lx∧Kept Z wr) (fun _ i _=>len-(intOf i).toNat)
  case atStart=>exact⟨0,Nat.zero_le _,rfl,[],rfl,Nat.le_refl _,⟨Own.nil _ _ _,fun z h=>by cases h⟩,Kept.refl _⟩
  case round =>
   obtain⟨k,hk,rfl,lx,hlx,hll,hdp,hK⟩:=hrel;obtain⟨HX,Td,HD,HK⟩:=lH4 hlx hll hdp hK;by_cases hlt:k<len
   · obtain⟨b,off,rfl⟩:=HR.out.form.resolve_left (by omega);obtain⟨n,a1,m1,c1,a2,m2,c2,a3,m3,c3,a4,m4,c4,hn,hd,hb,p0,p1,p2,p3,p4,p5,p6,p7,p8,p9,p10,hat⟩:=(HR.out.kept hK).at_ hlt;have HN:=lH hn;have VH:=lH hat;obtain⟨t,ht⟩:=eX (eqS n.node x)
     have ht':(n.node.toList==x.toList)=t:=ht;have HT:=lH ht;have hkk:(k:Int)<(len:Int):=by omega
     clear hlx hll hdp hK hat hd hn ht
     cases t with
     | false =>
      have UD:=lH (show (lx.map fun z=>z.1)=(l.take (k+1)).filter (fun p=>eqS p.node x) by rw[jho HN.out,if_neg (by rw[HT.out];decide),List.append_nil];exact HX.out);go_wp2;go_roundw
      case rel=>exact⟨k+1,by omega,by go_num,lx,UD.out,by have:=Td.out;omega,HD.out.kept (ja _ _),HK.out.trans (ja _ _)⟩
      case measure=>simp[intOf];omega
     | true =>
      have VK:=lH (show ∀W,Kept wr W→_ from fun W kk=>Zt n (.slice a1 m1 c1) (.slice a2 m2 c2) (.slice a3 m3 c3) (.slice a4 m4 c4) W (VH.out.kept kk) (Vo.out n (List.mem_of_getElem? HN.out)));unfold jx at VK;obtain⟨len1,hlen1⟩:=eX (lx.length)
      have UG:=lH hlen1;rw[hlen1] at Td;clear hlen1;go_wp2_with fail
      refine(VK.out _ (ja _ _)).mono ?_;rintro e w1 ⟨v,rfl,hv,kk⟩;obtain⟨x1,y1,z1,x2,y2,z2,x3,y3,z3,x4,y4,z4,hv9,sp,g1,g2,g3,g4⟩:=hv;have hv9:v=.agg #[.string n.name,.string n.owner,.int .i64 n.prio,.slice x1 y1 z1,.slice x2 y2 z2,.slice x3 y3 z3,.slice x4 y4 z4,.string n.key,.int .i64 n.most,.string n.node,.bool n.hold]:=hv9;subst hv9;have KW:=lH ((ja wr _).trans kk);have hbase:Z.heap.size≤wr.heap.size:=HK.out.size;have Vy:=lH (show Off (fun b=>u5.ownBlock=some b) w1 fun u=>At4 u (n,(x1,y1,z1),(x2,y2,z2),(x3,y3,z3),(x4,y4,z4)) from ji.off (B:=wr.heap.size+1) sp (by rw[World.size_alloc] at g1;exact g1) (by rw[World.size_alloc] at g2;exact g2) (by rw[World.size_alloc] at g3;exact g3) (by rw[World.size_alloc] at g4;exact g4) (fun b hb h=>by have:=(J5 HD.out.own b h).2;omega));have RZ:=lH (HD.out.kept KW.out);have Vj:=lH (show w1.ownsRow Z.heap.size 44 11 u5 len1 (je PodLay0 lx) by have:=RZ.out.own.1;rw[UG.out] at this;exact this);have hs1:wr.heap.size≤w1.heap.size:=KW.out.size;clear kk sp g1 g2 g3 g4;go_wp2_with (at_builtin;refine wpList_append_lies _ rfl _ _ _ rfl Z.heap.size 44 i0 _ 11 184 Tryz.underlying23 hi hz0 hz1 hz2' rfl (by decide) u5 len1 (je PodLay0 lx) rfl (Vj.out.alloc _) ⟨w1.heap.size,0,none⟩ 1 1 (PodLay0.cs (n,(x1,y1,z1),(x2,y2,z2),(x3,y3,z3),(x4,y4,z4))) rfl rfl (World.news_of_block (cs:=#[.string n.name,.string n.owner,.int .i64 n.prio,.slice x1 y1 z1,.slice x2 y2 z2,.slice x3 y3 z3,.slice x4 y4 z4,.string n.key,.int .i64 n.most,.string n.node,.bool n.hold]) (t:=44) (fr:=(0,0)) (heap_alloc_new w1 _)) (qL _) (by decide) (by unfold maxLen;have:=Td.out;omega) (by have:=Td.out;omega) (by simp;omega) (w1.heap.size+1) (by simp) ?_;intro gg cap1 w2 hown1 hgrow hat hlt1)
      have GG:=lH (jg.grown (S:=fun b=>u5.ownBlock=some b) hgrow fun q e=>e);have hnn:∀q,(Value.slice (some ⟨gg,0,none⟩) (len1+1) cap1).ownBlock=some q→u5.ownBlock=some q∨(w1.alloc (.cells #[.string n.name,.string n.owner,.int .i64 n.prio,.slice x1 y1 z1,.slice x2 y2 z2,.slice x3 y3 z3,.slice x4 y4 z4,.string n.key,.int .i64 n.most,.string n.node,.bool n.hold] 44)).heap.size≤q:=fun q hq=>by
       obtain rfl:gg=q:=Option.some.inj hq;exact hat.imp id fun e=>by rw[World.size_alloc];omega
      have ND:=lH (show Deep PodLay0 44 At4 w2 Z.heap.size (.slice (some ⟨gg,0,none⟩) (len1+1) cap1) (lx++[(n,(x1,y1,z1),(x2,y2,z2),(x3,y3,z3),(x4,y4,z4))]) from⟨Own.snoc hown1 (by rw[UG.out]) HD.out.own.2 trivial,fun z hz=>by
       rcases List.mem_append.1 hz with hz | hz
       · exact(((RZ.out.off z hz).step (jg.of (ja w1 (.cells #[.string n.name,.string n.owner,.int .i64 n.prio,.slice x1 y1 z1,.slice x2 y2 z2,.slice x3 y3 z3,.slice x4 y4 z4,.string n.key,.int .i64 n.most,.string n.node,.bool n.hold] 44)))).new GG.out fun b e=>hnn b e)
       · obtain rfl:=List.mem_singleton.1 hz;exact((Vy.out.step (jg.of (ja w1 (.cells #[.string n.name,.string n.owner,.int .i64 n.prio,.slice x1 y1 z1,.slice x2 y2 z2,.slice x3 y3 z3,.slice x4 y4 z4,.string n.key,.int .i64 n.most,.string n.node,.bool n.hold] 44)))).new GG.out fun b e=>hnn b e)⟩)
      have NF:=lH (show Kept Z w2 from Below.mono (show Below Z.heap.size Z w2 from Below.trans (HK.out.trans (KW.out.trans (ja w1 (.cells #[.string n.name,.string n.owner,.int .i64 n.prio,.slice x1 y1 z1,.slice x2 y2 z2,.slice x3 y3 z3,.slice x4 y4 z4,.string n.key,.int .i64 n.most,.string n.node,.bool n.hold] 44)))) (GG.out.at_below (B:=Z.heap.size) (fun q e=>(J5 HD.out.own q e).1) (by have h1:=HK.out.size;rw[World.size_alloc];omega))) (Nat.le_refl _));have UD:=lH (show ((lx++[(n,(x1,y1,z1),(x2,y2,z2),(x3,y3,z3),(x4,y4,z4))]).map fun z=>z.1)=(l.take (k+1)).filter (fun p=>eqS p.node x) by rw[jho HN.out,if_pos HT.out,List.map_append,HX.out];rfl);clear hown1 hgrow hat hlt1 hnn hs1 hbase;go_wp2;go_roundw
      case rel=>exact⟨k+1,by omega,by go_num,_,UD.out,by rw[List.length_append,UG.out];have:=Td.out;simp;omega,ND.out,NF.out⟩
      case measure=>simp[intOf];omega
   · have NG:=lH (show l.take k=l by rw[List.take_of_length_le (by rw[HL.out];omega)]);have Ub:=lH (show Jo wr u5 (onP x l) by have:=jcQ HD.out;rw[HX.out,NG.out,←HE.out] at this;exact this);clear hlx hll hdp hK;go_wp2;go_ret;exact⟨_,rfl,Ub.out,Vc.out.trans HK.out⟩
def YV (x:ByteArray) (c:Int):Nod:=⟨x,[(⟨#[99,112,117]⟩,c)],[],[],false⟩
def jdL (x:ByteArray) (c:Int) (y:ByteArray):Pd:=⟨x,⟨#[]⟩,0,[(⟨#[99,112,117]⟩,c)],[],[],[],⟨#[]⟩,0,y,false⟩
theorem jcT (w:World) (c:Int) (h:-9223372036854775808≤c∧c≤9223372036854775807) (W:World) (k:Kept (w.alloc (.cells #[.string ⟨#[99,112,117]⟩,.int .i64 c] 100)) W):Vec.Reads W (.slice (some ⟨w.heap.size,0,none⟩) 1 1) [(⟨#[99,112,117]⟩,c)]:=by
 have cc:=jc w (.string ⟨#[99,112,117]⟩) [.int .i64 c] 100 W k;refine⟨_,1,rfl,(by decide:(1:Nat)≤1),(by decide:(1:Nat)≤maxLen),rfl,(by decide:(1:Nat)≤maxLen),fun i hi=>?_,.inr ⟨w.heap.size,0,rfl,cc.lt,fun i hi=>?_⟩⟩
 · obtain rfl:i=0:=by simpa using hi
   exact⟨(by decide:(3:Nat)≤maxLen),h.1,h.2⟩
 · obtain rfl:i=0:=by simpa using hi
   exact⟨cc.at_ 0 _ rfl,cc.at_ 1 _ rfl⟩
theorem jlV (x:ByteArray) (c:Int) (hc:-9223372036854775808≤c∧c≤9223372036854775807) (hx:x.size≤maxLen) (w:World) :
 Calls Tryz.prog 17 #[.string x,.int .i64 c] w fun e w'=>∃b1 n1 d1,e=.returned (.agg #[.string x,.slice b1 n1 d1,.slice none 0 0,.slice none 0 0,.bool false])∧zr w' (.slice b1 n1 d1) (.slice none 0 0) (.slice none 0 0) (YV x c)∧Kept w w'∧∀b o z,b1=some ⟨b,o,z⟩→w.heap.size<b:=by
 have cc:=jc w (.string ⟨#[]⟩) [.slice none 0 0,.slice none 0 0,.slice none 0 0,.bool false] 57 _ (Kept.refl _);obtain⟨W0,hW0⟩:=eX (w.alloc (.cells #[.string ⟨#[]⟩,.slice none 0 0,.slice none 0 0,.slice none 0 0,.bool false] 57))
 have hs:W0.heap.size=w.heap.size+1:=by rw[←hW0];simp
 rw[hW0] at cc;obtain⟨W1,hW1⟩:=eX (W0.alloc (.cells #[.string ⟨#[99,112,117]⟩,.int .i64 c] 100))
 have HR:=lH (jcT W0 c hc W1 (by rw[hW1];exact Kept.refl _));rw[hs] at HR;have c1:=cc.kept (W':=W1) (by rw[←hW1];exact ja _ _);have KW:=lH (show Kept w W1 by rw[←hW1,←hW0];exact jn _ _ _);have y0:=c1.at_ 0 _ rfl;have y1:=c1.at_ 1 _ rfl;have y2:=c1.at_ 2 _ rfl;have y3:=c1.at_ 3 _ rfl;have y4:=c1.at_ 4 _ rfl;have f0:=c1.free 0;have f1:=c1.free 1;have f2:=c1.free 2;have f3:=c1.free 3;have f4:=c1.free 4;have P:=lH (j5 (vs:=[.string x,.slice (some ⟨w.heap.size+1,0,none⟩) 1 1,.slice none 0 0,.slice none 0 0,.bool false]) c1 rfl);clear c1 cc;go_enter Tryz.func17,Tryz.ntmps17;go_wp2;try rw[hW0]
 try rw[hW1]
 obtain⟨WE,hWE⟩:=eX (W1.setCells w.heap.size 0 [.string x,.slice (some ⟨w.heap.size+1,0,none⟩) 1 1,.slice none 0 0,.slice none 0 0,.bool false])
 have hWE2:(((((W1.setCell ⟨w.heap.size,0,none⟩ (.string x)).setCell ⟨w.heap.size,1,none⟩ (.slice (some ⟨w.heap.size+1,0,none⟩) 1 1)).setCell ⟨w.heap.size,2,none⟩ (.slice none 0 0)).setCell ⟨w.heap.size,3,none⟩ (.slice none 0 0)).setCell ⟨w.heap.size,4,none⟩ (.bool false))=WE:=hWE;rw[hWE] at P;try rw[hWE2]
 clear hWE hWE2;obtain⟨PC,hsz,hbl,hkp⟩:=P.out;refine bodyPost_ret (by simp[results,Tryz.results17,go_sem,PC.at_ 0 _ rfl,PC.at_ 1 _ rfl,PC.at_ 2 _ rfl,PC.at_ 3 _ rfl,PC.at_ 4 _ rfl];try rfl) rfl ?_;exact⟨_,_,_,rfl,⟨hx,(HR.out.far hsz (fun b o s e=>hbl b (by cases e;omega))),Reads.nil _,Reads.nil _⟩,hkp _ _ (Nat.le_refl _) KW.out,fun b o z e=>by cases e;omega⟩
theorem XJ (x:ByteArray) (c:Int) (hc:-9223372036854775808≤c∧c≤9223372036854775807) (hx:x.size≤maxLen) (w:World) :
 Calls Tryz.prog 17 #[.string x,.int .i64 c] w fun e w'=>∃b1 n1 d1,e=.returned (.agg #[.string x,.slice b1 n1 d1,.slice none 0 0,.slice none 0 0,.bool false])∧zr w' (.slice b1 n1 d1) (.slice none 0 0) (.slice none 0 0) (YV x c)∧Kept w w' :=
 (jlV x c hc hx w).mono fun e w' ⟨b,n,d,h1,h2,h3,_⟩=>⟨b,n,d,h1,h2,h3⟩
theorem jlm (x:ByteArray) (c:Int) (y:ByteArray) (hc:-9223372036854775808≤c∧c≤9223372036854775807) (hx:x.size≤maxLen) (hy:y.size≤maxLen) (w:World) :
 Calls Tryz.prog 18 #[.string x,.int .i64 c,.string y] w fun e w'=>∃b1 n1 d1,e=.returned (.agg #[.string x,.string ⟨#[]⟩,.int .i64 0,.slice b1 n1 d1,.slice none 0 0,.slice none 0 0,.slice none 0 0,.string ⟨#[]⟩,.int .i64 0,.string y,.bool false])∧ji w' (.slice b1 n1 d1) (.slice none 0 0) (.slice none 0 0) (.slice none 0 0) (jdL x c y)∧Kept w w'∧∀b o z,b1=some ⟨b,o,z⟩→w.heap.size<b:=by
 have cc:=jc w (.string ⟨#[]⟩) [.string ⟨#[]⟩,.int .i64 0,.slice none 0 0,.slice none 0 0,.slice none 0 0,.slice none 0 0,.string ⟨#[]⟩,.int .i64 0,.string ⟨#[]⟩,.bool false] 44 _ (Kept.refl _);obtain⟨W0,hW0⟩:=eX (w.alloc (.cells #[.string ⟨#[]⟩,.string ⟨#[]⟩,.int .i64 0,.slice none 0 0,.slice none 0 0,.slice none 0 0,.slice none 0 0,.string ⟨#[]⟩,.int .i64 0,.string ⟨#[]⟩,.bool false] 44))
 have hs:W0.heap.size=w.heap.size+1:=by rw[←hW0];simp
 rw[hW0] at cc;obtain⟨W1,hW1⟩:=eX (W0.alloc (.cells #[.string ⟨#[99,112,117]⟩,.int .i64 c] 100))
 have HR:=lH (jcT W0 c hc W1 (by rw[hW1];exact Kept.refl _));rw[hs] at HR;have c1:=cc.kept (W':=W1) (by rw[←hW1];exact ja _ _);have KW:=lH (show Kept w W1 by rw[←hW1,←hW0];exact jn _ _ _);have y0:=c1.at_ 0 _ rfl;have y1:=c1.at_ 1 _ rfl;have y2:=c1.at_ 2 _ rfl;have y3:=c1.at_ 3 _ rfl;have y4:=c1.at_ 4 _ rfl;have y5:=c1.at_ 5 _ rfl;have y6:=c1.at_ 6 _ rfl;have y7:=c1.at_ 7 _ rfl;have y8:=c1.at_ 8 _ rfl;have y9:=c1.at_ 9 _ rfl;have y10:=c1.at_ 10 _ rfl;have f0:=c1.free 0;have f1:=c1.free 1;have f2:=c1.free 2;have f3:=c1.free 3;have f4:=c1.free 4;have f5:=c1.free 5;have f6:=c1.free 6;have f7:=c1.free 7;have f8:=c1.free 8;have f9:=c1.free 9;have f10:=c1.free 10;have P:=lH (j5 (vs:=[.string x,.string ⟨#[]⟩,.int .i64 0,.slice (some ⟨w.heap.size+1,0,none⟩) 1 1,.slice none 0 0,.slice none 0 0,.slice none 0 0,.string ⟨#[]⟩,.int .i64 0,.string y,.bool false]) c1 rfl);clear c1 cc;go_enter Tryz.func18,Tryz.ntmps18;go_wp2;try rw[hW0]
 try rw[hW1]
 obtain⟨WE,hWE⟩:=eX (W1.setCells w.heap.size 0 [.string x,.string ⟨#[]⟩,.int .i64 0,.slice (some ⟨w.heap.size+1,0,none⟩) 1 1,.slice none 0 0,.slice none 0 0,.slice none 0 0,.string ⟨#[]⟩,.int .i64 0,.string y,.bool false])
 have hWE2:(((((((((((W1.setCell ⟨w.heap.size,0,none⟩ (.string x)).setCell ⟨w.heap.size,1,none⟩ (.string ⟨#[]⟩)).setCell ⟨w.heap.size,2,none⟩ (.int .i64 0)).setCell ⟨w.heap.size,3,none⟩ (.slice (some ⟨w.heap.size+1,0,none⟩) 1 1)).setCell ⟨w.heap.size,4,none⟩ (.slice none 0 0)).setCell ⟨w.heap.size,5,none⟩ (.slice none 0 0)).setCell ⟨w.heap.size,6,none⟩ (.slice none 0 0)).setCell ⟨w.heap.size,7,none⟩ (.string ⟨#[]⟩)).setCell ⟨w.heap.size,8,none⟩ (.int .i64 0)).setCell ⟨w.heap.size,9,none⟩ (.string y)).setCell ⟨w.heap.size,10,none⟩ (.bool false))=WE:=hWE;rw[hWE] at P;try rw[hWE2]
 clear hWE hWE2;obtain⟨PC,hsz,hbl,hkp⟩:=P.out;refine bodyPost_ret (by simp[results,Tryz.results18,go_sem,PC.at_ 0 _ rfl,PC.at_ 1 _ rfl,PC.at_ 2 _ rfl,PC.at_ 3 _ rfl,PC.at_ 4 _ rfl,PC.at_ 5 _ rfl,PC.at_ 6 _ rfl,PC.at_ 7 _ rfl,PC.at_ 8 _ rfl,PC.at_ 9 _ rfl,PC.at_ 10 _ rfl];try rfl) rfl ?_;exact⟨_,_,_,rfl,⟨hx,(by decide:(0:Nat)≤maxLen),(by decide:(0:Nat)≤maxLen),hy,(by decide:(-9223372036854775808:Int)≤0∧(0:Int)≤9223372036854775807),(by decide:(-9223372036854775808:Int)≤0∧(0:Int)≤9223372036854775807),(HR.out.far hsz (fun b o s e=>hbl b (by cases e;omega))),Reads.nil _,Reads.nil _,Reads.nil _⟩,hkp _ _ (Nat.le_refl _) KW.out,fun b o z e=>by cases e;omega⟩
theorem j0 {X:Type} {L:Lay X} {lx:List X} {q:Nat} {v:Value} {vs:List Value} {W:World} (hc:je L lx=v::vs) (c:jf q (v::vs) W) (hf:∀x ∈ lx,L.fine x) (hm:lx.length≤maxLen):jk L W (some ⟨q,0,none⟩) lx.length lx :=
 ⟨rfl,hm,hf,.inr ⟨q,0,rfl,c.lt,fun i x j u hi hj=>by
  have:=Yr L lx i x j u hi hj;rw[hc] at this;rw[Nat.zero_add];exact c.at_ _ u this⟩⟩
theorem zS {w:World} {a:Option Addr} {len:Nat} {lx:List NX} (h:jk zH w a len lx) (hf:∀z ∈ lx,At3 w z):jo w a len (lx.map fun z=>z.1):=by
 obtain⟨g0,g1,g2,g3⟩:=h;refine⟨by rw[List.length_map];exact g0,g1,g3.imp id ?_⟩;rintro ⟨b,off,rfl,hb,hc⟩;refine⟨b,off,rfl,hb,fun i n hi=>?_⟩;rw[List.getElem?_map] at hi;obtain⟨z,hz,rfl⟩:=Option.map_eq_some_iff.1 hi;exact⟨_,_,_,_,_,_,_,_,_,hc i z 0 _ hz rfl,hc i z 1 _ hz rfl,hc i z 2 _ hz rfl,hc i z 3 _ hz rfl,hc i z 4 _ hz rfl,hf z (List.mem_of_getElem? hz)⟩
theorem Zi {w:World} {a:Option Addr} {len:Nat} {lx:List PX} (h:jk PodLay0 w a len lx) (hf:∀z ∈ lx,At4 w z):jy w a len (lx.map fun z=>z.1):=by
 obtain⟨g0,g1,g2,g3⟩:=h;refine⟨by rw[List.length_map];exact g0,g1,g3.imp id ?_⟩;rintro ⟨b,off,rfl,hb,hc⟩;refine⟨b,off,rfl,hb,fun i n hi=>?_⟩;rw[List.getElem?_map] at hi;obtain⟨z,hz,rfl⟩:=Option.map_eq_some_iff.1 hi;exact⟨_,_,_,_,hc i z 0 _ hz rfl,hc i z 1 _ hz rfl,hc i z 2 _ hz rfl,hc i z 3 _ hz rfl,hc i z 4 _ hz rfl,hc i z 5 _ hz rfl,hc i z 6 _ hz rfl,hc i z 7 _ hz rfl,hc i z 8 _ hz rfl,hc i z 9 _ hz rfl,hc i z 10 _ hz rfl,hf z (List.mem_of_getElem? hz)⟩
theorem zT (w:World):j9 w none 0 []:=⟨rfl,by decide,.inl rfl⟩
theorem jcb (x:ByteArray) (c:Int) (y:ByteArray) (hc:-9223372036854775808≤c∧c≤9223372036854775807) (hx:x.size≤maxLen) (hy:y.size≤maxLen) (w:World) :
 Calls Tryz.prog 18 #[.string x,.int .i64 c,.string y] w fun e w'=>∃b1 n1 d1,e=.returned (.agg #[.string x,.string ⟨#[]⟩,.int .i64 0,.slice b1 n1 d1,.slice none 0 0,.slice none 0 0,.slice none 0 0,.string ⟨#[]⟩,.int .i64 0,.string y,.bool false])∧ji w' (.slice b1 n1 d1) (.slice none 0 0) (.slice none 0 0) (.slice none 0 0) (jdL x c y)∧Kept w w' :=
 (jlm x c y hc hx hy w).mono fun e w' ⟨b,n,d,h1,h2,h3,_⟩=>⟨b,n,d,h1,h2,h3⟩
def jaq (W:World) (q:Nat):Prop:=∀i u,W.cell? ⟨q,i,none⟩=some u→∃a n c,u=.slice a n c
theorem J7 {W:World} {q:Nat} {a1 a2 a3:Option Addr} {m1 c1 m2 c2 m3 c3:Nat} {T:TypeId} {fr:Nat×Nat} (hh:W.heap[q]?=some (.cells #[.slice a1 m1 c1,.slice a2 m2 c2,.slice a3 m3 c3] T fr)):jaq W q:=by
 intro i u h;rw[Lib.cell_of_heap hh] at h
 match i,h with
 | 0,h=>cases h;exact⟨_,_,_,rfl⟩
 | 1,h=>cases h;exact⟨_,_,_,rfl⟩
 | 2,h=>cases h;exact⟨_,_,_,rfl⟩
 | i+3,h=>simp at h
theorem jaq.noRow {W:World} {q:Nat} (h:jaq W q):jcW W q:=fun o x u h1 _=>by
 obtain⟨_,_,_,e⟩:=h _ _ h1
 cases e
theorem jar {α:Type} {L:Lay α} {w w':World} {a:Option Addr} {len:Nat} {l:List α} {N:Nat} (hL:∀x,∃u,(L.cs x)[0]?=some u∧∀a n c,u≠.slice a n c) (h:jk L w a len l) (hs:w'.heap.size=w.heap.size) (hb:∀b,b≠N→w'.heap[b]?=w.heap[b]?) (hn:jaq w N):jk L w' a len l:=by
 obtain⟨h3,h4,h5,h6⟩:=h;refine⟨h3,h4,h5,?_⟩;rcases h6 with h6 | ⟨b,off,rfl,hlt,hc⟩
 · exact .inl h6
 · cases l with
   | nil=>exact .inl h3.symm
   | cons x t =>
    have hne:b≠N:=by
     rintro rfl;obtain⟨u,g0,g1⟩:=hL x;obtain⟨_,_,_,e⟩:=hn _ _ (hc 0 x 0 _ rfl g0);exact g1 _ _ _ e
    exact .inr ⟨b,off,rfl,by rw[hs];exact hlt,fun i x j u hi hj=>(World.cell?_of_block (a:=⟨b,off+i*L.m+j,none⟩) (hb b hne)).trans (hc i x j u hi hj)⟩
theorem Xe {α:Type} {L:Lay α} {w w':World} {v:Value} {l:List α} {N:Nat} (hL:∀x,∃u,(L.cs x)[0]?=some u∧∀a n c,u≠.slice a n c) (h:Reads L w v l) (hs:w'.heap.size=w.heap.size) (hb:∀b,b≠N→w'.heap[b]?=w.heap[b]?) (hn:jaq w N):Reads L w' v l:=by
 obtain⟨a,cap,rfl,h1,h2,h3⟩:=h;exact⟨a,cap,rfl,h1,h2,jar hL h3 hs hb hn⟩
theorem joi (x:ByteArray×ByteArray):∃u,(jz.cs x)[0]?=some u∧∀a n c,u≠.slice a n c:=⟨_,rfl,fun _ _ _ e=>by cases e⟩
theorem jof (x:NT):∃u,(ju.cs x)[0]?=some u∧∀a n c,u≠.slice a n c:=⟨_,rfl,fun _ _ _ e=>by cases e⟩
theorem jmy (x:Int×ByteArray×ByteArray):∃u,(jP.cs x)[0]?=some u∧∀a n c,u≠.slice a n c:=⟨_,rfl,fun _ _ _ e=>by cases e⟩
theorem jos (x:NX):∃u,(zH.cs x)[0]?=some u∧∀a n c,u≠.slice a n c:=⟨_,rfl,fun _ _ _ e=>by cases e⟩
theorem jnT (x:PX):∃u,(PodLay0.cs x)[0]?=some u∧∀a n c,u≠.slice a n c:=⟨_,rfl,fun _ _ _ e=>by cases e⟩
theorem joe (x:BX):∃u,(zv.cs x)[0]?=some u∧∀a n c,u≠.slice a n c:=⟨_,rfl,fun _ _ _ e=>by cases e⟩
theorem jlF {w:World} {a:Option Addr} {len:Nat} {lx:List BX} (h:jk zv w a len lx) (hf:∀z ∈ lx,At1 w z):j9 w a len (lx.map fun z=>z.1):=by
 obtain⟨g0,g1,g2,g3⟩:=h;refine⟨by rw[List.length_map];exact g0,g1,g3.imp id ?_⟩;rintro ⟨b,off,rfl,hb,hc⟩;refine⟨b,off,rfl,hb,fun i n hi=>?_⟩;rw[List.getElem?_map] at hi;obtain⟨z,hz,rfl⟩:=Option.map_eq_some_iff.1 hi;exact⟨_,hc i z 0 _ hz rfl,hc i z 1 _ hz rfl,hc i z 2 _ hz rfl,hf z (List.mem_of_getElem? hz)⟩
section
variable {w w':World} {N:Nat} (hs:w'.heap.size=w.heap.size) (hb:∀b,b≠N→w'.heap[b]?=w.heap[b]?) (hn:jaq w N)
include hs hb hn
theorem jbZ {v:Value} {l:List Nod} (h:Jz w v l):Jz w' v l:=by
 obtain⟨a,cap,rfl,h1,h2,h3⟩:=h;obtain⟨lx,hm,hr,hat⟩:=jhy h3;exact⟨a,cap,rfl,h1,h2,by rw[←hm];exact zS (by rw[hm];exact jar jos hr hs hb hn) fun z hz=>jbh (hat z hz) hs hb hn.noRow⟩
theorem jc4 {v:Value} {l:List Pd} (h:Jo w v l):Jo w' v l:=by
 obtain⟨a,cap,rfl,h1,h2,h3⟩:=h;obtain⟨lx,hm,hr,hat⟩:=jhl h3;exact⟨a,cap,rfl,h1,h2,by
  rw[←hm];exact Zi (by rw[hm];exact jar jnT hr hs hb hn) fun z hz=>by
   have g:=hat z hz;exact⟨g.name,g.owner,g.key,g.node,g.prio,g.most,jfI g.need hs hb hn.noRow,Xe joi g.labels hs hb hn,Xe jmy g.sel hs hb hn,Xe jof g.tols hs hb hn⟩⟩
theorem jcG {v:Value} {l:List Bd} (h:Zf w v l):Zf w' v l:=by
 obtain⟨a,cap,rfl,h1,h2,h3⟩:=h;obtain⟨lx,hm,hr,hat⟩:=jhP h3;exact⟨a,cap,rfl,h1,h2,by
  rw[←hm];exact jlF (by rw[hm];exact jar joe hr hs hb hn) fun z hz=>by
   have g:=hat z hz;exact⟨g.name,g.floor,Xe jmy g.sel hs hb hn⟩⟩
theorem zU {v:Value} {s:Clu} (h:jC w v s):jC w' v s:=by
 obtain⟨v1,v2,v3,e,g⟩:=h;exact⟨v1,v2,v3,e,jbZ hs hb hn g.nodes,jc4 hs hb hn g.pods,jcG hs hb hn g.buds⟩
end
end Go.Proofs.YtokdjfoalkmhiaaGreat
namespace Go.Proofs.YtokdjfoalkmhiaaGreat
open Go.RowKit
theorem jok {v:Value} {s:Clu} {w:World} (h:jC w v s) (hl:jE s) (e1:s.nodes.length≤1000) (e2:s.pods.length≤1000) (e3:s.buds.length≤1000):Calls Tryz.prog 24 #[v] w fun e w'=>∃v,e=.returned v∧jC w' v s∧Kept w w':=by
 obtain⟨v1,v2,v3,rfl,⟨a,cap,rfl,l1,m1,h1⟩,⟨b,cp,rfl,l2,m2,h2⟩,⟨d,cb,rfl,l3,m3,h3⟩⟩:=h;obtain⟨nl,pl,bl⟩:=s;dsimp only at *;obtain⟨len,hlen⟩:=eX (nl.length)
 obtain⟨m,hm⟩:=eX (pl.length)
 obtain⟨n,hn⟩:=eX (bl.length)
 rw[hlen] at h1 l1;rw[hm] at h2 l2;rw[hn] at h3 l3;try rw[hlen]
 try rw[hm]
 try rw[hn]
 obtain⟨Z,hZ⟩:=eX ((w.alloc (.cells #[.slice a len cap,.slice b m cp,.slice d n cb] 26)).alloc (.cells #[.slice none 0 0,.slice none 0 0,.slice none 0 0] 70))
 have hkz:Kept w Z:=by rw[←hZ];exact jn _ _ _
 have cc:=jc w (.slice a len cap) [.slice b m cp,.slice d n cb] 26 Z (by rw[←hZ];exact ja _ _);have HH:=lH (show jf (w.heap.size+1) [.slice none 0 0,.slice none 0 0,.slice none 0 0] Z by
  have dd:=jc (w.alloc (.cells #[.slice a len cap,.slice b m cp,.slice d n cb] 26)) (.slice none 0 0) [.slice none 0 0,.slice none 0 0] 70 Z (by rw[hZ];exact Kept.refl _);rw[World.size_alloc] at dd;exact dd)
 obtain⟨HN,HP,HB,Vc⟩:=lH4 (fun W (k:Kept Z W)=>jnD (qT l1 m1 (h1.kept (hkz.trans k))) hl.nodes e1) (fun W (k:Kept Z W)=>jm8 (jhF l2 m2 (h2.kept (hkz.trans k))) hl.pods e2) (fun W (k:Kept Z W)=>jmO (jdA l3 m3 (h3.kept (hkz.trans k))) hl.buds e3) hkz;have NH:=lH (show ∀W,Kept Z W→jaq W (w.heap.size+1) from fun W k=>by
  have hh:Z.heap[w.heap.size+1]?=some (.cells #[.slice none 0 0,.slice none 0 0,.slice none 0 0] 70):=by
   have:=(w.alloc (.cells #[.slice a len cap,.slice b m cp,.slice d n cb] 26)).alloc_heap_new (.cells #[.slice none 0 0,.slice none 0 0,.slice none 0 0] 70);rw[World.size_alloc,hZ] at this;exact this
  exact J7 ((k.block _ (Array.getElem?_eq_some_iff.1 hh).1).trans hh))
 have HS:=lH (show ∀W,Kept Z W→W.cell? ⟨w.heap.size,0,none⟩=some (.slice a len cap)∧W.cell? ⟨w.heap.size,1,none⟩=some (.slice b m cp)∧W.cell? ⟨w.heap.size,2,none⟩=some (.slice d n cb) from fun W k=>⟨(cc.kept k).at_ 0 _ rfl,(cc.kept k).at_ 1 _ rfl,(cc.kept k).at_ 2 _ rfl⟩);have U9:=lH (show ∀U W:World,(∀b,b≠w.heap.size+1→U.heap[b]?=W.heap[b]?)→Kept Z W→U.cell? ⟨w.heap.size,0,none⟩=some (.slice a len cap)∧U.cell? ⟨w.heap.size,1,none⟩=some (.slice b m cp)∧U.cell? ⟨w.heap.size,2,none⟩=some (.slice d n cb) from fun U W e k=>by
  have c:=(cc.kept k).block (e _ (by omega));exact⟨c.at_ 0 _ rfl,c.at_ 1 _ rfl,c.at_ 2 _ rfl⟩)
 clear h1 h2 h3 l1 l2 l3 m1 m2 m3 hkz cc hl e1 e2 e3;go_enter Tryz.func24,Tryz.ntmps24;go_wp2_with fail
 try rw[hZ]
 clear hZ;refine wp_region_held_drew (S:=fun W=>W.cell? ⟨w.heap.size,0,none⟩=some (.slice a len cap)∧W.cell? ⟨w.heap.size,1,none⟩=some (.slice b m cp)∧W.cell? ⟨w.heap.size,2,none⟩=some (.slice d n cb)) (by kernel_rfl) (HS.out _ (Kept.drew _)) (fun hHeld=>?_);refine tkI 0 ?_;refine tkI 1 ?_;refine tkI 3 ?_;refine tkI 4 ?_;refine tkI 6 ?_;refine tkI 7 ?_;try simp only[nP]
 have J:=lH (Kept.drew Z);refine rd1 2 fun K9 Ky=>?_;go_simp;refine(HN.out _ J.out).mono ?_;rintro e1 w1 ⟨u1,rfl,hr,kk⟩;have J:=lH (J.out.trans kk);have hr2:=hr;obtain⟨x1,q1,rfl,-,-,-⟩:=hr2;rw[hlen] at hr;try rw[hlen]
 have RR1:=lH hr;clear hr kk;refine Ky.out _ _ (HS.out _ J.out) (fun _=>?_);clear Ky K9;try simp only[nP]
 refine rd1 5 fun K9 Ky=>?_;go_simp;refine(HP.out _ J.out).mono ?_;rintro e2 w2 ⟨u2,rfl,hr,kk⟩;have J:=lH (J.out.trans kk);have RR1:=lH (RR1.out.kept kk);have hr2:=hr;obtain⟨x2,q2,rfl,-,-,-⟩:=hr2;rw[hm] at hr;try rw[hm]
 have RR2:=lH hr;clear hr kk;refine Ky.out _ _ (HS.out _ J.out) (fun _=>?_);clear Ky K9;try simp only[nP]
 refine rd1 8 fun K9 Ky=>?_;go_simp;refine(HB.out _ J.out).mono ?_;rintro e3 w3 ⟨u3,rfl,hr,kk⟩;obtain⟨J,RR1,RR2⟩:=lH3 (J.out.trans kk) (RR1.out.kept kk) (RR2.out.kept kk);have hr2:=hr;obtain⟨x3,q3,rfl,-,-,-⟩:=hr2;rw[hn] at hr;try rw[hn]
 have RR3:=lH hr;clear hr kk;refine Ky.out _ _ (HS.out _ J.out) (fun _=>?_);clear Ky K9;try simp only[nP]
 refine tkI 9 ?_;try simp only[nP]
 have H9:=lH (HH.out.kept J.out);obtain⟨z0,z1,z2⟩:=H9.out.at3;have f0:=H9.out.free 0;have f1:=H9.out.free 1;have f2:=H9.out.free 2;have PP:=lH (j5 (vs:=[.slice x1 len q1,.slice x2 m q2,.slice x3 n q3]) H9.out rfl);refine rd1 10 fun K9 Ky=>?_;go_simp;obtain⟨WE,hWE⟩:=eX (w3.setCells (w.heap.size+1) 0 [.slice x1 len q1,.slice x2 m q2,.slice x3 n q3])
 have hWE2:(((w3.setCell ⟨(w.heap.size+1),0,none⟩ (.slice x1 len q1)).setCell ⟨(w.heap.size+1),1,none⟩ (.slice x2 m q2)).setCell ⟨(w.heap.size+1),2,none⟩ (.slice x3 n q3))=WE:=hWE;rw[hWE] at PP;try rw[hWE2]
 obtain⟨PC,hsz,hbl,hkp⟩:=PP.out;skip;refine Ky.out _ _ (U9.out _ _ hbl J.out) (fun _=>?_);clear Ky K9 z0 z1 z2 f0 f1 f2;try simp only[nP]
 refine wpAnyH_done (by kernel_rfl) ?_ _;go_wp2;refine bodyPost_ret (by simp[results,Tryz.results24,go_sem,PC.at_ 0 _ rfl,PC.at_ 1 _ rfl,PC.at_ 2 _ rfl];try rfl) rfl ?_;have SL:=NH.out _ J.out;exact⟨_,rfl,⟨_,_,_,rfl,jbZ hsz hbl SL RR1.out,jc4 hsz hbl SL RR2.out,jcG hsz hbl SL RR3.out⟩,hkp _ _ (Nat.le_succ _) (Vc.out.trans J.out)⟩
theorem jme {n:Pd} (h:JC n=true):JO n:=by
 obtain⟨-,-,-,-,h1,h2,h3,h4⟩:=jhi h;refine⟨?_,?_,?_,?_⟩
 · unfold Vec.YN at h1;simp only[Bool.and_eq_true,decide_eq_true_eq] at h1;omega
 · have:=(jh8 h2).1;omega
 · have:=(jiM h3).1;omega
 · have:=(jhW h4).1;omega
def ZR (s:Clu):Bool:=qc s&&decide (zN s=0)
theorem jfr {s:Clu} (h:qc s=true):jE s∧s.nodes.length≤34∧s.pods.length≤130∧s.buds.length≤20:=by
 unfold qc ZN at h;simp only[Bool.and_eq_true,decide_eq_true_eq,List.all_eq_true] at h;obtain⟨h1,h2,⟨h3,h4⟩,h5,h6⟩:=h;refine⟨⟨fun n hn=>jns (h5 n hn),fun p hp=>jme (h6 p hp),fun n hn=>?_,by omega,by omega,by omega⟩,by omega,by omega,by omega⟩;have:=h4 n hn;unfold Xt YA at this;simp only[Bool.and_eq_true,decide_eq_true_eq] at this;omega
theorem jmo {s:Clu} (h:ZR s=true):qc s=true:=by unfold ZR at h;exact(Bool.and_eq_true_iff.1 h).1
theorem XV {s:Clu} (h:ZR s=true):zN s=0:=by unfold ZR at h;exact of_decide_eq_true (Bool.and_eq_true_iff.1 h).2
theorem jnk {v:Value} {s:Clu} {c:Bool} {w:World} (h:jC w v s) (hc:ZR s=c):Calls Tryz.prog 7 #[v] w (Say (.bool c) w):=by
 subst hc;have h0:=h;obtain⟨v1,v2,v3,rfl,⟨a,cap,rfl,-,-,-⟩,⟨b,cp,rfl,-,-,-⟩,⟨d,cb,rfl,-,-,-⟩⟩:=h0;obtain⟨len,hl1⟩:=eX (s.nodes.length)
 obtain⟨m,hl2⟩:=eX (s.pods.length)
 obtain⟨n,hl3⟩:=eX (s.buds.length)
 rw[hl1,hl2,hl3] at h ⊢;clear hl1 hl2 hl3;obtain⟨Z,hZ⟩:=eX (w.alloc (.cells #[.slice a len cap,.slice b m cp,.slice d n cb] 26))
 have hkz:Kept w Z:=by rw[←hZ];exact ja _ _
 obtain⟨HC,HV,Vc⟩:=lH3 (show jf w.heap.size [.slice a len cap,.slice b m cp,.slice d n cb] Z from jc w (.slice a len cap) [.slice b m cp,.slice d n cb] 26 Z (by rw[hZ];exact Kept.refl _)) (h.kept hkz) hkz;obtain⟨e1,he1⟩:=eX (qc s)
 have UE:=lH he1;have HG:=lH (show ZR s=(e1&&decide (zN s=0)) by unfold ZR;rw[he1]);rw[HG.out];clear h hkz;have cq0:=(HC.out.kept (Kept.refl _)).at_ 0 _ rfl;have cq1:=(HC.out.kept (Kept.refl _)).at_ 1 _ rfl;have cq2:=(HC.out.kept (Kept.refl _)).at_ 2 _ rfl;go_enter Tryz.func7,Tryz.ntmps7;go_wp2_with fail
 try rw[hZ]
 clear hZ;refine(jnz HV.out he1).mono ?_;rintro e w1 ⟨rfl,kk⟩;have K:=lH kk;clear kk he1 cq0 cq1 cq2;have cq0:=(HC.out.kept K.out).at_ 0 _ rfl;have cq1:=(HC.out.kept K.out).at_ 1 _ rfl;have cq2:=(HC.out.kept K.out).at_ 2 _ rfl
 cases e1 with
 | false =>
  go_wp2;go_ret;exact⟨rfl,Vc.out.trans K.out⟩
 | true =>
  obtain⟨L1,L2,L3,L4⟩:=jfr UE.out;have HL:=lH L1;clear L1;go_wp2_with fail
  refine(jok (HV.out.kept K.out) HL.out (by omega) (by omega) (by omega)).mono ?_;rintro e w2 ⟨x9,rfl,hx,kk⟩;have K2:=lH (K.out.trans kk);have HX:=lH hx;clear hx kk cq0 cq1 cq2;go_wp2_with fail
  obtain⟨c,hc⟩:=eX (zN s)
  refine(jjp HX.out hc).mono ?_;rintro e w3 ⟨rfl,kk⟩;have K3:=lH (K2.out.trans kk);have Ul:=lH hc;clear kk;rw[hc];clear hc;obtain⟨t,ht⟩:=eX (decide (c=0))
  have ht':(c==0)=t:=ht;go_wp2;go_ret;exact⟨by rw[Ul.out,ht];rfl,Vc.out.trans K3.out⟩
def Asc (l:List Pd):Prop:=l.Pairwise fun x y=>ltS x.name y.name=true
theorem jfi:∀{prev:Option ByteArray} {l:List Pd},jX prev l=0→(∀q,prev=some q→∀x ∈ l,ltS q x.name=true)∧Asc l
 | _,[],_=>⟨fun q _ x h=>absurd h (by simp),.nil⟩
 | prev,n::t,h=>by
  by_cases z:zC n=0
  · by_cases y:Vec.jK prev n.name=true
    · rw[Xy z y] at h;cases h
    · have y:Vec.jK prev n.name=false:=by simpa using y
      rw[ZQ z y] at h;obtain⟨h2,h3⟩:=jfi h;refine⟨fun q hq x hx=>?_,List.pairwise_cons.2 ⟨fun x hx=>h2 _ rfl x hx,h3⟩⟩;subst hq;have hlt:ltS q n.name=true:=Vec.X5 y;rcases List.mem_cons.1 hx with rfl | hx
      · exact hlt
      · exact Vec.Ja hlt (h2 _ rfl x hx)
  · rw[qO z] at h;exact absurd h z
theorem jfU {s:Clu} (h:ZR s=true):Asc s.pods:=by
 have hc:=XV h;have h0:or3 (jI s.nodes) (jD s.pods) (jH s.buds)=0:=Decidable.byContradiction fun g=>g ((qK (nl:=s.nodes) (pl:=s.pods) (bl:=s.buds) rfl g).symm.trans hc);have ho:jD s.pods=0:=by
  unfold or3 at h0;split at h0
  · rename_i h1;exact absurd h0 h1
  · split at h0
    · exact h0
    · rename_i h1;exact Decidable.of_not_not h1
 unfold jD at ho;split at ho
 · cases ho
 · exact(jfi ho).2
theorem jal:∀{l:List Pd} {p:Pd},Asc l→p ∈ l→JP l p.name=some p
 | [],_,_,h=>by cases h
 | x::t,p,h,hp=>by
  unfold JP;rcases List.mem_cons.1 hp with hp | hp
  · subst hp;exact List.find?_cons_of_pos (p:=fun n:Pd=>eqS n.name p.name) (zh _)
  · have hlt:=(List.pairwise_cons.1 h).1 p hp;exact(List.find?_cons_of_neg (p:=fun n:Pd=>eqS n.name p.name) (fun e=>Vec.Yi hlt (jR.1 e))).trans (jal (List.pairwise_cons.1 h).2 hp)
theorem jj6 {l:List Pd} {x:ByteArray}:JP l x=none↔∀q ∈ l,q.name≠x:=by
 unfold JP;rw[List.find?_eq_none];exact⟨fun h q hq e=>h q hq (jR.2 e),fun h q hq e=>h q hq (jR.1 e)⟩
theorem jmU {l:List Pd} {x:ByteArray} {p:Pd} (h:JP l x=some p):p ∈ l∧p.name=x :=
 ⟨List.mem_of_find?_eq_some h,jR.1 (List.find?_some (p:=fun n:Pd=>eqS n.name x) h)⟩
theorem jgj {x:ByteArray}:∀{l:List Pd},(∀q ∈ l,q.name≠x)→zc x l=l
 | [],_=>rfl
 | p::t,h=>by
  have hp:=h p (List.mem_cons_self ..);rw[zc,if_neg (fun e=>hp (jR.1 e)),jgj fun q hq=>h q (List.mem_cons_of_mem _ hq)]
theorem Zl {x:ByteArray}:∀{l:List Pd} {q:Pd},q ∈ zc x l→q ∈ l
 | p::t,q,h=>by
  rw[zc] at h;split at h
  · exact List.mem_cons_of_mem _ h
  · rcases List.mem_cons.1 h with rfl | h
    · exact List.mem_cons_self ..
    · exact List.mem_cons_of_mem _ (Zl h)
theorem jef {x:ByteArray}:∀{l:List Pd},Asc l→∀q ∈ zc x l,q.name≠x
 | p::t,h,q,hq=>by
  obtain⟨h1,h2⟩:=List.pairwise_cons.1 h;rw[zc] at hq;split at hq
  · rename_i e;have e:=jR.1 e;have:=Vec.Yi (h1 q hq);rw[e] at this;exact fun e=>this e.symm
  · rename_i e;rcases List.mem_cons.1 hq with rfl | hq
    · exact fun e'=>e (jR.2 e')
    · exact jef h2 q hq
theorem jf6 {x:ByteArray}:∀{l:List Pd},Asc l→Asc (zc x l)
 | [],h=>h
 | p::t,h=>by
  obtain⟨h1,h2⟩:=List.pairwise_cons.1 h;rw[zc];split
  · exact h2
  · exact List.pairwise_cons.2 ⟨fun q hq=>h1 q (Zl hq),jf6 h2⟩
theorem jc7 {x:ByteArray}:∀{l:List Pd},(zc x l).length+(if (JP l x).isSome=true then 1 else 0)=l.length
 | []=>rfl
 | p::t=>by
  by_cases e:eqS p.name x=true
  · have hf:JP (p::t) x=some p:=by unfold JP;exact List.find?_cons_of_pos (p:=fun n:Pd=>eqS n.name x) e
    rw[zc,if_pos e,hf];simp
  · have hf:JP (p::t) x=JP t x:=by unfold JP;exact List.find?_cons_of_neg (p:=fun n:Pd=>eqS n.name x) e
    rw[zc,if_neg e,hf];have:=jc7 (x:=x) (l:=t);simp only[List.length_cons];omega
theorem ins_mem {p:Pd}:∀{l:List Pd} {q:Pd},q ∈ JU p l→q=p∨q ∈ l
 | [],q,h=>by
  have:=List.mem_singleton.1 (show q ∈ [p] from h);exact .inl this
 | r::t,q,h=>by
  rw[JU] at h;split at h
  · rcases List.mem_cons.1 h with rfl | h
    · exact .inl rfl
    · exact .inr h
  · rcases List.mem_cons.1 h with rfl | h
    · exact .inr (List.mem_cons_self ..)
    · exact(ins_mem h).imp id (List.mem_cons_of_mem _)
theorem jdy (p:Pd):∀l:List Pd,(JU p l).length=l.length+1
 | []=>rfl
 | r::t=>by
  rw[JU];split
  · rfl
  · rw[List.length_cons,jdy p t,List.length_cons]
theorem jhY {p:Pd}:∀{l:List Pd},Asc l→(∀q ∈ l,q.name≠p.name)→Asc (JU p l)
 | [],_,_=>List.pairwise_singleton ..
 | r::t,h,hn=>by
  obtain⟨h1,h2⟩:=List.pairwise_cons.1 h;rw[JU];split
  · rename_i e;refine List.pairwise_cons.2 ⟨fun q hq=>?_,h⟩;rcases List.mem_cons.1 hq with rfl | hq
    · exact e
    · exact Vec.Ja e (h1 q hq)
  · rename_i e;have e:ltS p.name r.name=false:=by simpa using e
    refine List.pairwise_cons.2 ⟨fun q hq=>?_,jhY h2 fun q hq=>hn q (List.mem_cons_of_mem _ hq)⟩;rcases ins_mem hq with rfl | hq
    · cases g:ltS r.name q.name with
      | true=>rfl
      | false=>exact absurd (Vec.Y7 g e) (hn r (List.mem_cons_self ..))
    · exact h1 q hq
theorem jhr {s:Clu} (h:Asc s.pods) (p:Pd):Asc (Jv s p).pods:=jhY (jf6 h) (jef h)
theorem jdJ {s:Clu} (p:Pd):(Jv s p).pods.length=(zG s p.name).pods.length+1:=jdy p _
theorem X4 (s:Clu) (x:ByteArray):(zG s x).pods.length+(if (JP s.pods x).isSome=true then 1 else 0)=s.pods.length:=jc7
def zK (l:Vec.V):Prop:=Vec.Gd l∧l.length≤8
theorem zK.nil:zK []:=⟨Vec.Gd.nil,by decide⟩
theorem jhB {l:Vec.V} (h:Vec.jv l=0) (hf:Vec.Jt l):zK l:=⟨Vec.YW h hf,Vec.Z5 h⟩
theorem Xx {f g:ByteArray→Int} {r:Vec.V} (h:∀n,f n=g n):Vec.Made f r↔Vec.Made g r:=by rw[funext h]
theorem add_step {v p:Vec.V} (hv:zK v) (hp:zK p) :
 (∃q,Vec.jj Vec.jG v p=(0,q)∧zK q∧∀n,Vec.jh q n=Vec.jh v n+Vec.jh p n) ∨
 (∃c,c≠0∧Vec.jj Vec.jG v p=(c,[])∧∀(r:Vec.V) (f:ByteArray→Int),(∀n,0≤f n)→Vec.Made (fun n=>Vec.jh v n+Vec.jh p n+f n) r→r.length≤8→False):=by
 rcases Vec.merged_spec Vec.jj3 hv.1 hp.1 hv.2 hp.2 with ⟨⟨n,hn⟩,hb⟩ | ⟨hn,q,hm,⟨h8,hb⟩ | ⟨h8,hb⟩⟩
 · refine .inr ⟨5,by decide,hb,fun r f hf hr _=>hn ((Vec.qf _ _).2 ?_)⟩;have h1:=(Vec.JB n hr.1).2;have h2:=hf n;rw[hr.2 n] at h1;dsimp only at h1;omega
 · refine .inr ⟨4,by decide,hb,fun r f hf hr h9=>?_⟩;have hl:q.length≤r.length:=Vec.Gd.len hm.1 hr.1 fun n hne e=>hne (by
    rw[hm.2 n];show (Vec.jG _ _).1=0;rw[Vec.jb5 ((Vec.qf _ _).1 (hn n))];have h1:=hf n;have h2:=Vec.JB n hv.1;have h3:=Vec.JB n hp.1;rw[hr.2 n] at e;dsimp only at e ⊢;omega)
   omega
 · exact .inl ⟨q,hb,⟨hm.1,h8⟩,fun n=>by rw[hm.2 n];show (Vec.jG _ _).1=_;rw[Vec.jb5 ((Vec.qf _ _).1 (hn n))]⟩
def Zj (x:ByteArray) (p:Pd) (n:ByteArray):Int:=if eqS p.node x=true then Vec.jh p.need n else 0
def Jh (x:ByteArray):List Pd→ByteArray→Int
 | [],_=>0
 | p::t,n=>Zj x p n+Jh x t n
theorem jfK {x:ByteArray} {p:Pd} (h:zK p.need) (n:ByteArray):0≤Zj x p n:=by
 unfold Zj;split
 · exact(Vec.JB n h.1).1
 · exact Int.le_refl _
theorem jb3 {x:ByteArray}:∀{l:List Pd},(∀p ∈ l,zK p.need)→∀n,0≤Jh x l n
 | [],_,n=>Int.le_refl _
 | p::t,h,n=>Int.add_nonneg (jfK (h p (List.mem_cons_self ..)) n) (jb3 (fun q hq=>h q (List.mem_cons_of_mem _ hq)) n)
theorem jca {x:ByteArray}:∀{l:List Pd} {v r:Vec.V},(∀p ∈ l,zK p.need)→zK v→(jJ x l v=(0,r)↔Vec.Made (fun n=>Vec.jh v n+Jh x l n) r∧r.length≤8)
 | [],v,r,_,hv=>by
  constructor
  · intro e
    cases e
    exact⟨⟨hv.1,fun n=>by show _=_+(0:Int);rw[Int.add_zero]⟩,hv.2⟩
  · rintro ⟨hm,_⟩;have e:v=r:=Vec.Gd.ext hv.1 hm.1 fun n=>by rw[hm.2 n];show _=_+(0:Int);rw[Int.add_zero]
    rw[e];rfl
 | p::t,v,r,hl,hv=>by
  have ht:∀q ∈ t,zK q.need:=fun q hq=>hl q (List.mem_cons_of_mem _ hq);have hp:=hl p (List.mem_cons_self ..)
  cases e:eqS p.node x with
  | false =>
   rw[jaT e,jca ht hv];refine and_congr (Xx fun n=>?_) Iff.rfl;show _=_+(Zj x p n+Jh x t n);rw[Zj,if_neg (by rw[e];decide),Int.zero_add]
  | true =>
   have hone:∀n,Zj x p n=Vec.jh p.need n:=fun n=>by rw[Zj,if_pos e]
   rcases add_step hv hp with ⟨q,hq,fq,gq⟩ | ⟨c,hc,hq,no⟩
   · rw[jch e hq,jca ht fq];refine and_congr (Xx fun n=>?_) Iff.rfl;show _=_+(Zj x p n+Jh x t n);rw[hone,gq,Int.add_assoc]
   · rw[jcl e hq hc];constructor
     · intro h;exact absurd (Prod.mk.inj h).1 hc
     · rintro ⟨hm,h8⟩;refine(no r (Jh x t) (jb3 ht) ((Xx fun n=>?_).1 hm) h8).elim;show _+(Zj x p n+Jh x t n)=_;rw[hone,Int.add_assoc]
theorem jcg {x:ByteArray} {l:List Pd} {r:Vec.V} (hl:∀p ∈ l,zK p.need):jJ x l []=(0,r)↔Vec.Made (Jh x l) r∧r.length≤8:=by
 rw[jca hl zK.nil];exact and_congr (Xx fun n=>by show (0:Int)+_=_;rw[Int.zero_add]) Iff.rfl
theorem jem {x y:ByteArray}:∀{l:List Pd} {p:Pd},JP l y=some p→∀n,Jh x (zc y l) n+Zj x p n=Jh x l n
 | q::t,p,h,n=>by
  by_cases e:eqS q.name y=true
  · have hq:JP (q::t) y=some q:=by unfold JP;exact List.find?_cons_of_pos (p:=fun n:Pd=>eqS n.name y) e
    rw[hq] at h;obtain rfl:=Option.some.inj h;rw[zc,if_pos e];show _=Zj x q n+Jh x t n;omega
  · have hq:JP (q::t) y=JP t y:=by unfold JP;exact List.find?_cons_of_neg (p:=fun n:Pd=>eqS n.name y) e
    rw[hq] at h;have:=jem (x:=x) h n;rw[zc,if_neg e];show Zj x q n+Jh x (zc y t) n+_=Zj x q n+Jh x t n;omega
structure qe (s:Clu):Prop where
 nodes:jI s.nodes=0
 pods:jD s.pods=0
 places:jA s.nodes s.pods=0
 rooms:jM s.pods s.nodes=0
 tot:(Js s.nodes []).1=0
theorem jcr {s:Clu} (h:zN s=0):qe s:=by
 have h0:or3 (jI s.nodes) (jD s.pods) (jH s.buds)=0:=Decidable.byContradiction fun g=>g ((qK (nl:=s.nodes) (pl:=s.pods) (bl:=s.buds) rfl g).symm.trans h);have h1:jA s.nodes s.pods=0:=Decidable.byContradiction fun g=>g ((jaM (nl:=s.nodes) (pl:=s.pods) (bl:=s.buds) h0 rfl g).symm.trans h);have h2:jM s.pods s.nodes=0:=Decidable.byContradiction fun g=>g ((XL (nl:=s.nodes) (pl:=s.pods) (bl:=s.buds) h0 h1 rfl g).symm.trans h);have h3:(Js s.nodes []).1=0:=(qM (nl:=s.nodes) (pl:=s.pods) (bl:=s.buds) h0 h1 h2).symm.trans h;have ho:jI s.nodes=0∧jD s.pods=0:=by
  unfold or3 at h0;split at h0
  · rename_i h1;exact absurd h0 h1
  · rename_i g1;split at h0
    · rename_i g2;exact absurd h0 g2
    · rename_i g2;exact⟨Decidable.of_not_not g1,Decidable.of_not_not g2⟩
 exact⟨ho.1,ho.2,h1,h2,h3⟩
theorem jcw {pods:List Pd}:∀{l:List Nod},jM pods l=0→∀n ∈ l,∃u,jJ n.name pods []=(0,u)∧Vec.jB n.cap u=true
 | m::t,h,n,hn=>by
  obtain⟨c,u,hu⟩:∃c u,jJ m.name pods []=(c,u):=⟨_,_,rfl⟩
  by_cases hc:c=0
  · subst hc
    cases hf:Vec.jB m.cap u with
    | false=>rw[qR hu hf] at h;cases h
    | true =>
     rw[XC hu hf] at h;rcases List.mem_cons.1 hn with rfl | hn
     · exact⟨u,hu,hf⟩
     · exact jcw h n hn
  · rw[ja3 hu hc] at h;exact absurd h hc
def jnF (l:List Nod):Prop:=l.Pairwise fun x y=>ltS x.name y.name=true
theorem Xk:∀{prev:Option ByteArray} {l:List Nod},j6 prev l=0→(∀q,prev=some q→∀x ∈ l,ltS q x.name=true)∧jnF l∧∀n ∈ l,zk n=0
 | _,[],_=>⟨fun q _ x h=>absurd h (by simp),.nil,fun n h=>absurd h (by simp)⟩
 | prev,n::t,h=>by
  by_cases z:zk n=0
  · by_cases y:Vec.jK prev n.name=true
    · rw[jaj z y] at h;cases h
    · have y:Vec.jK prev n.name=false:=by simpa using y
      rw[Xn z y] at h;obtain⟨h2,h3,h4⟩:=Xk h;refine⟨fun q hq x hx=>?_,List.pairwise_cons.2 ⟨fun x hx=>h2 _ rfl x hx,h3⟩,fun m hm=>?_⟩
      · subst hq;have hlt:ltS q n.name=true:=Vec.X5 y;rcases List.mem_cons.1 hx with rfl | hx
        · exact hlt
        · exact Vec.Ja hlt (h2 _ rfl x hx)
      · rcases List.mem_cons.1 hm with rfl | hm
        · exact z
        · exact h4 m hm
  · rw[jcs z] at h;exact absurd h z
theorem jeb:∀{l:List Nod} {p:Nod},jnF l→p ∈ l→jl l p.name=some p
 | [],_,_,h=>by cases h
 | x::t,p,h,hp=>by
  unfold jl;rcases List.mem_cons.1 hp with hp | hp
  · subst hp;exact List.find?_cons_of_pos (p:=fun n:Nod=>eqS n.name p.name) (zh _)
  · have hlt:=(List.pairwise_cons.1 h).1 p hp;exact(List.find?_cons_of_neg (p:=fun n:Nod=>eqS n.name p.name) (fun e=>Vec.Yi hlt (jR.1 e))).trans (jeb (List.pairwise_cons.1 h).2 hp)
theorem qe.jl {s:Clu} (h:qe s) {n:Nod} (hn:n ∈ s.nodes):jl s.nodes n.name=some n:=by
 have ho:=h.nodes;unfold jI at ho;split at ho
 · cases ho
 · exact jeb (Xk ho).2.1 hn
theorem qe.cap0 {s:Clu} (h:qe s) {n:Nod} (hn:n ∈ s.nodes):Vec.jv n.cap=0:=by
 have ho:=h.nodes;unfold jI at ho;split at ho
 · cases ho
 · have hc:=(Xk ho).2.2 n hn;unfold zk at hc;split at hc
   · cases hc
   · split at hc
     · rename_i g;exact absurd hc g
     · rename_i g;exact Decidable.of_not_not g
theorem jbv:∀{prev:Option ByteArray} {l:List Pd},jX prev l=0→∀n ∈ l,zC n=0
 | prev,m::t,h,n,hn=>by
  by_cases z:zC m=0
  · by_cases y:Vec.jK prev m.name=true
    · rw[Xy z y] at h;cases h
    · have y:Vec.jK prev m.name=false:=by simpa using y
      rw[ZQ z y] at h;rcases List.mem_cons.1 hn with rfl | hn
      · exact z
      · exact jbv h n hn
  · rw[qO z] at h;exact absurd h z
theorem jcn:∀{l:List Int},orL l=0→∀c ∈ l,c=0
 | x::t,h,c,hc=>by
  unfold orL at h;split at h
  · rename_i g;exact absurd h g
  · rename_i g;rcases List.mem_cons.1 hc with rfl | hc
    · exact Decidable.of_not_not g
    · exact jcn h c hc
theorem qe.need0 {s:Clu} (h:qe s) {n:Pd} (hn:n ∈ s.pods):Vec.jv n.need=0:=by
 have ho:=h.pods;unfold jD at ho;split at ho
 · cases ho
 · exact jcn (jbv ho n hn) _ (by simp[qC])
end Go.Proofs.YtokdjfoalkmhiaaGreat
