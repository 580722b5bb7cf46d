/- What serves all packages,and package by package the contracts of the functions that the law calls. -/
import Derived.Test.YthmddloeggdohaaGreatDoorG4
import Derived.Test.YthmddloeggdohaaGreatDoorG6
import Derived.Test.YthmddloeggdohaaGreatDoorG8
set_option linter.unusedVariables false
set_option maxRecDepth 100000
set_option maxHeartbeats 25600000
namespace Go.Proofs.YthmddloeggdohaaGreatDoor
open Go.RowKit
theorem jaw {w:World} {B e s n G i:Nat} {xs vs:List Value} {ROW:Array Value} (hB:B≤w.heap.size) (hG:n+1≤G) (hm:G≤maxLen) (hi:i≤n) (hx:xs.length=n*s) (hv:vs.length=s) (hR:ROW.size=G*s) (hr:∀t,t<i*s→ROW[t]?=xs[t]?) :
 (((w.alloc (.cells ROW e)).setCells w.heap.size (i*s) vs).setCells w.heap.size ((i+1)*s) (xs.drop (i*s))).ownsRow B e s (.slice (some ⟨w.heap.size,0,none⟩) (n+1) G) (n+1) (xs.take (i*s)++vs++xs.drop (i*s)):=by
 have hns:(n+1)*s≤G*s:=Nat.mul_le_mul_right s hG;have his:i*s≤n*s:=Nat.mul_le_mul_right s hi;have e0:(n+1)*s=n*s+s:=by rw[Nat.add_mul,Nat.one_mul]
 have e1:(i+1)*s=i*s+s:=by rw[Nat.add_mul,Nat.one_mul]
 have hld:(xs.drop (i*s)).length=n*s-i*s:=by rw[List.length_drop,hx]
 refine jd8 hB (YP _ _ _ _ _ e (YP vs _ _ _ _ e (World.alloc_heap_new w _))) hG hm (by rw[Z3,Z3];exact hR) (by rw[List.length_append,List.length_append,List.length_take,hld,hx,e0];omega) (fun t htl=>?_);rw[e0] at htl;rw[YH _ _ _ _ (by rw[Z3,hld,e1];omega),hld,e1];by_cases c1:t<i*s
 · rw[if_neg (by omega),YH _ _ _ _ (by rw[hv];omega),if_neg (by omega),hr t c1,List.append_assoc,List.getElem?_append_left (by rw[List.length_take,hx];omega),List.getElem?_take,if_pos c1]
 · by_cases c2:t<i*s+s
   · rw[if_neg (by omega),YH _ _ _ _ (by rw[hv];omega),hv,if_pos (by omega),List.append_assoc,List.getElem?_append_right (by rw[List.length_take,hx];omega),List.getElem?_append_left (by rw[List.length_take,hx,hv];omega),List.length_take,hx];congr 1
     omega
   · rw[if_pos (by omega),List.getElem?_append_right (by rw[List.length_append,List.length_take,hx,hv];omega),List.length_append,List.length_take,hx,hv];congr 1
     omega
def YD (v:Value) (B n i:Nat) (xs vs:List Value) (w:World) (e:Ending) (w':World):Prop:=∃g c,e=.returned (.slice (some ⟨g,0,none⟩) (n+1) c)∧w'.ownsRow B 62 11 (.slice (some ⟨g,0,none⟩) (n+1) c) (n+1) (xs.take (i*11)++vs++xs.drop (i*11))∧jc (fun b=>v.ownBlock=some b) w w'∧(v.ownBlock=some g∨w.heap.size≤g)
theorem Xm (v:Value) (n vb vc B:Nat) (xs vs:List Value) (w:World) (hown:w.ownsRow B 62 11 v n xs) (hbase:B≤w.heap.size) (hvl:vs.length=11) (h1v:∀u ∈ vs,u.oneCell'=true) (hvs:∀j u,vs[j]?=some u→w.cell? ⟨vb,j,none⟩=some u) (hbig:n≤100000) :
 Calls Tryz.prog 128 #[v,.int .i64 n,.slice (some ⟨vb,0,none⟩) 1 vc] w (YD v B n n xs vs w):=by
 obtain⟨i0,hi0,hz0,hz1,hz2⟩:=info_parts jgV;have H:=lH hown;have HL:=lH (show xs.length=n*11 from hown.1);have HVS:=lH (show ∀j u,vs[j]?=some u→w.cell? ((⟨vb,0,none⟩:Addr).add j)=some u from fun j u h=>by rw[Addr.add_lit,Nat.zero_add];exact hvs j u h);have HB:=lH hbase;have H1:=lH h1v;have HV:=lH (show vs.length=1*11 by rw[hvl]);have t23:=Tryz.underlying23;have key:∀(gg cap1:Nat) (w2:World),w2.ownsRow B 62 11 (.slice (some ⟨gg,0,none⟩) (n+1) cap1) (n+1) (xs++vs)→w.grownBy w2 v.ownBlock→(v.ownBlock=some gg∨gg=w.heap.size)→YD v B n n xs vs w (.returned (.slice (some ⟨gg,0,none⟩) (n+1) cap1)) w2:=by
  intro gg cap1 w2 h1 h2 h3;refine⟨gg,cap1,rfl,?_,jc.grown h2 fun k e=>e,h3.imp id fun e=>by omega⟩;rw[←HL.out,List.take_length,List.drop_length,List.append_nil];exact h1
 have HK:=lH key;rcases hown.2 with ⟨rfl,h0⟩ | ⟨g,c,cur,rfl,hb,hg,hnc,hcm,-⟩
 · subst h0;clear hown hvl h1v hvs hbase key;go_enter Tryz.func128,Tryz.ntmps128;go_wp2_with (at_builtin;refine wpList_append_lies _ rfl _ _ _ rfl B 62 i0 _ 11 184 t23 hi0 hz0 hz1 hz2 rfl (by decide) (.slice none 0 0) 0 xs rfl H.out ⟨vb,0,none⟩ 1 vc vs rfl HV.out HVS.out H1.out (by decide) (by unfold maxLen;omega) (by omega) HB.out w.heap.size rfl ?_;intro gg cap1 w2 hown1 hgrow hat hlt1)
   have HR:=lH (HK.out gg cap1 w2 hown1 hgrow hat);clear hown1 hgrow hat hlt1;go_wp2;go_ret;exact HR.out
 · have hc':c≤9223372036854775807:=by unfold maxLen at hcm;omega
   clear hown hvl h1v hvs hbase key hb hg;go_enter Tryz.func128,Tryz.ntmps128;go_wp2_with (at_builtin;refine wpList_append_lies _ rfl _ _ _ rfl B 62 i0 _ 11 184 t23 hi0 hz0 hz1 hz2 rfl (by decide) (.slice (some ⟨g,0,none⟩) n c) n xs rfl H.out ⟨vb,0,none⟩ 1 vc vs rfl HV.out HVS.out H1.out (by decide) (by unfold maxLen;omega) (by omega) HB.out w.heap.size rfl ?_;intro gg cap1 w2 hown1 hgrow hat hlt1)
   all_goals
    have HR:=lH (HK.out gg cap1 w2 hown1 hgrow hat);clear hown1 hgrow hat hlt1;go_wp2;go_ret;exact HR.out
theorem YK (g n c i vb m vc B:Nat) (xs vs:List Value) (w:World) (hown:w.ownsRow B 62 11 (.slice (some ⟨g,0,none⟩) n c) n xs) (hi:i<n) (hm1:m=1) (hroom:n+m≤c) (hvb:vb≠g) (h1c:∀u ∈ xs,u.oneCell'=true) (hvl:vs.length=m*11) (h1v:∀u ∈ vs,u.oneCell'=true) (hvs:∀j u,vs[j]?=some u→w.cell? ⟨vb,j,none⟩=some u)
 (tA:TypeId) (kA:Nat) (hsa:w.shape? vb=some (tA,kA)) (hfa:w.frozen? ⟨vb,0,none⟩=false) (hfe:w.frozen? ⟨vb,kA,none⟩=false) :
 Calls Tryz.prog 128 #[.slice (some ⟨g,0,none⟩) n c,.int .i64 i,.slice (some ⟨vb,0,none⟩) m vc] w fun e w'=>e=.returned (.slice (some ⟨g,0,none⟩) (n+m) c)∧w'=(w.drew.setCells g ((i+m)*11) (xs.drop (i*11))).setCells g (i*11) vs:=by
 obtain⟨i0,hi0,hz0,hzs,hzb⟩:=info_parts jgV;obtain⟨cur,hB,hg,hn,hcm,hs,ht,hl⟩:=ZH hown;have hm:0<m:=by omega
 have hc63:c≤9223372036854775807:=by unfold maxLen at hcm;omega
 have t23:=Tryz.underlying23;have hfr:∀t,w.frozen? ⟨g,t,none⟩=false:=fun t=>hown.frozenAt t;have hcell:∀t,t<n*11→w.cell? ⟨g,t,none⟩=xs[t]?:=fun t h=>hown.cellAt t h;have hsp:∀t,t<(n+m)*11→(w.cell? ⟨g,t,none⟩).isSome=true:=fun t h=>by
  rw[Lib.cell_of_heap hg,Array.getElem?_eq_getElem (by rw[hs];exact Nat.lt_of_lt_of_le h (Nat.mul_le_mul_right 11 hroom))];rfl
 have hz1:¬((m:Int)=0):=by omega
 have hz2:¬((i:Int)=(n:Int)):=by omega
 have hdl:(xs.drop (i*11)).length=n*11-i*11:=by rw[List.length_drop,hl]
 have hks:cur.size≠0:=by rw[hs];omega
 have hsb:w.shape? g=some (62,cur.size):=by unfold World.shape?;rw[hg]
 have hov:∀lb cb,(callFunc 168 #[.slice (some ⟨vb,0,none⟩) m vc,.slice (some ⟨g,(i+m)*11,none⟩) lb cb]).run Tryz.prog w=.ok (.value (.bool false)) w:=fun lb cb=>by
  rw[run_callFunc_extern Tryz.func168 (by kernel_rfl) (by kernel_rfl) (by kernel_rfl) (e:=Extern.SlicesOverlaps.overlaps #[23,23] #[4]) (by kernel_rfl),
   Lib.run_overlaps_apart w 23 4 62 t23 11 (fun w=>by simp[sizeOf,typeInfo,hi0,hzs]) ⟨vb,0,none⟩ ⟨g,(i+m)*11,none⟩ m vc lb cb hvb tA 62 kA cur.size hsa hsb hks hfa hfe]
  rfl
 have hw1:IntKind.i64.wrap ((i:Int)+(m:Int))=(i:Int)+(m:Int):=by rw[IntKind.wrap_i64];omega
 have hb1:(0:Int)≤(i:Int)+(m:Int):=by omega
 have hin:i≤n:=by omega
 have htn:((i:Int)+(m:Int)).toNat=i+m:=by omega
 have hb2:¬(c=i+m):=by omega
 have hb3:(i:Int)≤(n:Int)+(m:Int):=by omega
 have hb4:¬(c=i):=by omega
 have hcp1:∀ty dc sc,(Builtin.copy_ #[23,23] ty #[.slice (some ⟨g,(i+m)*11,none⟩) (n+m-(i+m)) dc,.slice (some ⟨g,i*11,none⟩) (n+m-i) sc]).run Tryz.prog w.drew=.ok (goInt (Nat.min (n+m-i) (n+m-(i+m)))) (w.drew.setCells g ((i+m)*11) (xs.drop (i*11))):=fun ty dc sc =>
  zv w.drew _ _ ty 62 i0 g ((i+m)*11) (n+m-(i+m)) dc ⟨g,i*11,none⟩ (n+m-i) sc (xs.drop (i*11)) t23 hi0 (by rw[hdl,hzs];simp only[Nat.min_def];split<;>omega)
   (fun j v hj=>by rw[Addr.add_lit];rw[List.getElem?_drop] at hj;have:=(List.getElem?_eq_some_iff.1 hj).1;exact(hcell _ (by omega)).trans hj)
   (fun j hj=>hsp _ (by omega)) (fun j hj=>hfr _) (fun v hv=>h1c v (List.mem_of_mem_drop hv))
 obtain⟨W1,hW1⟩:∃W1,W1=w.drew.setCells g ((i+m)*11) (xs.drop (i*11)):=⟨_,rfl⟩
 have hsp1:∀k,k<(n+m)*11→(W1.cell? ⟨g,k,none⟩).isSome=true:=fun k hk=>by
  rw[hW1];exact isSome_setCells g (xs.drop (i*11)) ((i+m)*11) w.drew (fun j hj=>hsp _ (by rw[hdl] at hj;omega)) k (hsp k hk)
 have hcp2:∀(W:World),(∀x,W.cell? x=W1.cell? x)→(∀x,W.frozen? x=W1.frozen? x)→∀ty dc,(Builtin.copy_ #[23,23] ty #[.slice (some ⟨g,i*11,none⟩) (n+m-i) dc,.slice (some ⟨vb,0,none⟩) m vc]).run Tryz.prog W=.ok (goInt (Nat.min m (n+m-i))) (W.setCells g (i*11) vs):=fun W hWc hWf ty dc =>
  zv W _ _ ty 62 i0 g (i*11) (n+m-i) dc ⟨vb,0,none⟩ m vc vs t23 hi0 (by rw[hvl,hzs];simp only[Nat.min_def];split<;>omega)
   (fun j v hj=>by
     rw[Addr.add_lit,hWc,hW1,World.cell?_setCells_out g _ _ _ _ (fun h _=>absurd h hvb),Nat.zero_add];exact hvs j v hj)
   (fun j hj=>by rw[hWc];exact hsp1 _ (by omega)) (fun j hj=>by rw[hWf,hW1,World.frozen?_setCells];exact hfr _) h1v
 rw[←hW1] at hcp1;clear hown hB hg hcm hs ht hl hm1 hsa hsb hfa hfe hks;go_enter Tryz.func128,Tryz.ntmps128;go_wp2_with (simp only[hov])
 go_region_law (refine step_copy_runI rfl _ _ 23 23 rfl _ _ (by simp[Act.eval,Act.put]) (by simp[Act.eval,Act.put]) (hcp1 _ _ _) ?_)
 go_wp2_with (at_builtin;refine wpList_copy_runI _ rfl _ _ 23 23 rfl _ _ rfl rfl (hcp2 _ (fun _=>rfl) (fun _=>rfl) _ _) ?_)
 go_ret;first | exact⟨rfl,rfl⟩ | exact⟨rfl,by rw[hW1]⟩
theorem YV (g n c i vb m vc B:Nat) (xs vs:List Value) (w:World) (hown:w.ownsRow B 62 11 (.slice (some ⟨g,0,none⟩) n c) n xs) (hi:i<n) (hm:0<m) (hroom:c<n+m) (hbig:n+m≤100001) (h1c:∀u ∈ xs,u.oneCell'=true) (hvl:vs.length=m*11) (h1v:∀u ∈ vs,u.oneCell'=true) (hvs:∀j u,vs[j]?=some u→w.cell? ⟨vb,j,none⟩=some u) :
 Calls Tryz.prog 128 #[.slice (some ⟨g,0,none⟩) n c,.int .i64 i,.slice (some ⟨vb,0,none⟩) m vc] w fun e w'=>∃G ROW,n+m≤G∧G≤maxLen∧ROW=(xs.take (i*11)).toArray++Builtin.zeroCells X0 (n+m-i)++Builtin.zeroCells X0 (G-(n+m))∧e=.returned (.slice (some ⟨w.heap.size,0,none⟩) (n+m) G) ∧
  w'=(((w.alloc (.cells ROW 62)).drew.setCells w.heap.size (i*11) vs).drew).setCells w.heap.size ((i+m)*11) (xs.drop (i*11)):=by
 obtain⟨i0,hi0,hz0,hzs,hzb⟩:=info_parts jgV;obtain⟨cur,hB,hg,hnc,hcm,hs,ht,hl⟩:=ZH hown;have t23:=Tryz.underlying23;have hcell:∀t,t<n*11→w.cell? ⟨g,t,none⟩=xs[t]?:=fun t h=>hown.cellAt t h;have hcs:∀t v,xs[t]?=some v→w.cell? ⟨g,t,none⟩=some v:=fun t v h=>(hcell t (by rw[←hl];exact(List.getElem?_eq_some_iff.1 h).1)).trans h;have hz1:¬((m:Int)=0):=by omega
 have hz2:¬((i:Int)=(n:Int)):=by omega
 have hz3:(c:Int)<(n:Int)+(m:Int):=by omega
 have hbw:g<w.heap.size:=(hown.lt g rfl).2;have hvw:vb<w.heap.size:=World.block_lt_of_cell? _ _ (hvs 0 _ (List.getElem?_eq_getElem (by omega)));have hkk:(n:Int)+(m:Int)-(i:Int)=((n+m-i:Nat):Int):=by omega
 have hik:i+(n+m-i)=n+m:=by omega
 have hold:(Builtin.firstCells i0.size i (.slice (some ⟨g,0,none⟩) i c)).run Tryz.prog w.drew=.ok (xs.take (i*11)).toArray w.drew:=by
  rw[hzs];exact run_firstCells_some w.drew 11 i ⟨g,0,none⟩ i c (xs.take (i*11)) (by rw[List.length_take,hl];omega) (fun j v hj=>by
   rw[Addr.add_lit,Nat.zero_add];rw[List.getElem?_take] at hj;split at hj
   · exact hcs j v hj
   · cases hj)
 have hrz:∀ty,(Builtin.append_ #[23,3] ty #[.slice (some ⟨g,0,none⟩) i c,.int .i64 ((n:Int)+(m:Int)-(i:Int))]).run Tryz.prog w =
  .ok (.slice (some ⟨w.heap.size,0,none⟩) (n+m) (grownCap w (n+m) c 62)) (w.drew.alloc (.cells ((xs.take (i*11)).toArray++Builtin.zeroCells X0 (n+m-i)++Builtin.zeroCells X0 (grownCap w (n+m) c 62-(n+m))) 62)):=fun ty=>by
  have h:=Lib.run_append_grow_zeros w 23 3 ty 62 i0 (.agg X0) .i64 .i64 t23 Tryz.underlying3 hi0 hz0 (some ⟨g,0,none⟩) i c (xs.take (i*11)) hold (n+m-i) (by omega) (by omega) (by omega) (by omega) (by rw[hzb];omega) (by rw[hzb,hik];exact growslice_fits hroom (by omega));rw[hik] at h;rw[hkk];exact h
 obtain⟨G,hG⟩:∃G,G=grownCap w (n+m) c 62:=⟨_,rfl⟩
 obtain⟨ROW,hROW⟩:∃ROW:Array Value,ROW=(xs.take (i*11)).toArray++Builtin.zeroCells X0 (n+m-i)++Builtin.zeroCells X0 (G-(n+m)):=⟨_,rfl⟩
 rw[←hG] at hrz;rw[←hROW] at hrz;have hGn:n+m≤G:=by rw[hG];exact grownCap_ge w _ _ _
 have hGM:G≤maxLen:=by rw[hG];exact grownCap_le_maxLen w (n+m) c 62 (by unfold maxLen;omega)
 have hG63:G≤9223372036854775807:=by unfold maxLen at hGM;omega
 have hRl:ROW.size=G*11:=by
  rw[hROW,Array.size_append,Array.size_append,zQ,zQ,List.size_toArray,List.length_take,hl];omega
 obtain⟨W1,hW1⟩:∃W1,W1=w.drew.alloc (.cells ROW 62):=⟨_,rfl⟩
 rw[←hW1] at hrz;have hN:∀j,j<(n+m)*11→(W1.cell? ⟨w.heap.size,j,none⟩).isSome=true:=fun j hj=>by
  rw[hW1,World.cell?_alloc_at (w:=w.drew) ROW _ w.heap.size j rfl,Array.getElem?_eq_getElem (by rw[hRl];exact Nat.lt_of_lt_of_le hj (Nat.mul_le_mul_right 11 hGn))];rfl
 have hNf:∀j,W1.frozen? ⟨w.heap.size,j,none⟩=false:=fun j=>by rw[hW1];exact World.frozen?_alloc_at (w:=w.drew) ROW _ w.heap.size j rfl
 have hOb:∀j v,w.cell? ⟨g,j,none⟩=some v→W1.cell? ⟨g,j,none⟩=some v:=fun j v h=>by rw[hW1,World.cell?_alloc_past (w:=w.drew) _ g j hbw];exact h
 have hOv:∀j v,w.cell? ⟨vb,j,none⟩=some v→W1.cell? ⟨vb,j,none⟩=some v:=fun j v h=>by rw[hW1,World.cell?_alloc_past (w:=w.drew) _ vb j hvw];exact h
 have hcpA:∀(W:World),(∀x,W.cell? x=W1.cell? x)→(∀x,W.frozen? x=W1.frozen? x)→∀ty dc,(Builtin.copy_ #[23,23] ty #[.slice (some ⟨w.heap.size,i*11,none⟩) (n+m-i) dc,.slice (some ⟨vb,0,none⟩) m vc]).run Tryz.prog W=.ok (goInt (Nat.min m (n+m-i))) (W.setCells w.heap.size (i*11) vs):=fun W hWc hWf ty dc =>
  zv W _ _ ty 62 i0 w.heap.size (i*11) (n+m-i) dc ⟨vb,0,none⟩ m vc vs t23 hi0 (by rw[hvl,hzs];simp only[Nat.min_def];split<;>omega)
   (fun j v hj=>by rw[Addr.add_lit,hWc,Nat.zero_add];exact hOv _ v (hvs j v hj))
   (fun j hj=>by rw[hWc];exact hN _ (by omega)) (fun j hj=>by rw[hWf];exact hNf _) h1v
 have hGi:¬(G=i):=by omega
 have hGim:¬(G=i+m):=by omega
 have hci:¬(c=i):=by omega
 have hbN:g≠w.heap.size:=by omega
 have hdl:(xs.drop (i*11)).length=n*11-i*11:=by rw[List.length_drop,hl]
 have hcpB:∀(W:World),(∀x,W.cell? x=(W1.setCells w.heap.size (i*11) vs).cell? x)→(∀x,W.frozen? x=(W1.setCells w.heap.size (i*11) vs).frozen? x)→∀ty dc sc,(Builtin.copy_ #[23,23] ty #[.slice (some ⟨w.heap.size,(i+m)*11,none⟩) (n+m-(i+m)) dc,.slice (some ⟨g,i*11,none⟩) (n-i) sc]).run Tryz.prog W=.ok (goInt (Nat.min (n-i) (n+m-(i+m)))) (W.setCells w.heap.size ((i+m)*11) (xs.drop (i*11))):=fun W hWc hWf ty dc sc =>
  zv W _ _ ty 62 i0 w.heap.size ((i+m)*11) (n+m-(i+m)) dc ⟨g,i*11,none⟩ (n-i) sc (xs.drop (i*11)) t23 hi0 (by rw[hdl,hzs];simp only[Nat.min_def];split<;>omega)
   (fun j v hj=>by
     rw[Addr.add_lit,hWc,World.cell?_setCells_out _ _ _ _ _ (fun h _=>absurd h hbN)];exact hOb _ v (hcs (i*11+j) v (by rwa [List.getElem?_drop] at hj)))
   (fun j hj=>by rw[hWc];exact isSome_setCells _ _ _ _ (fun t ht=>hN _ (by omega)) _ (hN _ (by omega)))
   (fun j hj=>by rw[hWf,World.frozen?_setCells];exact hNf _) (fun v hv=>h1c v (List.mem_of_mem_drop hv))
 subst hW1;have hE1:∀x,((w.alloc (.cells ROW 62)).drew).cell? x=(w.drew.alloc (.cells ROW 62)).cell? x:=fun x=>rfl;have hE2:∀x,((w.alloc (.cells ROW 62)).drew).frozen? x=(w.drew.alloc (.cells ROW 62)).frozen? x:=fun x=>rfl;have hF1:∀x,(((w.alloc (.cells ROW 62)).drew.setCells w.heap.size (i*11) vs).drew).cell? x=((w.drew.alloc (.cells ROW 62)).setCells w.heap.size (i*11) vs).cell? x:=fun x=>rfl;have hF2:∀x,(((w.alloc (.cells ROW 62)).drew.setCells w.heap.size (i*11) vs).drew).frozen? x=((w.drew.alloc (.cells ROW 62)).setCells w.heap.size (i*11) vs).frozen? x:=fun x=>rfl;have hw1:IntKind.i64.wrap ((i:Int)+(m:Int))=(i:Int)+(m:Int):=by rw[IntKind.wrap_i64];omega
 have hb1:(0:Int)≤(i:Int)+(m:Int):=by omega
 have hin:i≤n:=by omega
 have htn:((i:Int)+(m:Int)).toNat=i+m:=by omega
 have hb3:(i:Int)≤(n:Int):=by omega
 have HROW:=lH hROW;have HGM:=lH hGM;clear hkk hik hold hROW hG hRl hGM hown hB hg hcm hs ht hl;go_enter Tryz.func128,Tryz.ntmps128;go_wp2_with (first
  | (at_builtin;refine Lib.wpList_append_run _ rfl _ _ _ _ rfl _ _ rfl rfl _ _ (hrz _) ?_)
  | (at_builtin;refine wpList_copy_runI _ rfl _ _ 23 23 rfl _ _ rfl rfl (hcpA _ hE1 hE2 _ _) ?_)
  | (at_builtin;refine wpList_copy_runI _ rfl _ _ 23 23 rfl _ _ rfl rfl (hcpB _ (fun _=>rfl) (fun _=>rfl) _ _ _) ?_))
 go_region_law (refine step_copy_runI rfl _ _ 23 23 rfl (.slice (some ⟨w.heap.size,(i+m)*11,none⟩) (n+m-(i+m)) (G-(i+m))) (.slice (some ⟨g,i*11,none⟩) (n-i) (c-i)) (by simp[Act.eval,Act.put]) (by simp[Act.eval,Act.put]) (hcpB _ hF1 hF2 3 (G-(i+m)) (c-i)) ?_)
 go_wp2;go_ret;exact⟨G,ROW,hGn,HGM.out,HROW.out,rfl,rfl⟩
theorem jg8 (v:Value) (n i vb vc B:Nat) (xs vs:List Value) (w:World) (hown:w.ownsRow B 62 11 v n xs) (hbase:B≤w.heap.size) (hi:i≤n) (h1c:∀u ∈ xs,u.oneCell'=true) (hvl:vs.length=11) (h1v:∀u ∈ vs,u.oneCell'=true) (hvs:w.heap[vb]?=some (.cells vs.toArray 62)) (hvb:v.ownBlock≠some vb) (hbig:n≤100000) :
 Calls Tryz.prog 128 #[v,.int .i64 i,.slice (some ⟨vb,0,none⟩) 1 vc] w (YD v B n i xs vs w):=by
 have hcv:∀j u,vs[j]?=some u→w.cell? ⟨vb,j,none⟩=some u:=fun j u h=>by rw[Lib.cell_of_heap hvs];simpa using h
 by_cases he:i=n
 · subst he;exact Xm v i vb vc B xs vs w hown hbase hvl h1v hcv hbig
 · have hlt:i<n:=by omega
   rcases hown.2 with ⟨rfl,h0⟩ | ⟨g,c,cur,rfl,hb,hg,hnc,hcm,-⟩
   · omega
   · have hfz:∀t,w.frozen? ⟨vb,t,none⟩=false:=fun t=>by unfold World.frozen?;rw[show w.heap[(⟨vb,t,none⟩:Addr).block]?=some (.cells vs.toArray 62 (0,0)) from hvs];simp
     by_cases hr:n+1≤c
     · refine(YK g n c i vb 1 vc B xs vs w hown hlt rfl hr (fun e=>hvb (by rw[e];rfl)) h1c (by rw[hvl]) h1v hcv 62 vs.toArray.size (by unfold World.shape?;rw[hvs]) (hfz _) (hfz _)).mono ?_;rintro e w' ⟨rfl,rfl⟩;exact⟨g,c,rfl,ja0 (w:=w.drew) (ZK hown) hi hvl hr,(((jc.drew w).trans (jc.cells (S:=fun b=>(Value.slice (some ⟨g,0,none⟩) n c).ownBlock=some b) g rfl _ _ _)).trans (jc.cells (S:=fun b=>(Value.slice (some ⟨g,0,none⟩) n c).ownBlock=some b) g rfl _ _ _)),.inl rfl⟩
     · refine(YV g n c i vb 1 vc B xs vs w hown hlt (by decide) (by omega) (by omega) h1c (by rw[hvl]) h1v hcv).mono ?_;rintro e w' ⟨G,ROW,h1,h2,hROW,rfl,rfl⟩;have hl:xs.length=n*11:=hown.1;have hRl:ROW.size=G*11:=by
        rw[hROW,Array.size_append,Array.size_append,zQ,zQ,List.size_toArray,List.length_take,hl];omega
       have hrow:∀t,t<i*11→ROW[t]?=xs[t]?:=fun t ht=>by
        rw[hROW,Array.append_assoc,Array.getElem?_append_left (by rw[List.size_toArray,List.length_take,hl];omega),List.getElem?_toArray,List.getElem?_take,if_pos ht]
       refine⟨w.heap.size,G,rfl,?_,?_,.inr (Nat.le_refl _)⟩
       · simp only[←drew_setCells];exact ZK (ZK (jaw (w:=w) hbase h1 h2 hi hl hvl hRl hrow))
       · have k:Kept w (((w.alloc (.cells ROW 62)).drew.setCells w.heap.size (i*11) vs).drew.setCells w.heap.size ((i+1)*11) (xs.drop (i*11))) :=
          zA _ _ _ _ _ _ (Nat.le_refl _) (Below.drew (zA _ _ _ _ _ _ (Nat.le_refl _) (Below.drew (ja w _))))
         exact jc.of k
end Go.Proofs.YthmddloeggdohaaGreatDoor
namespace Go.Proofs.YthmddloeggdohaaGreatDoor.InN
open Go.RowKit
theorem ja4:(Tryz.prog.info? 42).map (fun i=>(i.zero,i.size,i.bytes))=some (some (.agg #[.string ByteArray.empty,.slice none 0 0,.slice none 0 0,.slice none 0 0,.bool false]),5,96):=by kernel_rfl
def ZG:Array Value:=#[.string ByteArray.empty,.slice none 0 0,.slice none 0 0,.slice none 0 0,.bool false]
theorem zQ (n:Nat):(Builtin.zeroCells ZG n).size=n*5:=by
 unfold Builtin.zeroCells;rw[Array.size_map,Array.size_range];rfl
def YD (v:Value) (B n i:Nat) (xs vs:List Value) (w:World) (e:Ending) (w':World):Prop:=∃g c,e=.returned (.slice (some ⟨g,0,none⟩) (n+1) c)∧w'.ownsRow B 42 5 (.slice (some ⟨g,0,none⟩) (n+1) c) (n+1) (xs.take (i*5)++vs++xs.drop (i*5))∧jc (fun b=>v.ownBlock=some b) w w'∧(v.ownBlock=some g∨w.heap.size≤g)
theorem Xm (v:Value) (n vb vc B:Nat) (xs vs:List Value) (w:World) (hown:w.ownsRow B 42 5 v n xs) (hbase:B≤w.heap.size) (hvl:vs.length=5) (h1v:∀u ∈ vs,u.oneCell'=true) (hvs:∀j u,vs[j]?=some u→w.cell? ⟨vb,j,none⟩=some u) (hbig:n≤100000) :
 Calls Tryz.prog 122 #[v,.int .i64 n,.slice (some ⟨vb,0,none⟩) 1 vc] w (YD v B n n xs vs w):=by
 obtain⟨i0,hi0,hz0,hz1,hz2⟩:=info_parts ja4;have H:=lH hown;have HL:=lH (show xs.length=n*5 from hown.1);have HVS:=lH (show ∀j u,vs[j]?=some u→w.cell? ((⟨vb,0,none⟩:Addr).add j)=some u from fun j u h=>by rw[Addr.add_lit,Nat.zero_add];exact hvs j u h);have HB:=lH hbase;have H1:=lH h1v;have HV:=lH (show vs.length=1*5 by rw[hvl]);have t23:=Tryz.underlying22;have key:∀(gg cap1:Nat) (w2:World),w2.ownsRow B 42 5 (.slice (some ⟨gg,0,none⟩) (n+1) cap1) (n+1) (xs++vs)→w.grownBy w2 v.ownBlock→(v.ownBlock=some gg∨gg=w.heap.size)→YD v B n n xs vs w (.returned (.slice (some ⟨gg,0,none⟩) (n+1) cap1)) w2:=by
  intro gg cap1 w2 h1 h2 h3;refine⟨gg,cap1,rfl,?_,jc.grown h2 fun k e=>e,h3.imp id fun e=>by omega⟩;rw[←HL.out,List.take_length,List.drop_length,List.append_nil];exact h1
 have HK:=lH key;rcases hown.2 with ⟨rfl,h0⟩ | ⟨g,c,cur,rfl,hb,hg,hnc,hcm,-⟩
 · subst h0;clear hown hvl h1v hvs hbase key;go_enter Tryz.func122,Tryz.ntmps122;go_wp2_with (at_builtin;refine wpList_append_lies _ rfl _ _ _ rfl B 42 i0 _ 5 96 t23 hi0 hz0 hz1 hz2 rfl (by decide) (.slice none 0 0) 0 xs rfl H.out ⟨vb,0,none⟩ 1 vc vs rfl HV.out HVS.out H1.out (by decide) (by unfold maxLen;omega) (by omega) HB.out w.heap.size rfl ?_;intro gg cap1 w2 hown1 hgrow hat hlt1)
   have HR:=lH (HK.out gg cap1 w2 hown1 hgrow hat);clear hown1 hgrow hat hlt1;go_wp2;go_ret;exact HR.out
 · have hc':c≤9223372036854775807:=by unfold maxLen at hcm;omega
   clear hown hvl h1v hvs hbase key hb hg;go_enter Tryz.func122,Tryz.ntmps122;go_wp2_with (at_builtin;refine wpList_append_lies _ rfl _ _ _ rfl B 42 i0 _ 5 96 t23 hi0 hz0 hz1 hz2 rfl (by decide) (.slice (some ⟨g,0,none⟩) n c) n xs rfl H.out ⟨vb,0,none⟩ 1 vc vs rfl HV.out HVS.out H1.out (by decide) (by unfold maxLen;omega) (by omega) HB.out w.heap.size rfl ?_;intro gg cap1 w2 hown1 hgrow hat hlt1)
   all_goals
    have HR:=lH (HK.out gg cap1 w2 hown1 hgrow hat);clear hown1 hgrow hat hlt1;go_wp2;go_ret;exact HR.out
theorem YK (g n c i vb m vc B:Nat) (xs vs:List Value) (w:World) (hown:w.ownsRow B 42 5 (.slice (some ⟨g,0,none⟩) n c) n xs) (hi:i<n) (hm1:m=1) (hroom:n+m≤c) (hvb:vb≠g) (h1c:∀u ∈ xs,u.oneCell'=true) (hvl:vs.length=m*5) (h1v:∀u ∈ vs,u.oneCell'=true) (hvs:∀j u,vs[j]?=some u→w.cell? ⟨vb,j,none⟩=some u)
 (tA:TypeId) (kA:Nat) (hsa:w.shape? vb=some (tA,kA)) (hfa:w.frozen? ⟨vb,0,none⟩=false) (hfe:w.frozen? ⟨vb,kA,none⟩=false) :
 Calls Tryz.prog 122 #[.slice (some ⟨g,0,none⟩) n c,.int .i64 i,.slice (some ⟨vb,0,none⟩) m vc] w fun e w'=>e=.returned (.slice (some ⟨g,0,none⟩) (n+m) c)∧w'=(w.drew.setCells g ((i+m)*5) (xs.drop (i*5))).setCells g (i*5) vs:=by
 obtain⟨i0,hi0,hz0,hzs,hzb⟩:=info_parts ja4;obtain⟨cur,hB,hg,hn,hcm,hs,ht,hl⟩:=ZH hown;have hm:0<m:=by omega
 have hc63:c≤9223372036854775807:=by unfold maxLen at hcm;omega
 have t23:=Tryz.underlying22;have hfr:∀t,w.frozen? ⟨g,t,none⟩=false:=fun t=>hown.frozenAt t;have hcell:∀t,t<n*5→w.cell? ⟨g,t,none⟩=xs[t]?:=fun t h=>hown.cellAt t h;have hsp:∀t,t<(n+m)*5→(w.cell? ⟨g,t,none⟩).isSome=true:=fun t h=>by
  rw[Lib.cell_of_heap hg,Array.getElem?_eq_getElem (by rw[hs];exact Nat.lt_of_lt_of_le h (Nat.mul_le_mul_right 5 hroom))];rfl
 have hz1:¬((m:Int)=0):=by omega
 have hz2:¬((i:Int)=(n:Int)):=by omega
 have hdl:(xs.drop (i*5)).length=n*5-i*5:=by rw[List.length_drop,hl]
 have hks:cur.size≠0:=by rw[hs];omega
 have hsb:w.shape? g=some (42,cur.size):=by unfold World.shape?;rw[hg]
 have hov:∀lb cb,(callFunc 156 #[.slice (some ⟨vb,0,none⟩) m vc,.slice (some ⟨g,(i+m)*5,none⟩) lb cb]).run Tryz.prog w=.ok (.value (.bool false)) w:=fun lb cb=>by
  rw[run_callFunc_extern Tryz.func156 (by kernel_rfl) (by kernel_rfl) (by kernel_rfl) (e:=Extern.SlicesOverlaps.overlaps #[22,22] #[4]) (by kernel_rfl),
   Lib.run_overlaps_apart w 22 4 42 t23 5 (fun w=>by simp[sizeOf,typeInfo,hi0,hzs]) ⟨vb,0,none⟩ ⟨g,(i+m)*5,none⟩ m vc lb cb hvb tA 42 kA cur.size hsa hsb hks hfa hfe]
  rfl
 have hw1:IntKind.i64.wrap ((i:Int)+(m:Int))=(i:Int)+(m:Int):=by rw[IntKind.wrap_i64];omega
 have hb1:(0:Int)≤(i:Int)+(m:Int):=by omega
 have hin:i≤n:=by omega
 have htn:((i:Int)+(m:Int)).toNat=i+m:=by omega
 have hb2:¬(c=i+m):=by omega
 have hb3:(i:Int)≤(n:Int)+(m:Int):=by omega
 have hb4:¬(c=i):=by omega
 have hcp1:∀ty dc sc,(Builtin.copy_ #[22,22] ty #[.slice (some ⟨g,(i+m)*5,none⟩) (n+m-(i+m)) dc,.slice (some ⟨g,i*5,none⟩) (n+m-i) sc]).run Tryz.prog w.drew=.ok (goInt (Nat.min (n+m-i) (n+m-(i+m)))) (w.drew.setCells g ((i+m)*5) (xs.drop (i*5))):=fun ty dc sc =>
  zv w.drew _ _ ty 42 i0 g ((i+m)*5) (n+m-(i+m)) dc ⟨g,i*5,none⟩ (n+m-i) sc (xs.drop (i*5)) t23 hi0 (by rw[hdl,hzs];simp only[Nat.min_def];split<;>omega)
   (fun j v hj=>by rw[Addr.add_lit];rw[List.getElem?_drop] at hj;have:=(List.getElem?_eq_some_iff.1 hj).1;exact(hcell _ (by omega)).trans hj)
   (fun j hj=>hsp _ (by omega)) (fun j hj=>hfr _) (fun v hv=>h1c v (List.mem_of_mem_drop hv))
 obtain⟨W1,hW1⟩:∃W1,W1=w.drew.setCells g ((i+m)*5) (xs.drop (i*5)):=⟨_,rfl⟩
 have hsp1:∀k,k<(n+m)*5→(W1.cell? ⟨g,k,none⟩).isSome=true:=fun k hk=>by
  rw[hW1];exact isSome_setCells g (xs.drop (i*5)) ((i+m)*5) w.drew (fun j hj=>hsp _ (by rw[hdl] at hj;omega)) k (hsp k hk)
 have hcp2:∀(W:World),(∀x,W.cell? x=W1.cell? x)→(∀x,W.frozen? x=W1.frozen? x)→∀ty dc,(Builtin.copy_ #[22,22] ty #[.slice (some ⟨g,i*5,none⟩) (n+m-i) dc,.slice (some ⟨vb,0,none⟩) m vc]).run Tryz.prog W=.ok (goInt (Nat.min m (n+m-i))) (W.setCells g (i*5) vs):=fun W hWc hWf ty dc =>
  zv W _ _ ty 42 i0 g (i*5) (n+m-i) dc ⟨vb,0,none⟩ m vc vs t23 hi0 (by rw[hvl,hzs];simp only[Nat.min_def];split<;>omega)
   (fun j v hj=>by
     rw[Addr.add_lit,hWc,hW1,World.cell?_setCells_out g _ _ _ _ (fun h _=>absurd h hvb),Nat.zero_add];exact hvs j v hj)
   (fun j hj=>by rw[hWc];exact hsp1 _ (by omega)) (fun j hj=>by rw[hWf,hW1,World.frozen?_setCells];exact hfr _) h1v
 rw[←hW1] at hcp1;clear hown hB hg hcm hs ht hl hm1 hsa hsb hfa hfe hks;go_enter Tryz.func122,Tryz.ntmps122;go_wp2_with (simp only[hov])
 go_region_law (refine step_copy_runI rfl _ _ 22 22 rfl _ _ (by simp[Act.eval,Act.put]) (by simp[Act.eval,Act.put]) (hcp1 _ _ _) ?_)
 go_wp2_with (at_builtin;refine wpList_copy_runI _ rfl _ _ 22 22 rfl _ _ rfl rfl (hcp2 _ (fun _=>rfl) (fun _=>rfl) _ _) ?_)
 go_ret;first | exact⟨rfl,rfl⟩ | exact⟨rfl,by rw[hW1]⟩
theorem YV (g n c i vb m vc B:Nat) (xs vs:List Value) (w:World) (hown:w.ownsRow B 42 5 (.slice (some ⟨g,0,none⟩) n c) n xs) (hi:i<n) (hm:0<m) (hroom:c<n+m) (hbig:n+m≤100001) (h1c:∀u ∈ xs,u.oneCell'=true) (hvl:vs.length=m*5) (h1v:∀u ∈ vs,u.oneCell'=true) (hvs:∀j u,vs[j]?=some u→w.cell? ⟨vb,j,none⟩=some u) :
 Calls Tryz.prog 122 #[.slice (some ⟨g,0,none⟩) n c,.int .i64 i,.slice (some ⟨vb,0,none⟩) m vc] w fun e w'=>∃G ROW,n+m≤G∧G≤maxLen∧ROW=(xs.take (i*5)).toArray++Builtin.zeroCells ZG (n+m-i)++Builtin.zeroCells ZG (G-(n+m))∧e=.returned (.slice (some ⟨w.heap.size,0,none⟩) (n+m) G) ∧
  w'=(((w.alloc (.cells ROW 42)).drew.setCells w.heap.size (i*5) vs).drew).setCells w.heap.size ((i+m)*5) (xs.drop (i*5)):=by
 obtain⟨i0,hi0,hz0,hzs,hzb⟩:=info_parts ja4;obtain⟨cur,hB,hg,hnc,hcm,hs,ht,hl⟩:=ZH hown;have t23:=Tryz.underlying22;have hcell:∀t,t<n*5→w.cell? ⟨g,t,none⟩=xs[t]?:=fun t h=>hown.cellAt t h;have hcs:∀t v,xs[t]?=some v→w.cell? ⟨g,t,none⟩=some v:=fun t v h=>(hcell t (by rw[←hl];exact(List.getElem?_eq_some_iff.1 h).1)).trans h;have hz1:¬((m:Int)=0):=by omega
 have hz2:¬((i:Int)=(n:Int)):=by omega
 have hz3:(c:Int)<(n:Int)+(m:Int):=by omega
 have hbw:g<w.heap.size:=(hown.lt g rfl).2;have hvw:vb<w.heap.size:=World.block_lt_of_cell? _ _ (hvs 0 _ (List.getElem?_eq_getElem (by omega)));have hkk:(n:Int)+(m:Int)-(i:Int)=((n+m-i:Nat):Int):=by omega
 have hik:i+(n+m-i)=n+m:=by omega
 have hold:(Builtin.firstCells i0.size i (.slice (some ⟨g,0,none⟩) i c)).run Tryz.prog w.drew=.ok (xs.take (i*5)).toArray w.drew:=by
  rw[hzs];exact run_firstCells_some w.drew 5 i ⟨g,0,none⟩ i c (xs.take (i*5)) (by rw[List.length_take,hl];omega) (fun j v hj=>by
   rw[Addr.add_lit,Nat.zero_add];rw[List.getElem?_take] at hj;split at hj
   · exact hcs j v hj
   · cases hj)
 have hrz:∀ty,(Builtin.append_ #[22,3] ty #[.slice (some ⟨g,0,none⟩) i c,.int .i64 ((n:Int)+(m:Int)-(i:Int))]).run Tryz.prog w =
  .ok (.slice (some ⟨w.heap.size,0,none⟩) (n+m) (grownCap w (n+m) c 42)) (w.drew.alloc (.cells ((xs.take (i*5)).toArray++Builtin.zeroCells ZG (n+m-i)++Builtin.zeroCells ZG (grownCap w (n+m) c 42-(n+m))) 42)):=fun ty=>by
  have h:=Lib.run_append_grow_zeros w 22 3 ty 42 i0 (.agg ZG) .i64 .i64 t23 Tryz.underlying3 hi0 hz0 (some ⟨g,0,none⟩) i c (xs.take (i*5)) hold (n+m-i) (by omega) (by omega) (by omega) (by omega) (by rw[hzb];omega) (by rw[hzb,hik];exact growslice_fits hroom (by omega));rw[hik] at h;rw[hkk];exact h
 obtain⟨G,hG⟩:∃G,G=grownCap w (n+m) c 42:=⟨_,rfl⟩
 obtain⟨ROW,hROW⟩:∃ROW:Array Value,ROW=(xs.take (i*5)).toArray++Builtin.zeroCells ZG (n+m-i)++Builtin.zeroCells ZG (G-(n+m)):=⟨_,rfl⟩
 rw[←hG] at hrz;rw[←hROW] at hrz;have hGn:n+m≤G:=by rw[hG];exact grownCap_ge w _ _ _
 have hGM:G≤maxLen:=by rw[hG];exact grownCap_le_maxLen w (n+m) c 42 (by unfold maxLen;omega)
 have hG63:G≤9223372036854775807:=by unfold maxLen at hGM;omega
 have hRl:ROW.size=G*5:=by
  rw[hROW,Array.size_append,Array.size_append,zQ,zQ,List.size_toArray,List.length_take,hl];omega
 obtain⟨W1,hW1⟩:∃W1,W1=w.drew.alloc (.cells ROW 42):=⟨_,rfl⟩
 rw[←hW1] at hrz;have hN:∀j,j<(n+m)*5→(W1.cell? ⟨w.heap.size,j,none⟩).isSome=true:=fun j hj=>by
  rw[hW1,World.cell?_alloc_at (w:=w.drew) ROW _ w.heap.size j rfl,Array.getElem?_eq_getElem (by rw[hRl];exact Nat.lt_of_lt_of_le hj (Nat.mul_le_mul_right 5 hGn))];rfl
 have hNf:∀j,W1.frozen? ⟨w.heap.size,j,none⟩=false:=fun j=>by rw[hW1];exact World.frozen?_alloc_at (w:=w.drew) ROW _ w.heap.size j rfl
 have hOb:∀j v,w.cell? ⟨g,j,none⟩=some v→W1.cell? ⟨g,j,none⟩=some v:=fun j v h=>by rw[hW1,World.cell?_alloc_past (w:=w.drew) _ g j hbw];exact h
 have hOv:∀j v,w.cell? ⟨vb,j,none⟩=some v→W1.cell? ⟨vb,j,none⟩=some v:=fun j v h=>by rw[hW1,World.cell?_alloc_past (w:=w.drew) _ vb j hvw];exact h
 have hcpA:∀(W:World),(∀x,W.cell? x=W1.cell? x)→(∀x,W.frozen? x=W1.frozen? x)→∀ty dc,(Builtin.copy_ #[22,22] ty #[.slice (some ⟨w.heap.size,i*5,none⟩) (n+m-i) dc,.slice (some ⟨vb,0,none⟩) m vc]).run Tryz.prog W=.ok (goInt (Nat.min m (n+m-i))) (W.setCells w.heap.size (i*5) vs):=fun W hWc hWf ty dc =>
  zv W _ _ ty 42 i0 w.heap.size (i*5) (n+m-i) dc ⟨vb,0,none⟩ m vc vs t23 hi0 (by rw[hvl,hzs];simp only[Nat.min_def];split<;>omega)
   (fun j v hj=>by rw[Addr.add_lit,hWc,Nat.zero_add];exact hOv _ v (hvs j v hj))
   (fun j hj=>by rw[hWc];exact hN _ (by omega)) (fun j hj=>by rw[hWf];exact hNf _) h1v
 have hGi:¬(G=i):=by omega
 have hGim:¬(G=i+m):=by omega
 have hci:¬(c=i):=by omega
 have hbN:g≠w.heap.size:=by omega
 have hdl:(xs.drop (i*5)).length=n*5-i*5:=by rw[List.length_drop,hl]
 have hcpB:∀(W:World),(∀x,W.cell? x=(W1.setCells w.heap.size (i*5) vs).cell? x)→(∀x,W.frozen? x=(W1.setCells w.heap.size (i*5) vs).frozen? x)→∀ty dc sc,(Builtin.copy_ #[22,22] ty #[.slice (some ⟨w.heap.size,(i+m)*5,none⟩) (n+m-(i+m)) dc,.slice (some ⟨g,i*5,none⟩) (n-i) sc]).run Tryz.prog W=.ok (goInt (Nat.min (n-i) (n+m-(i+m)))) (W.setCells w.heap.size ((i+m)*5) (xs.drop (i*5))):=fun W hWc hWf ty dc sc =>
  zv W _ _ ty 42 i0 w.heap.size ((i+m)*5) (n+m-(i+m)) dc ⟨g,i*5,none⟩ (n-i) sc (xs.drop (i*5)) t23 hi0 (by rw[hdl,hzs];simp only[Nat.min_def];split<;>omega)
   (fun j v hj=>by
     rw[Addr.add_lit,hWc,World.cell?_setCells_out _ _ _ _ _ (fun h _=>absurd h hbN)];exact hOb _ v (hcs (i*5+j) v (by rwa [List.getElem?_drop] at hj)))
   (fun j hj=>by rw[hWc];exact isSome_setCells _ _ _ _ (fun t ht=>hN _ (by omega)) _ (hN _ (by omega)))
   (fun j hj=>by rw[hWf,World.frozen?_setCells];exact hNf _) (fun v hv=>h1c v (List.mem_of_mem_drop hv))
 subst hW1;have hE1:∀x,((w.alloc (.cells ROW 42)).drew).cell? x=(w.drew.alloc (.cells ROW 42)).cell? x:=fun x=>rfl;have hE2:∀x,((w.alloc (.cells ROW 42)).drew).frozen? x=(w.drew.alloc (.cells ROW 42)).frozen? x:=fun x=>rfl;have hF1:∀x,(((w.alloc (.cells ROW 42)).drew.setCells w.heap.size (i*5) vs).drew).cell? x=((w.drew.alloc (.cells ROW 42)).setCells w.heap.size (i*5) vs).cell? x:=fun x=>rfl;have hF2:∀x,(((w.alloc (.cells ROW 42)).drew.setCells w.heap.size (i*5) vs).drew).frozen? x=((w.drew.alloc (.cells ROW 42)).setCells w.heap.size (i*5) vs).frozen? x:=fun x=>rfl;have hw1:IntKind.i64.wrap ((i:Int)+(m:Int))=(i:Int)+(m:Int):=by rw[IntKind.wrap_i64];omega
 have hb1:(0:Int)≤(i:Int)+(m:Int):=by omega
 have hin:i≤n:=by omega
 have htn:((i:Int)+(m:Int)).toNat=i+m:=by omega
 have hb3:(i:Int)≤(n:Int):=by omega
 have HROW:=lH hROW;have HGM:=lH hGM;clear hkk hik hold hROW hG hRl hGM hown hB hg hcm hs ht hl;go_enter Tryz.func122,Tryz.ntmps122;go_wp2_with (first
  | (at_builtin;refine Lib.wpList_append_run _ rfl _ _ _ _ rfl _ _ rfl rfl _ _ (hrz _) ?_)
  | (at_builtin;refine wpList_copy_runI _ rfl _ _ 22 22 rfl _ _ rfl rfl (hcpA _ hE1 hE2 _ _) ?_)
  | (at_builtin;refine wpList_copy_runI _ rfl _ _ 22 22 rfl _ _ rfl rfl (hcpB _ (fun _=>rfl) (fun _=>rfl) _ _ _) ?_))
 go_region_law (refine step_copy_runI rfl _ _ 22 22 rfl (.slice (some ⟨w.heap.size,(i+m)*5,none⟩) (n+m-(i+m)) (G-(i+m))) (.slice (some ⟨g,i*5,none⟩) (n-i) (c-i)) (by simp[Act.eval,Act.put]) (by simp[Act.eval,Act.put]) (hcpB _ hF1 hF2 3 (G-(i+m)) (c-i)) ?_)
 go_wp2;go_ret;exact⟨G,ROW,hGn,HGM.out,HROW.out,rfl,rfl⟩
theorem jaI (v:Value) (n i vb vc B:Nat) (xs vs:List Value) (w:World) (hown:w.ownsRow B 42 5 v n xs) (hbase:B≤w.heap.size) (hi:i≤n) (h1c:∀u ∈ xs,u.oneCell'=true) (hvl:vs.length=5) (h1v:∀u ∈ vs,u.oneCell'=true) (hvs:w.heap[vb]?=some (.cells vs.toArray 42)) (hvb:v.ownBlock≠some vb) (hbig:n≤100000) :
 Calls Tryz.prog 122 #[v,.int .i64 i,.slice (some ⟨vb,0,none⟩) 1 vc] w (YD v B n i xs vs w):=by
 have hcv:∀j u,vs[j]?=some u→w.cell? ⟨vb,j,none⟩=some u:=fun j u h=>by rw[Lib.cell_of_heap hvs];simpa using h
 by_cases he:i=n
 · subst he;exact Xm v i vb vc B xs vs w hown hbase hvl h1v hcv hbig
 · have hlt:i<n:=by omega
   rcases hown.2 with ⟨rfl,h0⟩ | ⟨g,c,cur,rfl,hb,hg,hnc,hcm,-⟩
   · omega
   · have hfz:∀t,w.frozen? ⟨vb,t,none⟩=false:=fun t=>by unfold World.frozen?;rw[show w.heap[(⟨vb,t,none⟩:Addr).block]?=some (.cells vs.toArray 42 (0,0)) from hvs];simp
     by_cases hr:n+1≤c
     · refine(YK g n c i vb 1 vc B xs vs w hown hlt rfl hr (fun e=>hvb (by rw[e];rfl)) h1c (by rw[hvl]) h1v hcv 42 vs.toArray.size (by unfold World.shape?;rw[hvs]) (hfz _) (hfz _)).mono ?_;rintro e w' ⟨rfl,rfl⟩;exact⟨g,c,rfl,ja0 (w:=w.drew) (ZK hown) hi hvl hr,(((jc.drew w).trans (jc.cells (S:=fun b=>(Value.slice (some ⟨g,0,none⟩) n c).ownBlock=some b) g rfl _ _ _)).trans (jc.cells (S:=fun b=>(Value.slice (some ⟨g,0,none⟩) n c).ownBlock=some b) g rfl _ _ _)),.inl rfl⟩
     · refine(YV g n c i vb 1 vc B xs vs w hown hlt (by decide) (by omega) (by omega) h1c (by rw[hvl]) h1v hcv).mono ?_;rintro e w' ⟨G,ROW,h1,h2,hROW,rfl,rfl⟩;have hl:xs.length=n*5:=hown.1;have hRl:ROW.size=G*5:=by
        rw[hROW,Array.size_append,Array.size_append,zQ,zQ,List.size_toArray,List.length_take,hl];omega
       have hrow:∀t,t<i*5→ROW[t]?=xs[t]?:=fun t ht=>by
        rw[hROW,Array.append_assoc,Array.getElem?_append_left (by rw[List.size_toArray,List.length_take,hl];omega),List.getElem?_toArray,List.getElem?_take,if_pos ht]
       refine⟨w.heap.size,G,rfl,?_,?_,.inr (Nat.le_refl _)⟩
       · simp only[←drew_setCells];exact ZK (ZK (jaw (w:=w) hbase h1 h2 hi hl hvl hRl hrow))
       · have k:Kept w (((w.alloc (.cells ROW 42)).drew.setCells w.heap.size (i*5) vs).drew.setCells w.heap.size ((i+1)*5) (xs.drop (i*5))) :=
          zA _ _ _ _ _ _ (Nat.le_refl _) (Below.drew (zA _ _ _ _ _ _ (Nat.le_refl _) (Below.drew (ja w _))))
         exact jc.of k
end Go.Proofs.YthmddloeggdohaaGreatDoor.InN
namespace Go.Proofs.YthmddloeggdohaaGreatDoor.InB
open Go.RowKit
theorem ja4:(Tryz.prog.info? 66).map (fun i=>(i.zero,i.size,i.bytes))=some (some (.agg #[.string ByteArray.empty,.slice none 0 0,.int .i64 0]),3,48):=by kernel_rfl
def ZG:Array Value:=#[.string ByteArray.empty,.slice none 0 0,.int .i64 0]
theorem zQ (n:Nat):(Builtin.zeroCells ZG n).size=n*3:=by
 unfold Builtin.zeroCells;rw[Array.size_map,Array.size_range];rfl
def YD (v:Value) (B n i:Nat) (xs vs:List Value) (w:World) (e:Ending) (w':World):Prop:=∃g c,e=.returned (.slice (some ⟨g,0,none⟩) (n+1) c)∧w'.ownsRow B 66 3 (.slice (some ⟨g,0,none⟩) (n+1) c) (n+1) (xs.take (i*3)++vs++xs.drop (i*3))∧jc (fun b=>v.ownBlock=some b) w w'∧(v.ownBlock=some g∨w.heap.size≤g)
theorem Xm (v:Value) (n vb vc B:Nat) (xs vs:List Value) (w:World) (hown:w.ownsRow B 66 3 v n xs) (hbase:B≤w.heap.size) (hvl:vs.length=3) (h1v:∀u ∈ vs,u.oneCell'=true) (hvs:∀j u,vs[j]?=some u→w.cell? ⟨vb,j,none⟩=some u) (hbig:n≤100000) :
 Calls Tryz.prog 134 #[v,.int .i64 n,.slice (some ⟨vb,0,none⟩) 1 vc] w (YD v B n n xs vs w):=by
 obtain⟨i0,hi0,hz0,hz1,hz2⟩:=info_parts ja4;have H:=lH hown;have HL:=lH (show xs.length=n*3 from hown.1);have HVS:=lH (show ∀j u,vs[j]?=some u→w.cell? ((⟨vb,0,none⟩:Addr).add j)=some u from fun j u h=>by rw[Addr.add_lit,Nat.zero_add];exact hvs j u h);have HB:=lH hbase;have H1:=lH h1v;have HV:=lH (show vs.length=1*3 by rw[hvl]);have t23:=Tryz.underlying24;have key:∀(gg cap1:Nat) (w2:World),w2.ownsRow B 66 3 (.slice (some ⟨gg,0,none⟩) (n+1) cap1) (n+1) (xs++vs)→w.grownBy w2 v.ownBlock→(v.ownBlock=some gg∨gg=w.heap.size)→YD v B n n xs vs w (.returned (.slice (some ⟨gg,0,none⟩) (n+1) cap1)) w2:=by
  intro gg cap1 w2 h1 h2 h3;refine⟨gg,cap1,rfl,?_,jc.grown h2 fun k e=>e,h3.imp id fun e=>by omega⟩;rw[←HL.out,List.take_length,List.drop_length,List.append_nil];exact h1
 have HK:=lH key;rcases hown.2 with ⟨rfl,h0⟩ | ⟨g,c,cur,rfl,hb,hg,hnc,hcm,-⟩
 · subst h0;clear hown hvl h1v hvs hbase key;go_enter Tryz.func134,Tryz.ntmps134;go_wp2_with (at_builtin;refine wpList_append_lies _ rfl _ _ _ rfl B 66 i0 _ 3 48 t23 hi0 hz0 hz1 hz2 rfl (by decide) (.slice none 0 0) 0 xs rfl H.out ⟨vb,0,none⟩ 1 vc vs rfl HV.out HVS.out H1.out (by decide) (by unfold maxLen;omega) (by omega) HB.out w.heap.size rfl ?_;intro gg cap1 w2 hown1 hgrow hat hlt1)
   have HR:=lH (HK.out gg cap1 w2 hown1 hgrow hat);clear hown1 hgrow hat hlt1;go_wp2;go_ret;exact HR.out
 · have hc':c≤9223372036854775807:=by unfold maxLen at hcm;omega
   clear hown hvl h1v hvs hbase key hb hg;go_enter Tryz.func134,Tryz.ntmps134;go_wp2_with (at_builtin;refine wpList_append_lies _ rfl _ _ _ rfl B 66 i0 _ 3 48 t23 hi0 hz0 hz1 hz2 rfl (by decide) (.slice (some ⟨g,0,none⟩) n c) n xs rfl H.out ⟨vb,0,none⟩ 1 vc vs rfl HV.out HVS.out H1.out (by decide) (by unfold maxLen;omega) (by omega) HB.out w.heap.size rfl ?_;intro gg cap1 w2 hown1 hgrow hat hlt1)
   all_goals
    have HR:=lH (HK.out gg cap1 w2 hown1 hgrow hat);clear hown1 hgrow hat hlt1;go_wp2;go_ret;exact HR.out
theorem YK (g n c i vb m vc B:Nat) (xs vs:List Value) (w:World) (hown:w.ownsRow B 66 3 (.slice (some ⟨g,0,none⟩) n c) n xs) (hi:i<n) (hm1:m=1) (hroom:n+m≤c) (hvb:vb≠g) (h1c:∀u ∈ xs,u.oneCell'=true) (hvl:vs.length=m*3) (h1v:∀u ∈ vs,u.oneCell'=true) (hvs:∀j u,vs[j]?=some u→w.cell? ⟨vb,j,none⟩=some u)
 (tA:TypeId) (kA:Nat) (hsa:w.shape? vb=some (tA,kA)) (hfa:w.frozen? ⟨vb,0,none⟩=false) (hfe:w.frozen? ⟨vb,kA,none⟩=false) :
 Calls Tryz.prog 134 #[.slice (some ⟨g,0,none⟩) n c,.int .i64 i,.slice (some ⟨vb,0,none⟩) m vc] w fun e w'=>e=.returned (.slice (some ⟨g,0,none⟩) (n+m) c)∧w'=(w.drew.setCells g ((i+m)*3) (xs.drop (i*3))).setCells g (i*3) vs:=by
 obtain⟨i0,hi0,hz0,hzs,hzb⟩:=info_parts ja4;obtain⟨cur,hB,hg,hn,hcm,hs,ht,hl⟩:=ZH hown;have hm:0<m:=by omega
 have hc63:c≤9223372036854775807:=by unfold maxLen at hcm;omega
 have t23:=Tryz.underlying24;have hfr:∀t,w.frozen? ⟨g,t,none⟩=false:=fun t=>hown.frozenAt t;have hcell:∀t,t<n*3→w.cell? ⟨g,t,none⟩=xs[t]?:=fun t h=>hown.cellAt t h;have hsp:∀t,t<(n+m)*3→(w.cell? ⟨g,t,none⟩).isSome=true:=fun t h=>by
  rw[Lib.cell_of_heap hg,Array.getElem?_eq_getElem (by rw[hs];exact Nat.lt_of_lt_of_le h (Nat.mul_le_mul_right 3 hroom))];rfl
 have hz1:¬((m:Int)=0):=by omega
 have hz2:¬((i:Int)=(n:Int)):=by omega
 have hdl:(xs.drop (i*3)).length=n*3-i*3:=by rw[List.length_drop,hl]
 have hks:cur.size≠0:=by rw[hs];omega
 have hsb:w.shape? g=some (66,cur.size):=by unfold World.shape?;rw[hg]
 have hov:∀lb cb,(callFunc 181 #[.slice (some ⟨vb,0,none⟩) m vc,.slice (some ⟨g,(i+m)*3,none⟩) lb cb]).run Tryz.prog w=.ok (.value (.bool false)) w:=fun lb cb=>by
  rw[run_callFunc_extern Tryz.func181 (by kernel_rfl) (by kernel_rfl) (by kernel_rfl) (e:=Extern.SlicesOverlaps.overlaps #[24,24] #[4]) (by kernel_rfl),
   Lib.run_overlaps_apart w 24 4 66 t23 3 (fun w=>by simp[sizeOf,typeInfo,hi0,hzs]) ⟨vb,0,none⟩ ⟨g,(i+m)*3,none⟩ m vc lb cb hvb tA 66 kA cur.size hsa hsb hks hfa hfe]
  rfl
 have hw1:IntKind.i64.wrap ((i:Int)+(m:Int))=(i:Int)+(m:Int):=by rw[IntKind.wrap_i64];omega
 have hb1:(0:Int)≤(i:Int)+(m:Int):=by omega
 have hin:i≤n:=by omega
 have htn:((i:Int)+(m:Int)).toNat=i+m:=by omega
 have hb2:¬(c=i+m):=by omega
 have hb3:(i:Int)≤(n:Int)+(m:Int):=by omega
 have hb4:¬(c=i):=by omega
 have hcp1:∀ty dc sc,(Builtin.copy_ #[24,24] ty #[.slice (some ⟨g,(i+m)*3,none⟩) (n+m-(i+m)) dc,.slice (some ⟨g,i*3,none⟩) (n+m-i) sc]).run Tryz.prog w.drew=.ok (goInt (Nat.min (n+m-i) (n+m-(i+m)))) (w.drew.setCells g ((i+m)*3) (xs.drop (i*3))):=fun ty dc sc =>
  zv w.drew _ _ ty 66 i0 g ((i+m)*3) (n+m-(i+m)) dc ⟨g,i*3,none⟩ (n+m-i) sc (xs.drop (i*3)) t23 hi0 (by rw[hdl,hzs];simp only[Nat.min_def];split<;>omega)
   (fun j v hj=>by rw[Addr.add_lit];rw[List.getElem?_drop] at hj;have:=(List.getElem?_eq_some_iff.1 hj).1;exact(hcell _ (by omega)).trans hj)
   (fun j hj=>hsp _ (by omega)) (fun j hj=>hfr _) (fun v hv=>h1c v (List.mem_of_mem_drop hv))
 obtain⟨W1,hW1⟩:∃W1,W1=w.drew.setCells g ((i+m)*3) (xs.drop (i*3)):=⟨_,rfl⟩
 have hsp1:∀k,k<(n+m)*3→(W1.cell? ⟨g,k,none⟩).isSome=true:=fun k hk=>by
  rw[hW1];exact isSome_setCells g (xs.drop (i*3)) ((i+m)*3) w.drew (fun j hj=>hsp _ (by rw[hdl] at hj;omega)) k (hsp k hk)
 have hcp2:∀(W:World),(∀x,W.cell? x=W1.cell? x)→(∀x,W.frozen? x=W1.frozen? x)→∀ty dc,(Builtin.copy_ #[24,24] ty #[.slice (some ⟨g,i*3,none⟩) (n+m-i) dc,.slice (some ⟨vb,0,none⟩) m vc]).run Tryz.prog W=.ok (goInt (Nat.min m (n+m-i))) (W.setCells g (i*3) vs):=fun W hWc hWf ty dc =>
  zv W _ _ ty 66 i0 g (i*3) (n+m-i) dc ⟨vb,0,none⟩ m vc vs t23 hi0 (by rw[hvl,hzs];simp only[Nat.min_def];split<;>omega)
   (fun j v hj=>by
     rw[Addr.add_lit,hWc,hW1,World.cell?_setCells_out g _ _ _ _ (fun h _=>absurd h hvb),Nat.zero_add];exact hvs j v hj)
   (fun j hj=>by rw[hWc];exact hsp1 _ (by omega)) (fun j hj=>by rw[hWf,hW1,World.frozen?_setCells];exact hfr _) h1v
 rw[←hW1] at hcp1;clear hown hB hg hcm hs ht hl hm1 hsa hsb hfa hfe hks;go_enter Tryz.func134,Tryz.ntmps134;go_wp2_with (simp only[hov])
 go_region_law (refine step_copy_runI rfl _ _ 24 24 rfl _ _ (by simp[Act.eval,Act.put]) (by simp[Act.eval,Act.put]) (hcp1 _ _ _) ?_)
 go_wp2_with (at_builtin;refine wpList_copy_runI _ rfl _ _ 24 24 rfl _ _ rfl rfl (hcp2 _ (fun _=>rfl) (fun _=>rfl) _ _) ?_)
 go_ret;first | exact⟨rfl,rfl⟩ | exact⟨rfl,by rw[hW1]⟩
theorem YV (g n c i vb m vc B:Nat) (xs vs:List Value) (w:World) (hown:w.ownsRow B 66 3 (.slice (some ⟨g,0,none⟩) n c) n xs) (hi:i<n) (hm:0<m) (hroom:c<n+m) (hbig:n+m≤100001) (h1c:∀u ∈ xs,u.oneCell'=true) (hvl:vs.length=m*3) (h1v:∀u ∈ vs,u.oneCell'=true) (hvs:∀j u,vs[j]?=some u→w.cell? ⟨vb,j,none⟩=some u) :
 Calls Tryz.prog 134 #[.slice (some ⟨g,0,none⟩) n c,.int .i64 i,.slice (some ⟨vb,0,none⟩) m vc] w fun e w'=>∃G ROW,n+m≤G∧G≤maxLen∧ROW=(xs.take (i*3)).toArray++Builtin.zeroCells ZG (n+m-i)++Builtin.zeroCells ZG (G-(n+m))∧e=.returned (.slice (some ⟨w.heap.size,0,none⟩) (n+m) G) ∧
  w'=(((w.alloc (.cells ROW 66)).drew.setCells w.heap.size (i*3) vs).drew).setCells w.heap.size ((i+m)*3) (xs.drop (i*3)):=by
 obtain⟨i0,hi0,hz0,hzs,hzb⟩:=info_parts ja4;obtain⟨cur,hB,hg,hnc,hcm,hs,ht,hl⟩:=ZH hown;have t23:=Tryz.underlying24;have hcell:∀t,t<n*3→w.cell? ⟨g,t,none⟩=xs[t]?:=fun t h=>hown.cellAt t h;have hcs:∀t v,xs[t]?=some v→w.cell? ⟨g,t,none⟩=some v:=fun t v h=>(hcell t (by rw[←hl];exact(List.getElem?_eq_some_iff.1 h).1)).trans h;have hz1:¬((m:Int)=0):=by omega
 have hz2:¬((i:Int)=(n:Int)):=by omega
 have hz3:(c:Int)<(n:Int)+(m:Int):=by omega
 have hbw:g<w.heap.size:=(hown.lt g rfl).2;have hvw:vb<w.heap.size:=World.block_lt_of_cell? _ _ (hvs 0 _ (List.getElem?_eq_getElem (by omega)));have hkk:(n:Int)+(m:Int)-(i:Int)=((n+m-i:Nat):Int):=by omega
 have hik:i+(n+m-i)=n+m:=by omega
 have hold:(Builtin.firstCells i0.size i (.slice (some ⟨g,0,none⟩) i c)).run Tryz.prog w.drew=.ok (xs.take (i*3)).toArray w.drew:=by
  rw[hzs];exact run_firstCells_some w.drew 3 i ⟨g,0,none⟩ i c (xs.take (i*3)) (by rw[List.length_take,hl];omega) (fun j v hj=>by
   rw[Addr.add_lit,Nat.zero_add];rw[List.getElem?_take] at hj;split at hj
   · exact hcs j v hj
   · cases hj)
 have hrz:∀ty,(Builtin.append_ #[24,3] ty #[.slice (some ⟨g,0,none⟩) i c,.int .i64 ((n:Int)+(m:Int)-(i:Int))]).run Tryz.prog w =
  .ok (.slice (some ⟨w.heap.size,0,none⟩) (n+m) (grownCap w (n+m) c 66)) (w.drew.alloc (.cells ((xs.take (i*3)).toArray++Builtin.zeroCells ZG (n+m-i)++Builtin.zeroCells ZG (grownCap w (n+m) c 66-(n+m))) 66)):=fun ty=>by
  have h:=Lib.run_append_grow_zeros w 24 3 ty 66 i0 (.agg ZG) .i64 .i64 t23 Tryz.underlying3 hi0 hz0 (some ⟨g,0,none⟩) i c (xs.take (i*3)) hold (n+m-i) (by omega) (by omega) (by omega) (by omega) (by rw[hzb];omega) (by rw[hzb,hik];exact growslice_fits hroom (by omega));rw[hik] at h;rw[hkk];exact h
 obtain⟨G,hG⟩:∃G,G=grownCap w (n+m) c 66:=⟨_,rfl⟩
 obtain⟨ROW,hROW⟩:∃ROW:Array Value,ROW=(xs.take (i*3)).toArray++Builtin.zeroCells ZG (n+m-i)++Builtin.zeroCells ZG (G-(n+m)):=⟨_,rfl⟩
 rw[←hG] at hrz;rw[←hROW] at hrz;have hGn:n+m≤G:=by rw[hG];exact grownCap_ge w _ _ _
 have hGM:G≤maxLen:=by rw[hG];exact grownCap_le_maxLen w (n+m) c 66 (by unfold maxLen;omega)
 have hG63:G≤9223372036854775807:=by unfold maxLen at hGM;omega
 have hRl:ROW.size=G*3:=by
  rw[hROW,Array.size_append,Array.size_append,zQ,zQ,List.size_toArray,List.length_take,hl];omega
 obtain⟨W1,hW1⟩:∃W1,W1=w.drew.alloc (.cells ROW 66):=⟨_,rfl⟩
 rw[←hW1] at hrz;have hN:∀j,j<(n+m)*3→(W1.cell? ⟨w.heap.size,j,none⟩).isSome=true:=fun j hj=>by
  rw[hW1,World.cell?_alloc_at (w:=w.drew) ROW _ w.heap.size j rfl,Array.getElem?_eq_getElem (by rw[hRl];exact Nat.lt_of_lt_of_le hj (Nat.mul_le_mul_right 3 hGn))];rfl
 have hNf:∀j,W1.frozen? ⟨w.heap.size,j,none⟩=false:=fun j=>by rw[hW1];exact World.frozen?_alloc_at (w:=w.drew) ROW _ w.heap.size j rfl
 have hOb:∀j v,w.cell? ⟨g,j,none⟩=some v→W1.cell? ⟨g,j,none⟩=some v:=fun j v h=>by rw[hW1,World.cell?_alloc_past (w:=w.drew) _ g j hbw];exact h
 have hOv:∀j v,w.cell? ⟨vb,j,none⟩=some v→W1.cell? ⟨vb,j,none⟩=some v:=fun j v h=>by rw[hW1,World.cell?_alloc_past (w:=w.drew) _ vb j hvw];exact h
 have hcpA:∀(W:World),(∀x,W.cell? x=W1.cell? x)→(∀x,W.frozen? x=W1.frozen? x)→∀ty dc,(Builtin.copy_ #[24,24] ty #[.slice (some ⟨w.heap.size,i*3,none⟩) (n+m-i) dc,.slice (some ⟨vb,0,none⟩) m vc]).run Tryz.prog W=.ok (goInt (Nat.min m (n+m-i))) (W.setCells w.heap.size (i*3) vs):=fun W hWc hWf ty dc =>
  zv W _ _ ty 66 i0 w.heap.size (i*3) (n+m-i) dc ⟨vb,0,none⟩ m vc vs t23 hi0 (by rw[hvl,hzs];simp only[Nat.min_def];split<;>omega)
   (fun j v hj=>by rw[Addr.add_lit,hWc,Nat.zero_add];exact hOv _ v (hvs j v hj))
   (fun j hj=>by rw[hWc];exact hN _ (by omega)) (fun j hj=>by rw[hWf];exact hNf _) h1v
 have hGi:¬(G=i):=by omega
 have hGim:¬(G=i+m):=by omega
 have hci:¬(c=i):=by omega
 have hbN:g≠w.heap.size:=by omega
 have hdl:(xs.drop (i*3)).length=n*3-i*3:=by rw[List.length_drop,hl]
 have hcpB:∀(W:World),(∀x,W.cell? x=(W1.setCells w.heap.size (i*3) vs).cell? x)→(∀x,W.frozen? x=(W1.setCells w.heap.size (i*3) vs).frozen? x)→∀ty dc sc,(Builtin.copy_ #[24,24] ty #[.slice (some ⟨w.heap.size,(i+m)*3,none⟩) (n+m-(i+m)) dc,.slice (some ⟨g,i*3,none⟩) (n-i) sc]).run Tryz.prog W=.ok (goInt (Nat.min (n-i) (n+m-(i+m)))) (W.setCells w.heap.size ((i+m)*3) (xs.drop (i*3))):=fun W hWc hWf ty dc sc =>
  zv W _ _ ty 66 i0 w.heap.size ((i+m)*3) (n+m-(i+m)) dc ⟨g,i*3,none⟩ (n-i) sc (xs.drop (i*3)) t23 hi0 (by rw[hdl,hzs];simp only[Nat.min_def];split<;>omega)
   (fun j v hj=>by
     rw[Addr.add_lit,hWc,World.cell?_setCells_out _ _ _ _ _ (fun h _=>absurd h hbN)];exact hOb _ v (hcs (i*3+j) v (by rwa [List.getElem?_drop] at hj)))
   (fun j hj=>by rw[hWc];exact isSome_setCells _ _ _ _ (fun t ht=>hN _ (by omega)) _ (hN _ (by omega)))
   (fun j hj=>by rw[hWf,World.frozen?_setCells];exact hNf _) (fun v hv=>h1c v (List.mem_of_mem_drop hv))
 subst hW1;have hE1:∀x,((w.alloc (.cells ROW 66)).drew).cell? x=(w.drew.alloc (.cells ROW 66)).cell? x:=fun x=>rfl;have hE2:∀x,((w.alloc (.cells ROW 66)).drew).frozen? x=(w.drew.alloc (.cells ROW 66)).frozen? x:=fun x=>rfl;have hF1:∀x,(((w.alloc (.cells ROW 66)).drew.setCells w.heap.size (i*3) vs).drew).cell? x=((w.drew.alloc (.cells ROW 66)).setCells w.heap.size (i*3) vs).cell? x:=fun x=>rfl;have hF2:∀x,(((w.alloc (.cells ROW 66)).drew.setCells w.heap.size (i*3) vs).drew).frozen? x=((w.drew.alloc (.cells ROW 66)).setCells w.heap.size (i*3) vs).frozen? x:=fun x=>rfl;have hw1:IntKind.i64.wrap ((i:Int)+(m:Int))=(i:Int)+(m:Int):=by rw[IntKind.wrap_i64];omega
 have hb1:(0:Int)≤(i:Int)+(m:Int):=by omega
 have hin:i≤n:=by omega
 have htn:((i:Int)+(m:Int)).toNat=i+m:=by omega
 have hb3:(i:Int)≤(n:Int):=by omega
 have HROW:=lH hROW;have HGM:=lH hGM;clear hkk hik hold hROW hG hRl hGM hown hB hg hcm hs ht hl;go_enter Tryz.func134,Tryz.ntmps134;go_wp2_with (first
  | (at_builtin;refine Lib.wpList_append_run _ rfl _ _ _ _ rfl _ _ rfl rfl _ _ (hrz _) ?_)
  | (at_builtin;refine wpList_copy_runI _ rfl _ _ 24 24 rfl _ _ rfl rfl (hcpA _ hE1 hE2 _ _) ?_)
  | (at_builtin;refine wpList_copy_runI _ rfl _ _ 24 24 rfl _ _ rfl rfl (hcpB _ (fun _=>rfl) (fun _=>rfl) _ _ _) ?_))
 go_region_law (refine step_copy_runI rfl _ _ 24 24 rfl (.slice (some ⟨w.heap.size,(i+m)*3,none⟩) (n+m-(i+m)) (G-(i+m))) (.slice (some ⟨g,i*3,none⟩) (n-i) (c-i)) (by simp[Act.eval,Act.put]) (by simp[Act.eval,Act.put]) (hcpB _ hF1 hF2 3 (G-(i+m)) (c-i)) ?_)
 go_wp2;go_ret;exact⟨G,ROW,hGn,HGM.out,HROW.out,rfl,rfl⟩
theorem jaI (v:Value) (n i vb vc B:Nat) (xs vs:List Value) (w:World) (hown:w.ownsRow B 66 3 v n xs) (hbase:B≤w.heap.size) (hi:i≤n) (h1c:∀u ∈ xs,u.oneCell'=true) (hvl:vs.length=3) (h1v:∀u ∈ vs,u.oneCell'=true) (hvs:w.heap[vb]?=some (.cells vs.toArray 66)) (hvb:v.ownBlock≠some vb) (hbig:n≤100000) :
 Calls Tryz.prog 134 #[v,.int .i64 i,.slice (some ⟨vb,0,none⟩) 1 vc] w (YD v B n i xs vs w):=by
 have hcv:∀j u,vs[j]?=some u→w.cell? ⟨vb,j,none⟩=some u:=fun j u h=>by rw[Lib.cell_of_heap hvs];simpa using h
 by_cases he:i=n
 · subst he;exact Xm v i vb vc B xs vs w hown hbase hvl h1v hcv hbig
 · have hlt:i<n:=by omega
   rcases hown.2 with ⟨rfl,h0⟩ | ⟨g,c,cur,rfl,hb,hg,hnc,hcm,-⟩
   · omega
   · have hfz:∀t,w.frozen? ⟨vb,t,none⟩=false:=fun t=>by unfold World.frozen?;rw[show w.heap[(⟨vb,t,none⟩:Addr).block]?=some (.cells vs.toArray 66 (0,0)) from hvs];simp
     by_cases hr:n+1≤c
     · refine(YK g n c i vb 1 vc B xs vs w hown hlt rfl hr (fun e=>hvb (by rw[e];rfl)) h1c (by rw[hvl]) h1v hcv 66 vs.toArray.size (by unfold World.shape?;rw[hvs]) (hfz _) (hfz _)).mono ?_;rintro e w' ⟨rfl,rfl⟩;exact⟨g,c,rfl,ja0 (w:=w.drew) (ZK hown) hi hvl hr,(((jc.drew w).trans (jc.cells (S:=fun b=>(Value.slice (some ⟨g,0,none⟩) n c).ownBlock=some b) g rfl _ _ _)).trans (jc.cells (S:=fun b=>(Value.slice (some ⟨g,0,none⟩) n c).ownBlock=some b) g rfl _ _ _)),.inl rfl⟩
     · refine(YV g n c i vb 1 vc B xs vs w hown hlt (by decide) (by omega) (by omega) h1c (by rw[hvl]) h1v hcv).mono ?_;rintro e w' ⟨G,ROW,h1,h2,hROW,rfl,rfl⟩;have hl:xs.length=n*3:=hown.1;have hRl:ROW.size=G*3:=by
        rw[hROW,Array.size_append,Array.size_append,zQ,zQ,List.size_toArray,List.length_take,hl];omega
       have hrow:∀t,t<i*3→ROW[t]?=xs[t]?:=fun t ht=>by
        rw[hROW,Array.append_assoc,Array.getElem?_append_left (by rw[List.size_toArray,List.length_take,hl];omega),List.getElem?_toArray,List.getElem?_take,if_pos ht]
       refine⟨w.heap.size,G,rfl,?_,?_,.inr (Nat.le_refl _)⟩
       · simp only[←drew_setCells];exact ZK (ZK (jaw (w:=w) hbase h1 h2 hi hl hvl hRl hrow))
       · have k:Kept w (((w.alloc (.cells ROW 66)).drew.setCells w.heap.size (i*3) vs).drew.setCells w.heap.size ((i+1)*3) (xs.drop (i*3))) :=
          zA _ _ _ _ _ _ (Nat.le_refl _) (Below.drew (zA _ _ _ _ _ _ (Nat.le_refl _) (Below.drew (ja w _))))
         exact jc.of k
end Go.Proofs.YthmddloeggdohaaGreatDoor.InB
namespace Go.Proofs.YthmddloeggdohaaGreatDoor
open Go.RowKit
theorem jng {w:World} {a:Option Addr} {len:Nat} {l:List Nod} (h:j0 w a len l):∃lx:List NX,(lx.map fun z=>z.1)=l∧jr zJ w a len lx∧∀z ∈ lx,At3 w z:=by
 obtain⟨h0,h1,h2⟩:=h;rcases h2 with h2 | ⟨b,off,rfl,hb,hc⟩
 · have:l=[]:=List.eq_nil_of_length_eq_zero (by omega);subst this;subst h2;exact⟨[],rfl,jr.nil w a,fun z hz=>absurd hz (by simp)⟩
 · have step:∀m,m≤l.length→∃lx:List NX,(lx.map fun z=>z.1)=l.take m∧(∀i x j u,lx[i]?=some x→(zJ.cs x)[j]?=some u→w.cell? ⟨b,off+i*5+j,none⟩=some u)∧∀z ∈ lx,At3 w z:=by
    intro m
    induction m with
    | zero=>exact fun _=>⟨[],rfl,fun i x j u hi=>by simp at hi,fun z hz=>absurd hz (by simp)⟩
    | succ m ih =>
     intro hm;obtain⟨lx,e,hcell,hat⟩:=ih (by omega);obtain⟨n,hn⟩:∃n,l[m]?=some n:=⟨_,List.getElem?_eq_getElem (by omega)⟩
     obtain⟨a1,m1,c1,a2,m2,c2,a3,m3,c3,p0,p1,p2,p3,p4,hp⟩:=hc m n hn;have hlen:lx.length=m:=by
      have:=congrArg List.length e;rw[List.length_map,List.length_take] at this;omega
     refine⟨lx++[(n,(a1,m1,c1),(a2,m2,c2),(a3,m3,c3))],?_,?_,?_⟩
     · rw[List.map_append,e,zW hn];rfl
     · intro i x j u hi hj;by_cases him:i<m
       · rw[List.getElem?_append_left (by omega)] at hi;exact hcell i x j u hi hj
       · have hi2:=(List.getElem?_eq_some_iff.1 hi).1;rw[List.length_append,List.length_singleton] at hi2;obtain rfl:i=m:=by omega
         rw[List.getElem?_append_right (by omega),hlen,Nat.sub_self] at hi;obtain rfl:=Option.some.inj hi
         match j,hj with
         | 0,hj=>obtain rfl:=Option.some.inj hj;exact p0
         | 1,hj=>obtain rfl:=Option.some.inj hj;exact p1
         | 2,hj=>obtain rfl:=Option.some.inj hj;exact p2
         | 3,hj=>obtain rfl:=Option.some.inj hj;exact p3
         | 4,hj=>obtain rfl:=Option.some.inj hj;exact p4
         | j+5,hj=>simp[zJ] at hj
     · intro z hz;rcases List.mem_append.1 hz with hz | hz
       · exact hat z hz
       · obtain rfl:z=_:=List.mem_singleton.1 hz;exact hp
   obtain⟨lx,e,hcell,hat⟩:=step l.length (Nat.le_refl _);rw[List.take_of_length_le (Nat.le_refl _)] at e;have hl:lx.length=len:=by rw[←h0,←e,List.length_map]
   exact⟨lx,e,⟨hl,h1,fun _ _=>trivial,.inr ⟨b,off,rfl,hb,hcell⟩⟩,hat⟩
theorem jm8 {w:World} {a:Option Addr} {len:Nat} {l:List Bd} (h:Je w a len l):∃lx:List BX,(lx.map fun z=>z.1)=l∧jr zu w a len lx∧∀z ∈ lx,At1 w z:=by
 obtain⟨h0,h1,h2⟩:=h;rcases h2 with h2 | ⟨b,off,rfl,hb,hc⟩
 · have:l=[]:=List.eq_nil_of_length_eq_zero (by omega);subst this;subst h2;exact⟨[],rfl,jr.nil w a,fun z hz=>absurd hz (by simp)⟩
 · have step:∀m,m≤l.length→∃lx:List BX,(lx.map fun z=>z.1)=l.take m∧(∀i x j u,lx[i]?=some x→(zu.cs x)[j]?=some u→w.cell? ⟨b,off+i*3+j,none⟩=some u)∧∀z ∈ lx,At1 w z:=by
    intro m
    induction m with
    | zero=>exact fun _=>⟨[],rfl,fun i x j u hi=>by simp at hi,fun z hz=>absurd hz (by simp)⟩
    | succ m ih =>
     intro hm;obtain⟨lx,e,hcell,hat⟩:=ih (by omega);obtain⟨n,hn⟩:∃n,l[m]?=some n:=⟨_,List.getElem?_eq_getElem (by omega)⟩
     obtain⟨w1,p0,p1,p2,hp⟩:=hc m n hn;obtain⟨a1,m1,c1,rfl⟩:=hp.spelt;have hlen:lx.length=m:=by
      have:=congrArg List.length e;rw[List.length_map,List.length_take] at this;omega
     refine⟨lx++[(n,(a1,m1,c1))],?_,?_,?_⟩
     · rw[List.map_append,e,zW hn];rfl
     · intro i x j u hi hj;by_cases him:i<m
       · rw[List.getElem?_append_left (by omega)] at hi;exact hcell i x j u hi hj
       · have hi2:=(List.getElem?_eq_some_iff.1 hi).1;rw[List.length_append,List.length_singleton] at hi2;obtain rfl:i=m:=by omega
         rw[List.getElem?_append_right (by omega),hlen,Nat.sub_self] at hi;obtain rfl:=Option.some.inj hi
         match j,hj with
         | 0,hj=>obtain rfl:=Option.some.inj hj;exact p0
         | 1,hj=>obtain rfl:=Option.some.inj hj;exact p1
         | 2,hj=>obtain rfl:=Option.some.inj hj;exact p2
         | j+3,hj=>simp[zu] at hj
     · intro z hz;rcases List.mem_append.1 hz with hz | hz
       · exact hat z hz
       · obtain rfl:z=_:=List.mem_singleton.1 hz;exact hp
   obtain⟨lx,e,hcell,hat⟩:=step l.length (Nat.le_refl _);rw[List.take_of_length_le (Nat.le_refl _)] at e;have hl:lx.length=len:=by rw[←h0,←e,List.length_map]
   exact⟨lx,e,⟨hl,h1,fun _ _=>trivial,.inr ⟨b,off,rfl,hb,hcell⟩⟩,hat⟩
theorem jno {w:World} {a:Option Addr} {len:Nat} {l:List Pd} (h:Jd w a len l):∃lx:List PX,(lx.map fun z=>z.1)=l∧jr zi w a len lx∧∀z ∈ lx,At4 w z:=by
 obtain⟨h0,h1,h2⟩:=h;rcases h2 with h2 | ⟨b,off,rfl,hb,hc⟩
 · have:l=[]:=List.eq_nil_of_length_eq_zero (by omega);subst this;subst h2;exact⟨[],rfl,jr.nil w a,fun z hz=>absurd hz (by simp)⟩
 · have step:∀m,m≤l.length→∃lx:List PX,(lx.map fun z=>z.1)=l.take m∧(∀i x j u,lx[i]?=some x→(zi.cs x)[j]?=some u→w.cell? ⟨b,off+i*11+j,none⟩=some u)∧∀z ∈ lx,At4 w z:=by
    intro m
    induction m with
    | zero=>exact fun _=>⟨[],rfl,fun i x j u hi=>by simp at hi,fun z hz=>absurd hz (by simp)⟩
    | succ m ih =>
     intro hm;obtain⟨lx,e,hcell,hat⟩:=ih (by omega);obtain⟨n,hn⟩:∃n,l[m]?=some n:=⟨_,List.getElem?_eq_getElem (by omega)⟩
     obtain⟨v1,v2,v3,v4,p0,p1,p2,p3,p4,p5,p6,p7,p8,p9,p10,hp⟩:=hc m n hn;obtain⟨b1,n1,d1,b2,n2,d2,b3,n3,d3,b4,n4,d4,rfl,rfl,rfl,rfl⟩:=hp.spelt;have hlen:lx.length=m:=by
      have:=congrArg List.length e;rw[List.length_map,List.length_take] at this;omega
     refine⟨lx++[(n,(b1,n1,d1),(b2,n2,d2),(b3,n3,d3),(b4,n4,d4))],?_,?_,?_⟩
     · rw[List.map_append,e,zW hn];rfl
     · intro i x j u hi hj;by_cases him:i<m
       · rw[List.getElem?_append_left (by omega)] at hi;exact hcell i x j u hi hj
       · have hi2:=(List.getElem?_eq_some_iff.1 hi).1;rw[List.length_append,List.length_singleton] at hi2;obtain rfl:i=m:=by omega
         rw[List.getElem?_append_right (by omega),hlen,Nat.sub_self] at hi;obtain rfl:=Option.some.inj hi
         match j,hj with
         | 0,hj=>obtain rfl:=Option.some.inj hj;exact p0
         | 1,hj=>obtain rfl:=Option.some.inj hj;exact p1
         | 2,hj=>obtain rfl:=Option.some.inj hj;exact p2
         | 3,hj=>obtain rfl:=Option.some.inj hj;exact p3
         | 4,hj=>obtain rfl:=Option.some.inj hj;exact p4
         | 5,hj=>obtain rfl:=Option.some.inj hj;exact p5
         | 6,hj=>obtain rfl:=Option.some.inj hj;exact p6
         | 7,hj=>obtain rfl:=Option.some.inj hj;exact p7
         | 8,hj=>obtain rfl:=Option.some.inj hj;exact p8
         | 9,hj=>obtain rfl:=Option.some.inj hj;exact p9
         | 10,hj=>obtain rfl:=Option.some.inj hj;exact p10
         | j+11,hj=>simp[zi] at hj
     · intro z hz;rcases List.mem_append.1 hz with hz | hz
       · exact hat z hz
       · obtain rfl:z=_:=List.mem_singleton.1 hz;exact zl.at4 hp
   obtain⟨lx,e,hcell,hat⟩:=step l.length (Nat.le_refl _);rw[List.take_of_length_le (Nat.le_refl _)] at e;have hl:lx.length=len:=by rw[←h0,←e,List.length_map]
   exact⟨lx,e,⟨hl,h1,fun _ _=>trivial,.inr ⟨b,off,rfl,hb,hcell⟩⟩,hat⟩
structure jmm {X A:Type} (L:Lay X) (T:TypeId) (At:World→X→Prop) (fst:X→A) (B g len c k:Nat) (l:List A) (w wr:World) (lx:List X):Prop where
 own:Own L T wr B (.slice (some ⟨g,0,none⟩) len c) lx
 map:lx.map fst=l
 done:∀j z,lx[j]?=some z→j<k→Off (fun b=>b<B∨b=g) wr fun u=>At u z
 todo:∀j z,lx[j]?=some z→k≤j→Off (fun b=>B≤b) wr fun u=>At u z
 kept:Below B w wr
theorem jmm.next {X A:Type} {L:Lay X} {T:TypeId} {At:World→X→Prop} {fst:X→A} {B g len c k:Nat} {l:List A} {w wr w1:World} {lx:List X} {z z':X} (h:jmm L T At fst B g len c k l w wr lx) (hz:lx[k]?=some z) (hf:fst z'=fst z) (hfine:L.fine z') (hk:Kept wr w1) (hB:B≤wr.heap.size)
 (hat:Off (fun b=>b<B∨b=g) w1 fun u=>At u z'):jmm L T At fst B g len c (k+1) l w (w1.setCells g (k*L.m) (L.cs z')) (lx.set k z'):=by
 have hl:k<lx.length:=(List.getElem?_eq_some_iff.1 hz).1;have hg:=jb0 h.own g rfl;refine⟨(h.own.kept hk).Xk hl z' hfine,?_,fun j y hy hj=>?_,fun j y hy hj=>?_,zA g _ _ _ B w hg.1 (h.kept.trans (Below.mono hk hB))⟩
 · rw[←h.map];apply List.ext_getElem?;intro i;rw[List.getElem?_map,List.getElem?_map];by_cases e:k=i
   · subst e;rw[List.getElem?_set_self hl,hz];simp[hf]
   · rw[List.getElem?_set_ne e]
 · have gc:jc (fun b=>b<B∨b=g) w1 (w1.setCells g (k*L.m) (L.cs z')):=jc.cells (S:=fun b=>b<B∨b=g) g (.inr rfl) _ _ _;by_cases e:k=j
   · subst e;rw[List.getElem?_set_self hl] at hy;obtain rfl:=Option.some.inj hy;exact hat.step gc
   · rw[List.getElem?_set_ne e] at hy;exact((h.done j y hy (by omega)).step (jc.of hk)).step gc
 · have gc:jc (fun b=>B≤b) w1 (w1.setCells g (k*L.m) (L.cs z')):=jc.cells (S:=fun b=>B≤b) g hg.1 _ _ _;rw[List.getElem?_set_ne (by omega)] at hy;exact((h.todo j y hy (by omega)).step (jc.of hk)).step gc
structure Jm (S:Nat→Prop) (B:Nat) (w:World) (v1 v2 v3:Value) (s:Clu):Prop where
 pods:∃lx:List PX,(lx.map fun z=>z.1)=s.pods∧Own zi 62 w B v2 lx∧∀z ∈ lx,Off (fun b=>S b∨v2.ownBlock=some b) w fun u=>At4 u z
 nodes:Off (fun b=>S b∨v2.ownBlock=some b) w fun u=>Zf u v1 s.nodes
 buds:Off (fun b=>S b∨v2.ownBlock=some b) w fun u=>ZQ u v3 s.buds
 sep:∀k,v2.ownBlock=some k→¬S k
theorem Jm.toR {S:Nat→Prop} {B:Nat} {w:World} {v1 v2 v3:Value} {s:Clu} (h:Jm S B w v1 v2 v3 s):Zl w (.agg #[v1,v2,v3]) s:=by
 obtain⟨lx,e,ho,hd⟩:=h.pods;exact⟨v1,v2,v3,rfl,h.nodes.here,by rw[←e];exact jc4 ho fun z hz=>(hd z hz).here,h.buds.here⟩
theorem Jm.lt {S:Nat→Prop} {B:Nat} {w:World} {v1 v2 v3:Value} {s:Clu} (h:Jm S B w v1 v2 v3 s):∀g,v2.ownBlock=some g→B≤g∧g<w.heap.size:=by
 obtain⟨lx,e,ho,hd⟩:=h.pods;exact jb0 ho
theorem Jm.step {S:Nat→Prop} {B:Nat} {w w':World} {v1 v2 v3:Value} {s:Clu} (h:Jm S B w v1 v2 v3 s) (g:jc S w w'):Jm S B w' v1 v2 v3 s:=by
 obtain⟨lx,e,ho,hd⟩:=h.pods;have g':jc (fun b=>S b∨v2.ownBlock=some b) w w':=g.mono fun b e=>.inl e;exact⟨⟨lx,e,ho.goff g h.sep,fun z hz=>(hd z hz).step g'⟩,h.nodes.step g',h.buds.step g',h.sep⟩
theorem Jm.kept {S:Nat→Prop} {B:Nat} {w w':World} {v1 v2 v3:Value} {s:Clu} (h:Jm S B w v1 v2 v3 s) (k:Kept w w'):Jm S B w' v1 v2 v3 s:=h.step (jc.of k)
theorem Jm.less {S S':Nat→Prop} {B B':Nat} {w:World} {v1 v2 v3:Value} {s:Clu} (h:Jm S B w v1 v2 v3 s) (hb:B'≤B) (hs:∀k,S' k→S k):Jm S' B' w v1 v2 v3 s:=by
 obtain⟨lx,e,ho,hd⟩:=h.pods;have m:∀k,(S' k∨v2.ownBlock=some k)→(S k∨v2.ownBlock=some k):=fun k e=>e.imp (hs k) id;exact⟨⟨lx,e,ho.base_le hb,fun z hz=>(hd z hz).less m⟩,h.nodes.less m,h.buds.less m,fun k hk e=>h.sep k hk (hs k e)⟩
theorem Jm.turn {S:Nat→Prop} {B:Nat} {w w':World} {v1 v2 v3 v2':Value} {s:Clu} {l:List Pd} (h:Jm S B w v1 v2 v3 s) (g:jc (fun b=>v2.ownBlock=some b) w w') (hn:∀k,v2'.ownBlock=some k→v2.ownBlock=some k∨w.heap.size≤k)
 (hS:∀k,S k→k<w.heap.size) (hp:∃lx:List PX,(lx.map fun z=>z.1)=l∧Own zi 62 w' B v2' lx∧∀z ∈ lx,Off (fun b=>S b∨v2'.ownBlock=some b) w' fun u=>At4 u z):Jm S B w' v1 v2' v3 { s with pods:=l }:=by
 have g':jc (fun b=>S b∨v2.ownBlock=some b) w w':=g.mono fun b e=>.inr e;have m:∀b,(S b∨v2'.ownBlock=some b)→((S b∨v2.ownBlock=some b)∨w.heap.size≤b):=fun b e=>by
  rcases e with e | e
  · exact .inl (.inl e)
  · rcases hn b e with e | e
    · exact .inl (.inr e)
    · exact .inr e
 exact⟨hp,h.nodes.new g' m,h.buds.new g' m,fun k hk e=>by
  rcases hn k hk with h' | h'
  · exact h.sep k h' e
  · have:=hS k e;omega⟩
theorem Jm.els {S:Nat→Prop} {B:Nat} {w w':World} {v2 v2':Value} {lx:List PX} (h:∀z ∈ lx,Off (fun b=>S b∨v2.ownBlock=some b) w fun u=>At4 u z) (g:jc (fun b=>v2.ownBlock=some b) w w') (hn:∀k,v2'.ownBlock=some k→v2.ownBlock=some k∨w.heap.size≤k):∀z ∈ lx,Off (fun b=>S b∨v2'.ownBlock=some b) w' fun u=>At4 u z:=fun z hz =>
 (h z hz).new (g.mono fun b e=>.inr e) fun b e=>by
  rcases e with e | e
  · exact .inl (.inl e)
  · rcases hn b e with e | e
    · exact .inl (.inr e)
    · exact .inr e
theorem Ym {X:Type} (L:Lay X) (l:List X) (k:Nat):jd L (l.take k)=(jd L l).take (k*L.m):=by
 have h:=jC L (l.take k) (l.drop k);rw[List.take_append_drop] at h;by_cases hk:k≤l.length
 · have hlen:(jd L (l.take k)).length=k*L.m:=by rw[JB,List.length_take,Nat.min_eq_left hk]
   have e:=List.take_left' (l₂:=jd L (l.drop k)) hlen;rw[←h] at e;exact e.symm
 · rw[List.take_of_length_le (by omega),List.take_of_length_le (by rw[JB];exact Nat.mul_le_mul_right _ (by omega))]
theorem YZ {X:Type} (L:Lay X) (l:List X) (k:Nat):jd L (l.drop k)=(jd L l).drop (k*L.m):=by
 have h:=jC L (l.take k) (l.drop k);rw[List.take_append_drop,Ym] at h;have h2:=List.take_append_drop (k*L.m) (jd L l);exact(List.append_cancel_left (h2.trans h)).symm
theorem Jm.cut {S:Nat→Prop} {B g i j len cap:Nat} {w w':World} {v1 v3:Value} {s:Clu} (h:Jm S B w v1 (.slice (some ⟨g,0,none⟩) len cap) v3 s) (hij:i≤j) (hj:j≤len) (hS:∀k,S k→k<w.heap.size)
 (ho:∀xs,w.ownsRow B 62 11 (.slice (some ⟨g,0,none⟩) len cap) len xs→w'.ownsRow B 62 11 (.slice (some ⟨g,0,none⟩) (i+(len-j)) cap) (i+(len-j)) (xs.take (i*11)++xs.drop (j*11))) (gg:jc (fun b=>b=g) w w') :
 Jm S B w' v1 (.slice (some ⟨g,0,none⟩) (i+(len-j)) cap) v3 { s with pods:=s.pods.take i++s.pods.drop j }:=by
 obtain⟨lx,e,hown,hd⟩:=h.pods;obtain⟨a',c',e',_⟩:=hown.at_;have hlen:lx.length=len:=by cases e';rfl
 have g':jc (fun b=>(Value.slice (some ⟨g,0,none⟩) len cap).ownBlock=some b) w w':=gg.mono fun b e=>by rw[e];rfl
 refine h.turn g' (fun k hk=>.inl hk) hS ⟨lx.take i++lx.drop j,by rw[List.map_append,List.map_take,List.map_drop,e],⟨?_,fun x hx=>trivial⟩,Jm.els (B:=B) (v2':=.slice (some ⟨g,0,none⟩) (i+(len-j)) cap) (fun z hz=>hd z ?_) g' (fun k hk=>.inl hk)⟩
 · have h1:=ho _ (by have:=hown.1;rw[hlen] at this;exact this);have hll:(lx.take i++lx.drop j).length=i+(len-j):=by rw[List.length_append,List.length_take,List.length_drop,hlen];omega
   rw[hll,jC,Ym,YZ];exact h1
 · rcases List.mem_append.1 hz with hz | hz
   · exact List.mem_of_mem_take hz
   · exact List.mem_of_mem_drop hz
theorem jlJ {S:Nat→Prop} {B i len cap vb vc:Nat} {ap:Option Addr} {w:World} {v2 v3:Value} {s:Clu} (h:jW S B w (.slice ap len cap) v2 v3 s) (z:NX) (hi:i≤len) (hlen:len≤100000) (hB:B≤w.heap.size) (hS:∀k,S k→k<w.heap.size) (hvs:w.heap[vb]?=some (.cells (zJ.cs z).toArray 42)) (hvb:(Value.slice ap len cap).ownBlock≠some vb)
 (hz:Off (Tri S (.slice ap len cap) v2 v3) w fun u=>At3 u z) :
 Calls Tryz.prog 122 #[.slice ap len cap,.int .i64 i,.slice (some ⟨vb,0,none⟩) 1 vc] w fun e w'=>∃g c,e=.returned (.slice (some ⟨g,0,none⟩) (len+1) c)∧jW S B w' (.slice (some ⟨g,0,none⟩) (len+1) c) v2 v3 { s with nodes:=s.nodes.take i++z.1::s.nodes.drop i }∧jc (fun b=>(Value.slice ap len cap).ownBlock=some b) w w'∧((Value.slice ap len cap).ownBlock=some g∨w.heap.size≤g):=by
 obtain⟨lx,hmap,hown,hd⟩:=h.n;obtain⟨a',c',e',_⟩:=hown.at_;have hll:lx.length=len:=by cases e';rfl
 have hx:jd zJ (lx.take i++z::lx.drop i)=(jd zJ lx).take (i*5)++zJ.cs z++(jd zJ lx).drop (i*5):=by
  rw[show z::lx.drop i=[z]++lx.drop i from rfl,jC,jC,Ym,YZ];unfold jd;simp[zJ]
 refine(InN.jaI _ len i vb vc B (jd zJ lx) (zJ.cs z) w (by have:=hown.1;rw[hll] at this;exact this) hB hi (YB _ _) rfl (jb1 z) hvs hvb hlen).mono ?_;rintro e w' ⟨g,c,rfl,ho,hg,hn⟩;have hn':∀k,(Value.slice (some ⟨g,0,none⟩) (len+1) c).ownBlock=some k→(Value.slice ap len cap).ownBlock=some k∨w.heap.size≤k:=fun k hk=>by
  obtain rfl:g=k:=Option.some.inj hk;exact hn
 have hd':∀y ∈ lx.take i++z::lx.drop i,Off (Tri S (.slice ap len cap) v2 v3) w fun u=>At3 u y:=fun y hy=>by
  rcases List.mem_append.1 hy with hy | hy
  · exact hd y (List.mem_of_mem_take hy)
  · rcases List.mem_cons.1 hy with rfl | hy
    · exact hz
    · exact hd y (List.mem_of_mem_drop hy)
 refine⟨g,c,rfl,h.turnN hg hn' hS ⟨lx.take i++z::lx.drop i,by rw[List.map_append,List.map_cons,List.map_take,List.map_drop,hmap],⟨?_,fun x hx=>trivial⟩,fun y hy=>jW.elsN (hd' y hy) hg hn'⟩,hg,hn⟩;have h2:(lx.take i++z::lx.drop i).length=len+1:=by rw[List.length_append,List.length_cons,List.length_take,List.length_drop,hll];omega
 rw[h2,hx];exact ho
theorem jml {S:Nat→Prop} {B i len cap vb vc:Nat} {ap:Option Addr} {w:World} {v1 v3:Value} {s:Clu} (h:jW S B w v1 (.slice ap len cap) v3 s) (z:PX) (hi:i≤len) (hlen:len≤100000) (hB:B≤w.heap.size) (hS:∀k,S k→k<w.heap.size) (hvs:w.heap[vb]?=some (.cells (zi.cs z).toArray 62)) (hvb:(Value.slice ap len cap).ownBlock≠some vb)
 (hz:Off (Tri S v1 (.slice ap len cap) v3) w fun u=>At4 u z) :
 Calls Tryz.prog 128 #[.slice ap len cap,.int .i64 i,.slice (some ⟨vb,0,none⟩) 1 vc] w fun e w'=>∃g c,e=.returned (.slice (some ⟨g,0,none⟩) (len+1) c)∧jW S B w' v1 (.slice (some ⟨g,0,none⟩) (len+1) c) v3 { s with pods:=s.pods.take i++z.1::s.pods.drop i }∧jc (fun b=>(Value.slice ap len cap).ownBlock=some b) w w'∧((Value.slice ap len cap).ownBlock=some g∨w.heap.size≤g):=by
 obtain⟨lx,hmap,hown,hd⟩:=h.p;obtain⟨a',c',e',_⟩:=hown.at_;have hll:lx.length=len:=by cases e';rfl
 have hx:jd zi (lx.take i++z::lx.drop i)=(jd zi lx).take (i*11)++zi.cs z++(jd zi lx).drop (i*11):=by
  rw[show z::lx.drop i=[z]++lx.drop i from rfl,jC,jC,Ym,YZ];unfold jd;simp[zi]
 refine(jg8 _ len i vb vc B (jd zi lx) (zi.cs z) w (by have:=hown.1;rw[hll] at this;exact this) hB hi (YB _ _) rfl (jc9 z) hvs hvb hlen).mono ?_;rintro e w' ⟨g,c,rfl,ho,hg,hn⟩;have hn':∀k,(Value.slice (some ⟨g,0,none⟩) (len+1) c).ownBlock=some k→(Value.slice ap len cap).ownBlock=some k∨w.heap.size≤k:=fun k hk=>by
  obtain rfl:g=k:=Option.some.inj hk;exact hn
 have hd':∀y ∈ lx.take i++z::lx.drop i,Off (Tri S v1 (.slice ap len cap) v3) w fun u=>At4 u y:=fun y hy=>by
  rcases List.mem_append.1 hy with hy | hy
  · exact hd y (List.mem_of_mem_take hy)
  · rcases List.mem_cons.1 hy with rfl | hy
    · exact hz
    · exact hd y (List.mem_of_mem_drop hy)
 refine⟨g,c,rfl,h.turnP hg hn' hS ⟨lx.take i++z::lx.drop i,by rw[List.map_append,List.map_cons,List.map_take,List.map_drop,hmap],⟨?_,fun x hx=>trivial⟩,fun y hy=>jW.elsP (hd' y hy) hg hn'⟩,hg,hn⟩;have h2:(lx.take i++z::lx.drop i).length=len+1:=by rw[List.length_append,List.length_cons,List.length_take,List.length_drop,hll];omega
 rw[h2,hx];exact ho
theorem jmJ {S:Nat→Prop} {B i len cap vb vc:Nat} {ap:Option Addr} {w:World} {v1 v2:Value} {s:Clu} (h:jW S B w v1 v2 (.slice ap len cap) s) (z:BX) (hi:i≤len) (hlen:len≤100000) (hB:B≤w.heap.size) (hS:∀k,S k→k<w.heap.size) (hvs:w.heap[vb]?=some (.cells (zu.cs z).toArray 66)) (hvb:(Value.slice ap len cap).ownBlock≠some vb)
 (hz:Off (Tri S v1 v2 (.slice ap len cap)) w fun u=>At1 u z) :
 Calls Tryz.prog 134 #[.slice ap len cap,.int .i64 i,.slice (some ⟨vb,0,none⟩) 1 vc] w fun e w'=>∃g c,e=.returned (.slice (some ⟨g,0,none⟩) (len+1) c)∧jW S B w' v1 v2 (.slice (some ⟨g,0,none⟩) (len+1) c) { s with buds:=s.buds.take i++z.1::s.buds.drop i }∧jc (fun b=>(Value.slice ap len cap).ownBlock=some b) w w'∧((Value.slice ap len cap).ownBlock=some g∨w.heap.size≤g):=by
 obtain⟨lx,hmap,hown,hd⟩:=h.b;obtain⟨a',c',e',_⟩:=hown.at_;have hll:lx.length=len:=by cases e';rfl
 have hx:jd zu (lx.take i++z::lx.drop i)=(jd zu lx).take (i*3)++zu.cs z++(jd zu lx).drop (i*3):=by
  rw[show z::lx.drop i=[z]++lx.drop i from rfl,jC,jC,Ym,YZ];unfold jd;simp[zu]
 refine(InB.jaI _ len i vb vc B (jd zu lx) (zu.cs z) w (by have:=hown.1;rw[hll] at this;exact this) hB hi (YB _ _) rfl (jdb z) hvs hvb hlen).mono ?_;rintro e w' ⟨g,c,rfl,ho,hg,hn⟩;have hn':∀k,(Value.slice (some ⟨g,0,none⟩) (len+1) c).ownBlock=some k→(Value.slice ap len cap).ownBlock=some k∨w.heap.size≤k:=fun k hk=>by
  obtain rfl:g=k:=Option.some.inj hk;exact hn
 have hd':∀y ∈ lx.take i++z::lx.drop i,Off (Tri S v1 v2 (.slice ap len cap)) w fun u=>At1 u y:=fun y hy=>by
  rcases List.mem_append.1 hy with hy | hy
  · exact hd y (List.mem_of_mem_take hy)
  · rcases List.mem_cons.1 hy with rfl | hy
    · exact hz
    · exact hd y (List.mem_of_mem_drop hy)
 refine⟨g,c,rfl,h.turnB hg hn' hS ⟨lx.take i++z::lx.drop i,by rw[List.map_append,List.map_cons,List.map_take,List.map_drop,hmap],⟨?_,fun x hx=>trivial⟩,fun y hy=>jW.elsB (hd' y hy) hg hn'⟩,hg,hn⟩;have h2:(lx.take i++z::lx.drop i).length=len+1:=by rw[List.length_append,List.length_cons,List.length_take,List.length_drop,hll];omega
 rw[h2,hx];exact ho
theorem je2 (n:Nod) (a1:Option Addr) (m1:Nat) (c1:Nat) (a2:Option Addr) (m2:Nat) (c2:Nat) (a3:Option Addr) (m3:Nat) (c3:Nat) (w:World):Calls Tryz.prog 86 #[.agg #[.string n.name,.slice a1 m1 c1,.slice a2 m2 c2,.slice a3 m3 c3,.bool n.cordon]] w (Say (.string n.name) w):=by
 obtain⟨Z,hZ⟩:∃Z,w.alloc (.cells #[.string n.name,.slice a1 m1 c1,.slice a2 m2 c2,.slice a3 m3 c3,.bool n.cordon] 42)=Z:=⟨_,rfl⟩
 have hkz:Kept w Z:=by rw[←hZ];exact ja _ _
 have c0:=(jg w (.string n.name) [.slice a1 m1 c1,.slice a2 m2 c2,.slice a3 m3 c3,.bool n.cordon] 42 Z (by rw[hZ];exact Kept.refl _)).at_ 0 _ rfl;have HKZ:=lH hkz;clear hkz;go_enter Tryz.func86,Tryz.ntmps86;go_upto_region 1 with fail
 try rw[hZ]
 clear hZ;go_wp2;go_ret;exact⟨rfl,HKZ.out⟩
theorem jfG (n:Nod) (a1:Option Addr) (m1:Nat) (c1:Nat) (a2:Option Addr) (m2:Nat) (c2:Nat) (a3:Option Addr) (m3:Nat) (c3:Nat) (x:ByteArray) (q:Nat) (w:World) (hq:w.cell? ⟨q,0,none⟩=some (.func (.func 86) #[] #[])):Calls Tryz.prog 120 #[.agg #[.string n.name,.slice a1 m1 c1,.slice a2 m2 c2,.slice a3 m3 c3,.bool n.cordon],.string x,.pointer (some ⟨q,0,none⟩)] w (Say (.int .i64 (Zx n.name x)) w):=by
 obtain⟨Z,hZ⟩:∃Z,w.alloc (.cells #[.string n.name,.slice a1 m1 c1,.slice a2 m2 c2,.slice a3 m3 c3,.bool n.cordon] 42)=Z:=⟨_,rfl⟩
 have hkz:Kept w Z:=by rw[←hZ];exact ja _ _
 have HC:=lH (show jf w.heap.size [.string n.name,.slice a1 m1 c1,.slice a2 m2 c2,.slice a3 m3 c3,.bool n.cordon] Z from jg w (.string n.name) [.slice a1 m1 c1,.slice a2 m2 c2,.slice a3 m3 c3,.bool n.cordon] 42 Z (by rw[hZ];exact Kept.refl _));have zq:=cell_later hkz hq;have HKZ:=lH hkz;clear hkz hq;have z0:=HC.out.at_ 0 _ rfl;have z1:=HC.out.at_ 1 _ rfl;have z2:=HC.out.at_ 2 _ rfl;have z3:=HC.out.at_ 3 _ rfl;have z4:=HC.out.at_ 4 _ rfl;go_enter Tryz.func120,Tryz.ntmps120;go_upto_region 1 with fail
 try rw[hZ]
 clear hZ;go_wp2_with fail
 refine(je2 n a1 m1 c1 a2 m2 c2 a3 m3 c3 Z).mono ?_;rintro e w1 ⟨rfl,kk⟩;have K1:=lH kk;clear kk;go_wp2_with fail
 refine(jc6 n.name x w1).mono ?_;rintro e w2 ⟨rfl,rfl⟩;go_wp2;go_ret;exact⟨rfl,HKZ.out.trans K1.out⟩
theorem jh0 (a:Option Addr) (len cap:Nat) (l:List Nod) (x:ByteArray) (q:Nat) (w:World) (hr:j0 w a len l) (ha:Zs (l.map fun n=>n.name)) (hlen:len≤100000) (hq:w.cell? ⟨q,0,none⟩=some (.func (.func 86) #[] #[])):Calls Tryz.prog 119 #[.slice a len cap,.string x,.func (.func 120) #[] #[.pointer (some ⟨q,0,none⟩)]] w (Say (.tuple #[.int .i64 ((zo x (l.map fun n=>n.name):Nat):Int),.bool (hasB x (l.map fun n=>n.name))]) w):=by
 obtain⟨LB,hLB⟩:∃q,zo x (l.map fun n=>n.name)=q:=⟨_,rfl⟩
 obtain⟨HB,hHB⟩:∃q,hasB x (l.map fun n=>n.name)=q:=⟨_,rfl⟩
 have HLB:=lH hLB;have HHB:=lH hHB;have hle:LB≤len:=by have:=Yr x (l.map fun n=>n.name);rw[hLB,List.length_map,hr.1] at this;exact this
 have HL:=lH (show (l.map fun n=>n.name).length=len by rw[List.length_map,hr.1]);have HR:=lH hr;have HA:=lH ha;have HQ:=lH hq;rw[hLB,hHB];clear hr ha hq hLB hHB;go_enter Tryz.func119,Tryz.ntmps119;go_wp2;go_loopw [9,10] (fun iv jv wr=>∃i j:Nat,i≤LB∧LB≤j∧j≤len∧iv=.int .i64 i∧jv=.int .i64 j∧Kept w wr) (fun iv jv _=>(intOf jv).toNat-(intOf iv).toNat)
 case atStart=>exact⟨0,len,Nat.zero_le _,hle,Nat.le_refl _,rfl,rfl,Kept.refl _⟩
 case round =>
  obtain⟨i,j,hi,hj,hjl,rfl,rfl,hK⟩:=hrel;have HK:=lH hK;by_cases hlt:i<j
  · have hij:(i:Int)<(j:Int):=by omega
    obtain⟨hN,hhN⟩:∃q,q=(i+j) / 2:=⟨_,rfl⟩
    have hNl:hN<len:=by omega
    have hNb:i≤hN∧hN<j:=by omega
    have eh:((i:Int)+(j:Int)) / 2=(hN:Int):=by omega
    have hh0:¬(hN:Int)<0:=by omega
    have hh1:(hN:Int)<(len:Int):=by omega
    obtain⟨b,off,rfl⟩:=HR.out.form.resolve_left (by omega);obtain⟨n9,a1,m1,c1,a2,m2,c2,a3,m3,c3,hn,hd,hb,p0,p1,p2,p3,p4,hat⟩:=(HR.out.kept hK).at_ hNl;have HN:=lH (show (l.map fun n=>n.name)[hN]?=some n9.name by rw[List.getElem?_map,hn];rfl);have hq1:=cell_later hK HQ.out;have HCM:=lH (jfG n9 a1 m1 c1 a2 m2 c2 a3 m3 c3 x q wr hq1);obtain⟨c,hc⟩:∃c,Zx n9.name x=c:=⟨_,rfl⟩
    rw[hc] at HCM;have HC:=lH hc;clear hhN hn hd hb hat hK hq1 hc;go_wp2_with fail
    refine HCM.out.mono ?_;rintro e w1 ⟨rfl,kk⟩;have K1:=lH (HK.out.trans kk);clear kk p0 p1 p2 p3 p4
    cases he:ltS n9.name x with
    | true =>
     have h1:=jb7 HA.out HN.out he;rw[HLB.out] at h1;have hc2:c<0:=by rw[←HC.out,jcZ he];decide
     clear he;go_wp2;go_roundw
     case rel=>exact⟨hN+1,j,h1,hj,hjl,by go_num,rfl,K1.out⟩
     case measure=>simp[intOf];omega
    | false =>
     have h1:=jb2 HN.out he;rw[HLB.out] at h1;have hc2:¬c<0:=by rw[←HC.out,jdc he];split<;>decide
     clear he;go_wp2;go_roundw
     case rel=>exact⟨i,hN,hi,h1,by omega,rfl,rfl,K1.out⟩
     case measure=>simp[intOf];omega
  · have hij:¬(i:Int)<(j:Int):=by omega
    obtain rfl:i=LB:=by omega
    by_cases hle2:i<len
    · have hh1:(i:Int)<(len:Int):=by omega
      have hh0:¬(i:Int)<0:=by omega
      obtain⟨b,off,rfl⟩:=HR.out.form.resolve_left (by omega);obtain⟨n9,a1,m1,c1,a2,m2,c2,a3,m3,c3,hn,hd,hb,p0,p1,p2,p3,p4,hat⟩:=(HR.out.kept hK).at_ hle2;have HN:=lH (show (l.map fun n=>n.name)[i]?=some n9.name by rw[List.getElem?_map,hn];rfl);have hq1:=cell_later hK HQ.out;have HCM:=lH (jfG n9 a1 m1 c1 a2 m2 c2 a3 m3 c3 x q wr hq1);obtain⟨c,hc⟩:∃c,Zx n9.name x=c:=⟨_,rfl⟩
      rw[hc] at HCM;have hcz:(c==0)=HB:=by rw[←hc,jec,←HHB.out];exact(jca HA.out (by rw[HLB.out];exact HN.out)).symm
      clear hn hd hb hat hK hq1 hc;go_wp2_with fail
      refine HCM.out.mono ?_;rintro e w1 ⟨rfl,kk⟩;have K1:=lH (HK.out.trans kk);clear kk p0 p1 p2 p3 p4;go_wp2;go_ret2
      exact⟨rfl,K1.out⟩
    · have hh1:¬(i:Int)<(len:Int):=by omega
      obtain rfl:HB=false:=by rw[←HHB.out];exact jay (by rw[HLB.out,HL.out];omega)
      clear hK;go_wp2;go_ret2
      exact⟨rfl,HK.out⟩
def joQ (S:Nat→Prop) (B:Nat) (ap:Option Addr) (len cap:Nat) (v2 v3:Value) (s:Clu) (n:Nod) (M:Nat) (w:World) (e:Ending) (w':World):Prop :=
 (hasB n.name (s.nodes.map fun n=>n.name)=true∧e=.panicked [ju 6]∧Kept w w')∨(hasB n.name (s.nodes.map fun n=>n.name)=false∧len=M∧e=.panicked [ju 4]∧Kept w w') ∨
 (hasB n.name (s.nodes.map fun n=>n.name)=false∧len≠M∧∃g c,e=.returned (.slice (some ⟨g,0,none⟩) (len+1) c)∧jW S B w' (.slice (some ⟨g,0,none⟩) (len+1) c) v2 v3 { s with nodes:=s.nodes.take (zo n.name (s.nodes.map fun n=>n.name))++n::s.nodes.drop (zo n.name (s.nodes.map fun n=>n.name)) }∧jc (fun b=>(Value.slice ap len cap).ownBlock=some b) w w')
theorem jbp (S:Nat→Prop) (B:Nat) (ap:Option Addr) (len cap:Nat) (v2 v3:Value) (s:Clu) (n:Nod) (a1:Option Addr) (m1:Nat) (c1:Nat) (a2:Option Addr) (m2:Nat) (c2:Nat) (a3:Option Addr) (m3:Nat) (c3:Nat) (M:Nat) (w:World) (h:jW S B w (.slice ap len cap) v2 v3 s) (hlen:len≤100000) (hS:∀k,S k→k<w.heap.size) (hB:B≤w.heap.size) (hz:Off (Tri S (.slice ap len cap) v2 v3) w fun u=>At3 u (n,(a1,m1,c1),(a2,m2,c2),(a3,m3,c3))) (ha:Zs (s.nodes.map fun n=>n.name)) :
 Calls Tryz.prog 83 #[.slice ap len cap,.agg #[.string n.name,.slice a1 m1 c1,.slice a2 m2 c2,.slice a3 m3 c3,.bool n.cordon],.func (.func 86) #[] #[],.int .i64 (M:Int)] w (joQ S B ap len cap v2 v3 s n M w):=by
 obtain⟨Z,hZ⟩:∃Z,(w.alloc (.cells #[.string n.name,.slice a1 m1 c1,.slice a2 m2 c2,.slice a3 m3 c3,.bool n.cordon] 42)).alloc (.cells #[.func (.func 86) #[] #[]] 56)=Z:=⟨_,rfl⟩
 have hkz:Kept w Z:=by rw[←hZ];exact jk _ _ _
 have HC:=lH (show jf w.heap.size [.string n.name,.slice a1 m1 c1,.slice a2 m2 c2,.slice a3 m3 c3,.bool n.cordon] Z from jg w (.string n.name) [.slice a1 m1 c1,.slice a2 m2 c2,.slice a3 m3 c3,.bool n.cordon] 42 Z (by rw[←hZ];exact ja _ _));have HQ:=lH (show jf (w.heap.size+1) [.func (.func 86) #[] #[]] Z by
  have dd:=jg (w.alloc (.cells #[.string n.name,.slice a1 m1 c1,.slice a2 m2 c2,.slice a3 m3 c3,.bool n.cordon] 42)) (.func (.func 86) #[] #[]) [] 56 Z (by rw[hZ];exact Kept.refl _);rw[World.size_alloc] at dd;exact dd)
 have hrow:j0 Z ap len s.nodes:=by
  have hr:=(h.kept hkz).toR;obtain⟨_,_,_,e,hat⟩:=hr
  cases e
  obtain⟨_,_,e,-,-,g⟩:=hat.nodes
  cases e
  exact g
 have HR:=lH hrow;have H3:=lH (h.kept hkz);have HZ9:=lH (hz.step (jc.of hkz));have HS:=lH (show ∀k,S k→k<Z.heap.size from fun k e=>Nat.lt_of_lt_of_le (hS k e) hkz.size);have HB:=lH (show B≤Z.heap.size from Nat.le_trans hB hkz.size);have HA:=lH ha;have HLN:=lH (show s.nodes.length=len from hrow.1);have HKZ:=lH hkz;have HLT:=lH (show ∀g,(Value.slice ap len cap).ownBlock=some g→g<w.heap.size from fun g hg=>(h.lt (by first | exact .inl hg | exact .inr (.inl hg) | exact .inr (.inr hg))).2);obtain⟨HBv,hHB⟩:∃q,hasB n.name (s.nodes.map fun n=>n.name)=q:=⟨_,rfl⟩
 obtain⟨LB,hLB⟩:∃q,zo n.name (s.nodes.map fun n=>n.name)=q:=⟨_,rfl⟩
 have HHB:=lH hHB;have HLB:=lH hLB;have hle:LB≤len:=by rw[←hLB];have:=Yr n.name (s.nodes.map fun n=>n.name);rw[List.length_map,hrow.1] at this;exact this
 clear h hz hS hB hkz hrow ha hHB hLB;have c0z:=HC.out.at_ 0 _ rfl;have c1z:=HC.out.at_ 1 _ rfl;have c2z:=HC.out.at_ 2 _ rfl;have c3z:=HC.out.at_ 3 _ rfl;have c4z:=HC.out.at_ 4 _ rfl;have cqz:=HQ.out.at_ 0 _ rfl;go_enter Tryz.func83,Tryz.ntmps83;go_upto_region 1 with fail
 try rw[hZ]
 clear hZ;go_wp2_with fail
 refine(je2 n a1 m1 c1 a2 m2 c2 a3 m3 c3 Z).mono ?_;rintro e w1 ⟨rfl,kk⟩;have K1:=lH kk;clear kk;have HSE:=lH (jh0 ap len cap s.nodes n.name (w.heap.size+1) w1 (HR.out.kept K1.out) HA.out hlen ((HQ.out.kept K1.out).at_ 0 _ rfl));rw[HHB.out,HLB.out] at HSE;go_wp2_with fail
 refine HSE.out.mono ?_;rintro e w2 ⟨rfl,kk⟩;have K2:=lH (K1.out.trans kk);clear kk HSE c0z c1z c2z c3z c4z cqz
 cases HBv with
 | true =>
  go_wp2;exact⟨rfl,.inl ⟨HHB.out,rfl,HKZ.out.trans K2.out⟩⟩
 | false =>
  by_cases hM:len=M
  · subst hM;have hme:((len:Int)==(len:Int))=true:=by simp
    go_wp2;exact⟨rfl,.inr (.inl ⟨HHB.out,rfl,rfl,HKZ.out.trans K2.out⟩)⟩
  have hme:((len:Int)==(M:Int))=false:=by simp;omega
  have c0z:=(HC.out.kept K2.out).at_ 0 _ rfl;have c1z:=(HC.out.kept K2.out).at_ 1 _ rfl;have c2z:=(HC.out.kept K2.out).at_ 2 _ rfl;have c3z:=(HC.out.kept K2.out).at_ 3 _ rfl;have c4z:=(HC.out.kept K2.out).at_ 4 _ rfl;go_wp2_with fail
  obtain⟨W3,hW3⟩:∃W,w2.alloc (.cells #[.string n.name,.slice a1 m1 c1,.slice a2 m2 c2,.slice a3 m3 c3,.bool n.cordon] 42)=W:=⟨_,rfl⟩
  have hk3:Kept w2 W3:=by rw[←hW3];exact ja _ _
  have hh3:W3.heap[w2.heap.size]?=some (.cells (zJ.cs (n,(a1,m1,c1),(a2,m2,c2),(a3,m3,c3))).toArray 42 (0,0)):=by rw[←hW3];exact World.alloc_heap_new w2 _
  have K3:=lH (K2.out.trans hk3);try rw[hW3]
  have hins:=jlJ (i:=LB) (vc:=1) (H3.out.kept K3.out) (n,(a1,m1,c1),(a2,m2,c2),(a3,m3,c3)) hle hlen (Nat.le_trans HB.out K3.out.size) (fun k e=>Nat.lt_of_lt_of_le (HS.out k e) K3.out.size) hh3 (fun e=>by have h1:=HLT.out _ e;have h2:=HKZ.out.size;have h3:=K2.out.size;omega) (HZ9.out.step (jc.of K3.out));clear hW3 hk3 hh3 c0z c1z c2z c3z c4z;refine hins.mono ?_;clear hins;rintro e w4 ⟨g,c,rfl,ho,hg,-⟩;have HO:=lH ho;have HG:=lH ((jc.of (HKZ.out.trans K3.out)).trans hg);clear ho hg;go_wp2;go_ret;exact .inr (.inr ⟨HHB.out,hM,g,c,rfl,by rw[HLB.out];exact HO.out,HG.out⟩)
end Go.Proofs.YthmddloeggdohaaGreatDoor
