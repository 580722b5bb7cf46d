/- What serves all packages,and package by package the contracts of the functions that the law calls. -/
import Derived.Test.YtgfoenfaohhjcabGreatG0
import Derived.Test.YtgfoenfaohhjcabGreatG1
import Derived.Test.YtgfoenfaohhjcabGreatG2
import Derived.Test.YtgfoenfaohhjcabGreatG3
set_option linter.unusedVariables false
set_option maxRecDepth 100000
set_option maxHeartbeats 25600000
namespace Go.Proofs.YtgfoenfaohhjcabGreat
open Go.ChangeShapes Go.WideShapes Go.ChangeAt Go.RowKit Go.Deep
theorem jdF:Tryz.prog.cellsOf 32=1:=by kernel_rfl
theorem jhr:Tryz.prog.cellsOf 33=1:=by kernel_rfl
theorem jdx:Tryz.prog.cellsOf 35=11:=by kernel_rfl
theorem X9 {H:Type} {enc:TypeId×Value→H} {w:World} {base fuel:Nat} {sp:Nat→Bool} {held:Bool} {cs:List Value} {x:DataW H×List MemPlace} (h:DataW.trod enc Tryz.prog w base sp held fuel 35 cs=some x) :
 ∃(n:Pd) (v1 v2 v3 v4:Value),cs=[.string n.name,.string n.owner,.int .i64 n.prio,v1,v2,v3,v4,.string n.key,.int .i64 n.most,.string n.node,.bool n.hold]∧jC w v1 v2 v3 v4 n:=by
 obtain⟨ys,m,-,-,hlen,hyl,hf⟩:=DataW.trod_struct Tryz.underlying35 h;rw[jdx] at hlen
 match cs,hlen with
 | [c0,c1,c2,c3,c4,c5,c6,c7,c8,c9,c10],_ =>
  have h0:DataW.trod enc Tryz.prog w base sp held m 9 (([c0,c1,c2,c3,c4,c5,c6,c7,c8,c9,c10].drop 0).take (Tryz.prog.cellsOf 9))=ys[0]?:=hf 0 _ rfl;have h1:DataW.trod enc Tryz.prog w base sp held m 9 (([c0,c1,c2,c3,c4,c5,c6,c7,c8,c9,c10].drop 1).take (Tryz.prog.cellsOf 9))=ys[1]?:=hf 1 _ rfl;have h2:DataW.trod enc Tryz.prog w base sp held m 3 (([c0,c1,c2,c3,c4,c5,c6,c7,c8,c9,c10].drop 2).take (Tryz.prog.cellsOf 3))=ys[2]?:=hf 2 _ rfl;have h3:DataW.trod enc Tryz.prog w base sp held m 28 (([c0,c1,c2,c3,c4,c5,c6,c7,c8,c9,c10].drop 3).take (Tryz.prog.cellsOf 28))=ys[3]?:=hf 3 _ rfl;have h4:DataW.trod enc Tryz.prog w base sp held m 30 (([c0,c1,c2,c3,c4,c5,c6,c7,c8,c9,c10].drop 4).take (Tryz.prog.cellsOf 30))=ys[4]?:=hf 4 _ rfl;have h5:DataW.trod enc Tryz.prog w base sp held m 32 (([c0,c1,c2,c3,c4,c5,c6,c7,c8,c9,c10].drop 5).take (Tryz.prog.cellsOf 32))=ys[5]?:=hf 5 _ rfl;have h6:DataW.trod enc Tryz.prog w base sp held m 33 (([c0,c1,c2,c3,c4,c5,c6,c7,c8,c9,c10].drop 6).take (Tryz.prog.cellsOf 33))=ys[6]?:=hf 6 _ rfl;have h7:DataW.trod enc Tryz.prog w base sp held m 9 (([c0,c1,c2,c3,c4,c5,c6,c7,c8,c9,c10].drop 7).take (Tryz.prog.cellsOf 9))=ys[7]?:=hf 7 _ rfl;have h8:DataW.trod enc Tryz.prog w base sp held m 3 (([c0,c1,c2,c3,c4,c5,c6,c7,c8,c9,c10].drop 8).take (Tryz.prog.cellsOf 3))=ys[8]?:=hf 8 _ rfl;have h9:DataW.trod enc Tryz.prog w base sp held m 9 (([c0,c1,c2,c3,c4,c5,c6,c7,c8,c9,c10].drop 9).take (Tryz.prog.cellsOf 9))=ys[9]?:=hf 9 _ rfl;have h10:DataW.trod enc Tryz.prog w base sp held m 4 (([c0,c1,c2,c3,c4,c5,c6,c7,c8,c9,c10].drop 10).take (Tryz.prog.cellsOf 4))=ys[10]?:=hf 10 _ rfl;rw[JT] at h0;rw[JT] at h1;rw[Y6] at h2;rw[jf4] at h3;rw[jeR] at h4;rw[jdF] at h5;rw[jhr] at h6;rw[JT] at h7;rw[Y6] at h8;rw[JT] at h9;rw[jaB] at h10;obtain⟨y0,e0⟩:∃y,ys[0]?=some y:=⟨_,List.getElem?_eq_getElem (by rw[hyl];decide)⟩
  rw[e0] at h0;obtain⟨y1,e1⟩:∃y,ys[1]?=some y:=⟨_,List.getElem?_eq_getElem (by rw[hyl];decide)⟩
  rw[e1] at h1;obtain⟨y2,e2⟩:∃y,ys[2]?=some y:=⟨_,List.getElem?_eq_getElem (by rw[hyl];decide)⟩
  rw[e2] at h2;obtain⟨y3,e3⟩:∃y,ys[3]?=some y:=⟨_,List.getElem?_eq_getElem (by rw[hyl];decide)⟩
  rw[e3] at h3;obtain⟨y4,e4⟩:∃y,ys[4]?=some y:=⟨_,List.getElem?_eq_getElem (by rw[hyl];decide)⟩
  rw[e4] at h4;obtain⟨y5,e5⟩:∃y,ys[5]?=some y:=⟨_,List.getElem?_eq_getElem (by rw[hyl];decide)⟩
  rw[e5] at h5;obtain⟨y6,e6⟩:∃y,ys[6]?=some y:=⟨_,List.getElem?_eq_getElem (by rw[hyl];decide)⟩
  rw[e6] at h6;obtain⟨y7,e7⟩:∃y,ys[7]?=some y:=⟨_,List.getElem?_eq_getElem (by rw[hyl];decide)⟩
  rw[e7] at h7;obtain⟨y8,e8⟩:∃y,ys[8]?=some y:=⟨_,List.getElem?_eq_getElem (by rw[hyl];decide)⟩
  rw[e8] at h8;obtain⟨y9,e9⟩:∃y,ys[9]?=some y:=⟨_,List.getElem?_eq_getElem (by rw[hyl];decide)⟩
  rw[e9] at h9;obtain⟨y10,e10⟩:∃y,ys[10]?=some y:=⟨_,List.getElem?_eq_getElem (by rw[hyl];decide)⟩
  rw[e10] at h10;simp only[List.drop_zero,List.take_succ_cons,List.take_zero,List.drop_succ_cons] at h0 h1 h2 h3 h4 h5 h6 h7 h8 h9 h10;obtain⟨s0,q0,-,z0⟩:=DataW.trod_string Tryz.underlying9 h0;obtain⟨s1,q1,-,z1⟩:=DataW.trod_string Tryz.underlying9 h1;obtain⟨s2,q2,-,z2⟩:=DataW.trod_int Tryz.underlying3 h2;obtain⟨l1,r3⟩:=Vec.zq h3;obtain⟨l2,r4⟩:=ql h4;obtain⟨l3,r5⟩:=qt h5;obtain⟨l4,r6⟩:=jcp h6;obtain⟨s7,q7,-,z7⟩:=DataW.trod_string Tryz.underlying9 h7;obtain⟨s8,q8,-,z8⟩:=DataW.trod_int Tryz.underlying3 h8;obtain⟨s9,q9,-,z9⟩:=DataW.trod_string Tryz.underlying9 h9;obtain⟨s10,q10,-⟩:=DataW.trod_bool Tryz.underlying4 h10;simp only[List.cons.injEq,and_true] at q0 q1 q2 q7 q8 q9 q10;subst q0;subst q1;subst q2;subst q7;subst q8;subst q9;subst q10;exact⟨⟨s0,s1,s2,l1,l2,l3,l4,s7,s8,s9,s10⟩,_,_,_,_,rfl,⟨z0,z1,z7,z9,bounds_i64 z2,bounds_i64 z8,r3,r4,r5,r6⟩⟩
theorem jhh {H:Type} {enc:TypeId×Value→H} {W:World} {r:Reach} {b0 base:Nat} {sp:Nat→Bool} {held:Bool} {v:Value} {d:DataW H} {ps:List MemPlace} (hval:Value.okWide Tryz.prog W r b0 35 v) (h:DataW.Trod enc Tryz.prog W base sp held 35 v d ps):∃n,Z7 W v n:=by
 obtain⟨cs,rfl,hsz⟩:=okWide_struct Tryz.underlying35 hval;obtain⟨fuel,hf⟩:=h;obtain⟨n,v1,v2,v3,v4,ha,hat⟩:=X9 hf;have e:cs.toList=[.string n.name,.string n.owner,.int .i64 n.prio,v1,v2,v3,v4,.string n.key,.int .i64 n.most,.string n.node,.bool n.hold]:=by
  have:(Value.agg cs).cells.toList=[.string n.name,.string n.owner,.int .i64 n.prio,v1,v2,v3,v4,.string n.key,.int .i64 n.most,.string n.node,.bool n.hold]:=ha;simpa [Value.cells] using this
 have:cs=#[.string n.name,.string n.owner,.int .i64 n.prio,v1,v2,v3,v4,.string n.key,.int .i64 n.most,.string n.node,.bool n.hold]:=Array.ext' e;rw[this];exact⟨n,v1,v2,v3,v4,rfl,hat⟩
open Go.RowKit
def jfv (c:Int) (n:Pd) (w:World) (e:Ending) (w':World):Prop:=(c=0→∃v,e=.returned v∧Zr w.heap.size w' v n)∧(c≠0→e=.panicked [zb c])∧Kept w w'
theorem jfv.bad {c:Int} {n:Pd} {w w':World} (hc:c≠0) (hb:Kept w w'):jfv c n w (.panicked [zb c]) w':=⟨fun g=>absurd g hc,fun _=>rfl,hb⟩
theorem jc8 {W:World} {q p:Nat} {c0 c1 c2 c3 c4 c5 c6 c7 c8 c9 c10 u0 u1 u2 u3 u4 u5 u6 u7 u8 u9 u10:Value} (h:(W).cell? ⟨q,0,none⟩=some (c0)∧(W).cell? ⟨q,1,none⟩=some (c1)∧(W).cell? ⟨q,2,none⟩=some (c2)∧(W).cell? ⟨q,3,none⟩=some (c3)∧(W).cell? ⟨q,4,none⟩=some (c4)∧(W).cell? ⟨q,5,none⟩=some (c5)∧(W).cell? ⟨q,6,none⟩=some (c6)∧(W).cell? ⟨q,7,none⟩=some (c7)∧(W).cell? ⟨q,8,none⟩=some (c8)∧(W).cell? ⟨q,9,none⟩=some (c9)∧(W).cell? ⟨q,10,none⟩=some (c10)) (hne:q≠p) :
 ((((((((((((W.setCell ⟨p,0,none⟩ u0).setCell ⟨p,1,none⟩ u1).setCell ⟨p,2,none⟩ u2).setCell ⟨p,3,none⟩ u3).setCell ⟨p,4,none⟩ u4).setCell ⟨p,5,none⟩ u5).setCell ⟨p,6,none⟩ u6).setCell ⟨p,7,none⟩ u7).setCell ⟨p,8,none⟩ u8).setCell ⟨p,9,none⟩ u9).setCell ⟨p,10,none⟩ u10)).cell? ⟨q,0,none⟩=some (c0)∧((((((((((((W.setCell ⟨p,0,none⟩ u0).setCell ⟨p,1,none⟩ u1).setCell ⟨p,2,none⟩ u2).setCell ⟨p,3,none⟩ u3).setCell ⟨p,4,none⟩ u4).setCell ⟨p,5,none⟩ u5).setCell ⟨p,6,none⟩ u6).setCell ⟨p,7,none⟩ u7).setCell ⟨p,8,none⟩ u8).setCell ⟨p,9,none⟩ u9).setCell ⟨p,10,none⟩ u10)).cell? ⟨q,1,none⟩=some (c1)∧((((((((((((W.setCell ⟨p,0,none⟩ u0).setCell ⟨p,1,none⟩ u1).setCell ⟨p,2,none⟩ u2).setCell ⟨p,3,none⟩ u3).setCell ⟨p,4,none⟩ u4).setCell ⟨p,5,none⟩ u5).setCell ⟨p,6,none⟩ u6).setCell ⟨p,7,none⟩ u7).setCell ⟨p,8,none⟩ u8).setCell ⟨p,9,none⟩ u9).setCell ⟨p,10,none⟩ u10)).cell? ⟨q,2,none⟩=some (c2)∧((((((((((((W.setCell ⟨p,0,none⟩ u0).setCell ⟨p,1,none⟩ u1).setCell ⟨p,2,none⟩ u2).setCell ⟨p,3,none⟩ u3).setCell ⟨p,4,none⟩ u4).setCell ⟨p,5,none⟩ u5).setCell ⟨p,6,none⟩ u6).setCell ⟨p,7,none⟩ u7).setCell ⟨p,8,none⟩ u8).setCell ⟨p,9,none⟩ u9).setCell ⟨p,10,none⟩ u10)).cell? ⟨q,3,none⟩=some (c3)∧((((((((((((W.setCell ⟨p,0,none⟩ u0).setCell ⟨p,1,none⟩ u1).setCell ⟨p,2,none⟩ u2).setCell ⟨p,3,none⟩ u3).setCell ⟨p,4,none⟩ u4).setCell ⟨p,5,none⟩ u5).setCell ⟨p,6,none⟩ u6).setCell ⟨p,7,none⟩ u7).setCell ⟨p,8,none⟩ u8).setCell ⟨p,9,none⟩ u9).setCell ⟨p,10,none⟩ u10)).cell? ⟨q,4,none⟩=some (c4)∧((((((((((((W.setCell ⟨p,0,none⟩ u0).setCell ⟨p,1,none⟩ u1).setCell ⟨p,2,none⟩ u2).setCell ⟨p,3,none⟩ u3).setCell ⟨p,4,none⟩ u4).setCell ⟨p,5,none⟩ u5).setCell ⟨p,6,none⟩ u6).setCell ⟨p,7,none⟩ u7).setCell ⟨p,8,none⟩ u8).setCell ⟨p,9,none⟩ u9).setCell ⟨p,10,none⟩ u10)).cell? ⟨q,5,none⟩=some (c5)∧((((((((((((W.setCell ⟨p,0,none⟩ u0).setCell ⟨p,1,none⟩ u1).setCell ⟨p,2,none⟩ u2).setCell ⟨p,3,none⟩ u3).setCell ⟨p,4,none⟩ u4).setCell ⟨p,5,none⟩ u5).setCell ⟨p,6,none⟩ u6).setCell ⟨p,7,none⟩ u7).setCell ⟨p,8,none⟩ u8).setCell ⟨p,9,none⟩ u9).setCell ⟨p,10,none⟩ u10)).cell? ⟨q,6,none⟩=some (c6)∧((((((((((((W.setCell ⟨p,0,none⟩ u0).setCell ⟨p,1,none⟩ u1).setCell ⟨p,2,none⟩ u2).setCell ⟨p,3,none⟩ u3).setCell ⟨p,4,none⟩ u4).setCell ⟨p,5,none⟩ u5).setCell ⟨p,6,none⟩ u6).setCell ⟨p,7,none⟩ u7).setCell ⟨p,8,none⟩ u8).setCell ⟨p,9,none⟩ u9).setCell ⟨p,10,none⟩ u10)).cell? ⟨q,7,none⟩=some (c7)∧((((((((((((W.setCell ⟨p,0,none⟩ u0).setCell ⟨p,1,none⟩ u1).setCell ⟨p,2,none⟩ u2).setCell ⟨p,3,none⟩ u3).setCell ⟨p,4,none⟩ u4).setCell ⟨p,5,none⟩ u5).setCell ⟨p,6,none⟩ u6).setCell ⟨p,7,none⟩ u7).setCell ⟨p,8,none⟩ u8).setCell ⟨p,9,none⟩ u9).setCell ⟨p,10,none⟩ u10)).cell? ⟨q,8,none⟩=some (c8)∧((((((((((((W.setCell ⟨p,0,none⟩ u0).setCell ⟨p,1,none⟩ u1).setCell ⟨p,2,none⟩ u2).setCell ⟨p,3,none⟩ u3).setCell ⟨p,4,none⟩ u4).setCell ⟨p,5,none⟩ u5).setCell ⟨p,6,none⟩ u6).setCell ⟨p,7,none⟩ u7).setCell ⟨p,8,none⟩ u8).setCell ⟨p,9,none⟩ u9).setCell ⟨p,10,none⟩ u10)).cell? ⟨q,9,none⟩=some (c9)∧((((((((((((W.setCell ⟨p,0,none⟩ u0).setCell ⟨p,1,none⟩ u1).setCell ⟨p,2,none⟩ u2).setCell ⟨p,3,none⟩ u3).setCell ⟨p,4,none⟩ u4).setCell ⟨p,5,none⟩ u5).setCell ⟨p,6,none⟩ u6).setCell ⟨p,7,none⟩ u7).setCell ⟨p,8,none⟩ u8).setCell ⟨p,9,none⟩ u9).setCell ⟨p,10,none⟩ u10)).cell? ⟨q,10,none⟩=some (c10):=by
 have e:(W.setCells p 0 [u0,u1,u2,u3,u4,u5,u6,u7,u8,u9,u10]).heap[q]?=W.heap[q]?:=Zl p _ 0 W q hne;have c:∀j,((((((((((((W.setCell ⟨p,0,none⟩ u0).setCell ⟨p,1,none⟩ u1).setCell ⟨p,2,none⟩ u2).setCell ⟨p,3,none⟩ u3).setCell ⟨p,4,none⟩ u4).setCell ⟨p,5,none⟩ u5).setCell ⟨p,6,none⟩ u6).setCell ⟨p,7,none⟩ u7).setCell ⟨p,8,none⟩ u8).setCell ⟨p,9,none⟩ u9).setCell ⟨p,10,none⟩ u10)).cell? ⟨q,j,none⟩=W.cell? ⟨q,j,none⟩:=fun j=>World.cell?_of_block (a:=⟨q,j,none⟩) e;simp only[c];exact h
theorem jh1 {v:Value} {l:TL} {w:World} (h:Reads jL w v l) (hf:l.length≤1000000) :
 Calls Tryz.prog 36 #[v] w (fun e w'=>∃x,e=.returned x∧Own jL 126 w' w.heap.size x l∧Kept w w'):=by
 obtain⟨a,cap,rfl,h1,h2,h3⟩:=h;exact jfY a _ cap l w h3 hf
theorem jim {v:Value} {l:NL} {w:World} (h:Reads ju w v l) (hf:l.length≤1000000) :
 Calls Tryz.prog 37 #[v] w (fun e w'=>∃x,e=.returned x∧Own ju 127 w' w.heap.size x l∧Kept w w'):=by
 obtain⟨a,cap,rfl,h1,h2,h3⟩:=h;exact jhp a _ cap l w h3 hf
abbrev PX:=Pd×SX×SX×SX×SX
abbrev jiu (z:PX):Value:=jE z.1 (slV z.2.1) (slV z.2.2.1) (slV z.2.2.2.1) (slV z.2.2.2.2)
def At4 (w:World) (z:PX):Prop:=jC w (slV z.2.1) (slV z.2.2.1) (slV z.2.2.2.1) (slV z.2.2.2.2) z.1
def Btw (lo hi:Nat) (a:Option Addr):Prop:=∀b off sp,a=some ⟨b,off,sp⟩→lo≤b∧b<hi
theorem Btw.up {lo hi lo' hi':Nat} {a:Option Addr} (h:Btw lo hi a) (h1:lo'≤lo) (h2:hi≤hi'):Btw lo' hi' a:=fun b o s e=>⟨Nat.le_trans h1 (h b o s e).1,Nat.lt_of_lt_of_le (h b o s e).2 h2⟩
theorem Btw.behind {lo hi:Nat} {a:Option Addr} (h:Btw lo hi a):jR lo a:=fun b o s e=>(h b o s e).1
def ZQ (lo hi:Nat) (z:PX):Prop:=Btw lo hi z.2.1.1∧Btw lo hi z.2.2.1.1∧Btw lo hi z.2.2.2.1.1∧Btw lo hi z.2.2.2.2.1
theorem ZQ.up {lo hi lo' hi':Nat} {z:PX} (h:ZQ lo hi z) (h1:lo'≤lo) (h2:hi≤hi'):ZQ lo' hi' z:=⟨h.1.up h1 h2,h.2.1.up h1 h2,h.2.2.1.up h1 h2,h.2.2.2.up h1 h2⟩
theorem jC.at4 {w:World} {n:Pd} {x1 x2 x3 x4:SX} (h:jC w (slV x1) (slV x2) (slV x3) (slV x4) n):At4 w (n,x1,x2,x3,x4):=h
theorem jdO (n:Pd) (v1 v2 v3 v4:Value) (w:World) (h:jC w v1 v2 v3 v4 n) (hl:Yc n) :
 Calls Tryz.prog 11 #[jE n v1 v2 v3 v4] w fun e w'=>∃z:PX,e=.returned (jiu z)∧z.1=n∧At4 w' z∧ZQ w.heap.size w'.heap.size z∧Kept w w':=by
 have HH:=lH h;have E1:=lH (fun W (k:Kept w W)=>(jhO (h.need.kept k) hl.need).mono fun _ _=>ja7);have E2:=lH (fun W (k:Kept w W)=>(jhQ (h.labels.kept k) hl.labels).mono fun _ _=>ZS);have E3:=lH (fun W (k:Kept w W)=>(jh1 (h.sel.kept k) hl.sel).mono fun _ _=>ZS);have E4:=lH (fun W (k:Kept w W)=>(jim (h.tols.kept k) hl.tols).mono fun _ _=>ZS);obtain⟨⟨x0,x1,x2,l1,l2,l3,l4,x3,x4,x5,x6⟩,hnn⟩:∃m,m=n:=⟨n,rfl⟩
 subst hnn;dsimp only at E1 E2 E3 E4;obtain⟨Y,hY⟩:∃Y,w.alloc (.cells #[.string x0,.string x1,.int .i64 x2,v1,v2,v3,v4,.string x3,.int .i64 x4,.string x5,.bool x6] 35)=Y:=⟨_,rfl⟩
 obtain⟨W0,hW0⟩:∃Z,(w.alloc (.cells #[.string x0,.string x1,.int .i64 x2,v1,v2,v3,v4,.string x3,.int .i64 x4,.string x5,.bool x6] 35)).alloc (.cells #[.string ⟨#[]⟩,.string ⟨#[]⟩,.int .i64 0,.slice none 0 0,.slice none 0 0,.slice none 0 0,.slice none 0 0,.string ⟨#[]⟩,.int .i64 0,.string ⟨#[]⟩,.bool false] 45)=Z:=⟨_,rfl⟩
 have hk0:Kept w W0:=by rw[←hW0];exact jr _ _ _
 have hzs:W0.heap.size=w.heap.size+2:=by rw[←hW0];simp
 have HB:=lH (show ∀W,Kept W0 W→W.cell? ⟨w.heap.size,0,none⟩=some (.string x0)∧W.cell? ⟨w.heap.size,1,none⟩=some (.string x1)∧W.cell? ⟨w.heap.size,2,none⟩=some (.int .i64 x2)∧W.cell? ⟨w.heap.size,3,none⟩=some (v1)∧W.cell? ⟨w.heap.size,4,none⟩=some (v2)∧W.cell? ⟨w.heap.size,5,none⟩=some (v3)∧W.cell? ⟨w.heap.size,6,none⟩=some (v4)∧W.cell? ⟨w.heap.size,7,none⟩=some (.string x3)∧W.cell? ⟨w.heap.size,8,none⟩=some (.int .i64 x4)∧W.cell? ⟨w.heap.size,9,none⟩=some (.string x5)∧W.cell? ⟨w.heap.size,10,none⟩=some (.bool x6) from fun W k=>by
  have:=jc w (.string x0) [.string x1,.int .i64 x2,v1,v2,v3,v4,.string x3,.int .i64 x4,.string x5,.bool x6] 35 W ((by rw[←hW0];exact ja _ _:Kept (w.alloc (.cells #[.string x0,.string x1,.int .i64 x2,v1,v2,v3,v4,.string x3,.int .i64 x4,.string x5,.bool x6] 35)) W0).trans k);exact⟨this.at_ 0 _ rfl,this.at_ 1 _ rfl,this.at_ 2 _ rfl,this.at_ 3 _ rfl,this.at_ 4 _ rfl,this.at_ 5 _ rfl,this.at_ 6 _ rfl,this.at_ 7 _ rfl,this.at_ 8 _ rfl,this.at_ 9 _ rfl,this.at_ 10 _ rfl⟩)
 have HQ:=lH (show ∀W,Kept W0 W→jd (w.heap.size+1) [.string ⟨#[]⟩,.string ⟨#[]⟩,.int .i64 0,.slice none 0 0,.slice none 0 0,.slice none 0 0,.slice none 0 0,.string ⟨#[]⟩,.int .i64 0,.string ⟨#[]⟩,.bool false] W from fun W k=>by
  have:=jc (w.alloc (.cells #[.string x0,.string x1,.int .i64 x2,v1,v2,v3,v4,.string x3,.int .i64 x4,.string x5,.bool x6] 35)) (.string ⟨#[]⟩) [.string ⟨#[]⟩,.int .i64 0,.slice none 0 0,.slice none 0 0,.slice none 0 0,.slice none 0 0,.string ⟨#[]⟩,.int .i64 0,.string ⟨#[]⟩,.bool false] 45 W (by rw[hW0];exact k);rw[World.size_alloc] at this;exact this)
 have HZ:=lH hzs;have HK0:=lH hk0;obtain⟨b0,b1,b2,b3,b4,b5,b6,b7,b8,b9,b10⟩:=HB.out _ (Kept.refl _);clear h hl hk0 hzs hY Y;unfold jE;dsimp only;go_enter Tryz.func11,Tryz.ntmps11;go_wp2;try rw[hW0]
 clear hW0;refine wp_region_held_drew (S:=fun W=>W.cell? ⟨w.heap.size,0,none⟩=some (.string x0)∧W.cell? ⟨w.heap.size,1,none⟩=some (.string x1)∧W.cell? ⟨w.heap.size,2,none⟩=some (.int .i64 x2)∧W.cell? ⟨w.heap.size,3,none⟩=some (v1)∧W.cell? ⟨w.heap.size,4,none⟩=some (v2)∧W.cell? ⟨w.heap.size,5,none⟩=some (v3)∧W.cell? ⟨w.heap.size,6,none⟩=some (v4)∧W.cell? ⟨w.heap.size,7,none⟩=some (.string x3)∧W.cell? ⟨w.heap.size,8,none⟩=some (.int .i64 x4)∧W.cell? ⟨w.heap.size,9,none⟩=some (.string x5)∧W.cell? ⟨w.heap.size,10,none⟩=some (.bool x6)) (by kernel_rfl) (HB.out _ (Kept.drew _)) (fun hHeld=>?_);refine wpAnyH_take  (i:=0) (v:=?_) (by rw[List.getElem?_toArray];exact rfl) (by kernel_rfl) (by kernel_rfl) (by kernel_rfl) (by exact fun _ _ _ h=>h) (Or.inl ⟨by rfl,(by rintro W ⟨q0,q1,q2,q3,q4,q5,q6,q7,q8,q9,q10⟩;go_simp<;>with_reducible rfl)⟩) (by assumption) ?_;try simp only  [Act.put,List.setIfInBounds_toArray,List.set_cons_zero,List.set_cons_succ]
 refine wpAnyH_take  (i:=1) (v:=?_) (by rw[List.getElem?_toArray];exact rfl) (by kernel_rfl) (by kernel_rfl) (by kernel_rfl) (by exact fun _ _ _ h=>h) (Or.inl ⟨by rfl,(by rintro W ⟨q0,q1,q2,q3,q4,q5,q6,q7,q8,q9,q10⟩;go_simp<;>with_reducible rfl)⟩) (by assumption) ?_;try simp only  [Act.put,List.setIfInBounds_toArray,List.set_cons_zero,List.set_cons_succ]
 refine wpAnyH_take  (i:=2) (v:=?_) (by rw[List.getElem?_toArray];exact rfl) (by kernel_rfl) (by kernel_rfl) (by kernel_rfl) (by exact fun _ _ _ h=>h) (Or.inl ⟨by rfl,(by rintro W ⟨q0,q1,q2,q3,q4,q5,q6,q7,q8,q9,q10⟩;go_simp<;>with_reducible rfl)⟩) (by assumption) ?_;try simp only  [Act.put,List.setIfInBounds_toArray,List.set_cons_zero,List.set_cons_succ]
 refine wpAnyH_take  (i:=3) (v:=?_) (by rw[List.getElem?_toArray];exact rfl) (by kernel_rfl) (by kernel_rfl) (by kernel_rfl) (by exact fun _ _ _ h=>h) (Or.inl ⟨by rfl,(by rintro W ⟨q0,q1,q2,q3,q4,q5,q6,q7,q8,q9,q10⟩;go_simp<;>with_reducible rfl)⟩) (by assumption) ?_;try simp only  [Act.put,List.setIfInBounds_toArray,List.set_cons_zero,List.set_cons_succ]
 refine wpAnyH_take  (i:=4) (v:=?_) (by rw[List.getElem?_toArray];exact rfl) (by kernel_rfl) (by kernel_rfl) (by kernel_rfl) (by exact fun _ _ _ h=>h) (Or.inl ⟨by rfl,(by rintro W ⟨q0,q1,q2,q3,q4,q5,q6,q7,q8,q9,q10⟩;go_simp<;>with_reducible rfl)⟩) (by assumption) ?_;try simp only  [Act.put,List.setIfInBounds_toArray,List.set_cons_zero,List.set_cons_succ]
 refine wpAnyH_take  (i:=5) (v:=?_) (by rw[List.getElem?_toArray];exact rfl) (by kernel_rfl) (by kernel_rfl) (by kernel_rfl) (by exact fun _ _ _ h=>h) (Or.inl ⟨by rfl,(by rintro W ⟨q0,q1,q2,q3,q4,q5,q6,q7,q8,q9,q10⟩;go_simp<;>with_reducible rfl)⟩) (by assumption) ?_;try simp only  [Act.put,List.setIfInBounds_toArray,List.set_cons_zero,List.set_cons_succ]
 refine wpAnyH_take  (i:=6) (v:=?_) (by rw[List.getElem?_toArray];exact rfl) (by kernel_rfl) (by kernel_rfl) (by kernel_rfl) (by exact fun _ _ _ h=>h) (Or.inl ⟨by rfl,(by rintro W ⟨q0,q1,q2,q3,q4,q5,q6,q7,q8,q9,q10⟩;go_simp<;>with_reducible rfl)⟩) (by assumption) ?_;try simp only  [Act.put,List.setIfInBounds_toArray,List.set_cons_zero,List.set_cons_succ]
 refine wpAnyH_take  (i:=7) (v:=?_) (by rw[List.getElem?_toArray];exact rfl) (by kernel_rfl) (by kernel_rfl) (by kernel_rfl) (by exact fun _ _ _ h=>h) (Or.inl ⟨by rfl,(by rintro W ⟨q0,q1,q2,q3,q4,q5,q6,q7,q8,q9,q10⟩;go_simp<;>with_reducible rfl)⟩) (by assumption) ?_;try simp only  [Act.put,List.setIfInBounds_toArray,List.set_cons_zero,List.set_cons_succ]
 refine wpAnyH_take  (i:=9) (v:=?_) (by rw[List.getElem?_toArray];exact rfl) (by kernel_rfl) (by kernel_rfl) (by kernel_rfl) (by exact fun _ _ _ h=>h) (Or.inl ⟨by rfl,(by rintro W ⟨q0,q1,q2,q3,q4,q5,q6,q7,q8,q9,q10⟩;go_simp<;>with_reducible rfl)⟩) (by assumption) ?_;try simp only  [Act.put,List.setIfInBounds_toArray,List.set_cons_zero,List.set_cons_succ]
 refine wpAnyH_take  (i:=10) (v:=?_) (by rw[List.getElem?_toArray];exact rfl) (by kernel_rfl) (by kernel_rfl) (by kernel_rfl) (by exact fun _ _ _ h=>h) (Or.inl ⟨by rfl,(by rintro W ⟨q0,q1,q2,q3,q4,q5,q6,q7,q8,q9,q10⟩;go_simp<;>with_reducible rfl)⟩) (by assumption) ?_;try simp only  [Act.put,List.setIfInBounds_toArray,List.set_cons_zero,List.set_cons_succ]
 refine wpAnyH_take  (i:=12) (v:=?_) (by rw[List.getElem?_toArray];exact rfl) (by kernel_rfl) (by kernel_rfl) (by kernel_rfl) (by exact fun _ _ _ h=>h) (Or.inl ⟨by rfl,(by rintro W ⟨q0,q1,q2,q3,q4,q5,q6,q7,q8,q9,q10⟩;go_simp<;>with_reducible rfl)⟩) (by assumption) ?_;try simp only  [Act.put,List.setIfInBounds_toArray,List.set_cons_zero,List.set_cons_succ]
 refine wpAnyH_take  (i:=13) (v:=?_) (by rw[List.getElem?_toArray];exact rfl) (by kernel_rfl) (by kernel_rfl) (by kernel_rfl) (by exact fun _ _ _ h=>h) (Or.inl ⟨by rfl,(by rintro W ⟨q0,q1,q2,q3,q4,q5,q6,q7,q8,q9,q10⟩;go_simp<;>with_reducible rfl)⟩) (by assumption) ?_;try simp only  [Act.put,List.setIfInBounds_toArray,List.set_cons_zero,List.set_cons_succ]
 refine wpAnyH_take  (i:=15) (v:=?_) (by rw[List.getElem?_toArray];exact rfl) (by kernel_rfl) (by kernel_rfl) (by kernel_rfl) (by exact fun _ _ _ h=>h) (Or.inl ⟨by rfl,(by rintro W ⟨q0,q1,q2,q3,q4,q5,q6,q7,q8,q9,q10⟩;go_simp<;>with_reducible rfl)⟩) (by assumption) ?_;try simp only  [Act.put,List.setIfInBounds_toArray,List.set_cons_zero,List.set_cons_succ]
 refine wpAnyH_take  (i:=16) (v:=?_) (by rw[List.getElem?_toArray];exact rfl) (by kernel_rfl) (by kernel_rfl) (by kernel_rfl) (by exact fun _ _ _ h=>h) (Or.inl ⟨by rfl,(by rintro W ⟨q0,q1,q2,q3,q4,q5,q6,q7,q8,q9,q10⟩;go_simp<;>with_reducible rfl)⟩) (by assumption) ?_;try simp only  [Act.put,List.setIfInBounds_toArray,List.set_cons_zero,List.set_cons_succ]
 refine wpAnyH_take  (i:=18) (v:=?_) (by rw[List.getElem?_toArray];exact rfl) (by kernel_rfl) (by kernel_rfl) (by kernel_rfl) (by exact fun _ _ _ h=>h) (Or.inl ⟨by rfl,(by rintro W ⟨q0,q1,q2,q3,q4,q5,q6,q7,q8,q9,q10⟩;go_simp<;>with_reducible rfl)⟩) (by assumption) ?_;try simp only  [Act.put,List.setIfInBounds_toArray,List.set_cons_zero,List.set_cons_succ]
 refine wpAnyH_take  (i:=19) (v:=?_) (by rw[List.getElem?_toArray];exact rfl) (by kernel_rfl) (by kernel_rfl) (by kernel_rfl) (by exact fun _ _ _ h=>h) (Or.inl ⟨by rfl,(by rintro W ⟨q0,q1,q2,q3,q4,q5,q6,q7,q8,q9,q10⟩;go_simp<;>with_reducible rfl)⟩) (by assumption) ?_;try simp only  [Act.put,List.setIfInBounds_toArray,List.set_cons_zero,List.set_cons_succ]
 refine wpAnyH_take  (i:=20) (v:=?_) (by rw[List.getElem?_toArray];exact rfl) (by kernel_rfl) (by kernel_rfl) (by kernel_rfl) (by exact fun _ _ _ h=>h) (Or.inl ⟨by rfl,(by rintro W ⟨q0,q1,q2,q3,q4,q5,q6,q7,q8,q9,q10⟩;go_simp<;>with_reducible rfl)⟩) (by assumption) ?_;try simp only  [Act.put,List.setIfInBounds_toArray,List.set_cons_zero,List.set_cons_succ]
 refine wpAnyH_take  (i:=21) (v:=?_) (by rw[List.getElem?_toArray];exact rfl) (by kernel_rfl) (by kernel_rfl) (by kernel_rfl) (by exact fun _ _ _ h=>h) (Or.inl ⟨by rfl,(by rintro W ⟨q0,q1,q2,q3,q4,q5,q6,q7,q8,q9,q10⟩;go_simp<;>with_reducible rfl)⟩) (by assumption) ?_;try simp only  [Act.put,List.setIfInBounds_toArray,List.set_cons_zero,List.set_cons_succ]
 refine wpAnyH_take  (i:=22) (v:=?_) (by rw[List.getElem?_toArray];exact rfl) (by kernel_rfl) (by kernel_rfl) (by kernel_rfl) (by exact fun _ _ _ h=>h) (Or.inl ⟨by rfl,(by rintro W ⟨q0,q1,q2,q3,q4,q5,q6,q7,q8,q9,q10⟩;go_simp<;>with_reducible rfl)⟩) (by assumption) ?_;try simp only  [Act.put,List.setIfInBounds_toArray,List.set_cons_zero,List.set_cons_succ]
 refine wpAnyH_take  (i:=23) (v:=?_) (by rw[List.getElem?_toArray];exact rfl) (by kernel_rfl) (by kernel_rfl) (by kernel_rfl) (by exact fun _ _ _ h=>h) (Or.inl ⟨by rfl,(by rintro W ⟨q0,q1,q2,q3,q4,q5,q6,q7,q8,q9,q10⟩;go_simp<;>with_reducible rfl)⟩) (by assumption) ?_;try simp only  [Act.put,List.setIfInBounds_toArray,List.set_cons_zero,List.set_cons_succ]
 refine wpAnyH_take  (i:=24) (v:=?_) (by rw[List.getElem?_toArray];exact rfl) (by kernel_rfl) (by kernel_rfl) (by kernel_rfl) (by exact fun _ _ _ h=>h) (Or.inl ⟨by rfl,(by rintro W ⟨q0,q1,q2,q3,q4,q5,q6,q7,q8,q9,q10⟩;go_simp<;>with_reducible rfl)⟩) (by assumption) ?_;try simp only  [Act.put,List.setIfInBounds_toArray,List.set_cons_zero,List.set_cons_succ]
 refine wpAnyH_take  (i:=25) (v:=?_) (by rw[List.getElem?_toArray];exact rfl) (by kernel_rfl) (by kernel_rfl) (by kernel_rfl) (by exact fun _ _ _ h=>h) (Or.inl ⟨by rfl,(by rintro W ⟨q0,q1,q2,q3,q4,q5,q6,q7,q8,q9,q10⟩;go_simp<;>with_reducible rfl)⟩) (by assumption) ?_;try simp only  [Act.put,List.setIfInBounds_toArray,List.set_cons_zero,List.set_cons_succ]
 refine wpAnyH_ready  (rs:=[8]) (by kernel_rfl) (by simp) (AllReadyH.cons  (by rw[List.getElem?_toArray];exact rfl) (fun K9 hK9=>?_) AllReadyH.nil);go_simp;refine(E1.out _ (HK0.out.trans (Kept.drew _))).mono ?_;rintro e1 w1 ⟨b1,n1,d1,rfl,r1,g1,k1⟩;have K1:=lH (Kept.trans (Kept.drew _) k1);have G1:=lH (show Btw (w.heap.size+2) w1.heap.size b1 from fun b o s e=>⟨Nat.le_trans (by rw[←HZ.out];exact Below.size (Kept.drew _)) (g1 b o s e).1,(g1 b o s e).2⟩);have R1:=lH r1;clear k1 r1 g1;refine hK9.out _ _ (HB.out _ K1.out) (fun hHeld1=>?_);clear hK9 K9;try simp only  [Act.put,List.setIfInBounds_toArray,List.set_cons_zero,List.set_cons_succ]
 refine wpAnyH_ready  (rs:=[11]) (by kernel_rfl) (by simp) (AllReadyH.cons  (by rw[List.getElem?_toArray];exact rfl) (fun K9 hK9=>?_) AllReadyH.nil);go_simp;refine(E2.out _ (HK0.out.trans K1.out)).mono ?_;rintro e2 w2 ⟨b2,n2,d2,rfl,r2,g2,k2⟩;have K2:=lH (Kept.trans K1.out k2);have G2:=lH (show Btw (w.heap.size+2) w2.heap.size b2 from fun b o s e=>⟨Nat.le_trans (by rw[←HZ.out];exact Below.size K1.out) (g2 b o s e).1,(g2 b o s e).2⟩);have R2:=lH r2;have R1:=lH (R1.out.kept k2);have G1:=lH (G1.out.up (Nat.le_refl _) k2.size);clear k2 r2 g2;refine hK9.out _ _ (HB.out _ K2.out) (fun hHeld2=>?_);clear hK9 K9;try simp only  [Act.put,List.setIfInBounds_toArray,List.set_cons_zero,List.set_cons_succ]
 refine wpAnyH_ready  (rs:=[14]) (by kernel_rfl) (by simp) (AllReadyH.cons  (by rw[List.getElem?_toArray];exact rfl) (fun K9 hK9=>?_) AllReadyH.nil);go_simp;refine(E3.out _ (HK0.out.trans K2.out)).mono ?_;rintro e3 w3 ⟨b3,n3,d3,rfl,r3,g3,k3⟩;have K3:=lH (Kept.trans K2.out k3);have G3:=lH (show Btw (w.heap.size+2) w3.heap.size b3 from fun b o s e=>⟨Nat.le_trans (by rw[←HZ.out];exact Below.size K2.out) (g3 b o s e).1,(g3 b o s e).2⟩);have R3:=lH r3;have R1:=lH (R1.out.kept k3);have G1:=lH (G1.out.up (Nat.le_refl _) k3.size);have R2:=lH (R2.out.kept k3);have G2:=lH (G2.out.up (Nat.le_refl _) k3.size);clear k3 r3 g3;refine hK9.out _ _ (HB.out _ K3.out) (fun hHeld3=>?_);clear hK9 K9;try simp only  [Act.put,List.setIfInBounds_toArray,List.set_cons_zero,List.set_cons_succ]
 refine wpAnyH_ready  (rs:=[17]) (by kernel_rfl) (by simp) (AllReadyH.cons  (by rw[List.getElem?_toArray];exact rfl) (fun K9 hK9=>?_) AllReadyH.nil);go_simp;refine(E4.out _ (HK0.out.trans K3.out)).mono ?_;rintro e4 w4 ⟨b4,n4,d4,rfl,r4,g4,k4⟩;have K4:=lH (Kept.trans K3.out k4);have G4:=lH (show Btw (w.heap.size+2) w4.heap.size b4 from fun b o s e=>⟨Nat.le_trans (by rw[←HZ.out];exact Below.size K3.out) (g4 b o s e).1,(g4 b o s e).2⟩);have R4:=lH r4;have R1:=lH (R1.out.kept k4);have G1:=lH (G1.out.up (Nat.le_refl _) k4.size);have R2:=lH (R2.out.kept k4);have G2:=lH (G2.out.up (Nat.le_refl _) k4.size);have R3:=lH (R3.out.kept k4);have G3:=lH (G3.out.up (Nat.le_refl _) k4.size);clear k4 r4 g4;refine hK9.out _ _ (HB.out _ K4.out) (fun hHeld4=>?_);clear hK9 K9;try simp only  [Act.put,List.setIfInBounds_toArray,List.set_cons_zero,List.set_cons_succ]
 refine wpAnyH_take  (i:=26) (v:=?_) (by rw[List.getElem?_toArray];exact rfl) (by kernel_rfl) (by kernel_rfl) (by kernel_rfl) (by exact fun _ _ _ h=>h) (Or.inl ⟨by rfl,(by rintro W ⟨q0,q1,q2,q3,q4,q5,q6,q7,q8,q9,q10⟩;go_simp<;>with_reducible rfl)⟩) (by assumption) ?_;try simp only  [Act.put,List.setIfInBounds_toArray,List.set_cons_zero,List.set_cons_succ]
 have HQ4:=lH (HQ.out _ K4.out);have z0:=HQ4.out.at_ 0 _ rfl;have z1:=HQ4.out.at_ 1 _ rfl;have z2:=HQ4.out.at_ 2 _ rfl;have z3:=HQ4.out.at_ 3 _ rfl;have z4:=HQ4.out.at_ 4 _ rfl;have z5:=HQ4.out.at_ 5 _ rfl;have z6:=HQ4.out.at_ 6 _ rfl;have z7:=HQ4.out.at_ 7 _ rfl;have z8:=HQ4.out.at_ 8 _ rfl;have z9:=HQ4.out.at_ 9 _ rfl;have z10:=HQ4.out.at_ 10 _ rfl;have f0:=HQ4.out.free 0;have f1:=HQ4.out.free 1;have f2:=HQ4.out.free 2;have f3:=HQ4.out.free 3;have f4:=HQ4.out.free 4;have f5:=HQ4.out.free 5;have f6:=HQ4.out.free 6;have f7:=HQ4.out.free 7;have f8:=HQ4.out.free 8;have f9:=HQ4.out.free 9;have f10:=HQ4.out.free 10;refine wpAnyH_ready  (rs:=[27]) (by kernel_rfl) (by simp) (AllReadyH.cons  (by rw[List.getElem?_toArray];exact rfl) (fun K9 hK9=>?_) AllReadyH.nil);go_simp;refine hK9.out _ _ (jc8 (HB.out _ K4.out) (by omega)) (fun hHeldS=>?_);clear hK9 K9 hHeldS;try simp only  [Act.put,List.setIfInBounds_toArray,List.set_cons_zero,List.set_cons_succ]
 refine wpAnyH_done (by kernel_rfl) ?_ _;have P:=lH (zg (vs:=[.string x0,.string x1,.int .i64 x2,.slice b1 n1 d1,.slice b2 n2 d2,.slice b3 n3 d3,.slice b4 n4 d4,.string x3,.int .i64 x4,.string x5,.bool x6]) HQ4.out rfl);clear z0 f0 z1 f1 z2 f2 z3 f3 z4 f4 z5 f5 z6 f6 z7 f7 z8 f8 z9 f9 z10 f10;go_wp2;(try simp only[Exit.inBlock,Exit.then])
 obtain⟨WE,hWE⟩:∃W,w4.setCells (w.heap.size+1) 0 [.string x0,.string x1,.int .i64 x2,.slice b1 n1 d1,.slice b2 n2 d2,.slice b3 n3 d3,.slice b4 n4 d4,.string x3,.int .i64 x4,.string x5,.bool x6]=W:=⟨_,rfl⟩
 have hWE2:(((((((((((w4.setCell ⟨w.heap.size+1,0,none⟩ (.string x0)).setCell ⟨w.heap.size+1,1,none⟩ (.string x1)).setCell ⟨w.heap.size+1,2,none⟩ (.int .i64 x2)).setCell ⟨w.heap.size+1,3,none⟩ (.slice b1 n1 d1)).setCell ⟨w.heap.size+1,4,none⟩ (.slice b2 n2 d2)).setCell ⟨w.heap.size+1,5,none⟩ (.slice b3 n3 d3)).setCell ⟨w.heap.size+1,6,none⟩ (.slice b4 n4 d4)).setCell ⟨w.heap.size+1,7,none⟩ (.string x3)).setCell ⟨w.heap.size+1,8,none⟩ (.int .i64 x4)).setCell ⟨w.heap.size+1,9,none⟩ (.string x5)).setCell ⟨w.heap.size+1,10,none⟩ (.bool x6))=WE:=hWE;rw[hWE] at P;rw[hWE2];clear hWE hWE2;obtain⟨PC,hsz,hbl,hkp⟩:=P.out;refine bodyPost_ret (by simp[results,Tryz.results11,go_sem,PC.at_ 0 _ rfl,PC.at_ 1 _ rfl,PC.at_ 2 _ rfl,PC.at_ 3 _ rfl,PC.at_ 4 _ rfl,PC.at_ 5 _ rfl,PC.at_ 6 _ rfl,PC.at_ 7 _ rfl,PC.at_ 8 _ rfl,PC.at_ 9 _ rfl,PC.at_ 10 _ rfl];try rfl) rfl ?_;refine⟨(⟨x0,x1,x2,l1,l2,l3,l4,x3,x4,x5,x6⟩,(b1,n1,d1),(b2,n2,d2),(b3,n3,d3),(b4,n4,d4)),rfl,rfl,jC.at4 (jC.far (B:=w.heap.size+2) (n:=⟨x0,x1,x2,l1,l2,l3,l4,x3,x4,x5,x6⟩) ⟨HH.out.name,HH.out.owner,HH.out.key,HH.out.node,HH.out.prio,HH.out.most,R1.out,R2.out,R3.out,R4.out⟩ hsz (fun b hb=>hbl b (by omega)) G1.out.behind G2.out.behind G3.out.behind G4.out.behind),?_,hkp _ _ (by omega) (HK0.out.trans K4.out)⟩;rw[hsz];exact⟨G1.out.up (by omega) (Nat.le_refl _),G2.out.up (by omega) (Nat.le_refl _),G3.out.up (by omega) (Nat.le_refl _),G4.out.up (by omega) (Nat.le_refl _)⟩
theorem jie {v:Value} {n:Pd} {w:World} (h:Z7 w v n) (hl:Yc n):Calls Tryz.prog 11 #[v] w fun e w'=>∃v,e=.returned v∧Z7 w' v n∧Kept w w':=by
 obtain⟨v1,v2,v3,v4,rfl,h⟩:=h;refine(jdO n v1 v2 v3 v4 w h hl).mono ?_;rintro e w' ⟨z,rfl,rfl,hz,-,k⟩;exact⟨_,rfl,⟨_,_,_,_,rfl,hz⟩,k⟩
theorem Reads.grown {α:Type} {L:Lay α} {w w':World} {row:Option Nat} {a:Option Addr} {m c:Nat} {l:List α} (h:Reads L w (.slice a m c) l) (hg:w.grownBy w' row) (hb:∀b off sp,a=some ⟨b,off,sp⟩→some b≠row):Reads L w' (.slice a m c) l:=by
 obtain⟨a',cap',e,h1,h2,h3,h4,h5,h6⟩:=h
 cases e
 refine⟨a,c,rfl,h1,h2,h3,h4,h5,h6.imp id ?_⟩;rintro ⟨b,off,rfl,hlt,hc⟩;exact⟨b,off,rfl,Nat.lt_of_lt_of_le hlt hg.size,fun i x j u hi hj=>(World.cell?_of_block (a:=⟨b,off+i*L.m+j,none⟩) (hg.block b hlt (hb b off none rfl))).trans (hc i x j u hi hj)⟩
theorem Vec.Reads.grown {w w':World} {row:Option Nat} {a:Option Addr} {m c:Nat} {l:Vec.V} (h:Vec.Reads w (.slice a m c) l) (hg:w.grownBy w' row) (hb:∀b off sp,a=some ⟨b,off,sp⟩→some b≠row):Vec.Reads w' (.slice a m c) l:=by
 obtain⟨a',cap',e,h1,h2,h3,h4,h5,h6⟩:=h
 cases e
 refine⟨a,c,rfl,h1,h2,h3,h4,h5,h6.imp id ?_⟩;rintro ⟨b,off,rfl,hlt,hc⟩;exact⟨b,off,rfl,Nat.lt_of_lt_of_le hlt hg.size,fun i hi=>⟨(World.cell?_of_block (a:=⟨b,off+i*2,none⟩) (hg.block b hlt (hb b off none rfl))).trans (hc i hi).1,(World.cell?_of_block (a:=⟨b,off+i*2+1,none⟩) (hg.block b hlt (hb b off none rfl))).trans (hc i hi).2⟩⟩
theorem jbm (x:NX) (u:Value) (h:u ∈ [Value.string x.1.name,slV x.2.1,slV x.2.2.1,slV x.2.2.2,.bool x.1.cordon]):u.oneCell'=true:=by
 simp only[List.mem_cons,List.not_mem_nil,or_false] at h;rcases h with rfl | rfl | rfl | rfl | rfl<;>rfl
def zk:Lay NX:={ m:=5,cs:=fun x=>[.string x.1.name,slV x.2.1,slV x.2.2.1,slV x.2.2.2,.bool x.1.cordon],fine:=fun _=>True,len:=fun _=>rfl,one:=jbm,pos:=by decide }
def jgI (w:World) (v:Value) (l:List NX):Prop:=∀z ∈ l,At3 w z∧YE 0 w.heap.size z∧(∀b off sp,z.2.1.1=some ⟨b,off,sp⟩→v.ownBlock≠some b)∧(∀b off sp,z.2.2.1.1=some ⟨b,off,sp⟩→v.ownBlock≠some b)∧(∀b off sp,z.2.2.2.1=some ⟨b,off,sp⟩→v.ownBlock≠some b)
theorem XT {lo lo' hi hi':Nat} {z:NX} (h:YE lo hi z) (h1:lo'≤lo) (h2:hi≤hi'):YE lo' hi' z :=
 ⟨fun b o s e=>⟨Nat.le_trans h1 (h.1 b o s e).1,Nat.lt_of_lt_of_le (h.1 b o s e).2 h2⟩,fun b o s e=>⟨Nat.le_trans h1 (h.2.1 b o s e).1,Nat.lt_of_lt_of_le (h.2.1 b o s e).2 h2⟩,fun b o s e=>⟨Nat.le_trans h1 (h.2.2 b o s e).1,Nat.lt_of_lt_of_le (h.2.2 b o s e).2 h2⟩⟩
theorem jgH {wr w1 w2:World} {o:Obj} {v:Value} {l:List NX} {z0:NX} {gg n cap:Nat} (hv:jgI wr v l) (k:Kept wr w1) (hz:At3 w1 z0) (hw:YE wr.heap.size w1.heap.size z0) (hown:∀g,v.ownBlock=some g→g<wr.heap.size)
 (hgrow:(w1.alloc o).grownBy w2 v.ownBlock) (hat:v.ownBlock=some gg∨gg=w1.heap.size+1):jgI w2 (.slice (some ⟨gg,0,none⟩) n cap) (l++[z0]):=by
 have hs:=hgrow.size;rw[World.size_alloc] at hs;have hk:=k.size;have key:∀z,At3 w1 z→YE 0 w1.heap.size z→(∀b off sp,z.2.1.1=some ⟨b,off,sp⟩→v.ownBlock≠some b)→(∀b off sp,z.2.2.1.1=some ⟨b,off,sp⟩→v.ownBlock≠some b)→(∀b off sp,z.2.2.2.1=some ⟨b,off,sp⟩→v.ownBlock≠some b) →
  At3 w2 z∧YE 0 w2.heap.size z∧(∀b off sp,z.2.1.1=some ⟨b,off,sp⟩→some gg≠some b)∧(∀b off sp,z.2.2.1.1=some ⟨b,off,sp⟩→some gg≠some b)∧(∀b off sp,z.2.2.2.1=some ⟨b,off,sp⟩→some gg≠some b):=by
  intro z h3 hwz f1 f2 f3;have ne:∀b,b<w1.heap.size→v.ownBlock≠some b→some gg≠some b:=by
   intro b hb hne e;rcases hat with hat | hat
   · exact hne (hat.trans e)
   · have:gg=b:=Option.some.inj e;omega
  have h3':=h3.kept (ja w1 o);exact⟨⟨h3'.size,h3'.cap.grown hgrow (fun b off sp e=>Ne.symm (f1 b off sp e)),h3'.labels.grown hgrow (fun b off sp e=>Ne.symm (f2 b off sp e)),h3'.taints.grown hgrow (fun b off sp e=>Ne.symm (f3 b off sp e))⟩,
   XT hwz (Nat.le_refl _) (by omega),fun b off sp e=>ne b (hwz.1 b off sp e).2 (f1 b off sp e),fun b off sp e=>ne b (hwz.2.1 b off sp e).2 (f2 b off sp e),fun b off sp e=>ne b (hwz.2.2 b off sp e).2 (f3 b off sp e)⟩
 intro z hzm;rcases List.mem_append.1 hzm with hzm | hzm
 · obtain⟨h0,h1,h2,h3,h4⟩:=hv z hzm;exact key z (h0.kept k) (XT h1 (Nat.le_refl _) hk) h2 h3 h4
 · obtain rfl:z=z0:=by simpa using hzm
   exact key z hz (XT hw (Nat.zero_le _) (Nat.le_refl _)) (fun b off sp e f=>by have:=(hw.1 b off sp e).1;have:=hown b f;omega) (fun b off sp e f=>by have:=(hw.2.1 b off sp e).1;have:=hown b f;omega) (fun b off sp e f=>by have:=(hw.2.2 b off sp e).1;have:=hown b f;omega)
theorem jbd {w:World} {T:TypeId} {B:Nat} {v:Value} {lx:List NX} (ho:Own zk T w B v lx) (hf:∀z ∈ lx,At3 w z):zS w v (lx.map fun z=>z.1):=by
 obtain⟨a,cap,rfl,h1,h2,h3⟩:=ho.at_;obtain⟨g0,g1,g2,g3⟩:=h3;refine⟨a,cap,by rw[List.length_map],by rw[List.length_map];exact h1,h2,rfl,by rw[List.length_map];exact g1,?_⟩;rw[List.length_map];rcases g3 with g3 | ⟨b,off,rfl,hb,hc⟩
 · exact .inl g3
 · refine .inr ⟨b,off,rfl,hb,fun i n hi=>?_⟩;rw[List.getElem?_map] at hi;obtain⟨z,hz,rfl⟩:=Option.map_eq_some_iff.1 hi;exact⟨_,_,_,_,_,_,_,_,_,hc i z 0 _ hz rfl,hc i z 1 _ hz rfl,hc i z 2 _ hz rfl,hc i z 3 _ hz rfl,hc i z 4 _ hz rfl,hf z (List.mem_of_getElem? hz)⟩
theorem jia:(Tryz.prog.info? 113).map (fun i=>(i.zero,i.size,i.bytes))=some (some (.agg #[.string ByteArray.empty,.slice none 0 0,.slice none 0 0,.slice none 0 0,.bool false]),5,96):=by kernel_rfl
theorem jfw (a:Option Addr) (len cap:Nat) (l:List Nod) (w:World) (hr:jt w a len l) (hlow:∀n ∈ l,zJ n) (hlen:len≤1000) :
 Calls Tryz.prog 51 #[.slice a len cap] w fun e w'=>∃v,e=.returned v∧zS w' v l∧Kept w w':=by
 have hl:=hr.1;have HLOW:=lH hlow;obtain⟨i0,hi,hz0,hz1,hz2'⟩:=info_parts jia;rcases hr.form with h0 | ⟨b,off,rfl⟩
 · subst h0;have hl0:l=[]:=List.eq_nil_of_length_eq_zero hl;subst hl0;clear hr hl hi hz0 hz1 hz2' hlow;go_enter Tryz.func51,Tryz.ntmps51;go_wp2;refine wp_loop_rounds 1 ?_;rw[rounds_succ];go_wp2;go_ret;exact⟨_,rfl,⟨none,0,rfl,Nat.le_refl _,by decide,rfl,by decide,.inl rfl⟩,Kept.refl _⟩
 · have HR:=lH hr;have HL:=lH hl;clear hr hl hlow;go_enter Tryz.func51,Tryz.ntmps51;go_wp2;go_loopw [3,4] (fun v i wr=>∃k:Nat,k≤len∧i=.int .i64 k∧∃lx:List NX,(lx.map fun z=>z.1)=l.take k∧Own zk 113 wr w.heap.size v lx∧jgI wr v lx∧Below w.heap.size w wr) (fun _ i _=>len-(intOf i).toNat)
   case atStart=>exact⟨0,Nat.zero_le _,rfl,[],rfl,Own.nil _ _ _,(fun z h=>by cases h),Below.refl _ _⟩
   case round =>
    obtain⟨k,hk,rfl,lx,hlx,ho,hv,hB⟩:=hrel;have HX:=lH hlx;have HO:=lH ho;have HV:=lH hv;have HB:=lH hB;have HT:=lH (show lx.length=k by have:=congrArg List.length hlx;rw[List.length_map,List.length_take,HL.out] at this;omega);have HOWN:=lH (show wr.ownsRow w.heap.size 113 5 u3 k (jf zk lx) by have:=HO.out.1;rw[HT.out] at this;exact this);have hbase:w.heap.size≤wr.heap.size:=hB.size;by_cases hlt:k<len
    · obtain⟨n,a1,m1,c1,a2,m2,c2,a3,m3,c3,hn,hd,hb,p0,p1,p2,p3,p4,hat⟩:=(HR.out.kept hB).at_ hlt;have HN:=lH hn;have HOF:=lH (jhd n (.slice a1 m1 c1) (.slice a2 m2 c2) (.slice a3 m3 c3) wr hat (HLOW.out n (List.mem_of_getElem? hn)));have hk1:(k:Int)<(len:Int):=by omega
      clear hlx ho hv hB hn hd hat;go_wp2_with fail
      refine HOF.out.mono ?_;rintro e w1 ⟨z,rfl,hz,h3,hwi,kk⟩;have HZ:=lH hz;have H3:=lH h3;have HW:=lH hwi;have KK:=lH kk;have hs1:wr.heap.size≤w1.heap.size:=kk.size;have HOW2:=lH (show w1.ownsRow w.heap.size 113 5 u3 k (jf zk lx) by have:=(HO.out.kept kk).1;rw[HT.out] at this;exact this);clear hz h3 hwi kk;go_wp2_with (at_builtin;refine wpList_append_lies _ rfl _ _ _ rfl w.heap.size 113 i0 _ 5 96 Tryz.underlying57 hi hz0 hz1 hz2' rfl (by decide) u3 k (jf zk lx) rfl (HOW2.out.alloc _) ⟨w1.heap.size,0,none⟩ 1 1 (zk.cs z) rfl rfl (World.news_of_block (cs:=#[.string z.1.name,slV z.2.1,slV z.2.2.1,slV z.2.2.2,.bool z.1.cordon]) (t:=113) (fr:=(0,0)) (heap_alloc_new w1 _)) (jbm z) (by decide) (by unfold maxLen;omega) (by omega) (by simp;omega) (w1.heap.size+1) (by simp) ?_;intro gg cap1 w2 hown1 hgrow hat hlt1)
      have HFAR:=lH (jgH (n:=k+1) (cap:=cap1) HV.out KK.out H3.out HW.out (fun g h=>(HOWN.out.lt g h).2) hgrow hat);have HBW:=lH ((HB.out.trans ((Below.mono KK.out hbase).trans (Below.mono (ja w1 _) (by omega)))).grown hgrow (by simp;omega) (fun j hj=>(HOWN.out.lt j hj).1));go_wp2;go_roundw
      case rel=>exact⟨k+1,by omega,by go_num,lx++[z],by rw[List.map_append,HX.out,zy HN.out,←HZ.out];rfl,Own.snoc hown1 (by rw[HT.out]) HO.out.2 trivial,HFAR.out,HBW.out⟩
      case measure=>simp[intOf];omega
    · have HK:=lH (show l.take k=l by rw[List.take_of_length_le (by rw[HL.out];omega)]);have HRES:=lH (show zS wr u3 l by have:=jbd HO.out (fun z hz=>(HV.out z hz).1);rw[HX.out,HK.out] at this;exact this);clear hlx ho hv hB;go_wp2;go_ret;exact⟨_,rfl,HRES.out,HB.out⟩
theorem jhY {v:Value} {l:List Nod} {w:World} (h:zS w v l) (hlow:∀n ∈ l,zJ n) (hlen:l.length≤1000) :
 Calls Tryz.prog 51 #[v] w fun e w'=>∃v,e=.returned v∧zS w' v l∧Kept w w':=by
 obtain⟨a,cap,rfl,_,_,hr⟩:=h;exact jfw a _ cap l w hr hlow hlen
theorem qP (x:PX) (u:Value) (h:u ∈ [Value.string x.1.name,.string x.1.owner,.int .i64 x.1.prio,slV x.2.1,slV x.2.2.1,slV x.2.2.2.1,slV x.2.2.2.2,.string x.1.key,.int .i64 x.1.most,.string x.1.node,.bool x.1.hold]):u.oneCell'=true:=by
 simp only[List.mem_cons,List.not_mem_nil,or_false] at h;rcases h with rfl | rfl | rfl | rfl | rfl | rfl | rfl | rfl | rfl | rfl | rfl<;>rfl
def jK:Lay PX:={ m:=11,cs:=fun x=>[.string x.1.name,.string x.1.owner,.int .i64 x.1.prio,slV x.2.1,slV x.2.2.1,slV x.2.2.2.1,slV x.2.2.2.2,.string x.1.key,.int .i64 x.1.most,.string x.1.node,.bool x.1.hold],fine:=fun _=>True,len:=fun _=>rfl,one:=qP,pos:=by decide }
def JJ (v:Value) (a:Option Addr):Prop:=∀b off sp,a=some ⟨b,off,sp⟩→v.ownBlock≠some b
def jgo (w:World) (v:Value) (l:List PX):Prop:=∀z ∈ l,At4 w z∧ZQ 0 w.heap.size z∧JJ v z.2.1.1∧JJ v z.2.2.1.1∧JJ v z.2.2.2.1.1∧JJ v z.2.2.2.2.1
theorem jfj {wr w1 w2:World} {o:Obj} {v:Value} {l:List PX} {z0:PX} {gg n cap:Nat} (hv:jgo wr v l) (k:Kept wr w1) (hz:At4 w1 z0) (hw:ZQ wr.heap.size w1.heap.size z0) (hown:∀g,v.ownBlock=some g→g<wr.heap.size)
 (hgrow:(w1.alloc o).grownBy w2 v.ownBlock) (hat:v.ownBlock=some gg∨gg=w1.heap.size+1):jgo w2 (.slice (some ⟨gg,0,none⟩) n cap) (l++[z0]):=by
 have hs:=hgrow.size;rw[World.size_alloc] at hs;have hk:=k.size;have key:∀z,At4 w1 z→ZQ 0 w1.heap.size z→JJ v z.2.1.1→JJ v z.2.2.1.1→JJ v z.2.2.2.1.1→JJ v z.2.2.2.2.1 →
  At4 w2 z∧ZQ 0 w2.heap.size z∧JJ (.slice (some ⟨gg,0,none⟩) n cap) z.2.1.1∧JJ (.slice (some ⟨gg,0,none⟩) n cap) z.2.2.1.1∧JJ (.slice (some ⟨gg,0,none⟩) n cap) z.2.2.2.1.1∧JJ (.slice (some ⟨gg,0,none⟩) n cap) z.2.2.2.2.1:=by
  intro z h3 hwz f1 f2 f3 f4;have ne:∀b,b<w1.heap.size→v.ownBlock≠some b→(Value.slice (some ⟨gg,0,none⟩) n cap).ownBlock≠some b:=by
   intro b hb hne e;have e:some gg=some b:=e;rcases hat with hat | hat
   · exact hne (hat.trans e)
   · have:gg=b:=Option.some.inj e;omega
  have h3':=jC.kept h3 (ja w1 o);exact⟨⟨h3'.name,h3'.owner,h3'.key,h3'.node,h3'.prio,h3'.most,h3'.need.grown hgrow (fun b off sp e=>Ne.symm (f1 b off sp e)),h3'.labels.grown hgrow (fun b off sp e=>Ne.symm (f2 b off sp e)),h3'.sel.grown hgrow (fun b off sp e=>Ne.symm (f3 b off sp e)),h3'.tols.grown hgrow (fun b off sp e=>Ne.symm (f4 b off sp e))⟩,
   hwz.up (Nat.le_refl _) (by omega),fun b off sp e=>ne b (hwz.1 b off sp e).2 (f1 b off sp e),fun b off sp e=>ne b (hwz.2.1 b off sp e).2 (f2 b off sp e),fun b off sp e=>ne b (hwz.2.2.1 b off sp e).2 (f3 b off sp e),fun b off sp e=>ne b (hwz.2.2.2 b off sp e).2 (f4 b off sp e)⟩
 intro z hzm;rcases List.mem_append.1 hzm with hzm | hzm
 · obtain⟨h0,h1,h2,h3,h4,h5⟩:=hv z hzm;exact key z (jC.kept h0 k) (h1.up (Nat.le_refl _) hk) h2 h3 h4 h5
 · obtain rfl:z=z0:=by simpa using hzm
   exact key z hz (hw.up (Nat.zero_le _) (Nat.le_refl _)) (fun b off sp e f=>by have:=(hw.1 b off sp e).1;have:=hown b f;omega) (fun b off sp e f=>by have:=(hw.2.1 b off sp e).1;have:=hown b f;omega) (fun b off sp e f=>by have:=(hw.2.2.1 b off sp e).1;have:=hown b f;omega) (fun b off sp e f=>by have:=(hw.2.2.2 b off sp e).1;have:=hown b f;omega)
theorem jca {w:World} {T:TypeId} {B:Nat} {v:Value} {lx:List PX} (ho:Own jK T w B v lx) (hf:∀z ∈ lx,At4 w z):JZ w v (lx.map fun z=>z.1):=by
 obtain⟨a,cap,rfl,h1,h2,h3⟩:=ho.at_;obtain⟨g0,g1,g2,g3⟩:=h3;refine⟨a,cap,by rw[List.length_map],by rw[List.length_map];exact h1,h2,rfl,by rw[List.length_map];exact g1,?_⟩;rw[List.length_map];rcases g3 with g3 | ⟨b,off,rfl,hb,hc⟩
 · exact .inl g3
 · refine .inr ⟨b,off,rfl,hb,fun i n hi=>?_⟩;rw[List.getElem?_map] at hi;obtain⟨z,hz,rfl⟩:=Option.map_eq_some_iff.1 hi;exact⟨slV z.2.1,slV z.2.2.1,slV z.2.2.2.1,slV z.2.2.2.2,hc i z 0 _ hz rfl,hc i z 1 _ hz rfl,hc i z 2 _ hz rfl,hc i z 3 _ hz rfl,hc i z 4 _ hz rfl,hc i z 5 _ hz rfl,hc i z 6 _ hz rfl,hc i z 7 _ hz rfl,hc i z 8 _ hz rfl,hc i z 9 _ hz rfl,hc i z 10 _ hz rfl,hf z (List.mem_of_getElem? hz)⟩
theorem jhV:(Tryz.prog.info? 45).map (fun i=>(i.zero,i.size,i.bytes))=some (some (.agg #[.string ByteArray.empty,.string ByteArray.empty,.int .i64 0,.slice none 0 0,.slice none 0 0,.slice none 0 0,.slice none 0 0,.string ByteArray.empty,.int .i64 0,.string ByteArray.empty,.bool false]),11,184):=by kernel_rfl
theorem jd1 (a:Option Addr) (len cap:Nat) (l:List Pd) (w:World) (hr:jz w a len l) (hlow:∀n ∈ l,Yc n) (hlen:len≤1000) :
 Calls Tryz.prog 52 #[.slice a len cap] w fun e w'=>∃v,e=.returned v∧JZ w' v l∧Kept w w':=by
 have hl:=hr.1;have HLOW:=lH hlow;obtain⟨i0,hi,hz0,hz1,hz2'⟩:=info_parts jhV;rcases hr.form with h0 | ⟨b,off,rfl⟩
 · subst h0;have hl0:l=[]:=List.eq_nil_of_length_eq_zero hl;subst hl0;clear hr hl hi hz0 hz1 hz2' hlow;go_enter Tryz.func52,Tryz.ntmps52;go_wp2;refine wp_loop_rounds 1 ?_;rw[rounds_succ];go_wp2;go_ret;exact⟨_,rfl,⟨none,0,rfl,Nat.le_refl _,by decide,rfl,by decide,.inl rfl⟩,Kept.refl _⟩
 · have HR:=lH hr;have HL:=lH hl;clear hr hl hlow;go_enter Tryz.func52,Tryz.ntmps52;go_wp2;go_loopw [3,4] (fun v i wr=>∃k:Nat,k≤len∧i=.int .i64 k∧∃lx:List PX,(lx.map fun z=>z.1)=l.take k∧Own jK 45 wr w.heap.size v lx∧jgo wr v lx∧Below w.heap.size w wr) (fun _ i _=>len-(intOf i).toNat)
   case atStart=>exact⟨0,Nat.zero_le _,rfl,[],rfl,Own.nil _ _ _,(fun z h=>by cases h),Below.refl _ _⟩
   case round =>
    obtain⟨k,hk,rfl,lx,hlx,ho,hv,hB⟩:=hrel;have HX:=lH hlx;have HO:=lH ho;have HV:=lH hv;have HB:=lH hB;have HT:=lH (show lx.length=k by have:=congrArg List.length hlx;rw[List.length_map,List.length_take,HL.out] at this;omega);have HOWN:=lH (show wr.ownsRow w.heap.size 45 11 u3 k (jf jK lx) by have:=HO.out.1;rw[HT.out] at this;exact this);have hbase:w.heap.size≤wr.heap.size:=hB.size;by_cases hlt:k<len
    · obtain⟨n,a1,m1,c1,a2,m2,c2,a3,m3,c3,a4,m4,c4,hn,hd,hb,p0,p1,p2,p3,p4,p5,p6,p7,p8,p9,p10,hat⟩:=(HR.out.kept hB).at_ hlt;have HN:=lH hn;have HOF:=lH (jdO n (.slice a1 m1 c1) (.slice a2 m2 c2) (.slice a3 m3 c3) (.slice a4 m4 c4) wr hat (HLOW.out n (List.mem_of_getElem? hn)));have hk1:(k:Int)<(len:Int):=by omega
      clear hlx ho hv hB hn hd hat;go_wp2_with fail
      refine HOF.out.mono ?_;rintro e w1 ⟨z,rfl,hz,h3,hwi,kk⟩;have HZ:=lH hz;have H3:=lH h3;have HW:=lH hwi;have KK:=lH kk;have hs1:wr.heap.size≤w1.heap.size:=kk.size;have HOW2:=lH (show w1.ownsRow w.heap.size 45 11 u3 k (jf jK lx) by have:=(HO.out.kept kk).1;rw[HT.out] at this;exact this);clear hz h3 hwi kk;go_wp2_with (at_builtin;refine wpList_append_lies _ rfl _ _ _ rfl w.heap.size 45 i0 _ 11 184 Tryz.underlying58 hi hz0 hz1 hz2' rfl (by decide) u3 k (jf jK lx) rfl (HOW2.out.alloc _) ⟨w1.heap.size,0,none⟩ 1 1 (jK.cs z) rfl rfl (World.news_of_block (cs:=#[.string z.1.name,.string z.1.owner,.int .i64 z.1.prio,slV z.2.1,slV z.2.2.1,slV z.2.2.2.1,slV z.2.2.2.2,.string z.1.key,.int .i64 z.1.most,.string z.1.node,.bool z.1.hold]) (t:=45) (fr:=(0,0)) (heap_alloc_new w1 _)) (qP z) (by decide) (by unfold maxLen;omega) (by omega) (by simp;omega) (w1.heap.size+1) (by simp) ?_;intro gg cap1 w2 hown1 hgrow hat hlt1)
      have HFAR:=lH (jfj (n:=k+1) (cap:=cap1) HV.out KK.out H3.out HW.out (fun g h=>(HOWN.out.lt g h).2) hgrow hat);have HBW:=lH ((HB.out.trans ((Below.mono KK.out hbase).trans (Below.mono (ja w1 _) (by omega)))).grown hgrow (by simp;omega) (fun j hj=>(HOWN.out.lt j hj).1));go_wp2;go_roundw
      case rel=>exact⟨k+1,by omega,by go_num,lx++[z],by rw[List.map_append,HX.out,zy HN.out,←HZ.out];rfl,Own.snoc hown1 (by rw[HT.out]) HO.out.2 trivial,HFAR.out,HBW.out⟩
      case measure=>simp[intOf];omega
    · have HK:=lH (show l.take k=l by rw[List.take_of_length_le (by rw[HL.out];omega)]);have HRES:=lH (show JZ wr u3 l by have:=jca HO.out (fun z hz=>(HV.out z hz).1);rw[HX.out,HK.out] at this;exact this);clear hlx ho hv hB;go_wp2;go_ret;exact⟨_,rfl,HRES.out,HB.out⟩
theorem jhk {v:Value} {l:List Pd} {w:World} (h:JZ w v l) (hlow:∀n ∈ l,Yc n) (hlen:l.length≤1000) :
 Calls Tryz.prog 52 #[v] w fun e w'=>∃v,e=.returned v∧JZ w' v l∧Kept w w':=by
 obtain⟨a,cap,rfl,_,_,hr⟩:=h;exact jd1 a _ cap l w hr hlow hlen
def jb7 (w:World):Lay PX:={ m:=11,cs:=jK.cs,fine:=At4 w,len:=fun _=>rfl,one:=jK.one,pos:=by decide }
theorem jb2 {H:Type} {enc:TypeId×Value→H} {w:World} {base fuel:Nat} {sp:Nat→Bool} {held:Bool} {cs:List Value} {x:DataW H×List MemPlace} (h:DataW.trod enc Tryz.prog w base sp held fuel 35 cs=some x) :
 ∃a:PX,cs=(jb7 w).cs a∧(jb7 w).fine a:=by
 obtain⟨n,v1,v2,v3,v4,e,hat⟩:=X9 h;obtain⟨b1,n1,d1,b2,n2,d2,b3,n3,d3,b4,n4,d4,rfl,rfl,rfl,rfl⟩:=hat.spelt;exact⟨(n,(b1,n1,d1),(b2,n2,d2),(b3,n3,d3),(b4,n4,d4)),e,hat⟩
theorem jcb {H:Type} {enc:TypeId×Value→H} {w:World} {base fuel:Nat} {sp:Nat→Bool} {held:Bool} {v:Value} {x:DataW H×List MemPlace} (h:DataW.trod enc Tryz.prog w base sp held fuel 23 [v]=some x):∃l,JZ w v l:=by
 obtain⟨l,a,cap,rfl,h1,h2,h3⟩:=zq (jb7 w) Tryz.underlying23 jdx (fun _ _ _ h=>jb2 h) h;obtain⟨g0,g1,g2,g3⟩:=h3;refine⟨l.map (fun z=>z.1),a,cap,by rw[List.length_map],by rw[List.length_map];exact h1,h2,rfl,by rw[List.length_map];exact g1,?_⟩;rw[List.length_map];rcases g3 with g3 | ⟨b,off,rfl,hb,hc⟩
 · exact .inl g3
 · refine .inr ⟨b,off,rfl,hb,fun i n hi=>?_⟩;rw[List.getElem?_map] at hi;obtain⟨z,hz,rfl⟩:=Option.map_eq_some_iff.1 hi;exact⟨slV z.2.1,slV z.2.2.1,slV z.2.2.2.1,slV z.2.2.2.2,hc i z 0 _ hz rfl,hc i z 1 _ hz rfl,hc i z 2 _ hz rfl,hc i z 3 _ hz rfl,hc i z 4 _ hz rfl,hc i z 5 _ hz rfl,hc i z 6 _ hz rfl,hc i z 7 _ hz rfl,hc i z 8 _ hz rfl,hc i z 9 _ hz rfl,hc i z 10 _ hz rfl,g2 z (List.mem_of_getElem? hz)⟩
structure Bd where
 name:ByteArray
 sel:TL
 floor:Int
def Bd.zero:Bd:=⟨ByteArray.empty,[],0⟩
abbrev Zf (n:Bd) (v1:Value):Value:=.agg #[.string n.name,v1,.int .i64 n.floor]
structure zh (w:World) (v1:Value) (n:Bd):Prop where
 name:n.name.size≤maxLen
 floor:-9223372036854775808≤n.floor∧n.floor≤9223372036854775807
 sel:Reads jL w v1 n.sel
theorem zh.kept {w w':World} {v1:Value} {n:Bd} (h:zh w v1 n) (k:Kept w w'):zh w' v1 n:=⟨h.name,h.floor,h.sel.kept k⟩
def jek (w:World) (v:Value) (n:Bd):Prop:=∃v1,v=Zf n v1∧zh w v1 n
theorem jek.kept {w w':World} {v:Value} {n:Bd} (h:jek w v n) (k:Kept w w'):jek w' v n:=by
 obtain⟨v1,e,h⟩:=h;exact⟨v1,e,h.kept k⟩
def Zn (B:Nat) (w:World) (v:Value) (n:Bd):Prop:=∃b1 n1 d1,v=Zf n (.slice b1 n1 d1)∧zh w (.slice b1 n1 d1) n∧jR B b1
theorem Zn.toR {B:Nat} {w:World} {v:Value} {n:Bd} (h:Zn B w v n):jek w v n:=by
 obtain⟨b1,n1,d1,e,h,-⟩:=h;exact⟨_,e,h⟩
theorem zh.far {B:Nat} {w w':World} {n:Bd} {b1:Option Addr} {n1 d1:Nat} (h:zh w (.slice b1 n1 d1) n) (hs:w'.heap.size=w.heap.size) (hb:∀b,B≤b→w'.heap[b]?=w.heap[b]?) (g1:jR B b1):zh w' (.slice b1 n1 d1) n :=
 ⟨h.name,h.floor,h.sel.far hs (fun b o s e=>hb b (g1 b o s e))⟩
theorem Zn.far {B:Nat} {w w':World} {v:Value} {n:Bd} (h:Zn B w v n) (hs:w'.heap.size=w.heap.size) (hb:∀b,B≤b→w'.heap[b]?=w.heap[b]?):Zn B w' v n:=by
 obtain⟨b1,n1,d1,e,h,g1⟩:=h;exact⟨b1,n1,d1,e,h.far hs hb g1,g1⟩
theorem Zn.less {B B':Nat} {w:World} {v:Value} {n:Bd} (h:Zn B w v n) (hb:B'≤B):Zn B' w v n:=by
 obtain⟨b1,n1,d1,e,h,g1⟩:=h;exact⟨b1,n1,d1,e,h,g1.less hb⟩
theorem Zn.kept {B:Nat} {w w':World} {v:Value} {n:Bd} (h:Zn B w v n) (k:Kept w w'):Zn B w' v n:=by
 obtain⟨b1,n1,d1,e,h,g1⟩:=h;exact⟨b1,n1,d1,e,h.kept k,g1⟩
theorem zh.spelt {w:World} {v1:Value} {n:Bd} (h:zh w v1 n):∃b1 n1 d1,v1=.slice b1 n1 d1:=by
 obtain⟨a,c,e,-⟩:=h.sel;exact⟨_,_,_,e⟩
def Yz (x:ByteArray):Int:=if isName x=true then 0 else 3
def zx (m:Int):Int:=if m<0∨128<m then 1 else 0
def zO (n:Bd):Int:=orL [Yz n.name,JF n.sel,zx n.floor]
theorem jaL (x:ByteArray) (w:World) (hx:x.size≤maxLen) :
 Calls Tryz.prog 146 #[.string x] w fun e w'=>e=.returned (.int .i64 (Yz x))∧w=w':=by
 obtain⟨q,hq⟩:∃q,isName x=q:=⟨_,rfl⟩
 have HV:=lH (show Yz x=if q=true then 0 else 3 by unfold Yz;rw[hq]);have HR:=lH hq;have HX:=lH hx;clear hq hx
 cases q <;>
 (go_enter Tryz.func146,Tryz.ntmps146
  go_wp2_with fail
  refine(Vec.Xj HX.out HR.out).mono ?_;rintro e w' ⟨rfl,rfl⟩;go_wp2;go_ret;exact⟨jb HV.out.symm,rfl⟩)
theorem jaH (m:Int) (w:World) :
 Calls Tryz.prog 147 #[.int .i64 m] w fun e w'=>e=.returned (.int .i64 (zx m))∧w=w':=by
 by_cases z:m<0
 · have HW:=lH (show zx m=1 by unfold zx;rw[if_pos (.inl z)]);go_enter Tryz.func147,Tryz.ntmps147;go_wp2;go_ret;exact⟨jb HW.out.symm,rfl⟩
 · by_cases y:128<m
   · have HW:=lH (show zx m=1 by unfold zx;rw[if_pos (.inr y)]);have z':0≤m:=by omega
     clear z;go_enter Tryz.func147,Tryz.ntmps147;go_wp2;go_ret;exact⟨jb HW.out.symm,rfl⟩
   · have HW:=lH (show zx m=0 by unfold zx;rw[if_neg (by omega)]);have z':0≤m:=by omega
     have y':m≤128:=by omega
     clear z y;go_enter Tryz.func147,Tryz.ntmps147;go_wp2;go_ret;exact⟨jb HW.out.symm,rfl⟩
theorem jc7 (W:World) (x1 x2 x3:Int) (T:TypeId) (i:Nat) (x:Int) (hi:([x1,x2,x3]:List Int)[i]?=some x) :
 (W.alloc (.cells #[.int .i64 x1,.int .i64 x2,.int .i64 x3] T)).cell? ⟨W.heap.size,i,none⟩=some (.int .i64 x):=by
 refine(jc W (.int .i64 x1) [.int .i64 x2,.int .i64 x3] T _ (Kept.refl _)).at_ i _ ?_
 match i,hi with
 | 0,h=>simpa using h
 | 1,h=>simpa using h
 | 2,h=>simpa using h
 | j+3,h=>simp at h
theorem jeH (n:Bd) (v1:Value) (w:World) (h:zh w v1 n) :
 Calls Tryz.prog 108 #[Zf n v1] w (Say (.int .i64 (zO n)) w):=by
 obtain⟨W0,hW0⟩:∃W0,w.alloc (.cells #[.string n.name,v1,.int .i64 n.floor] 149)=W0:=⟨_,rfl⟩
 have hk0:Kept w W0:=by rw[←hW0];exact ja _ _
 have HC:=lH (show ∀W,Kept W0 W→W.cell? ⟨w.heap.size,0,none⟩=some (.string n.name)∧W.cell? ⟨w.heap.size,1,none⟩=some (v1)∧W.cell? ⟨w.heap.size,2,none⟩=some (.int .i64 n.floor) from fun W k=>by
  have c:=jc w (.string n.name) [v1,.int .i64 n.floor] 149 W (by rw[hW0];exact k);exact⟨c.at_ 0 _ rfl,c.at_ 1 _ rfl,c.at_ 2 _ rfl⟩)
 have E1:=lH (fun W=>jaL n.name W h.name);have E5:=lH (fun W (k:Kept W0 W)=>ja2 (h.sel.kept (hk0.trans k)) rfl);have E7:=lH (fun W=>jaH n.floor W);have HK0:=lH hk0;obtain⟨x1,hx1⟩:∃x,Yz n.name=x:=⟨_,rfl⟩
 rw[hx1] at E1;obtain⟨x2,hx2⟩:∃x,JF n.sel=x:=⟨_,rfl⟩
 rw[hx2] at E5;obtain⟨x3,hx3⟩:∃x,zx n.floor=x:=⟨_,rfl⟩
 rw[hx3] at E7;have HV:=lH (show zO n=orL [x1,x2,x3] by unfold zO;rw[hx1,hx2,hx3]);have ORC:=lH (fun W=>jc7 W x1 x2 x3 49);clear hx1 hx2 hx3 h hk0;obtain⟨c0,c1,c2⟩:=HC.out _ (Kept.refl _);unfold Zf;go_enter Tryz.func108,Tryz.ntmps108;go_wp2;try rw[hW0]
 clear hW0;go_region_held3 (fun W=>W.cell? ⟨w.heap.size,0,none⟩=some (.string n.name)∧W.cell? ⟨w.heap.size,1,none⟩=some (v1)∧W.cell? ⟨w.heap.size,2,none⟩=some (.int .i64 n.floor))
  (first | exact HC.out _ (Kept.drew _) | exact HC.out _ K5.out | exact HC.out _ (K5.out.trans (ja _ _)))
  (first | (go_at_call 146;refine(E1.out _).mono ?_;rintro e1 w1 ⟨rfl,rfl⟩)
         | (go_at_call 142;refine(E5.out _ (Kept.drew _)).mono ?_;rintro e5 w5 ⟨rfl,k5⟩;have K5:=lH ((Kept.drew _).trans k5);clear k5)
         | (go_at_call 147;refine(E7.out _).mono ?_;rintro e7 w7 ⟨rfl,rfl⟩)
         | (go_at_call 65;refine(jdK _ 3 [x1,x2,x3] _ rfl (by decide) (ORC.out _)).mono ?_;rintro e9 w9 ⟨rfl,rfl⟩))
 go_wp2;go_ret;exact⟨jb HV.out.symm,HK0.out.trans (K5.out.trans (ja _ _))⟩
def zj (w:World) (a:Option Addr) (len:Nat) (l:List Bd):Prop :=
 l.length=len∧len≤maxLen∧(len=0∨∃b off,a=some ⟨b,off,none⟩∧b<w.heap.size∧∀i n,l[i]?=some n→∃v1,
  w.cell? ⟨b,off+i*3,none⟩=some (.string n.name)∧w.cell? ⟨b,off+i*3+1,none⟩=some (v1)∧w.cell? ⟨b,off+i*3+2,none⟩=some (.int .i64 n.floor)∧zh w v1 n)
theorem zj.kept {w w':World} {a:Option Addr} {len:Nat} {l:List Bd} (h:zj w a len l) (k:Kept w w'):zj w' a len l:=by
 obtain⟨h0,h1,h2⟩:=h;refine⟨h0,h1,h2.imp id ?_⟩;rintro ⟨b,off,rfl,hb,hc⟩;refine⟨b,off,rfl,Nat.lt_of_lt_of_le hb k.size,fun i n hi=>?_⟩;obtain⟨v1,p0,p1,p2,hn⟩:=hc i n hi;exact⟨v1,cell_later k p0,cell_later k p1,cell_later k p2,hn.kept k⟩
theorem zj.form {w:World} {a:Option Addr} {len:Nat} {l:List Bd} (h:zj w a len l):len=0∨∃b off,a=some ⟨b,off,none⟩:=by
 obtain⟨_,_,h2⟩:=h;exact h2.imp id fun ⟨b,off,e,_⟩=>⟨b,off,e⟩
theorem zj.at_ {w:World} {b off len:Nat} {l:List Bd} {k:Nat} (h:zj w (some ⟨b,off,none⟩) len l) (hk:k<len):∃n a1 m1 c1,l[k]?=some n∧l.drop k=n::l.drop (k+1)∧b<w.heap.size ∧
 w.cell? ⟨b,off+k*3,none⟩=some (.string n.name)∧w.cell? ⟨b,off+k*3+1,none⟩=some (.slice a1 m1 c1)∧w.cell? ⟨b,off+k*3+2,none⟩=some (.int .i64 n.floor)∧zh w (.slice a1 m1 c1) n:=by
 obtain⟨h0,_,h3⟩:=h;have hkl:k<l.length:=by omega
 rcases h3 with h3 | ⟨b',off',e,hb,hc⟩
 · omega
 · injection e with e;injection e with e1 e2 e3;subst e1;subst e2;have he:l[k]?=some l[k]:=List.getElem?_eq_getElem hkl;obtain⟨v1,r⟩:=hc k _ he;obtain⟨a1,m1,c1,rfl⟩:=zh.spelt r.2.2.2;exact⟨l[k],a1,m1,c1,he,List.drop_eq_getElem_cons hkl,hb,r⟩
def Ju (w:World) (v:Value) (l:List Bd):Prop:=∃a cap,v=.slice a l.length cap∧l.length≤cap∧cap≤maxLen∧zj w a l.length l
theorem Ju.kept {w w':World} {v:Value} {l:List Bd} (h:Ju w v l) (k:Kept w w'):Ju w' v l:=by
 obtain⟨a,cap,e,h1,h2,h3⟩:=h;exact⟨a,cap,e,h1,h2,h3.kept k⟩
def jfR (c:Int) (n:Bd) (w:World) (e:Ending) (w':World):Prop:=(c=0→∃v,e=.returned v∧Zn w.heap.size w' v n)∧(c≠0→e=.panicked [zb c])∧Kept w w'
theorem jfR.bad {c:Int} {n:Bd} {w w':World} (hc:c≠0) (hb:Kept w w'):jfR c n w (.panicked [zb c]) w':=⟨fun g=>absurd g hc,fun _=>rfl,hb⟩
theorem jef {W:World} {q p:Nat} {c0 c1 c2 u0 u1 u2:Value} (h:(W).cell? ⟨q,0,none⟩=some (c0)∧(W).cell? ⟨q,1,none⟩=some (c1)∧(W).cell? ⟨q,2,none⟩=some (c2)) (hne:q≠p) :
 ((((W.setCell ⟨p,0,none⟩ u0).setCell ⟨p,1,none⟩ u1).setCell ⟨p,2,none⟩ u2)).cell? ⟨q,0,none⟩=some (c0)∧((((W.setCell ⟨p,0,none⟩ u0).setCell ⟨p,1,none⟩ u1).setCell ⟨p,2,none⟩ u2)).cell? ⟨q,1,none⟩=some (c1)∧((((W.setCell ⟨p,0,none⟩ u0).setCell ⟨p,1,none⟩ u1).setCell ⟨p,2,none⟩ u2)).cell? ⟨q,2,none⟩=some (c2):=by
 have e:(W.setCells p 0 [u0,u1,u2]).heap[q]?=W.heap[q]?:=Zl p _ 0 W q hne;have c:∀j,((((W.setCell ⟨p,0,none⟩ u0).setCell ⟨p,1,none⟩ u1).setCell ⟨p,2,none⟩ u2)).cell? ⟨q,j,none⟩=W.cell? ⟨q,j,none⟩:=fun j=>World.cell?_of_block (a:=⟨q,j,none⟩) e;simp only[c];exact h
abbrev BX:=Bd×SX
abbrev jip (z:BX):Value:=Zf z.1 (slV z.2)
def At1 (w:World) (z:BX):Prop:=zh w (slV z.2) z.1
theorem zh.at1 {w:World} {n:Bd} {x1:SX} (h:zh w (slV x1) n):At1 w (n,x1):=h
theorem jhq (n:Bd) (v1:Value) (w:World) (h:zh w v1 n) (hl:n.sel.length≤1000000) :
 Calls Tryz.prog 94 #[Zf n v1] w fun e w'=>∃z:BX,e=.returned (jip z)∧z.1=n∧At1 w' z∧Btw w.heap.size w'.heap.size z.2.1∧Kept w w':=by
 have HH:=lH h;have E3:=lH (fun W (k:Kept w W)=>(jh1 (h.sel.kept k) hl).mono fun _ _=>ZS);obtain⟨⟨x0,l3,m⟩,hnn⟩:∃m,m=n:=⟨n,rfl⟩
 subst hnn;dsimp only at E3;obtain⟨W0,hW0⟩:∃Z,(w.alloc (.cells #[.string x0,v1,.int .i64 m] 149)).alloc (.cells #[.string ⟨#[]⟩,.slice none 0 0,.int .i64 0] 159)=Z:=⟨_,rfl⟩
 have hk0:Kept w W0:=by rw[←hW0];exact jr _ _ _
 have hzs:W0.heap.size=w.heap.size+2:=by rw[←hW0];simp
 have HB:=lH (show ∀W,Kept W0 W→W.cell? ⟨w.heap.size,0,none⟩=some (.string x0)∧W.cell? ⟨w.heap.size,1,none⟩=some (v1)∧W.cell? ⟨w.heap.size,2,none⟩=some (.int .i64 m) from fun W k=>by
  have:=jc w (.string x0) [v1,.int .i64 m] 149 W ((by rw[←hW0];exact ja _ _:Kept (w.alloc (.cells #[.string x0,v1,.int .i64 m] 149)) W0).trans k);exact⟨this.at_ 0 _ rfl,this.at_ 1 _ rfl,this.at_ 2 _ rfl⟩)
 have HQ:=lH (show ∀W,Kept W0 W→jd (w.heap.size+1) [.string ⟨#[]⟩,.slice none 0 0,.int .i64 0] W from fun W k=>by
  have:=jc (w.alloc (.cells #[.string x0,v1,.int .i64 m] 149)) (.string ⟨#[]⟩) [.slice none 0 0,.int .i64 0] 159 W (by rw[hW0];exact k);rw[World.size_alloc] at this;exact this)
 have HZ:=lH hzs;have HK0:=lH hk0;obtain⟨b0,b1,b2⟩:=HB.out _ (Kept.refl _);clear h hl hk0 hzs;unfold Zf;dsimp only;go_enter Tryz.func94,Tryz.ntmps94;go_wp2;try rw[hW0]
 clear hW0;go_region_held3 (fun W=>(W.cell? ⟨w.heap.size,0,none⟩=some (.string x0)∧W.cell? ⟨w.heap.size,1,none⟩=some (v1)∧W.cell? ⟨w.heap.size,2,none⟩=some (.int .i64 m)))
  (first | with_reducible exact HB.out _ K4.out | exact jef (HB.out _ K4.out) (by omega) | exact HB.out _ (Kept.drew _))
  (first | (go_at_call 36;refine(E3.out _ (HK0.out.trans (Kept.drew _))).mono ?_;rintro e1 w4 ⟨b1,n1,d1,rfl,r1,g1,k1⟩;have K4:=lH (Kept.trans (Kept.drew _) k1);have G1:=lH (show Btw (w.heap.size+2) w4.heap.size b1 from fun b o s e=>⟨Nat.le_trans (by rw[←HZ.out];exact Below.size (Kept.drew _)) (g1 b o s e).1,(g1 b o s e).2⟩);have R1:=lH r1;clear k1 r1 g1;have HQ4:=lH (HQ.out _ K4.out);have z0:=HQ4.out.at_ 0 _ rfl;have f0:=HQ4.out.free 0;have z1:=HQ4.out.at_ 1 _ rfl;have f1:=HQ4.out.free 1;have z2:=HQ4.out.at_ 2 _ rfl;have f2:=HQ4.out.free 2))
 have P:=lH (zg (vs:=[.string x0,.slice b1 n1 d1,.int .i64 m]) HQ4.out rfl);go_wp2;obtain⟨WE,hWE⟩:∃W,w4.setCells (w.heap.size+1) 0 [.string x0,.slice b1 n1 d1,.int .i64 m]=W:=⟨_,rfl⟩
 have hWE2:(((w4.setCell ⟨w.heap.size+1,0,none⟩ (.string x0)).setCell ⟨w.heap.size+1,1,none⟩ (.slice b1 n1 d1)).setCell ⟨w.heap.size+1,2,none⟩ (.int .i64 m))=WE:=hWE;rw[hWE] at P;rw[hWE2];clear hWE hWE2;obtain⟨PC,hsz,hbl,hkp⟩:=P.out;refine bodyPost_ret (by simp[results,Tryz.results94,go_sem,PC.at_ 0 _ rfl,PC.at_ 1 _ rfl,PC.at_ 2 _ rfl];try rfl) rfl ?_;refine⟨(⟨x0,l3,m⟩,(b1,n1,d1)),rfl,rfl,zh.at1 (zh.far (B:=w.heap.size+2) (n:=⟨x0,l3,m⟩) ⟨HH.out.name,HH.out.floor,R1.out⟩ hsz (fun b hb=>hbl b (by omega)) G1.out.behind),?_,hkp _ _ (Nat.le_succ _) (HK0.out.trans K4.out)⟩;rw[hsz];exact G1.out.up (by omega) (Nat.le_refl _)
theorem jcJ (x:BX) (u:Value) (h:u ∈ [Value.string x.1.name,slV x.2,.int .i64 x.1.floor]):u.oneCell'=true:=by
 simp only[List.mem_cons,List.not_mem_nil,or_false] at h;rcases h with rfl | rfl | rfl<;>rfl
def j9:Lay BX:={ m:=3,cs:=fun x=>[.string x.1.name,slV x.2,.int .i64 x.1.floor],fine:=fun _=>True,len:=fun _=>rfl,one:=jcJ,pos:=by decide }
def jgZ (w:World) (v:Value) (l:List BX):Prop:=∀z ∈ l,At1 w z∧Btw 0 w.heap.size z.2.1∧JJ v z.2.1
theorem je5 {wr w1 w2:World} {o:Obj} {v:Value} {l:List BX} {z0:BX} {gg n cap:Nat} (hv:jgZ wr v l) (k:Kept wr w1) (hz:At1 w1 z0) (hw:Btw wr.heap.size w1.heap.size z0.2.1) (hown:∀g,v.ownBlock=some g→g<wr.heap.size)
 (hgrow:(w1.alloc o).grownBy w2 v.ownBlock) (hat:v.ownBlock=some gg∨gg=w1.heap.size+1):jgZ w2 (.slice (some ⟨gg,0,none⟩) n cap) (l++[z0]):=by
 have hs:=hgrow.size;rw[World.size_alloc] at hs;have hk:=k.size;have key:∀z,At1 w1 z→Btw 0 w1.heap.size z.2.1→JJ v z.2.1→At1 w2 z∧Btw 0 w2.heap.size z.2.1∧JJ (.slice (some ⟨gg,0,none⟩) n cap) z.2.1:=by
  intro z h3 hwz f1;have ne:∀b,b<w1.heap.size→v.ownBlock≠some b→(Value.slice (some ⟨gg,0,none⟩) n cap).ownBlock≠some b:=by
   intro b hb hne e;have e:some gg=some b:=e;rcases hat with hat | hat
   · exact hne (hat.trans e)
   · have:gg=b:=Option.some.inj e;omega
  have h3':=zh.kept h3 (ja w1 o);exact⟨⟨h3'.name,h3'.floor,h3'.sel.grown hgrow (fun b off sp e=>Ne.symm (f1 b off sp e))⟩,hwz.up (Nat.le_refl _) (by omega),fun b off sp e=>ne b (hwz b off sp e).2 (f1 b off sp e)⟩
 intro z hzm;rcases List.mem_append.1 hzm with hzm | hzm
 · obtain⟨h0,h1,h2⟩:=hv z hzm;exact key z (zh.kept h0 k) (h1.up (Nat.le_refl _) hk) h2
 · obtain rfl:z=z0:=by simpa using hzm
   exact key z hz (hw.up (Nat.zero_le _) (Nat.le_refl _)) (fun b off sp e f=>by have:=(hw b off sp e).1;have:=hown b f;omega)
theorem jbX {w:World} {T:TypeId} {B:Nat} {v:Value} {lx:List BX} (ho:Own j9 T w B v lx) (hf:∀z ∈ lx,At1 w z):Ju w v (lx.map fun z=>z.1):=by
 obtain⟨a,cap,rfl,h1,h2,h3⟩:=ho.at_;obtain⟨g0,g1,g2,g3⟩:=h3;refine⟨a,cap,by rw[List.length_map],by rw[List.length_map];exact h1,h2,rfl,by rw[List.length_map];exact g1,?_⟩;rw[List.length_map];rcases g3 with g3 | ⟨b,off,rfl,hb,hc⟩
 · exact .inl g3
 · refine .inr ⟨b,off,rfl,hb,fun i n hi=>?_⟩;rw[List.getElem?_map] at hi;obtain⟨z,hz,rfl⟩:=Option.map_eq_some_iff.1 hi;exact⟨slV z.2,hc i z 0 _ hz rfl,hc i z 1 _ hz rfl,hc i z 2 _ hz rfl,hf z (List.mem_of_getElem? hz)⟩
theorem jhP:(Tryz.prog.info? 159).map (fun i=>(i.zero,i.size,i.bytes))=some (some (.agg #[.string ByteArray.empty,.slice none 0 0,.int .i64 0]),3,48):=by kernel_rfl
theorem jeG (a:Option Addr) (len cap:Nat) (l:List Bd) (w:World) (hr:zj w a len l) (hlow:∀n ∈ l,n.sel.length≤1000000) (hlen:len≤1000) :
 Calls Tryz.prog 53 #[.slice a len cap] w fun e w'=>∃v,e=.returned v∧Ju w' v l∧Kept w w':=by
 have hl:=hr.1;have HLOW:=lH hlow;obtain⟨i0,hi,hz0,hz1,hz2'⟩:=info_parts jhP;rcases hr.form with h0 | ⟨b,off,rfl⟩
 · subst h0;have hl0:l=[]:=List.eq_nil_of_length_eq_zero hl;subst hl0;clear hr hl hi hz0 hz1 hz2' hlow;go_enter Tryz.func53,Tryz.ntmps53;go_wp2;refine wp_loop_rounds 1 ?_;rw[rounds_succ];go_wp2;go_ret;exact⟨_,rfl,⟨none,0,rfl,Nat.le_refl _,by decide,rfl,by decide,.inl rfl⟩,Kept.refl _⟩
 · have HR:=lH hr;have HL:=lH hl;clear hr hl hlow;go_enter Tryz.func53,Tryz.ntmps53;go_wp2;go_loopw [3,4] (fun v i wr=>∃k:Nat,k≤len∧i=.int .i64 k∧∃lx:List BX,(lx.map fun z=>z.1)=l.take k∧Own j9 159 wr w.heap.size v lx∧jgZ wr v lx∧Below w.heap.size w wr) (fun _ i _=>len-(intOf i).toNat)
   case atStart=>exact⟨0,Nat.zero_le _,rfl,[],rfl,Own.nil _ _ _,(fun z h=>by cases h),Below.refl _ _⟩
   case round =>
    obtain⟨k,hk,rfl,lx,hlx,ho,hv,hB⟩:=hrel;have HX:=lH hlx;have HO:=lH ho;have HV:=lH hv;have HB:=lH hB;have HT:=lH (show lx.length=k by have:=congrArg List.length hlx;rw[List.length_map,List.length_take,HL.out] at this;omega);have HOWN:=lH (show wr.ownsRow w.heap.size 159 3 u3 k (jf j9 lx) by have:=HO.out.1;rw[HT.out] at this;exact this);have hbase:w.heap.size≤wr.heap.size:=hB.size;by_cases hlt:k<len
    · obtain⟨n,a1,m1,c1,hn,hd,hb,p0,p1,p2,hat⟩:=(HR.out.kept hB).at_ hlt;have HN:=lH hn;have HOF:=lH (jhq n (.slice a1 m1 c1) wr hat (HLOW.out n (List.mem_of_getElem? hn)));have hk1:(k:Int)<(len:Int):=by omega
      clear hlx ho hv hB hn hd hat;go_wp2_with fail
      refine HOF.out.mono ?_;rintro e w1 ⟨z,rfl,hz,h3,hwi,kk⟩;have HZ:=lH hz;have H3:=lH h3;have HW:=lH hwi;have KK:=lH kk;have hs1:wr.heap.size≤w1.heap.size:=kk.size;have HOW2:=lH (show w1.ownsRow w.heap.size 159 3 u3 k (jf j9 lx) by have:=(HO.out.kept kk).1;rw[HT.out] at this;exact this);clear hz h3 hwi kk;go_wp2_with (at_builtin;refine wpList_append_lies _ rfl _ _ _ rfl w.heap.size 159 i0 _ 3 48 Tryz.underlying59 hi hz0 hz1 hz2' rfl (by decide) u3 k (jf j9 lx) rfl (HOW2.out.alloc _) ⟨w1.heap.size,0,none⟩ 1 1 (j9.cs z) rfl rfl (World.news_of_block (cs:=#[.string z.1.name,slV z.2,.int .i64 z.1.floor]) (t:=159) (fr:=(0,0)) (heap_alloc_new w1 _)) (jcJ z) (by decide) (by unfold maxLen;omega) (by omega) (by simp;omega) (w1.heap.size+1) (by simp) ?_;intro gg cap1 w2 hown1 hgrow hat hlt1)
      have HFAR:=lH (je5 (n:=k+1) (cap:=cap1) HV.out KK.out H3.out HW.out (fun g h=>(HOWN.out.lt g h).2) hgrow hat);have HBW:=lH ((HB.out.trans ((Below.mono KK.out hbase).trans (Below.mono (ja w1 _) (by omega)))).grown hgrow (by simp;omega) (fun j hj=>(HOWN.out.lt j hj).1));go_wp2;go_roundw
      case rel=>exact⟨k+1,by omega,by go_num,lx++[z],by rw[List.map_append,HX.out,zy HN.out,←HZ.out];rfl,Own.snoc hown1 (by rw[HT.out]) HO.out.2 trivial,HFAR.out,HBW.out⟩
      case measure=>simp[intOf];omega
    · have HK:=lH (show l.take k=l by rw[List.take_of_length_le (by rw[HL.out];omega)]);have HRES:=lH (show Ju wr u3 l by have:=jbX HO.out (fun z hz=>(HV.out z hz).1);rw[HX.out,HK.out] at this;exact this);clear hlx ho hv hB;go_wp2;go_ret;exact⟨_,rfl,HRES.out,HB.out⟩
theorem jhA {v:Value} {l:List Bd} {w:World} (h:Ju w v l) (hlow:∀n ∈ l,n.sel.length≤1000000) (hlen:l.length≤1000) :
 Calls Tryz.prog 53 #[v] w fun e w'=>∃v,e=.returned v∧Ju w' v l∧Kept w w':=by
 obtain⟨a,cap,rfl,_,_,hr⟩:=h;exact jeG a _ cap l w hr hlow hlen
def jck (w:World):Lay BX:={ m:=3,cs:=j9.cs,fine:=At1 w,len:=fun _=>rfl,one:=j9.one,pos:=by decide }
theorem jdT:Tryz.prog.cellsOf 149=3:=by kernel_rfl
theorem jbY {H:Type} {enc:TypeId×Value→H} {w:World} {base fuel:Nat} {sp:Nat→Bool} {held:Bool} {cs:List Value} {x:DataW H×List MemPlace} (h:DataW.trod enc Tryz.prog w base sp held fuel 149 cs=some x) :
 ∃a:BX,cs=(jck w).cs a∧(jck w).fine a:=by
 obtain⟨ys,m,-,-,hlen,hyl,hf⟩:=DataW.trod_struct Tryz.underlying149 h;rw[jdT] at hlen
 match cs,hlen with
 | [c0,c1,c2],_ =>
  have h0:DataW.trod enc Tryz.prog w base sp held m 9 (([c0,c1,c2].drop 0).take (Tryz.prog.cellsOf 9))=ys[0]?:=hf 0 _ rfl;have h1:DataW.trod enc Tryz.prog w base sp held m 32 (([c0,c1,c2].drop 1).take (Tryz.prog.cellsOf 32))=ys[1]?:=hf 1 _ rfl;have h2:DataW.trod enc Tryz.prog w base sp held m 3 (([c0,c1,c2].drop 2).take (Tryz.prog.cellsOf 3))=ys[2]?:=hf 2 _ rfl;rw[JT] at h0;rw[jdF] at h1;rw[Y6] at h2;obtain⟨y0,e0⟩:∃y,ys[0]?=some y:=⟨_,List.getElem?_eq_getElem (by rw[hyl];decide)⟩
  rw[e0] at h0;obtain⟨y1,e1⟩:∃y,ys[1]?=some y:=⟨_,List.getElem?_eq_getElem (by rw[hyl];decide)⟩
  rw[e1] at h1;obtain⟨y2,e2⟩:∃y,ys[2]?=some y:=⟨_,List.getElem?_eq_getElem (by rw[hyl];decide)⟩
  rw[e2] at h2;simp only[List.drop_zero,List.take_succ_cons,List.take_zero,List.drop_succ_cons] at h0 h1 h2;obtain⟨s0,q0,-,z0⟩:=DataW.trod_string Tryz.underlying9 h0;obtain⟨l3,r5⟩:=qt h1;obtain⟨s2,q2,-,z2⟩:=DataW.trod_int Tryz.underlying3 h2;have r5':=r5;obtain⟨a1,d1,rfl,-⟩:=r5';simp only[List.cons.injEq,and_true] at q0 q2;subst q0;subst q2;exact⟨(⟨s0,l3,s2⟩,(a1,l3.length,d1)),rfl,⟨z0,bounds_i64 z2,r5⟩⟩
theorem jcd {H:Type} {enc:TypeId×Value→H} {w:World} {base fuel:Nat} {sp:Nat→Bool} {held:Bool} {v:Value} {x:DataW H×List MemPlace} (h:DataW.trod enc Tryz.prog w base sp held fuel 24 [v]=some x):∃l,Ju w v l:=by
 obtain⟨l,a,cap,rfl,h1,h2,h3⟩:=zq (jck w) Tryz.underlying24 jdT (fun _ _ _ h=>jbY h) h;obtain⟨g0,g1,g2,g3⟩:=h3;refine⟨l.map (fun z=>z.1),a,cap,by rw[List.length_map],by rw[List.length_map];exact h1,h2,rfl,by rw[List.length_map];exact g1,?_⟩;rw[List.length_map];rcases g3 with g3 | ⟨b,off,rfl,hb,hc⟩
 · exact .inl g3
 · refine .inr ⟨b,off,rfl,hb,fun i n hi=>?_⟩;rw[List.getElem?_map] at hi;obtain⟨z,hz,rfl⟩:=Option.map_eq_some_iff.1 hi;exact⟨slV z.2,hc i z 0 _ hz rfl,hc i z 1 _ hz rfl,hc i z 2 _ hz rfl,g2 z (List.mem_of_getElem? hz)⟩
theorem qq (n:Pd) (v1 v2 v3 v4:Value) (w:World):Calls Tryz.prog 104 #[jE n v1 v2 v3 v4] w fun e w'=>e=.returned (.string n.name)∧Kept w w':=by
 unfold jE;go_enter Tryz.func104,Tryz.ntmps104;go_wp2;go_ret;exact⟨rfl,ja _ _⟩
def Jq (l:List Pd) (x:ByteArray):Option Pd:=l.find? fun n=>eqS n.name x
def jP:Option ByteArray→List Pd→Int
 | _,[]=>0
 | prev,n::t=>if j8 n≠0 then j8 n else if Vec.jF prev n.name=true then 13 else jP (some n.name) t
def jw (l:List Pd):Int:=if 128<l.length then 4 else jP none l
def JS (l:List Pd) (k:Nat):Option ByteArray:=if k=0 then none else (l[k-1]?).map Pd.name
theorem qw {l:List Pd} {k:Nat} (h:k=0) (s:ByteArray):Vec.jF (JS l k) s=false:=by unfold JS;rw[if_pos h];rfl
theorem qd {l:List Pd} {k:Nat} {n:Pd} (h:¬k=0) (hn:l[k-1]?=some n) (s:ByteArray):Vec.jF (JS l k) s=leS s n.name:=by unfold JS;rw[if_neg h,hn];rfl
theorem qg {l:List Pd} {k:Nat} {n:Pd} (hn:l[k]?=some n):JS l (k+1)=some n.name:=by unfold JS;rw[if_neg (by omega),Nat.add_sub_cancel,hn];rfl
theorem Xi {p:Option ByteArray} {n:Pd} {t:List Pd} (h:j8 n≠0):jP p (n::t)=j8 n:=by rw[jP,if_pos h]
theorem Yr {p:Option ByteArray} {n:Pd} {t:List Pd} (h:j8 n=0) (b:Vec.jF p n.name=true):jP p (n::t)=13:=by rw[jP,if_neg (by rw[h];decide),if_pos b]
theorem Zh {p:Option ByteArray} {n:Pd} {t:List Pd} (h:j8 n=0) (b:Vec.jF p n.name=false):jP p (n::t)=jP (some n.name) t:=by rw[jP,if_neg (by rw[h];decide),if_neg (by rw[b];decide)]
theorem jaD (a:Option Addr) (len cap:Nat) (l:List Pd) (w:World) (hr:jz w a len l) :
 Calls Tryz.prog 103 #[.slice a len cap,.int .i64 128,.func (.func 104) #[] #[],.func (.func 105) #[] #[]] w (Say (.int .i64 (jw l)) w):=by
 have hl:=hr.1;have hm:=hr.2.1;unfold maxLen at hm;by_cases h32:128<len
 · have HV:=lH (show jw l=4 by unfold jw;rw[if_pos (by omega)]);clear hr hl;go_enter Tryz.func103,Tryz.ntmps103;go_wp2;go_ret;exact⟨jb HV.out.symm,Kept.refl _⟩
 · have HV:=lH (show jw l=jP none l by unfold jw;rw[if_neg (by omega)]);have h32':len≤128:=by omega
   by_cases h0:len=0
   · subst h0;have HE:=lH (show jw l=0 by rw[HV.out,List.eq_nil_of_length_eq_zero hl];rfl);clear hr hl h32;go_enter Tryz.func103,Tryz.ntmps103;go_wp2;refine wp_loop_rounds 1 ?_;rw[rounds_succ];go_wp2;go_ret;exact⟨jb HE.out.symm,Kept.refl _⟩
   · obtain⟨b,off,rfl⟩:=hr.form.resolve_left h0;have HR:=lH hr;have HL:=lH hl;clear hr hl h0 h32;go_enter Tryz.func103,Tryz.ntmps103;go_wp2;go_loopw [18] (fun i wr=>∃k:Nat,k≤len∧i=.int .i64 k∧jP (JS l k) (l.drop k)=jP none l∧Kept w wr) (fun i _=>len-(intOf i).toNat)
     case atStart=>exact⟨0,Nat.zero_le _,rfl,rfl,Kept.refl _⟩
     case round =>
      obtain⟨k,hk,rfl,hrest,hK⟩:=hrel;have HS:=lH (HV.out.trans hrest.symm);have HT:=lH hrest;have HK:=lH hK;by_cases hlt:k<len
      · obtain⟨n,a1,m1,c1,a2,m2,c2,a3,m3,c3,a4,m4,c4,hn,hd,hb,p0,p1,p2,p3,p4,p5,p6,p7,p8,p9,p10,hat⟩:=(HR.out.kept hK).at_ hlt;have HAT:=lH hat;have HD:=lH hd;have HNX:=lH (qg hn);have HCK:=lH (fun W (kk:Kept wr W)=>jdZ n (.slice a1 m1 c1) (.slice a2 m2 c2) (.slice a3 m3 c3) (.slice a4 m4 c4) W (HAT.out.kept kk));have HNA:=lH (fun W=>qq n (.slice a1 m1 c1) (.slice a2 m2 c2) (.slice a3 m3 c3) (.slice a4 m4 c4) W);unfold jE at HCK HNA;obtain⟨ck,hck⟩:∃x,j8 n=x:=⟨_,rfl⟩
        have HCN:=lH hck;rw[hck] at HCK;have hkk:(k:Int)<(len:Int):=by omega
        clear hrest hK hat hd hck;by_cases z1:ck=0
        · subst z1;by_cases h0:k=0
          · have hd0:decide (0<k)=false:=by subst h0;decide
            have HP:=lH (qw (l:=l) h0 n.name);clear h0;go_wp2_with fail
            refine(HCK.out _ (ja _ _)).mono ?_;rintro e w1 ⟨rfl,kk⟩;have KW:=lH (Kept.trans (ja _ _) kk);have HBX:=lH (fun W k=>jc wr (.string n.name) [.string n.owner,.int .i64 n.prio,.slice a1 m1 c1,.slice a2 m2 c2,.slice a3 m3 c3,.slice a4 m4 c4,.string n.key,.int .i64 n.most,.string n.node,.bool n.hold] 35 W (Kept.trans kk k));have y0:=(HBX.out w1 (Kept.refl _)).at_ 0 _ rfl;have y1:=(HBX.out w1 (Kept.refl _)).at_ 1 _ rfl;have y2:=(HBX.out w1 (Kept.refl _)).at_ 2 _ rfl;have y3:=(HBX.out w1 (Kept.refl _)).at_ 3 _ rfl;have y4:=(HBX.out w1 (Kept.refl _)).at_ 4 _ rfl;have y5:=(HBX.out w1 (Kept.refl _)).at_ 5 _ rfl;have y6:=(HBX.out w1 (Kept.refl _)).at_ 6 _ rfl;have y7:=(HBX.out w1 (Kept.refl _)).at_ 7 _ rfl;have y8:=(HBX.out w1 (Kept.refl _)).at_ 8 _ rfl;have y9:=(HBX.out w1 (Kept.refl _)).at_ 9 _ rfl;have y10:=(HBX.out w1 (Kept.refl _)).at_ 10 _ rfl;clear kk;go_wp2;go_quiet (fail)
            go_wp2;go_roundw
            case rel=>exact⟨k+1,by omega,by go_num,(show jP (JS l (k+1)) (l.drop (k+1))=jP none l by rw[←HT.out,HD.out,Zh HCN.out HP.out,HNX.out]),HK.out.trans (KW.out.trans (Kept.drewN _ _))⟩
            case measure=>simp[intOf];omega
          · have hd0:decide (0<k)=true:=by simp;omega
            obtain⟨q,hqk⟩:∃q,k=q+1:=⟨k-1,by omega⟩
            have g1:(k:Int)-1=(q:Int):=by omega
            have gw:IntKind.i64.wrap (q:Int)=(q:Int):=by rw[IntKind.wrap_i64];omega
            have g2:(q:Int)<(len:Int):=by omega
            obtain⟨n9,b1,h1,d1,b2,h2,d2,b3,h3,d3,b4,h4,d4,hn9,-,hb9,q0,q1,q2,q3,q4,q5,q6,q7,q8,q9,q10,-⟩:=(HR.out.kept HK.out).at_ (show q<len by omega);have HQK:=lH hqk;have hqk1:k-1=q:=by omega
            have HP:=lH (qd (l:=l) h0 (show l[k-1]?=some n9 by rw[hqk1];exact hn9) n.name);clear hqk hqk1;have HNB:=lH (fun W=>qq n9 (.slice b1 h1 d1) (.slice b2 h2 d2) (.slice b3 h3 d3) (.slice b4 h4 d4) W);unfold jE at HNB;clear h0 hn9;by_cases n3:leS n.name n9.name=true
            · have n3':(Op.bytesLess n.name.toList n9.name.toList||n.name.toList==n9.name.toList)=true:=n3;have N3:=lH n3;clear n3;go_wp2_with fail
              refine(HCK.out _ (ja _ _)).mono ?_;rintro e w1 ⟨rfl,kk⟩;have KW:=lH (Kept.trans (ja _ _) kk);have HBX:=lH (fun W k=>jc wr (.string n.name) [.string n.owner,.int .i64 n.prio,.slice a1 m1 c1,.slice a2 m2 c2,.slice a3 m3 c3,.slice a4 m4 c4,.string n.key,.int .i64 n.most,.string n.node,.bool n.hold] 35 W (Kept.trans kk k));have y0:=(HBX.out w1 (Kept.refl _)).at_ 0 _ rfl;have y1:=(HBX.out w1 (Kept.refl _)).at_ 1 _ rfl;have y2:=(HBX.out w1 (Kept.refl _)).at_ 2 _ rfl;have y3:=(HBX.out w1 (Kept.refl _)).at_ 3 _ rfl;have y4:=(HBX.out w1 (Kept.refl _)).at_ 4 _ rfl;have y5:=(HBX.out w1 (Kept.refl _)).at_ 5 _ rfl;have y6:=(HBX.out w1 (Kept.refl _)).at_ 6 _ rfl;have y7:=(HBX.out w1 (Kept.refl _)).at_ 7 _ rfl;have y8:=(HBX.out w1 (Kept.refl _)).at_ 8 _ rfl;have y9:=(HBX.out w1 (Kept.refl _)).at_ 9 _ rfl;have y10:=(HBX.out w1 (Kept.refl _)).at_ 10 _ rfl;have HO:=lH (show ∀W,Kept w1 W→(W.cell? ⟨wr.heap.size,0,none⟩=some (.string n.name)∧W.cell? ⟨wr.heap.size,1,none⟩=some (.string n.owner)∧W.cell? ⟨wr.heap.size,2,none⟩=some (.int .i64 n.prio)∧W.cell? ⟨wr.heap.size,3,none⟩=some (.slice a1 m1 c1)∧W.cell? ⟨wr.heap.size,4,none⟩=some (.slice a2 m2 c2)∧W.cell? ⟨wr.heap.size,5,none⟩=some (.slice a3 m3 c3)∧W.cell? ⟨wr.heap.size,6,none⟩=some (.slice a4 m4 c4)∧W.cell? ⟨wr.heap.size,7,none⟩=some (.string n.key)∧W.cell? ⟨wr.heap.size,8,none⟩=some (.int .i64 n.most)∧W.cell? ⟨wr.heap.size,9,none⟩=some (.string n.node)∧W.cell? ⟨wr.heap.size,10,none⟩=some (.bool n.hold))∧(W.cell? ⟨b,off+q*11,none⟩=some (.string n9.name)∧W.cell? ⟨b,off+q*11+1,none⟩=some (.string n9.owner)∧W.cell? ⟨b,off+q*11+2,none⟩=some (.int .i64 n9.prio)∧W.cell? ⟨b,off+q*11+3,none⟩=some (.slice b1 h1 d1)∧W.cell? ⟨b,off+q*11+4,none⟩=some (.slice b2 h2 d2)∧W.cell? ⟨b,off+q*11+5,none⟩=some (.slice b3 h3 d3)∧W.cell? ⟨b,off+q*11+6,none⟩=some (.slice b4 h4 d4)∧W.cell? ⟨b,off+q*11+7,none⟩=some (.string n9.key)∧W.cell? ⟨b,off+q*11+8,none⟩=some (.int .i64 n9.most)∧W.cell? ⟨b,off+q*11+9,none⟩=some (.string n9.node)∧W.cell? ⟨b,off+q*11+10,none⟩=some (.bool n9.hold)) from fun W k=>⟨⟨(HBX.out W k).at_ 0 _ rfl,(HBX.out W k).at_ 1 _ rfl,(HBX.out W k).at_ 2 _ rfl,(HBX.out W k).at_ 3 _ rfl,(HBX.out W k).at_ 4 _ rfl,(HBX.out W k).at_ 5 _ rfl,(HBX.out W k).at_ 6 _ rfl,(HBX.out W k).at_ 7 _ rfl,(HBX.out W k).at_ 8 _ rfl,(HBX.out W k).at_ 9 _ rfl,(HBX.out W k).at_ 10 _ rfl⟩,⟨cell_later (KW.out.trans k) q0,cell_later (KW.out.trans k) q1,cell_later (KW.out.trans k) q2,cell_later (KW.out.trans k) q3,cell_later (KW.out.trans k) q4,cell_later (KW.out.trans k) q5,cell_later (KW.out.trans k) q6,cell_later (KW.out.trans k) q7,cell_later (KW.out.trans k) q8,cell_later (KW.out.trans k) q9,cell_later (KW.out.trans k) q10⟩⟩);clear kk q0 q1 q2 q3 q4 q5 q6 q7 q8 q9 q10;go_wp2;go_region_held3 (fun W=>(W.cell? ⟨wr.heap.size,0,none⟩=some (.string n.name)∧W.cell? ⟨wr.heap.size,1,none⟩=some (.string n.owner)∧W.cell? ⟨wr.heap.size,2,none⟩=some (.int .i64 n.prio)∧W.cell? ⟨wr.heap.size,3,none⟩=some (.slice a1 m1 c1)∧W.cell? ⟨wr.heap.size,4,none⟩=some (.slice a2 m2 c2)∧W.cell? ⟨wr.heap.size,5,none⟩=some (.slice a3 m3 c3)∧W.cell? ⟨wr.heap.size,6,none⟩=some (.slice a4 m4 c4)∧W.cell? ⟨wr.heap.size,7,none⟩=some (.string n.key)∧W.cell? ⟨wr.heap.size,8,none⟩=some (.int .i64 n.most)∧W.cell? ⟨wr.heap.size,9,none⟩=some (.string n.node)∧W.cell? ⟨wr.heap.size,10,none⟩=some (.bool n.hold))∧(W.cell? ⟨b,off+q*11,none⟩=some (.string n9.name)∧W.cell? ⟨b,off+q*11+1,none⟩=some (.string n9.owner)∧W.cell? ⟨b,off+q*11+2,none⟩=some (.int .i64 n9.prio)∧W.cell? ⟨b,off+q*11+3,none⟩=some (.slice b1 h1 d1)∧W.cell? ⟨b,off+q*11+4,none⟩=some (.slice b2 h2 d2)∧W.cell? ⟨b,off+q*11+5,none⟩=some (.slice b3 h3 d3)∧W.cell? ⟨b,off+q*11+6,none⟩=some (.slice b4 h4 d4)∧W.cell? ⟨b,off+q*11+7,none⟩=some (.string n9.key)∧W.cell? ⟨b,off+q*11+8,none⟩=some (.int .i64 n9.most)∧W.cell? ⟨b,off+q*11+9,none⟩=some (.string n9.node)∧W.cell? ⟨b,off+q*11+10,none⟩=some (.bool n9.hold)))
               (first | exact HO.out _ (Kept.drew _) | exact HO.out _ J1.out | exact HO.out _ J2.out)
               (first | (go_at_call 104;refine(HNA.out _).mono ?_;rintro e1 w2 ⟨rfl,k1⟩;have J1:=lH ((Kept.drew _).trans k1);clear k1)
                      | (go_at_call 104;refine(HNB.out _).mono ?_;rintro e2 w3 ⟨rfl,k1⟩;have J2:=lH (J1.out.trans k1);clear k1))
              go_wp2;go_ret;exact⟨jb (show (13:Int)=jw l by rw[HS.out,HD.out,Yr HCN.out (HP.out.trans N3.out)]),HK.out.trans (KW.out.trans J2.out)⟩
            · have n3:leS n.name n9.name=false:=by simpa using n3
              have n3':(Op.bytesLess n.name.toList n9.name.toList||n.name.toList==n9.name.toList)=false:=n3;have N3:=lH n3;clear n3;go_wp2_with fail
              refine(HCK.out _ (ja _ _)).mono ?_;rintro e w1 ⟨rfl,kk⟩;have KW:=lH (Kept.trans (ja _ _) kk);have HBX:=lH (fun W k=>jc wr (.string n.name) [.string n.owner,.int .i64 n.prio,.slice a1 m1 c1,.slice a2 m2 c2,.slice a3 m3 c3,.slice a4 m4 c4,.string n.key,.int .i64 n.most,.string n.node,.bool n.hold] 35 W (Kept.trans kk k));have y0:=(HBX.out w1 (Kept.refl _)).at_ 0 _ rfl;have y1:=(HBX.out w1 (Kept.refl _)).at_ 1 _ rfl;have y2:=(HBX.out w1 (Kept.refl _)).at_ 2 _ rfl;have y3:=(HBX.out w1 (Kept.refl _)).at_ 3 _ rfl;have y4:=(HBX.out w1 (Kept.refl _)).at_ 4 _ rfl;have y5:=(HBX.out w1 (Kept.refl _)).at_ 5 _ rfl;have y6:=(HBX.out w1 (Kept.refl _)).at_ 6 _ rfl;have y7:=(HBX.out w1 (Kept.refl _)).at_ 7 _ rfl;have y8:=(HBX.out w1 (Kept.refl _)).at_ 8 _ rfl;have y9:=(HBX.out w1 (Kept.refl _)).at_ 9 _ rfl;have y10:=(HBX.out w1 (Kept.refl _)).at_ 10 _ rfl;have HO:=lH (show ∀W,Kept w1 W→(W.cell? ⟨wr.heap.size,0,none⟩=some (.string n.name)∧W.cell? ⟨wr.heap.size,1,none⟩=some (.string n.owner)∧W.cell? ⟨wr.heap.size,2,none⟩=some (.int .i64 n.prio)∧W.cell? ⟨wr.heap.size,3,none⟩=some (.slice a1 m1 c1)∧W.cell? ⟨wr.heap.size,4,none⟩=some (.slice a2 m2 c2)∧W.cell? ⟨wr.heap.size,5,none⟩=some (.slice a3 m3 c3)∧W.cell? ⟨wr.heap.size,6,none⟩=some (.slice a4 m4 c4)∧W.cell? ⟨wr.heap.size,7,none⟩=some (.string n.key)∧W.cell? ⟨wr.heap.size,8,none⟩=some (.int .i64 n.most)∧W.cell? ⟨wr.heap.size,9,none⟩=some (.string n.node)∧W.cell? ⟨wr.heap.size,10,none⟩=some (.bool n.hold))∧(W.cell? ⟨b,off+q*11,none⟩=some (.string n9.name)∧W.cell? ⟨b,off+q*11+1,none⟩=some (.string n9.owner)∧W.cell? ⟨b,off+q*11+2,none⟩=some (.int .i64 n9.prio)∧W.cell? ⟨b,off+q*11+3,none⟩=some (.slice b1 h1 d1)∧W.cell? ⟨b,off+q*11+4,none⟩=some (.slice b2 h2 d2)∧W.cell? ⟨b,off+q*11+5,none⟩=some (.slice b3 h3 d3)∧W.cell? ⟨b,off+q*11+6,none⟩=some (.slice b4 h4 d4)∧W.cell? ⟨b,off+q*11+7,none⟩=some (.string n9.key)∧W.cell? ⟨b,off+q*11+8,none⟩=some (.int .i64 n9.most)∧W.cell? ⟨b,off+q*11+9,none⟩=some (.string n9.node)∧W.cell? ⟨b,off+q*11+10,none⟩=some (.bool n9.hold)) from fun W k=>⟨⟨(HBX.out W k).at_ 0 _ rfl,(HBX.out W k).at_ 1 _ rfl,(HBX.out W k).at_ 2 _ rfl,(HBX.out W k).at_ 3 _ rfl,(HBX.out W k).at_ 4 _ rfl,(HBX.out W k).at_ 5 _ rfl,(HBX.out W k).at_ 6 _ rfl,(HBX.out W k).at_ 7 _ rfl,(HBX.out W k).at_ 8 _ rfl,(HBX.out W k).at_ 9 _ rfl,(HBX.out W k).at_ 10 _ rfl⟩,⟨cell_later (KW.out.trans k) q0,cell_later (KW.out.trans k) q1,cell_later (KW.out.trans k) q2,cell_later (KW.out.trans k) q3,cell_later (KW.out.trans k) q4,cell_later (KW.out.trans k) q5,cell_later (KW.out.trans k) q6,cell_later (KW.out.trans k) q7,cell_later (KW.out.trans k) q8,cell_later (KW.out.trans k) q9,cell_later (KW.out.trans k) q10⟩⟩);clear kk q0 q1 q2 q3 q4 q5 q6 q7 q8 q9 q10;go_wp2;go_region_held3 (fun W=>(W.cell? ⟨wr.heap.size,0,none⟩=some (.string n.name)∧W.cell? ⟨wr.heap.size,1,none⟩=some (.string n.owner)∧W.cell? ⟨wr.heap.size,2,none⟩=some (.int .i64 n.prio)∧W.cell? ⟨wr.heap.size,3,none⟩=some (.slice a1 m1 c1)∧W.cell? ⟨wr.heap.size,4,none⟩=some (.slice a2 m2 c2)∧W.cell? ⟨wr.heap.size,5,none⟩=some (.slice a3 m3 c3)∧W.cell? ⟨wr.heap.size,6,none⟩=some (.slice a4 m4 c4)∧W.cell? ⟨wr.heap.size,7,none⟩=some (.string n.key)∧W.cell? ⟨wr.heap.size,8,none⟩=some (.int .i64 n.most)∧W.cell? ⟨wr.heap.size,9,none⟩=some (.string n.node)∧W.cell? ⟨wr.heap.size,10,none⟩=some (.bool n.hold))∧(W.cell? ⟨b,off+q*11,none⟩=some (.string n9.name)∧W.cell? ⟨b,off+q*11+1,none⟩=some (.string n9.owner)∧W.cell? ⟨b,off+q*11+2,none⟩=some (.int .i64 n9.prio)∧W.cell? ⟨b,off+q*11+3,none⟩=some (.slice b1 h1 d1)∧W.cell? ⟨b,off+q*11+4,none⟩=some (.slice b2 h2 d2)∧W.cell? ⟨b,off+q*11+5,none⟩=some (.slice b3 h3 d3)∧W.cell? ⟨b,off+q*11+6,none⟩=some (.slice b4 h4 d4)∧W.cell? ⟨b,off+q*11+7,none⟩=some (.string n9.key)∧W.cell? ⟨b,off+q*11+8,none⟩=some (.int .i64 n9.most)∧W.cell? ⟨b,off+q*11+9,none⟩=some (.string n9.node)∧W.cell? ⟨b,off+q*11+10,none⟩=some (.bool n9.hold)))
               (first | exact HO.out _ (Kept.drew _) | exact HO.out _ J1.out | exact HO.out _ J2.out)
               (first | (go_at_call 104;refine(HNA.out _).mono ?_;rintro e1 w2 ⟨rfl,k1⟩;have J1:=lH ((Kept.drew _).trans k1);clear k1)
                      | (go_at_call 104;refine(HNB.out _).mono ?_;rintro e2 w3 ⟨rfl,k1⟩;have J2:=lH (J1.out.trans k1);clear k1))
              go_wp2;go_roundw
              case rel=>exact⟨k+1,by omega,by go_num,(show jP (JS l (k+1)) (l.drop (k+1))=jP none l by rw[←HT.out,HD.out,Zh HCN.out (HP.out.trans N3.out),HNX.out]),HK.out.trans (KW.out.trans J2.out)⟩
              case measure=>simp[intOf];omega
        · have z1':(ck != 0)=true:=by simpa using z1
          have HB:=lH (show jw l=ck by rw[HS.out,HD.out,Xi (by rw[HCN.out];exact z1),HCN.out]);clear z1;go_wp2_with fail
          refine(HCK.out _ (ja _ _)).mono ?_;rintro e w1 ⟨rfl,kk⟩;have KW:=lH (Kept.trans (ja _ _) kk);have HBX:=lH (fun W k=>jc wr (.string n.name) [.string n.owner,.int .i64 n.prio,.slice a1 m1 c1,.slice a2 m2 c2,.slice a3 m3 c3,.slice a4 m4 c4,.string n.key,.int .i64 n.most,.string n.node,.bool n.hold] 35 W (Kept.trans kk k));have y0:=(HBX.out w1 (Kept.refl _)).at_ 0 _ rfl;have y1:=(HBX.out w1 (Kept.refl _)).at_ 1 _ rfl;have y2:=(HBX.out w1 (Kept.refl _)).at_ 2 _ rfl;have y3:=(HBX.out w1 (Kept.refl _)).at_ 3 _ rfl;have y4:=(HBX.out w1 (Kept.refl _)).at_ 4 _ rfl;have y5:=(HBX.out w1 (Kept.refl _)).at_ 5 _ rfl;have y6:=(HBX.out w1 (Kept.refl _)).at_ 6 _ rfl;have y7:=(HBX.out w1 (Kept.refl _)).at_ 7 _ rfl;have y8:=(HBX.out w1 (Kept.refl _)).at_ 8 _ rfl;have y9:=(HBX.out w1 (Kept.refl _)).at_ 9 _ rfl;have y10:=(HBX.out w1 (Kept.refl _)).at_ 10 _ rfl;clear kk;go_wp2;go_ret;exact⟨jb HB.out.symm,HK.out.trans KW.out⟩
      · have HE:=lH (show jw l=0 by rw[HS.out,List.drop_of_length_le (by rw[HL.out];omega)];rfl);clear hrest hK;go_wp2;go_ret;exact⟨jb HE.out.symm,HK.out⟩
theorem jbx (a:Option Addr) (len cap:Nat) (l:List Pd) (w:World) (hr:jz w a len l) :
 Calls Tryz.prog 67 #[.slice a len cap] w (Say (.int .i64 (jw l)) w):=by
 have H:=lH (jaD a len cap l w hr);clear hr;go_enter Tryz.func67,Tryz.ntmps67;go_wp2_with fail
 refine H.out.mono ?_;rintro e w1 ⟨rfl,k⟩;have K:=lH k;clear k;go_wp2;go_ret;exact⟨rfl,K.out⟩
def jO:Option ByteArray→List Bd→Int
 | _,[]=>0
 | prev,n::t=>if zO n≠0 then zO n else if Vec.jF prev n.name=true then 13 else jO (some n.name) t
def jy (l:List Bd):Int:=if 8<l.length then 4 else jO none l
def JQ (l:List Bd) (k:Nat):Option ByteArray:=if k=0 then none else (l[k-1]?).map Bd.name
theorem qe {l:List Bd} {k:Nat} (h:k=0) (s:ByteArray):Vec.jF (JQ l k) s=false:=by unfold JQ;rw[if_pos h];rfl
theorem qm {l:List Bd} {k:Nat} {n:Bd} (h:¬k=0) (hn:l[k-1]?=some n) (s:ByteArray):Vec.jF (JQ l k) s=leS s n.name:=by unfold JQ;rw[if_neg h,hn];rfl
theorem qk {l:List Bd} {k:Nat} {n:Bd} (hn:l[k]?=some n):JQ l (k+1)=some n.name:=by unfold JQ;rw[if_neg (by omega),Nat.add_sub_cancel,hn];rfl
theorem jbq {p:Option ByteArray} {n:Bd} {t:List Bd} (h:zO n≠0):jO p (n::t)=zO n:=by rw[jO,if_pos h]
theorem qc {p:Option ByteArray} {n:Bd} {t:List Bd} (h:zO n=0) (b:Vec.jF p n.name=true):jO p (n::t)=13:=by rw[jO,if_neg (by rw[h];decide),if_pos b]
theorem Yu {p:Option ByteArray} {n:Bd} {t:List Bd} (h:zO n=0) (b:Vec.jF p n.name=false):jO p (n::t)=jO (some n.name) t:=by rw[jO,if_neg (by rw[h];decide),if_neg (by rw[b];decide)]
theorem qb (n:Bd) (v1:Value) (w:World):Calls Tryz.prog 107 #[Zf n v1] w fun e w'=>e=.returned (.string n.name)∧Kept w w':=by
 unfold Zf;go_enter Tryz.func107,Tryz.ntmps107;go_wp2;go_ret;exact⟨rfl,ja _ _⟩
theorem jaV (a:Option Addr) (len cap:Nat) (l:List Bd) (w:World) (hr:zj w a len l) :
 Calls Tryz.prog 106 #[.slice a len cap,.int .i64 8,.func (.func 107) #[] #[],.func (.func 108) #[] #[]] w (Say (.int .i64 (jy l)) w):=by
 have hl:=hr.1;have hm:=hr.2.1;unfold maxLen at hm;by_cases h32:8<len
 · have HV:=lH (show jy l=4 by unfold jy;rw[if_pos (by omega)]);clear hr hl;go_enter Tryz.func106,Tryz.ntmps106;go_wp2;go_ret;exact⟨jb HV.out.symm,Kept.refl _⟩
 · have HV:=lH (show jy l=jO none l by unfold jy;rw[if_neg (by omega)]);have h32':len≤8:=by omega
   by_cases h0:len=0
   · subst h0;have HE:=lH (show jy l=0 by rw[HV.out,List.eq_nil_of_length_eq_zero hl];rfl);clear hr hl h32;go_enter Tryz.func106,Tryz.ntmps106;go_wp2;refine wp_loop_rounds 1 ?_;rw[rounds_succ];go_wp2;go_ret;exact⟨jb HE.out.symm,Kept.refl _⟩
   · obtain⟨b,off,rfl⟩:=hr.form.resolve_left h0;have HR:=lH hr;have HL:=lH hl;clear hr hl h0 h32;go_enter Tryz.func106,Tryz.ntmps106;go_wp2;go_loopw [18] (fun i wr=>∃k:Nat,k≤len∧i=.int .i64 k∧jO (JQ l k) (l.drop k)=jO none l∧Kept w wr) (fun i _=>len-(intOf i).toNat)
     case atStart=>exact⟨0,Nat.zero_le _,rfl,rfl,Kept.refl _⟩
     case round =>
      obtain⟨k,hk,rfl,hrest,hK⟩:=hrel;have HS:=lH (HV.out.trans hrest.symm);have HT:=lH hrest;have HK:=lH hK;by_cases hlt:k<len
      · obtain⟨n,a1,m1,c1,hn,hd,hb,p0,p1,p2,hat⟩:=(HR.out.kept hK).at_ hlt;have HAT:=lH hat;have HD:=lH hd;have HNX:=lH (qk hn);have HCK:=lH (fun W (kk:Kept wr W)=>jeH n (.slice a1 m1 c1) W (HAT.out.kept kk));have HNA:=lH (fun W=>qb n (.slice a1 m1 c1) W);unfold Zf at HCK HNA;obtain⟨ck,hck⟩:∃x,zO n=x:=⟨_,rfl⟩
        have HCN:=lH hck;rw[hck] at HCK;have hkk:(k:Int)<(len:Int):=by omega
        clear hrest hK hat hd hck;by_cases z1:ck=0
        · subst z1;by_cases h0:k=0
          · have hd0:decide (0<k)=false:=by subst h0;decide
            have HP:=lH (qe (l:=l) h0 n.name);clear h0;go_wp2_with fail
            refine(HCK.out _ (ja _ _)).mono ?_;rintro e w1 ⟨rfl,kk⟩;have KW:=lH (Kept.trans (ja _ _) kk);have HBX:=lH (fun W k=>jc wr (.string n.name) [.slice a1 m1 c1,.int .i64 n.floor] 149 W (Kept.trans kk k));have y0:=(HBX.out w1 (Kept.refl _)).at_ 0 _ rfl;have y1:=(HBX.out w1 (Kept.refl _)).at_ 1 _ rfl;have y2:=(HBX.out w1 (Kept.refl _)).at_ 2 _ rfl;clear kk;go_wp2;go_quiet (fail)
            go_wp2;go_roundw
            case rel=>exact⟨k+1,by omega,by go_num,(show jO (JQ l (k+1)) (l.drop (k+1))=jO none l by rw[←HT.out,HD.out,Yu HCN.out HP.out,HNX.out]),HK.out.trans (KW.out.trans (Kept.drewN _ _))⟩
            case measure=>simp[intOf];omega
          · have hd0:decide (0<k)=true:=by simp;omega
            obtain⟨q,hqk⟩:∃q,k=q+1:=⟨k-1,by omega⟩
            have g1:(k:Int)-1=(q:Int):=by omega
            have gw:IntKind.i64.wrap (q:Int)=(q:Int):=by rw[IntKind.wrap_i64];omega
            have g2:(q:Int)<(len:Int):=by omega
            obtain⟨n9,b1,h1,d1,hn9,-,hb9,q0,q1,q2,-⟩:=(HR.out.kept HK.out).at_ (show q<len by omega);have HQK:=lH hqk;have hqk1:k-1=q:=by omega
            have HP:=lH (qm (l:=l) h0 (show l[k-1]?=some n9 by rw[hqk1];exact hn9) n.name);clear hqk hqk1;have HNB:=lH (fun W=>qb n9 (.slice b1 h1 d1) W);unfold Zf at HNB;clear h0 hn9;by_cases n3:leS n.name n9.name=true
            · have n3':(Op.bytesLess n.name.toList n9.name.toList||n.name.toList==n9.name.toList)=true:=n3;have N3:=lH n3;clear n3;go_wp2_with fail
              refine(HCK.out _ (ja _ _)).mono ?_;rintro e w1 ⟨rfl,kk⟩;have KW:=lH (Kept.trans (ja _ _) kk);have HBX:=lH (fun W k=>jc wr (.string n.name) [.slice a1 m1 c1,.int .i64 n.floor] 149 W (Kept.trans kk k));have y0:=(HBX.out w1 (Kept.refl _)).at_ 0 _ rfl;have y1:=(HBX.out w1 (Kept.refl _)).at_ 1 _ rfl;have y2:=(HBX.out w1 (Kept.refl _)).at_ 2 _ rfl;have HO:=lH (show ∀W,Kept w1 W→(W.cell? ⟨wr.heap.size,0,none⟩=some (.string n.name)∧W.cell? ⟨wr.heap.size,1,none⟩=some (.slice a1 m1 c1)∧W.cell? ⟨wr.heap.size,2,none⟩=some (.int .i64 n.floor))∧(W.cell? ⟨b,off+q*3,none⟩=some (.string n9.name)∧W.cell? ⟨b,off+q*3+1,none⟩=some (.slice b1 h1 d1)∧W.cell? ⟨b,off+q*3+2,none⟩=some (.int .i64 n9.floor)) from fun W k=>⟨⟨(HBX.out W k).at_ 0 _ rfl,(HBX.out W k).at_ 1 _ rfl,(HBX.out W k).at_ 2 _ rfl⟩,⟨cell_later (KW.out.trans k) q0,cell_later (KW.out.trans k) q1,cell_later (KW.out.trans k) q2⟩⟩);clear kk q0 q1 q2;go_wp2;go_region_held3 (fun W=>(W.cell? ⟨wr.heap.size,0,none⟩=some (.string n.name)∧W.cell? ⟨wr.heap.size,1,none⟩=some (.slice a1 m1 c1)∧W.cell? ⟨wr.heap.size,2,none⟩=some (.int .i64 n.floor))∧(W.cell? ⟨b,off+q*3,none⟩=some (.string n9.name)∧W.cell? ⟨b,off+q*3+1,none⟩=some (.slice b1 h1 d1)∧W.cell? ⟨b,off+q*3+2,none⟩=some (.int .i64 n9.floor)))
               (first | exact HO.out _ (Kept.drew _) | exact HO.out _ J1.out | exact HO.out _ J2.out)
               (first | (go_at_call 107;refine(HNA.out _).mono ?_;rintro e1 w2 ⟨rfl,k1⟩;have J1:=lH ((Kept.drew _).trans k1);clear k1)
                      | (go_at_call 107;refine(HNB.out _).mono ?_;rintro e2 w3 ⟨rfl,k1⟩;have J2:=lH (J1.out.trans k1);clear k1))
              go_wp2;go_ret;exact⟨jb (show (13:Int)=jy l by rw[HS.out,HD.out,qc HCN.out (HP.out.trans N3.out)]),HK.out.trans (KW.out.trans J2.out)⟩
            · have n3:leS n.name n9.name=false:=by simpa using n3
              have n3':(Op.bytesLess n.name.toList n9.name.toList||n.name.toList==n9.name.toList)=false:=n3;have N3:=lH n3;clear n3;go_wp2_with fail
              refine(HCK.out _ (ja _ _)).mono ?_;rintro e w1 ⟨rfl,kk⟩;have KW:=lH (Kept.trans (ja _ _) kk);have HBX:=lH (fun W k=>jc wr (.string n.name) [.slice a1 m1 c1,.int .i64 n.floor] 149 W (Kept.trans kk k));have y0:=(HBX.out w1 (Kept.refl _)).at_ 0 _ rfl;have y1:=(HBX.out w1 (Kept.refl _)).at_ 1 _ rfl;have y2:=(HBX.out w1 (Kept.refl _)).at_ 2 _ rfl;have HO:=lH (show ∀W,Kept w1 W→(W.cell? ⟨wr.heap.size,0,none⟩=some (.string n.name)∧W.cell? ⟨wr.heap.size,1,none⟩=some (.slice a1 m1 c1)∧W.cell? ⟨wr.heap.size,2,none⟩=some (.int .i64 n.floor))∧(W.cell? ⟨b,off+q*3,none⟩=some (.string n9.name)∧W.cell? ⟨b,off+q*3+1,none⟩=some (.slice b1 h1 d1)∧W.cell? ⟨b,off+q*3+2,none⟩=some (.int .i64 n9.floor)) from fun W k=>⟨⟨(HBX.out W k).at_ 0 _ rfl,(HBX.out W k).at_ 1 _ rfl,(HBX.out W k).at_ 2 _ rfl⟩,⟨cell_later (KW.out.trans k) q0,cell_later (KW.out.trans k) q1,cell_later (KW.out.trans k) q2⟩⟩);clear kk q0 q1 q2;go_wp2;go_region_held3 (fun W=>(W.cell? ⟨wr.heap.size,0,none⟩=some (.string n.name)∧W.cell? ⟨wr.heap.size,1,none⟩=some (.slice a1 m1 c1)∧W.cell? ⟨wr.heap.size,2,none⟩=some (.int .i64 n.floor))∧(W.cell? ⟨b,off+q*3,none⟩=some (.string n9.name)∧W.cell? ⟨b,off+q*3+1,none⟩=some (.slice b1 h1 d1)∧W.cell? ⟨b,off+q*3+2,none⟩=some (.int .i64 n9.floor)))
               (first | exact HO.out _ (Kept.drew _) | exact HO.out _ J1.out | exact HO.out _ J2.out)
               (first | (go_at_call 107;refine(HNA.out _).mono ?_;rintro e1 w2 ⟨rfl,k1⟩;have J1:=lH ((Kept.drew _).trans k1);clear k1)
                      | (go_at_call 107;refine(HNB.out _).mono ?_;rintro e2 w3 ⟨rfl,k1⟩;have J2:=lH (J1.out.trans k1);clear k1))
              go_wp2;go_roundw
              case rel=>exact⟨k+1,by omega,by go_num,(show jO (JQ l (k+1)) (l.drop (k+1))=jO none l by rw[←HT.out,HD.out,Yu HCN.out (HP.out.trans N3.out),HNX.out]),HK.out.trans (KW.out.trans J2.out)⟩
              case measure=>simp[intOf];omega
        · have z1':(ck != 0)=true:=by simpa using z1
          have HB:=lH (show jy l=ck by rw[HS.out,HD.out,jbq (by rw[HCN.out];exact z1),HCN.out]);clear z1;go_wp2_with fail
          refine(HCK.out _ (ja _ _)).mono ?_;rintro e w1 ⟨rfl,kk⟩;have KW:=lH (Kept.trans (ja _ _) kk);have HBX:=lH (fun W k=>jc wr (.string n.name) [.slice a1 m1 c1,.int .i64 n.floor] 149 W (Kept.trans kk k));have y0:=(HBX.out w1 (Kept.refl _)).at_ 0 _ rfl;have y1:=(HBX.out w1 (Kept.refl _)).at_ 1 _ rfl;have y2:=(HBX.out w1 (Kept.refl _)).at_ 2 _ rfl;clear kk;go_wp2;go_ret;exact⟨jb HB.out.symm,HK.out.trans KW.out⟩
      · have HE:=lH (show jy l=0 by rw[HS.out,List.drop_of_length_le (by rw[HL.out];omega)];rfl);clear hrest hK;go_wp2;go_ret;exact⟨jb HE.out.symm,HK.out⟩
theorem jbD (a:Option Addr) (len cap:Nat) (l:List Bd) (w:World) (hr:zj w a len l) :
 Calls Tryz.prog 68 #[.slice a len cap] w (Say (.int .i64 (jy l)) w):=by
 have H:=lH (jaV a len cap l w hr);clear hr;go_enter Tryz.func68,Tryz.ntmps68;go_wp2_with fail
 refine H.out.mono ?_;rintro e w1 ⟨rfl,k⟩;have K:=lH k;clear k;go_wp2;go_ret;exact⟨rfl,K.out⟩
structure Clu where
 nodes:List Nod
 pods:List Pd
 buds:List Bd
abbrev Zu (v1 v2 v3:Value):Value:=.agg #[v1,v2,v3]
structure jaf (w:World) (v1 v2 v3:Value) (s:Clu):Prop where
 nodes:zS w v1 s.nodes
 pods:JZ w v2 s.pods
 buds:Ju w v3 s.buds
theorem jaf.kept {w w':World} {v1 v2 v3:Value} {s:Clu} (h:jaf w v1 v2 v3 s) (k:Kept w w'):jaf w' v1 v2 v3 s:=⟨h.nodes.kept k,h.pods.kept k,h.buds.kept k⟩
def jU (w:World) (v:Value) (s:Clu):Prop:=∃v1 v2 v3,v=Zu v1 v2 v3∧jaf w v1 v2 v3 s
theorem jU.kept {w w':World} {v:Value} {s:Clu} (h:jU w v s) (k:Kept w w'):jU w' v s:=by
 obtain⟨v1,v2,v3,e,h⟩:=h;exact⟨v1,v2,v3,e,h.kept k⟩
structure zw (s:Clu):Prop where
 nodes:∀n ∈ s.nodes,zJ n
 pods:∀n ∈ s.pods,Yc n
 buds:∀n ∈ s.buds,n.sel.length≤1000000
 nodesN:s.nodes.length≤100000
 podsN:s.pods.length≤100000
 budsN:s.buds.length≤100000
def jJ (x:ByteArray):List Pd→Vec.V→Int×Vec.V
 | [],v=>(0,v)
 | p::t,v=>if eqS p.node x=true then (if (Vec.jh Vec.jx v p.need).1=0 then jJ x t (Vec.jh Vec.jx v p.need).2 else ((Vec.jh Vec.jx v p.need).1,[])) else jJ x t v
theorem X2 {x:ByteArray} {p:Pd} {t:List Pd} {v:Vec.V} (h:eqS p.node x=false):jJ x (p::t) v=jJ x t v:=by
 rw[jJ,if_neg (by rw[h];decide)]
theorem qx {x:ByteArray} {p:Pd} {t:List Pd} {v m:Vec.V} (h:eqS p.node x=true) (g:Vec.jh Vec.jx v p.need=(0,m)):jJ x (p::t) v=jJ x t m:=by
 rw[jJ,if_pos h,g,if_pos rfl]
theorem qO {x:ByteArray} {p:Pd} {t:List Pd} {v m:Vec.V} {c:Int} (h:eqS p.node x=true) (g:Vec.jh Vec.jx v p.need=(c,m)) (hc:c≠0):jJ x (p::t) v=(c,[]):=by
 rw[jJ,if_pos h,g,if_neg hc]
def zP:List Nod→Vec.V→Int×Vec.V
 | [],v=>(0,v)
 | n::t,v=>if (Vec.jh Vec.jx v n.cap).1=0 then zP t (Vec.jh Vec.jx v n.cap).2 else ((Vec.jh Vec.jx v n.cap).1,[])
theorem jb0 {n:Nod} {t:List Nod} {v m:Vec.V} (g:Vec.jh Vec.jx v n.cap=(0,m)):zP (n::t) v=zP t m:=by
 rw[zP,g,if_pos rfl]
theorem jcP {n:Nod} {t:List Nod} {v m:Vec.V} {c:Int} (g:Vec.jh Vec.jx v n.cap=(c,m)) (hc:c≠0):zP (n::t) v=(c,[]):=by
 rw[zP,g,if_neg hc]
def ZB (s:Clu) (x:ByteArray):Int×Vec.V:=match jl s.nodes x with | none=>(3,[]) | some n=>jJ n.name s.pods []
def J9 (s:Clu) (x:ByteArray):Int×Vec.V:=match jl s.nodes x with | none=>(3,[]) | some n=>if (jJ n.name s.pods []).1=0 then Vec.jh Vec.jZ n.cap (jJ n.name s.pods []).2 else ((jJ n.name s.pods []).1,[])
def jhx (s:Clu):Int×Vec.V:=zP s.nodes []
def js (nodes:List Nod):List Pd→Int
 | []=>0
 | p::t=>if JB p.node=false∧(jl nodes p.node).isSome=false then 3 else js nodes t
theorem Xe {nodes:List Nod} {p:Pd} {t:List Pd} (h:JB p.node=false) (g:(jl nodes p.node).isSome=false):js nodes (p::t)=3:=by
 rw[js,if_pos ⟨h,g⟩]
theorem X8 {nodes:List Nod} {p:Pd} {t:List Pd} (h:JB p.node=true):js nodes (p::t)=js nodes t:=by
 rw[js,if_neg (by rw[h];simp)]
theorem qp {nodes:List Nod} {p:Pd} {t:List Pd} (g:(jl nodes p.node).isSome=true):js nodes (p::t)=js nodes t:=by
 rw[js,if_neg (by rw[g];simp)]
def jH (pods:List Pd):List Nod→Int
 | []=>0
 | n::t=>if (jJ n.name pods []).1=0 then (if Vec.jv n.cap (jJ n.name pods []).2=true then jH pods t else 7) else (jJ n.name pods []).1
theorem XO {pods:List Pd} {n:Nod} {t:List Nod} {c:Int} {u:Vec.V} (h:jJ n.name pods []=(c,u)) (hc:c≠0):jH pods (n::t)=c:=by
 rw[jH,h,if_neg hc]
theorem Xg {pods:List Pd} {n:Nod} {t:List Nod} {u:Vec.V} (h:jJ n.name pods []=(0,u)) (hf:Vec.jv n.cap u=false):jH pods (n::t)=7:=by
 rw[jH,h,if_pos rfl,if_neg (by rw[hf];decide)]
theorem Yt {pods:List Pd} {n:Nod} {t:List Nod} {u:Vec.V} (h:jJ n.name pods []=(0,u)) (hf:Vec.jv n.cap u=true):jH pods (n::t)=jH pods t:=by
 rw[jH,h,if_pos rfl,if_pos hf]
def zD (s:Clu):Int :=
 if or3 (jA s.nodes) (jw s.pods) (jy s.buds)≠0 then or3 (jA s.nodes) (jw s.pods) (jy s.buds)
 else if js s.nodes s.pods≠0 then js s.nodes s.pods
 else if jH s.pods s.nodes≠0 then jH s.pods s.nodes
 else (zP s.nodes []).1
def j0 (x:ByteArray):List Pd→List Pd
 | []=>[]
 | p::t=>if eqS p.name x=true then t else p::j0 x t
def JM (p:Pd):List Pd→List Pd
 | []=>[p]
 | q::t=>if ltS p.name q.name=true then p::q::t else q::JM p t
def zn (s:Clu) (x:ByteArray):Clu:={ s with pods:=j0 x s.pods }
def Zs (s:Clu) (p:Pd):Clu:={ s with pods:=JM p (j0 p.name s.pods) }
end Go.Proofs.YtgfoenfaohhjcabGreat
