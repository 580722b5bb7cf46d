/- What serves all packages,and package by package the contracts of the functions that the law calls. -/
import Derived.Test.YtgfoenfaohhjcaaG0
import Derived.Test.YtgfoenfaohhjcaaG1
import Derived.Lib.AppendZerosOnto
import Derived.Lib.Overlaps
set_option linter.unusedVariables false
set_option maxRecDepth 100000
set_option maxHeartbeats 25600000
namespace Go.Proofs.Ytgfoenfaohhjcaa
open Go.ChangeShapes Go.WideShapes Go.ChangeAt Go.RowKit Go.Deep
theorem Xk:Try.prog.cellsOf 4=1:=by kernel_rfl
theorem jcL:Try.prog.cellsOf 170=3:=by kernel_rfl
theorem qv {H:Type} {enc:TypeId×Value→H} {w:World} {base fuel:Nat} {sp:Nat→Bool} {held:Bool} {cs:List Value} {x:DataW H×List MemPlace} (h:DataW.trod enc Try.prog w base sp held fuel 170 cs=some x) :
 ∃a:NT,cs=jv.cs a∧jv.fine a:=by
 obtain⟨ys,m,-,-,hlen,hyl,hf⟩:=DataW.trod_struct Try.underlying170 h;rw[jcL] at hlen
 match cs,hlen with
 | [c0,c1,c2],_ =>
  have h0:DataW.trod enc Try.prog w base sp held m 9 (([c0,c1,c2].drop 0).take (Try.prog.cellsOf 9))=ys[0]?:=hf 0 _ rfl;have h1:DataW.trod enc Try.prog w base sp held m 9 (([c0,c1,c2].drop 1).take (Try.prog.cellsOf 9))=ys[1]?:=hf 1 _ rfl;have h2:DataW.trod enc Try.prog w base sp held m 4 (([c0,c1,c2].drop 2).take (Try.prog.cellsOf 4))=ys[2]?:=hf 2 _ rfl;rw[zW] at h0 h1;rw[Xk] at h2;obtain⟨y0,e0⟩:∃y,ys[0]?=some y:=⟨_,List.getElem?_eq_getElem (by rw[hyl];decide)⟩
  obtain⟨y1,e1⟩:∃y,ys[1]?=some y:=⟨_,List.getElem?_eq_getElem (by rw[hyl];decide)⟩
  obtain⟨y2,e2⟩:∃y,ys[2]?=some y:=⟨_,List.getElem?_eq_getElem (by rw[hyl];decide)⟩
  rw[e0] at h0;rw[e1] at h1;rw[e2] at h2;obtain⟨s,q0,-,hs⟩:=DataW.trod_string Try.underlying9 h0;obtain⟨t,q1,-,ht⟩:=DataW.trod_string Try.underlying9 h1;obtain⟨b,q2,-⟩:=DataW.trod_bool Try.underlying4 h2;simp only[List.drop_zero,List.take_succ_cons,List.take_zero,List.cons.injEq,and_true,List.drop_succ_cons] at q0 q1 q2;subst q0;subst q1;subst q2;exact⟨(s,t,b),rfl,hs,ht⟩
theorem qC {H:Type} {enc:TypeId×Value→H} {w:World} {base fuel:Nat} {sp:Nat→Bool} {held:Bool} {v:Value} {x:DataW H×List MemPlace} (h:DataW.trod enc Try.prog w base sp held fuel 66 [v]=some x):∃l,Reads jv w v l :=
 jY jv Try.underlying66 jcL (fun _ _ _ h=>qv h) h
theorem jb0:Try.prog.cellsOf 127=3:=by kernel_rfl
theorem qQ {H:Type} {enc:TypeId×Value→H} {w:World} {base fuel:Nat} {sp:Nat→Bool} {held:Bool} {cs:List Value} {x:DataW H×List MemPlace} (h:DataW.trod enc Try.prog w base sp held fuel 127 cs=some x) :
 ∃a:NT,cs=jv.cs a∧jv.fine a:=by
 obtain⟨ys,m,-,-,hlen,hyl,hf⟩:=DataW.trod_struct Try.underlying127 h;rw[jb0] at hlen
 match cs,hlen with
 | [c0,c1,c2],_ =>
  have h0:DataW.trod enc Try.prog w base sp held m 9 (([c0,c1,c2].drop 0).take (Try.prog.cellsOf 9))=ys[0]?:=hf 0 _ rfl;have h1:DataW.trod enc Try.prog w base sp held m 9 (([c0,c1,c2].drop 1).take (Try.prog.cellsOf 9))=ys[1]?:=hf 1 _ rfl;have h2:DataW.trod enc Try.prog w base sp held m 4 (([c0,c1,c2].drop 2).take (Try.prog.cellsOf 4))=ys[2]?:=hf 2 _ rfl;rw[zW] at h0 h1;rw[Xk] at h2;obtain⟨y0,e0⟩:∃y,ys[0]?=some y:=⟨_,List.getElem?_eq_getElem (by rw[hyl];decide)⟩
  obtain⟨y1,e1⟩:∃y,ys[1]?=some y:=⟨_,List.getElem?_eq_getElem (by rw[hyl];decide)⟩
  obtain⟨y2,e2⟩:∃y,ys[2]?=some y:=⟨_,List.getElem?_eq_getElem (by rw[hyl];decide)⟩
  rw[e0] at h0;rw[e1] at h1;rw[e2] at h2;obtain⟨s,q0,-,hs⟩:=DataW.trod_string Try.underlying9 h0;obtain⟨t,q1,-,ht⟩:=DataW.trod_string Try.underlying9 h1;obtain⟨b,q2,-⟩:=DataW.trod_bool Try.underlying4 h2;simp only[List.drop_zero,List.take_succ_cons,List.take_zero,List.cons.injEq,and_true,List.drop_succ_cons] at q0 q1 q2;subst q0;subst q1;subst q2;exact⟨(s,t,b),rfl,hs,ht⟩
theorem qS {H:Type} {enc:TypeId×Value→H} {w:World} {base fuel:Nat} {sp:Nat→Bool} {held:Bool} {v:Value} {x:DataW H×List MemPlace} (h:DataW.trod enc Try.prog w base sp held fuel 33 [v]=some x):∃l,Reads jv w v l :=
 jY jv Try.underlying33 jb0 (fun _ _ _ h=>qQ h) h
theorem jdq (x:NX) (u:Value) (h:u ∈ [Value.string x.1.name,slV x.2.1,slV x.2.2.1,slV x.2.2.2,.bool x.1.cordon]):u.oneCell'=true:=by
 simp only[List.mem_cons,List.not_mem_nil,or_false] at h;rcases h with rfl | rfl | rfl | rfl | rfl<;>rfl
def qM (w:World):Lay NX:={ m:=5,cs:=fun x=>[.string x.1.name,slV x.2.1,slV x.2.2.1,slV x.2.2.2,.bool x.1.cordon],fine:=fun x=>zl w (slV x.2.1) (slV x.2.2.1) (slV x.2.2.2) x.1,len:=fun _=>rfl,one:=jdq,pos:=by decide }
theorem jb2:Try.prog.cellsOf 28=1:=by kernel_rfl
theorem jbU:Try.prog.cellsOf 30=1:=by kernel_rfl
theorem jeg:Try.prog.cellsOf 66=1:=by kernel_rfl
theorem jb3:Try.prog.cellsOf 68=5:=by kernel_rfl
theorem qF {H:Type} {enc:TypeId×Value→H} {w:World} {base fuel:Nat} {sp:Nat→Bool} {held:Bool} {cs:List Value} {x:DataW H×List MemPlace} (h:DataW.trod enc Try.prog w base sp held fuel 68 cs=some x) :
 ∃a:NX,cs=(qM w).cs a∧(qM w).fine a:=by
 obtain⟨ys,m,-,-,hlen,hyl,hf⟩:=DataW.trod_struct Try.underlying68 h;rw[jb3] at hlen
 match cs,hlen with
 | [c0,c1,c2,c3,c4],_ =>
  have h0:DataW.trod enc Try.prog w base sp held m 9 (([c0,c1,c2,c3,c4].drop 0).take (Try.prog.cellsOf 9))=ys[0]?:=hf 0 _ rfl;have h1:DataW.trod enc Try.prog w base sp held m 28 (([c0,c1,c2,c3,c4].drop 1).take (Try.prog.cellsOf 28))=ys[1]?:=hf 1 _ rfl;have h2:DataW.trod enc Try.prog w base sp held m 30 (([c0,c1,c2,c3,c4].drop 2).take (Try.prog.cellsOf 30))=ys[2]?:=hf 2 _ rfl;have h3:DataW.trod enc Try.prog w base sp held m 66 (([c0,c1,c2,c3,c4].drop 3).take (Try.prog.cellsOf 66))=ys[3]?:=hf 3 _ rfl;have h4:DataW.trod enc Try.prog w base sp held m 4 (([c0,c1,c2,c3,c4].drop 4).take (Try.prog.cellsOf 4))=ys[4]?:=hf 4 _ rfl;rw[zW] at h0;rw[jb2] at h1;rw[jbU] at h2;rw[jeg] at h3;rw[Xk] at h4;obtain⟨y0,e0⟩:∃y,ys[0]?=some y:=⟨_,List.getElem?_eq_getElem (by rw[hyl];decide)⟩
  obtain⟨y1,e1⟩:∃y,ys[1]?=some y:=⟨_,List.getElem?_eq_getElem (by rw[hyl];decide)⟩
  obtain⟨y2,e2⟩:∃y,ys[2]?=some y:=⟨_,List.getElem?_eq_getElem (by rw[hyl];decide)⟩
  obtain⟨y3,e3⟩:∃y,ys[3]?=some y:=⟨_,List.getElem?_eq_getElem (by rw[hyl];decide)⟩
  obtain⟨y4,e4⟩:∃y,ys[4]?=some y:=⟨_,List.getElem?_eq_getElem (by rw[hyl];decide)⟩
  rw[e0] at h0;rw[e1] at h1;rw[e2] at h2;rw[e3] at h3;rw[e4] at h4;simp only[List.drop_zero,List.take_succ_cons,List.take_zero,List.drop_succ_cons] at h0 h1 h2 h3 h4;obtain⟨s,q0,-,hs⟩:=DataW.trod_string Try.underlying9 h0;obtain⟨b,q4,-⟩:=DataW.trod_bool Try.underlying4 h4;obtain⟨l1,r1⟩:=Vec.jY h1;obtain⟨l2,r2⟩:=YY h2;obtain⟨l3,r3⟩:=qC h3;have r1':=r1;have r2':=r2;have r3':=r3;obtain⟨a1,d1,rfl,-⟩:=r1';obtain⟨a2,d2,rfl,-⟩:=r2';obtain⟨a3,d3,rfl,-⟩:=r3';simp only[List.cons.injEq,and_true] at q0 q4;subst q0;subst q4;exact⟨(⟨s,l1,l2,l3,b⟩,(a1,l1.length,d1),(a2,l2.length,d2),(a3,l3.length,d3)),rfl,⟨hs,r1,r2,r3⟩⟩
theorem qj {H:Type} {enc:TypeId×Value→H} {w:World} {base fuel:Nat} {sp:Nat→Bool} {held:Bool} {v:Value} {x:DataW H×List MemPlace} (h:DataW.trod enc Try.prog w base sp held fuel 22 [v]=some x):∃l,zn w v l:=by
 obtain⟨l,a,cap,rfl,h1,h2,h3⟩:=jY (qM w) Try.underlying22 jb3 (fun _ _ _ h=>qF h) h;obtain⟨g0,g1,g2,g3⟩:=h3;refine⟨l.map (fun z=>z.1),a,cap,by rw[List.length_map],by rw[List.length_map];exact h1,h2,rfl,by rw[List.length_map];exact g1,?_⟩;rw[List.length_map];rcases g3 with g3 | ⟨b,off,rfl,hb,hc⟩
 · exact .inl g3
 · refine .inr ⟨b,off,rfl,hb,fun i n hi=>?_⟩;rw[List.getElem?_map] at hi;obtain⟨z,hz,rfl⟩:=Option.map_eq_some_iff.1 hi;exact⟨_,_,_,_,_,_,_,_,_,hc i z 0 _ hz rfl,hc i z 1 _ hz rfl,hc i z 2 _ hz rfl,hc i z 3 _ hz rfl,hc i z 4 _ hz rfl,g2 z (List.mem_of_getElem? hz)⟩
open Go.RowKit
structure Pd where
 name:ByteArray
 owner:ByteArray
 prio:Int
 need:Vec.V
 labels:PL
 sel:TL
 tols:NL
 key:ByteArray
 most:Int
 node:ByteArray
 hold:Bool
def Pd.zero:Pd:=⟨ByteArray.empty,ByteArray.empty,0,[],[],[],[],ByteArray.empty,0,ByteArray.empty,false⟩
abbrev jy (n:Pd) (v1 v2 v3 v4:Value):Value:=.agg #[.string n.name,.string n.owner,.int .i64 n.prio,v1,v2,v3,v4,.string n.key,.int .i64 n.most,.string n.node,.bool n.hold]
structure jA (w:World) (v1 v2 v3 v4:Value) (n:Pd):Prop where
 name:n.name.size≤maxLen
 owner:n.owner.size≤maxLen
 key:n.key.size≤maxLen
 node:n.node.size≤maxLen
 prio:-9223372036854775808≤n.prio∧n.prio≤9223372036854775807
 most:-9223372036854775808≤n.most∧n.most≤9223372036854775807
 need:Vec.Reads w v1 n.need
 labels:Reads jl w v2 n.labels
 sel:Reads jQ w v3 n.sel
 tols:Reads jv w v4 n.tols
theorem jA.kept {w w':World} {v1 v2 v3 v4:Value} {n:Pd} (h:jA w v1 v2 v3 v4 n) (k:Kept w w'):jA w' v1 v2 v3 v4 n:=⟨h.name,h.owner,h.key,h.node,h.prio,h.most,h.need.kept k,h.labels.kept k,h.sel.kept k,h.tols.kept k⟩
def Zk (w:World) (v:Value) (n:Pd):Prop:=∃v1 v2 v3 v4,v=jy n v1 v2 v3 v4∧jA w v1 v2 v3 v4 n
theorem Zk.kept {w w':World} {v:Value} {n:Pd} (h:Zk w v n) (k:Kept w w'):Zk w' v n:=by
 obtain⟨v1,v2,v3,v4,e,h⟩:=h;exact⟨v1,v2,v3,v4,e,h.kept k⟩
def YG (s:ByteArray):Bool:=zu s||isName s
def Zo (x y:ByteArray):Int:=if isName x=true∧YG y=true then 0 else 3
def jaQ (p:Int) (b:Bool):Bool:=decide (p < -1)||(decide (1000000<p)||(decide (p=-1) != b))
def YQ (p:Int) (b:Bool):Int:=if jaQ p b=true then 1 else 0
def X9 (k:ByteArray) (m:Int):Bool:=if zu k=true then decide (m≠0) else decide (m<1)||decide (128<m)
def ZI (k:ByteArray) (m:Int):Int:=if YG k=false then 3 else if X9 k m=true then 1 else 0
def YP (x:ByteArray):Int:=if YG x=true then 0 else 3
def orL:List Int→Int
 | []=>0
 | x::t=>if x≠0 then x else orL t
def Zj (n:Pd):List Int:=[Zo n.name n.owner,YQ n.prio n.hold,Vec.jn n.need,JK n.labels,Zr n.sel,Ju n.tols,ZI n.key n.most,YP n.node]
def zw (n:Pd):Int:=orL (Zj n)
def jO (B:Nat) (a:Option Addr):Prop:=∀b off sp,a=some ⟨b,off,sp⟩→B≤b
theorem jO.less {B B':Nat} {a:Option Addr} (h:jO B a) (hb:B'≤B):jO B' a:=fun b o s e=>Nat.le_trans hb (h b o s e)
theorem jO.none (B:Nat):jO B none:=fun _ _ _ e=>by cases e
def Jp (B:Nat) (w:World) (v:Value) (n:Pd):Prop:=∃b1 n1 d1 b2 n2 d2 b3 n3 d3 b4 n4 d4,v=jy n (.slice b1 n1 d1) (.slice b2 n2 d2) (.slice b3 n3 d3) (.slice b4 n4 d4)∧jA w (.slice b1 n1 d1) (.slice b2 n2 d2) (.slice b3 n3 d3) (.slice b4 n4 d4) n∧jO B b1∧jO B b2∧jO B b3∧jO B b4
theorem Jp.toR {B:Nat} {w:World} {v:Value} {n:Pd} (h:Jp B w v n):Zk w v n:=by
 obtain⟨b1,n1,d1,b2,n2,d2,b3,n3,d3,b4,n4,d4,e,h,_⟩:=h;exact⟨_,_,_,_,e,h⟩
theorem jA.far {B:Nat} {w w':World} {n:Pd} {b1 b2 b3 b4:Option Addr} {n1 d1 n2 d2 n3 d3 n4 d4:Nat} (h:jA w (.slice b1 n1 d1) (.slice b2 n2 d2) (.slice b3 n3 d3) (.slice b4 n4 d4) n) (hs:w'.heap.size=w.heap.size) (hb:∀b,B≤b→w'.heap[b]?=w.heap[b]?) (g1:jO B b1) (g2:jO B b2) (g3:jO B b3) (g4:jO B b4):jA w' (.slice b1 n1 d1) (.slice b2 n2 d2) (.slice b3 n3 d3) (.slice b4 n4 d4) n :=
 ⟨h.name,h.owner,h.key,h.node,h.prio,h.most,h.need.far hs (fun b o s e=>hb b (g1 b o s e)),h.labels.far hs (fun b o s e=>hb b (g2 b o s e)),h.sel.far hs (fun b o s e=>hb b (g3 b o s e)),h.tols.far hs (fun b o s e=>hb b (g4 b o s e))⟩
theorem Jp.far {B:Nat} {w w':World} {v:Value} {n:Pd} (h:Jp B w v n) (hs:w'.heap.size=w.heap.size) (hb:∀b,B≤b→w'.heap[b]?=w.heap[b]?):Jp B w' v n:=by
 obtain⟨b1,n1,d1,b2,n2,d2,b3,n3,d3,b4,n4,d4,e,h,g1,g2,g3,g4⟩:=h;exact⟨b1,n1,d1,b2,n2,d2,b3,n3,d3,b4,n4,d4,e,h.far hs hb g1 g2 g3 g4,g1,g2,g3,g4⟩
theorem Jp.less {B B':Nat} {w:World} {v:Value} {n:Pd} (h:Jp B w v n) (hb:B'≤B):Jp B' w v n:=by
 obtain⟨b1,n1,d1,b2,n2,d2,b3,n3,d3,b4,n4,d4,e,h,g1,g2,g3,g4⟩:=h;exact⟨b1,n1,d1,b2,n2,d2,b3,n3,d3,b4,n4,d4,e,h,g1.less hb,g2.less hb,g3.less hb,g4.less hb⟩
theorem Jp.kept {B:Nat} {w w':World} {v:Value} {n:Pd} (h:Jp B w v n) (k:Kept w w'):Jp B w' v n:=by
 obtain⟨b1,n1,d1,b2,n2,d2,b3,n3,d3,b4,n4,d4,e,h,g1,g2,g3,g4⟩:=h;exact⟨b1,n1,d1,b2,n2,d2,b3,n3,d3,b4,n4,d4,e,h.kept k,g1,g2,g3,g4⟩
theorem jA.spelt {w:World} {v1 v2 v3 v4:Value} {n:Pd} (h:jA w v1 v2 v3 v4 n):∃b1 n1 d1 b2 n2 d2 b3 n3 d3 b4 n4 d4,v1=.slice b1 n1 d1∧v2=.slice b2 n2 d2∧v3=.slice b3 n3 d3∧v4=.slice b4 n4 d4:=by
 obtain⟨a1,c1,e1,_⟩:=h.need;obtain⟨a2,c2,e2,_⟩:=h.labels;obtain⟨a3,c3,e3,_⟩:=h.sel;obtain⟨a4,c4,e4,_⟩:=h.tols;exact⟨_,_,_,_,_,_,_,_,_,_,_,_,e1,e2,e3,e4⟩
structure YU (n:Pd):Prop where
 need:n.need.length≤1000000
 labels:n.labels.length≤1000000
 sel:n.sel.length≤1000000
 tols:n.tols.length≤1000000
def jN (w:World) (a:Option Addr) (len:Nat) (l:List Pd):Prop :=
 l.length=len∧len≤maxLen∧(len=0∨∃b off,a=some ⟨b,off,none⟩∧b<w.heap.size∧∀i n,l[i]?=some n→∃v1 v2 v3 v4,
  w.cell? ⟨b,off+i*11,none⟩=some (.string n.name)∧w.cell? ⟨b,off+i*11+1,none⟩=some (.string n.owner)∧w.cell? ⟨b,off+i*11+2,none⟩=some (.int .i64 n.prio)∧w.cell? ⟨b,off+i*11+3,none⟩=some (v1)∧w.cell? ⟨b,off+i*11+4,none⟩=some (v2)∧w.cell? ⟨b,off+i*11+5,none⟩=some (v3)∧w.cell? ⟨b,off+i*11+6,none⟩=some (v4)∧w.cell? ⟨b,off+i*11+7,none⟩=some (.string n.key)∧w.cell? ⟨b,off+i*11+8,none⟩=some (.int .i64 n.most)∧w.cell? ⟨b,off+i*11+9,none⟩=some (.string n.node)∧w.cell? ⟨b,off+i*11+10,none⟩=some (.bool n.hold)∧jA w v1 v2 v3 v4 n)
theorem jN.kept {w w':World} {a:Option Addr} {len:Nat} {l:List Pd} (h:jN w a len l) (k:Kept w w'):jN w' a len l:=by
 obtain⟨h0,h1,h2⟩:=h;refine⟨h0,h1,h2.imp id ?_⟩;rintro ⟨b,off,rfl,hb,hc⟩;refine⟨b,off,rfl,Nat.lt_of_lt_of_le hb k.size,fun i n hi=>?_⟩;obtain⟨v1,v2,v3,v4,p0,p1,p2,p3,p4,p5,p6,p7,p8,p9,p10,hn⟩:=hc i n hi;exact⟨v1,v2,v3,v4,cell_later k p0,cell_later k p1,cell_later k p2,cell_later k p3,cell_later k p4,cell_later k p5,cell_later k p6,cell_later k p7,cell_later k p8,cell_later k p9,cell_later k p10,hn.kept k⟩
theorem jN.form {w:World} {a:Option Addr} {len:Nat} {l:List Pd} (h:jN w a len l):len=0∨∃b off,a=some ⟨b,off,none⟩:=by
 obtain⟨_,_,h2⟩:=h;exact h2.imp id fun ⟨b,off,e,_⟩=>⟨b,off,e⟩
theorem jN.at_ {w:World} {b off len:Nat} {l:List Pd} {k:Nat} (h:jN w (some ⟨b,off,none⟩) len l) (hk:k<len):∃n a1 m1 c1 a2 m2 c2 a3 m3 c3 a4 m4 c4,l[k]?=some n∧l.drop k=n::l.drop (k+1)∧b<w.heap.size ∧
 w.cell? ⟨b,off+k*11,none⟩=some (.string n.name)∧w.cell? ⟨b,off+k*11+1,none⟩=some (.string n.owner)∧w.cell? ⟨b,off+k*11+2,none⟩=some (.int .i64 n.prio)∧w.cell? ⟨b,off+k*11+3,none⟩=some (.slice a1 m1 c1)∧w.cell? ⟨b,off+k*11+4,none⟩=some (.slice a2 m2 c2)∧w.cell? ⟨b,off+k*11+5,none⟩=some (.slice a3 m3 c3)∧w.cell? ⟨b,off+k*11+6,none⟩=some (.slice a4 m4 c4)∧w.cell? ⟨b,off+k*11+7,none⟩=some (.string n.key)∧w.cell? ⟨b,off+k*11+8,none⟩=some (.int .i64 n.most)∧w.cell? ⟨b,off+k*11+9,none⟩=some (.string n.node)∧w.cell? ⟨b,off+k*11+10,none⟩=some (.bool n.hold)∧jA w (.slice a1 m1 c1) (.slice a2 m2 c2) (.slice a3 m3 c3) (.slice a4 m4 c4) n:=by
 obtain⟨h0,_,h3⟩:=h;have hkl:k<l.length:=by omega
 rcases h3 with h3 | ⟨b',off',e,hb,hc⟩
 · omega
 · injection e with e;injection e with e1 e2 e3;subst e1;subst e2;have he:l[k]?=some l[k]:=List.getElem?_eq_getElem hkl;obtain⟨v1,v2,v3,v4,r⟩:=hc k _ he;obtain⟨a1,m1,c1,a2,m2,c2,a3,m3,c3,a4,m4,c4,rfl,rfl,rfl,rfl⟩:=jA.spelt r.2.2.2.2.2.2.2.2.2.2.2;exact⟨l[k],a1,m1,c1,a2,m2,c2,a3,m3,c3,a4,m4,c4,he,List.drop_eq_getElem_cons hkl,hb,r⟩
def zP (w:World) (v:Value) (l:List Pd):Prop:=∃a cap,v=.slice a l.length cap∧l.length≤cap∧cap≤maxLen∧jN w a l.length l
theorem zP.kept {w w':World} {v:Value} {l:List Pd} (h:zP w v l) (k:Kept w w'):zP w' v l:=by
 obtain⟨a,cap,e,h1,h2,h3⟩:=h;exact⟨a,cap,e,h1,h2,h3.kept k⟩
theorem ja8:Try.prog.cellsOf 32=1:=by kernel_rfl
theorem jeh:Try.prog.cellsOf 33=1:=by kernel_rfl
theorem jaW:Try.prog.cellsOf 35=11:=by kernel_rfl
theorem Y5 {H:Type} {enc:TypeId×Value→H} {w:World} {base fuel:Nat} {sp:Nat→Bool} {held:Bool} {cs:List Value} {x:DataW H×List MemPlace} (h:DataW.trod enc Try.prog w base sp held fuel 35 cs=some x) :
 ∃(n:Pd) (v1 v2 v3 v4:Value),cs=[.string n.name,.string n.owner,.int .i64 n.prio,v1,v2,v3,v4,.string n.key,.int .i64 n.most,.string n.node,.bool n.hold]∧jA w v1 v2 v3 v4 n:=by
 obtain⟨ys,m,-,-,hlen,hyl,hf⟩:=DataW.trod_struct Try.underlying35 h;rw[jaW] at hlen
 match cs,hlen with
 | [c0,c1,c2,c3,c4,c5,c6,c7,c8,c9,c10],_ =>
  have h0:DataW.trod enc Try.prog w base sp held m 9 (([c0,c1,c2,c3,c4,c5,c6,c7,c8,c9,c10].drop 0).take (Try.prog.cellsOf 9))=ys[0]?:=hf 0 _ rfl;have h1:DataW.trod enc Try.prog w base sp held m 9 (([c0,c1,c2,c3,c4,c5,c6,c7,c8,c9,c10].drop 1).take (Try.prog.cellsOf 9))=ys[1]?:=hf 1 _ rfl;have h2:DataW.trod enc Try.prog w base sp held m 3 (([c0,c1,c2,c3,c4,c5,c6,c7,c8,c9,c10].drop 2).take (Try.prog.cellsOf 3))=ys[2]?:=hf 2 _ rfl;have h3:DataW.trod enc Try.prog w base sp held m 28 (([c0,c1,c2,c3,c4,c5,c6,c7,c8,c9,c10].drop 3).take (Try.prog.cellsOf 28))=ys[3]?:=hf 3 _ rfl;have h4:DataW.trod enc Try.prog w base sp held m 30 (([c0,c1,c2,c3,c4,c5,c6,c7,c8,c9,c10].drop 4).take (Try.prog.cellsOf 30))=ys[4]?:=hf 4 _ rfl;have h5:DataW.trod enc Try.prog w base sp held m 32 (([c0,c1,c2,c3,c4,c5,c6,c7,c8,c9,c10].drop 5).take (Try.prog.cellsOf 32))=ys[5]?:=hf 5 _ rfl;have h6:DataW.trod enc Try.prog w base sp held m 33 (([c0,c1,c2,c3,c4,c5,c6,c7,c8,c9,c10].drop 6).take (Try.prog.cellsOf 33))=ys[6]?:=hf 6 _ rfl;have h7:DataW.trod enc Try.prog w base sp held m 9 (([c0,c1,c2,c3,c4,c5,c6,c7,c8,c9,c10].drop 7).take (Try.prog.cellsOf 9))=ys[7]?:=hf 7 _ rfl;have h8:DataW.trod enc Try.prog w base sp held m 3 (([c0,c1,c2,c3,c4,c5,c6,c7,c8,c9,c10].drop 8).take (Try.prog.cellsOf 3))=ys[8]?:=hf 8 _ rfl;have h9:DataW.trod enc Try.prog w base sp held m 9 (([c0,c1,c2,c3,c4,c5,c6,c7,c8,c9,c10].drop 9).take (Try.prog.cellsOf 9))=ys[9]?:=hf 9 _ rfl;have h10:DataW.trod enc Try.prog w base sp held m 4 (([c0,c1,c2,c3,c4,c5,c6,c7,c8,c9,c10].drop 10).take (Try.prog.cellsOf 4))=ys[10]?:=hf 10 _ rfl;rw[zW] at h0;rw[zW] at h1;rw[ZR] at h2;rw[jb2] at h3;rw[jbU] at h4;rw[ja8] at h5;rw[jeh] at h6;rw[zW] at h7;rw[ZR] at h8;rw[zW] at h9;rw[Xk] at h10;obtain⟨y0,e0⟩:∃y,ys[0]?=some y:=⟨_,List.getElem?_eq_getElem (by rw[hyl];decide)⟩
  rw[e0] at h0;obtain⟨y1,e1⟩:∃y,ys[1]?=some y:=⟨_,List.getElem?_eq_getElem (by rw[hyl];decide)⟩
  rw[e1] at h1;obtain⟨y2,e2⟩:∃y,ys[2]?=some y:=⟨_,List.getElem?_eq_getElem (by rw[hyl];decide)⟩
  rw[e2] at h2;obtain⟨y3,e3⟩:∃y,ys[3]?=some y:=⟨_,List.getElem?_eq_getElem (by rw[hyl];decide)⟩
  rw[e3] at h3;obtain⟨y4,e4⟩:∃y,ys[4]?=some y:=⟨_,List.getElem?_eq_getElem (by rw[hyl];decide)⟩
  rw[e4] at h4;obtain⟨y5,e5⟩:∃y,ys[5]?=some y:=⟨_,List.getElem?_eq_getElem (by rw[hyl];decide)⟩
  rw[e5] at h5;obtain⟨y6,e6⟩:∃y,ys[6]?=some y:=⟨_,List.getElem?_eq_getElem (by rw[hyl];decide)⟩
  rw[e6] at h6;obtain⟨y7,e7⟩:∃y,ys[7]?=some y:=⟨_,List.getElem?_eq_getElem (by rw[hyl];decide)⟩
  rw[e7] at h7;obtain⟨y8,e8⟩:∃y,ys[8]?=some y:=⟨_,List.getElem?_eq_getElem (by rw[hyl];decide)⟩
  rw[e8] at h8;obtain⟨y9,e9⟩:∃y,ys[9]?=some y:=⟨_,List.getElem?_eq_getElem (by rw[hyl];decide)⟩
  rw[e9] at h9;obtain⟨y10,e10⟩:∃y,ys[10]?=some y:=⟨_,List.getElem?_eq_getElem (by rw[hyl];decide)⟩
  rw[e10] at h10;simp only[List.drop_zero,List.take_succ_cons,List.take_zero,List.drop_succ_cons] at h0 h1 h2 h3 h4 h5 h6 h7 h8 h9 h10;obtain⟨s0,q0,-,z0⟩:=DataW.trod_string Try.underlying9 h0;obtain⟨s1,q1,-,z1⟩:=DataW.trod_string Try.underlying9 h1;obtain⟨s2,q2,-,z2⟩:=DataW.trod_int Try.underlying3 h2;obtain⟨l1,r3⟩:=Vec.jY h3;obtain⟨l2,r4⟩:=YY h4;obtain⟨l3,r5⟩:=YZ h5;obtain⟨l4,r6⟩:=qS h6;obtain⟨s7,q7,-,z7⟩:=DataW.trod_string Try.underlying9 h7;obtain⟨s8,q8,-,z8⟩:=DataW.trod_int Try.underlying3 h8;obtain⟨s9,q9,-,z9⟩:=DataW.trod_string Try.underlying9 h9;obtain⟨s10,q10,-⟩:=DataW.trod_bool Try.underlying4 h10;simp only[List.cons.injEq,and_true] at q0 q1 q2 q7 q8 q9 q10;subst q0;subst q1;subst q2;subst q7;subst q8;subst q9;subst q10;exact⟨⟨s0,s1,s2,l1,l2,l3,l4,s7,s8,s9,s10⟩,_,_,_,_,rfl,⟨z0,z1,z7,z9,bounds_i64 z2,bounds_i64 z8,r3,r4,r5,r6⟩⟩
theorem jdP {H:Type} {enc:TypeId×Value→H} {W:World} {r:Reach} {b0 base:Nat} {sp:Nat→Bool} {held:Bool} {v:Value} {d:DataW H} {ps:List MemPlace} (hval:Value.okWide Try.prog W r b0 35 v) (h:DataW.Trod enc Try.prog W base sp held 35 v d ps):∃n,Zk W v n:=by
 obtain⟨cs,rfl,hsz⟩:=okWide_struct Try.underlying35 hval;obtain⟨fuel,hf⟩:=h;obtain⟨n,v1,v2,v3,v4,ha,hat⟩:=Y5 hf;have e:cs.toList=[.string n.name,.string n.owner,.int .i64 n.prio,v1,v2,v3,v4,.string n.key,.int .i64 n.most,.string n.node,.bool n.hold]:=by
  have:(Value.agg cs).cells.toList=[.string n.name,.string n.owner,.int .i64 n.prio,v1,v2,v3,v4,.string n.key,.int .i64 n.most,.string n.node,.bool n.hold]:=ha;simpa [Value.cells] using this
 have:cs=#[.string n.name,.string n.owner,.int .i64 n.prio,v1,v2,v3,v4,.string n.key,.int .i64 n.most,.string n.node,.bool n.hold]:=Array.ext' e;rw[this];exact⟨n,v1,v2,v3,v4,rfl,hat⟩
def jbO (c:Int) (n:Pd) (w:World) (e:Ending) (w':World):Prop:=(c=0→∃v,e=.returned v∧Jp w.heap.size w' v n)∧(c≠0→e=.panicked [zQ c])∧Kept w w'
theorem jbO.bad {c:Int} {n:Pd} {w w':World} (hc:c≠0) (hb:Kept w w'):jbO c n w (.panicked [zQ c]) w':=⟨fun g=>absurd g hc,fun _=>rfl,hb⟩
theorem jaD {W:World} {q p:Nat} {c0 c1 c2 c3 c4 c5 c6 c7 c8 c9 c10 u0 u1 u2 u3 u4 u5 u6 u7 u8 u9 u10:Value} (h:(W).cell? ⟨q,0,none⟩=some (c0)∧(W).cell? ⟨q,1,none⟩=some (c1)∧(W).cell? ⟨q,2,none⟩=some (c2)∧(W).cell? ⟨q,3,none⟩=some (c3)∧(W).cell? ⟨q,4,none⟩=some (c4)∧(W).cell? ⟨q,5,none⟩=some (c5)∧(W).cell? ⟨q,6,none⟩=some (c6)∧(W).cell? ⟨q,7,none⟩=some (c7)∧(W).cell? ⟨q,8,none⟩=some (c8)∧(W).cell? ⟨q,9,none⟩=some (c9)∧(W).cell? ⟨q,10,none⟩=some (c10)) (hne:q≠p) :
 ((((((((((((W.setCell ⟨p,0,none⟩ u0).setCell ⟨p,1,none⟩ u1).setCell ⟨p,2,none⟩ u2).setCell ⟨p,3,none⟩ u3).setCell ⟨p,4,none⟩ u4).setCell ⟨p,5,none⟩ u5).setCell ⟨p,6,none⟩ u6).setCell ⟨p,7,none⟩ u7).setCell ⟨p,8,none⟩ u8).setCell ⟨p,9,none⟩ u9).setCell ⟨p,10,none⟩ u10)).cell? ⟨q,0,none⟩=some (c0)∧((((((((((((W.setCell ⟨p,0,none⟩ u0).setCell ⟨p,1,none⟩ u1).setCell ⟨p,2,none⟩ u2).setCell ⟨p,3,none⟩ u3).setCell ⟨p,4,none⟩ u4).setCell ⟨p,5,none⟩ u5).setCell ⟨p,6,none⟩ u6).setCell ⟨p,7,none⟩ u7).setCell ⟨p,8,none⟩ u8).setCell ⟨p,9,none⟩ u9).setCell ⟨p,10,none⟩ u10)).cell? ⟨q,1,none⟩=some (c1)∧((((((((((((W.setCell ⟨p,0,none⟩ u0).setCell ⟨p,1,none⟩ u1).setCell ⟨p,2,none⟩ u2).setCell ⟨p,3,none⟩ u3).setCell ⟨p,4,none⟩ u4).setCell ⟨p,5,none⟩ u5).setCell ⟨p,6,none⟩ u6).setCell ⟨p,7,none⟩ u7).setCell ⟨p,8,none⟩ u8).setCell ⟨p,9,none⟩ u9).setCell ⟨p,10,none⟩ u10)).cell? ⟨q,2,none⟩=some (c2)∧((((((((((((W.setCell ⟨p,0,none⟩ u0).setCell ⟨p,1,none⟩ u1).setCell ⟨p,2,none⟩ u2).setCell ⟨p,3,none⟩ u3).setCell ⟨p,4,none⟩ u4).setCell ⟨p,5,none⟩ u5).setCell ⟨p,6,none⟩ u6).setCell ⟨p,7,none⟩ u7).setCell ⟨p,8,none⟩ u8).setCell ⟨p,9,none⟩ u9).setCell ⟨p,10,none⟩ u10)).cell? ⟨q,3,none⟩=some (c3)∧((((((((((((W.setCell ⟨p,0,none⟩ u0).setCell ⟨p,1,none⟩ u1).setCell ⟨p,2,none⟩ u2).setCell ⟨p,3,none⟩ u3).setCell ⟨p,4,none⟩ u4).setCell ⟨p,5,none⟩ u5).setCell ⟨p,6,none⟩ u6).setCell ⟨p,7,none⟩ u7).setCell ⟨p,8,none⟩ u8).setCell ⟨p,9,none⟩ u9).setCell ⟨p,10,none⟩ u10)).cell? ⟨q,4,none⟩=some (c4)∧((((((((((((W.setCell ⟨p,0,none⟩ u0).setCell ⟨p,1,none⟩ u1).setCell ⟨p,2,none⟩ u2).setCell ⟨p,3,none⟩ u3).setCell ⟨p,4,none⟩ u4).setCell ⟨p,5,none⟩ u5).setCell ⟨p,6,none⟩ u6).setCell ⟨p,7,none⟩ u7).setCell ⟨p,8,none⟩ u8).setCell ⟨p,9,none⟩ u9).setCell ⟨p,10,none⟩ u10)).cell? ⟨q,5,none⟩=some (c5)∧((((((((((((W.setCell ⟨p,0,none⟩ u0).setCell ⟨p,1,none⟩ u1).setCell ⟨p,2,none⟩ u2).setCell ⟨p,3,none⟩ u3).setCell ⟨p,4,none⟩ u4).setCell ⟨p,5,none⟩ u5).setCell ⟨p,6,none⟩ u6).setCell ⟨p,7,none⟩ u7).setCell ⟨p,8,none⟩ u8).setCell ⟨p,9,none⟩ u9).setCell ⟨p,10,none⟩ u10)).cell? ⟨q,6,none⟩=some (c6)∧((((((((((((W.setCell ⟨p,0,none⟩ u0).setCell ⟨p,1,none⟩ u1).setCell ⟨p,2,none⟩ u2).setCell ⟨p,3,none⟩ u3).setCell ⟨p,4,none⟩ u4).setCell ⟨p,5,none⟩ u5).setCell ⟨p,6,none⟩ u6).setCell ⟨p,7,none⟩ u7).setCell ⟨p,8,none⟩ u8).setCell ⟨p,9,none⟩ u9).setCell ⟨p,10,none⟩ u10)).cell? ⟨q,7,none⟩=some (c7)∧((((((((((((W.setCell ⟨p,0,none⟩ u0).setCell ⟨p,1,none⟩ u1).setCell ⟨p,2,none⟩ u2).setCell ⟨p,3,none⟩ u3).setCell ⟨p,4,none⟩ u4).setCell ⟨p,5,none⟩ u5).setCell ⟨p,6,none⟩ u6).setCell ⟨p,7,none⟩ u7).setCell ⟨p,8,none⟩ u8).setCell ⟨p,9,none⟩ u9).setCell ⟨p,10,none⟩ u10)).cell? ⟨q,8,none⟩=some (c8)∧((((((((((((W.setCell ⟨p,0,none⟩ u0).setCell ⟨p,1,none⟩ u1).setCell ⟨p,2,none⟩ u2).setCell ⟨p,3,none⟩ u3).setCell ⟨p,4,none⟩ u4).setCell ⟨p,5,none⟩ u5).setCell ⟨p,6,none⟩ u6).setCell ⟨p,7,none⟩ u7).setCell ⟨p,8,none⟩ u8).setCell ⟨p,9,none⟩ u9).setCell ⟨p,10,none⟩ u10)).cell? ⟨q,9,none⟩=some (c9)∧((((((((((((W.setCell ⟨p,0,none⟩ u0).setCell ⟨p,1,none⟩ u1).setCell ⟨p,2,none⟩ u2).setCell ⟨p,3,none⟩ u3).setCell ⟨p,4,none⟩ u4).setCell ⟨p,5,none⟩ u5).setCell ⟨p,6,none⟩ u6).setCell ⟨p,7,none⟩ u7).setCell ⟨p,8,none⟩ u8).setCell ⟨p,9,none⟩ u9).setCell ⟨p,10,none⟩ u10)).cell? ⟨q,10,none⟩=some (c10):=by
 have e:(W.setCells p 0 [u0,u1,u2,u3,u4,u5,u6,u7,u8,u9,u10]).heap[q]?=W.heap[q]?:=Jn p _ 0 W q hne;have c:∀j,((((((((((((W.setCell ⟨p,0,none⟩ u0).setCell ⟨p,1,none⟩ u1).setCell ⟨p,2,none⟩ u2).setCell ⟨p,3,none⟩ u3).setCell ⟨p,4,none⟩ u4).setCell ⟨p,5,none⟩ u5).setCell ⟨p,6,none⟩ u6).setCell ⟨p,7,none⟩ u7).setCell ⟨p,8,none⟩ u8).setCell ⟨p,9,none⟩ u9).setCell ⟨p,10,none⟩ u10)).cell? ⟨q,j,none⟩=W.cell? ⟨q,j,none⟩:=fun j=>World.cell?_of_block (a:=⟨q,j,none⟩) e;simp only[c];exact h
theorem jes {v:Value} {l:TL} {w:World} (h:Reads jQ w v l) (hf:l.length≤1000000) :
 Calls Try.prog 39 #[v] w (fun e w'=>∃x,e=.returned x∧Own jQ 129 w' w.heap.size x l∧Kept w w'):=by
 obtain⟨a,cap,rfl,h1,h2,h3⟩:=h;exact jcx a _ cap l w h3 hf
theorem jeR {v:Value} {l:NL} {w:World} (h:Reads jv w v l) (hf:l.length≤1000000) :
 Calls Try.prog 40 #[v] w (fun e w'=>∃x,e=.returned x∧Own jv 130 w' w.heap.size x l∧Kept w w'):=by
 obtain⟨a,cap,rfl,h1,h2,h3⟩:=h;exact jdM a _ cap l w h3 hf
abbrev PX:=Pd×SX×SX×SX×SX
abbrev jeQ (z:PX):Value:=jy z.1 (slV z.2.1) (slV z.2.2.1) (slV z.2.2.2.1) (slV z.2.2.2.2)
def At4 (w:World) (z:PX):Prop:=jA w (slV z.2.1) (slV z.2.2.1) (slV z.2.2.2.1) (slV z.2.2.2.2) z.1
def Btw (lo hi:Nat) (a:Option Addr):Prop:=∀b off sp,a=some ⟨b,off,sp⟩→lo≤b∧b<hi
theorem Btw.up {lo hi lo' hi':Nat} {a:Option Addr} (h:Btw lo hi a) (h1:lo'≤lo) (h2:hi≤hi'):Btw lo' hi' a:=fun b o s e=>⟨Nat.le_trans h1 (h b o s e).1,Nat.lt_of_lt_of_le (h b o s e).2 h2⟩
theorem Btw.behind {lo hi:Nat} {a:Option Addr} (h:Btw lo hi a):jO lo a:=fun b o s e=>(h b o s e).1
def Jy (lo hi:Nat) (z:PX):Prop:=Btw lo hi z.2.1.1∧Btw lo hi z.2.2.1.1∧Btw lo hi z.2.2.2.1.1∧Btw lo hi z.2.2.2.2.1
theorem Jy.up {lo hi lo' hi':Nat} {z:PX} (h:Jy lo hi z) (h1:lo'≤lo) (h2:hi≤hi'):Jy lo' hi' z:=⟨h.1.up h1 h2,h.2.1.up h1 h2,h.2.2.1.up h1 h2,h.2.2.2.up h1 h2⟩
theorem jA.at4 {w:World} {n:Pd} {x1 x2 x3 x4:SX} (h:jA w (slV x1) (slV x2) (slV x3) (slV x4) n):At4 w (n,x1,x2,x3,x4):=h
theorem ja4 (n:Pd) (v1 v2 v3 v4:Value) (w:World) (h:jA w v1 v2 v3 v4 n) (hl:YU n) :
 Calls Try.prog 10 #[jy n v1 v2 v3 v4] w fun e w'=>∃z:PX,e=.returned (jeQ z)∧z.1=n∧At4 w' z∧Jy w.heap.size w'.heap.size z∧Kept w w':=by
 have HH:=lH h;have E1:=lH (fun W (k:Kept w W)=>(jer (h.need.kept k) hl.need).mono fun _ _=>X3);have E2:=lH (fun W (k:Kept w W)=>(jet (h.labels.kept k) hl.labels).mono fun _ _=>JA);have E3:=lH (fun W (k:Kept w W)=>(jes (h.sel.kept k) hl.sel).mono fun _ _=>JA);have E4:=lH (fun W (k:Kept w W)=>(jeR (h.tols.kept k) hl.tols).mono fun _ _=>JA);obtain⟨⟨x0,x1,x2,l1,l2,l3,l4,x3,x4,x5,x6⟩,hnn⟩:∃m,m=n:=⟨n,rfl⟩
 subst hnn;dsimp only at E1 E2 E3 E4;obtain⟨Y,hY⟩:∃Y,w.alloc (.cells #[.string x0,.string x1,.int .i64 x2,v1,v2,v3,v4,.string x3,.int .i64 x4,.string x5,.bool x6] 35)=Y:=⟨_,rfl⟩
 obtain⟨W0,hW0⟩:∃Z,(w.alloc (.cells #[.string x0,.string x1,.int .i64 x2,v1,v2,v3,v4,.string x3,.int .i64 x4,.string x5,.bool x6] 35)).alloc (.cells #[.string ⟨#[]⟩,.string ⟨#[]⟩,.int .i64 0,.slice none 0 0,.slice none 0 0,.slice none 0 0,.slice none 0 0,.string ⟨#[]⟩,.int .i64 0,.string ⟨#[]⟩,.bool false] 45)=Z:=⟨_,rfl⟩
 have hk0:Kept w W0:=by rw[←hW0];exact jX _ _ _
 have hzs:W0.heap.size=w.heap.size+2:=by rw[←hW0];simp
 have HB:=lH (show ∀W,Kept W0 W→W.cell? ⟨w.heap.size,0,none⟩=some (.string x0)∧W.cell? ⟨w.heap.size,1,none⟩=some (.string x1)∧W.cell? ⟨w.heap.size,2,none⟩=some (.int .i64 x2)∧W.cell? ⟨w.heap.size,3,none⟩=some (v1)∧W.cell? ⟨w.heap.size,4,none⟩=some (v2)∧W.cell? ⟨w.heap.size,5,none⟩=some (v3)∧W.cell? ⟨w.heap.size,6,none⟩=some (v4)∧W.cell? ⟨w.heap.size,7,none⟩=some (.string x3)∧W.cell? ⟨w.heap.size,8,none⟩=some (.int .i64 x4)∧W.cell? ⟨w.heap.size,9,none⟩=some (.string x5)∧W.cell? ⟨w.heap.size,10,none⟩=some (.bool x6) from fun W k=>by
  have:=jd w (.string x0) [.string x1,.int .i64 x2,v1,v2,v3,v4,.string x3,.int .i64 x4,.string x5,.bool x6] 35 W ((by rw[←hW0];exact ja _ _:Kept (w.alloc (.cells #[.string x0,.string x1,.int .i64 x2,v1,v2,v3,v4,.string x3,.int .i64 x4,.string x5,.bool x6] 35)) W0).trans k);exact⟨this.at_ 0 _ rfl,this.at_ 1 _ rfl,this.at_ 2 _ rfl,this.at_ 3 _ rfl,this.at_ 4 _ rfl,this.at_ 5 _ rfl,this.at_ 6 _ rfl,this.at_ 7 _ rfl,this.at_ 8 _ rfl,this.at_ 9 _ rfl,this.at_ 10 _ rfl⟩)
 have HQ:=lH (show ∀W,Kept W0 W→jh (w.heap.size+1) [.string ⟨#[]⟩,.string ⟨#[]⟩,.int .i64 0,.slice none 0 0,.slice none 0 0,.slice none 0 0,.slice none 0 0,.string ⟨#[]⟩,.int .i64 0,.string ⟨#[]⟩,.bool false] W from fun W k=>by
  have:=jd (w.alloc (.cells #[.string x0,.string x1,.int .i64 x2,v1,v2,v3,v4,.string x3,.int .i64 x4,.string x5,.bool x6] 35)) (.string ⟨#[]⟩) [.string ⟨#[]⟩,.int .i64 0,.slice none 0 0,.slice none 0 0,.slice none 0 0,.slice none 0 0,.string ⟨#[]⟩,.int .i64 0,.string ⟨#[]⟩,.bool false] 45 W (by rw[hW0];exact k);rw[World.size_alloc] at this;exact this)
 have HZ:=lH hzs;have HK0:=lH hk0;obtain⟨b0,b1,b2,b3,b4,b5,b6,b7,b8,b9,b10⟩:=HB.out _ (Kept.refl _);clear h hl hk0 hzs hY Y;unfold jy;dsimp only;go_enter Try.func10,Try.ntmps10;go_wp2;try rw[hW0]
 clear hW0;refine wp_region_held_drew (S:=fun W=>W.cell? ⟨w.heap.size,0,none⟩=some (.string x0)∧W.cell? ⟨w.heap.size,1,none⟩=some (.string x1)∧W.cell? ⟨w.heap.size,2,none⟩=some (.int .i64 x2)∧W.cell? ⟨w.heap.size,3,none⟩=some (v1)∧W.cell? ⟨w.heap.size,4,none⟩=some (v2)∧W.cell? ⟨w.heap.size,5,none⟩=some (v3)∧W.cell? ⟨w.heap.size,6,none⟩=some (v4)∧W.cell? ⟨w.heap.size,7,none⟩=some (.string x3)∧W.cell? ⟨w.heap.size,8,none⟩=some (.int .i64 x4)∧W.cell? ⟨w.heap.size,9,none⟩=some (.string x5)∧W.cell? ⟨w.heap.size,10,none⟩=some (.bool x6)) (by kernel_rfl) (HB.out _ (Kept.drew _)) (fun hHeld=>?_);refine wpAnyH_take  (i:=0) (v:=?_) (by rw[List.getElem?_toArray];exact rfl) (by kernel_rfl) (by kernel_rfl) (by kernel_rfl) (by exact fun _ _ _ h=>h) (Or.inl ⟨by rfl,(by rintro W ⟨q0,q1,q2,q3,q4,q5,q6,q7,q8,q9,q10⟩;go_simp<;>with_reducible rfl)⟩) (by assumption) ?_;try simp only  [Act.put,List.setIfInBounds_toArray,List.set_cons_zero,List.set_cons_succ]
 refine wpAnyH_take  (i:=1) (v:=?_) (by rw[List.getElem?_toArray];exact rfl) (by kernel_rfl) (by kernel_rfl) (by kernel_rfl) (by exact fun _ _ _ h=>h) (Or.inl ⟨by rfl,(by rintro W ⟨q0,q1,q2,q3,q4,q5,q6,q7,q8,q9,q10⟩;go_simp<;>with_reducible rfl)⟩) (by assumption) ?_;try simp only  [Act.put,List.setIfInBounds_toArray,List.set_cons_zero,List.set_cons_succ]
 refine wpAnyH_take  (i:=2) (v:=?_) (by rw[List.getElem?_toArray];exact rfl) (by kernel_rfl) (by kernel_rfl) (by kernel_rfl) (by exact fun _ _ _ h=>h) (Or.inl ⟨by rfl,(by rintro W ⟨q0,q1,q2,q3,q4,q5,q6,q7,q8,q9,q10⟩;go_simp<;>with_reducible rfl)⟩) (by assumption) ?_;try simp only  [Act.put,List.setIfInBounds_toArray,List.set_cons_zero,List.set_cons_succ]
 refine wpAnyH_take  (i:=3) (v:=?_) (by rw[List.getElem?_toArray];exact rfl) (by kernel_rfl) (by kernel_rfl) (by kernel_rfl) (by exact fun _ _ _ h=>h) (Or.inl ⟨by rfl,(by rintro W ⟨q0,q1,q2,q3,q4,q5,q6,q7,q8,q9,q10⟩;go_simp<;>with_reducible rfl)⟩) (by assumption) ?_;try simp only  [Act.put,List.setIfInBounds_toArray,List.set_cons_zero,List.set_cons_succ]
 refine wpAnyH_take  (i:=4) (v:=?_) (by rw[List.getElem?_toArray];exact rfl) (by kernel_rfl) (by kernel_rfl) (by kernel_rfl) (by exact fun _ _ _ h=>h) (Or.inl ⟨by rfl,(by rintro W ⟨q0,q1,q2,q3,q4,q5,q6,q7,q8,q9,q10⟩;go_simp<;>with_reducible rfl)⟩) (by assumption) ?_;try simp only  [Act.put,List.setIfInBounds_toArray,List.set_cons_zero,List.set_cons_succ]
 refine wpAnyH_take  (i:=5) (v:=?_) (by rw[List.getElem?_toArray];exact rfl) (by kernel_rfl) (by kernel_rfl) (by kernel_rfl) (by exact fun _ _ _ h=>h) (Or.inl ⟨by rfl,(by rintro W ⟨q0,q1,q2,q3,q4,q5,q6,q7,q8,q9,q10⟩;go_simp<;>with_reducible rfl)⟩) (by assumption) ?_;try simp only  [Act.put,List.setIfInBounds_toArray,List.set_cons_zero,List.set_cons_succ]
 refine wpAnyH_take  (i:=6) (v:=?_) (by rw[List.getElem?_toArray];exact rfl) (by kernel_rfl) (by kernel_rfl) (by kernel_rfl) (by exact fun _ _ _ h=>h) (Or.inl ⟨by rfl,(by rintro W ⟨q0,q1,q2,q3,q4,q5,q6,q7,q8,q9,q10⟩;go_simp<;>with_reducible rfl)⟩) (by assumption) ?_;try simp only  [Act.put,List.setIfInBounds_toArray,List.set_cons_zero,List.set_cons_succ]
 refine wpAnyH_take  (i:=7) (v:=?_) (by rw[List.getElem?_toArray];exact rfl) (by kernel_rfl) (by kernel_rfl) (by kernel_rfl) (by exact fun _ _ _ h=>h) (Or.inl ⟨by rfl,(by rintro W ⟨q0,q1,q2,q3,q4,q5,q6,q7,q8,q9,q10⟩;go_simp<;>with_reducible rfl)⟩) (by assumption) ?_;try simp only  [Act.put,List.setIfInBounds_toArray,List.set_cons_zero,List.set_cons_succ]
 refine wpAnyH_take  (i:=9) (v:=?_) (by rw[List.getElem?_toArray];exact rfl) (by kernel_rfl) (by kernel_rfl) (by kernel_rfl) (by exact fun _ _ _ h=>h) (Or.inl ⟨by rfl,(by rintro W ⟨q0,q1,q2,q3,q4,q5,q6,q7,q8,q9,q10⟩;go_simp<;>with_reducible rfl)⟩) (by assumption) ?_;try simp only  [Act.put,List.setIfInBounds_toArray,List.set_cons_zero,List.set_cons_succ]
 refine wpAnyH_take  (i:=10) (v:=?_) (by rw[List.getElem?_toArray];exact rfl) (by kernel_rfl) (by kernel_rfl) (by kernel_rfl) (by exact fun _ _ _ h=>h) (Or.inl ⟨by rfl,(by rintro W ⟨q0,q1,q2,q3,q4,q5,q6,q7,q8,q9,q10⟩;go_simp<;>with_reducible rfl)⟩) (by assumption) ?_;try simp only  [Act.put,List.setIfInBounds_toArray,List.set_cons_zero,List.set_cons_succ]
 refine wpAnyH_take  (i:=12) (v:=?_) (by rw[List.getElem?_toArray];exact rfl) (by kernel_rfl) (by kernel_rfl) (by kernel_rfl) (by exact fun _ _ _ h=>h) (Or.inl ⟨by rfl,(by rintro W ⟨q0,q1,q2,q3,q4,q5,q6,q7,q8,q9,q10⟩;go_simp<;>with_reducible rfl)⟩) (by assumption) ?_;try simp only  [Act.put,List.setIfInBounds_toArray,List.set_cons_zero,List.set_cons_succ]
 refine wpAnyH_take  (i:=13) (v:=?_) (by rw[List.getElem?_toArray];exact rfl) (by kernel_rfl) (by kernel_rfl) (by kernel_rfl) (by exact fun _ _ _ h=>h) (Or.inl ⟨by rfl,(by rintro W ⟨q0,q1,q2,q3,q4,q5,q6,q7,q8,q9,q10⟩;go_simp<;>with_reducible rfl)⟩) (by assumption) ?_;try simp only  [Act.put,List.setIfInBounds_toArray,List.set_cons_zero,List.set_cons_succ]
 refine wpAnyH_take  (i:=15) (v:=?_) (by rw[List.getElem?_toArray];exact rfl) (by kernel_rfl) (by kernel_rfl) (by kernel_rfl) (by exact fun _ _ _ h=>h) (Or.inl ⟨by rfl,(by rintro W ⟨q0,q1,q2,q3,q4,q5,q6,q7,q8,q9,q10⟩;go_simp<;>with_reducible rfl)⟩) (by assumption) ?_;try simp only  [Act.put,List.setIfInBounds_toArray,List.set_cons_zero,List.set_cons_succ]
 refine wpAnyH_take  (i:=16) (v:=?_) (by rw[List.getElem?_toArray];exact rfl) (by kernel_rfl) (by kernel_rfl) (by kernel_rfl) (by exact fun _ _ _ h=>h) (Or.inl ⟨by rfl,(by rintro W ⟨q0,q1,q2,q3,q4,q5,q6,q7,q8,q9,q10⟩;go_simp<;>with_reducible rfl)⟩) (by assumption) ?_;try simp only  [Act.put,List.setIfInBounds_toArray,List.set_cons_zero,List.set_cons_succ]
 refine wpAnyH_take  (i:=18) (v:=?_) (by rw[List.getElem?_toArray];exact rfl) (by kernel_rfl) (by kernel_rfl) (by kernel_rfl) (by exact fun _ _ _ h=>h) (Or.inl ⟨by rfl,(by rintro W ⟨q0,q1,q2,q3,q4,q5,q6,q7,q8,q9,q10⟩;go_simp<;>with_reducible rfl)⟩) (by assumption) ?_;try simp only  [Act.put,List.setIfInBounds_toArray,List.set_cons_zero,List.set_cons_succ]
 refine wpAnyH_take  (i:=19) (v:=?_) (by rw[List.getElem?_toArray];exact rfl) (by kernel_rfl) (by kernel_rfl) (by kernel_rfl) (by exact fun _ _ _ h=>h) (Or.inl ⟨by rfl,(by rintro W ⟨q0,q1,q2,q3,q4,q5,q6,q7,q8,q9,q10⟩;go_simp<;>with_reducible rfl)⟩) (by assumption) ?_;try simp only  [Act.put,List.setIfInBounds_toArray,List.set_cons_zero,List.set_cons_succ]
 refine wpAnyH_take  (i:=20) (v:=?_) (by rw[List.getElem?_toArray];exact rfl) (by kernel_rfl) (by kernel_rfl) (by kernel_rfl) (by exact fun _ _ _ h=>h) (Or.inl ⟨by rfl,(by rintro W ⟨q0,q1,q2,q3,q4,q5,q6,q7,q8,q9,q10⟩;go_simp<;>with_reducible rfl)⟩) (by assumption) ?_;try simp only  [Act.put,List.setIfInBounds_toArray,List.set_cons_zero,List.set_cons_succ]
 refine wpAnyH_take  (i:=21) (v:=?_) (by rw[List.getElem?_toArray];exact rfl) (by kernel_rfl) (by kernel_rfl) (by kernel_rfl) (by exact fun _ _ _ h=>h) (Or.inl ⟨by rfl,(by rintro W ⟨q0,q1,q2,q3,q4,q5,q6,q7,q8,q9,q10⟩;go_simp<;>with_reducible rfl)⟩) (by assumption) ?_;try simp only  [Act.put,List.setIfInBounds_toArray,List.set_cons_zero,List.set_cons_succ]
 refine wpAnyH_take  (i:=22) (v:=?_) (by rw[List.getElem?_toArray];exact rfl) (by kernel_rfl) (by kernel_rfl) (by kernel_rfl) (by exact fun _ _ _ h=>h) (Or.inl ⟨by rfl,(by rintro W ⟨q0,q1,q2,q3,q4,q5,q6,q7,q8,q9,q10⟩;go_simp<;>with_reducible rfl)⟩) (by assumption) ?_;try simp only  [Act.put,List.setIfInBounds_toArray,List.set_cons_zero,List.set_cons_succ]
 refine wpAnyH_take  (i:=23) (v:=?_) (by rw[List.getElem?_toArray];exact rfl) (by kernel_rfl) (by kernel_rfl) (by kernel_rfl) (by exact fun _ _ _ h=>h) (Or.inl ⟨by rfl,(by rintro W ⟨q0,q1,q2,q3,q4,q5,q6,q7,q8,q9,q10⟩;go_simp<;>with_reducible rfl)⟩) (by assumption) ?_;try simp only  [Act.put,List.setIfInBounds_toArray,List.set_cons_zero,List.set_cons_succ]
 refine wpAnyH_take  (i:=24) (v:=?_) (by rw[List.getElem?_toArray];exact rfl) (by kernel_rfl) (by kernel_rfl) (by kernel_rfl) (by exact fun _ _ _ h=>h) (Or.inl ⟨by rfl,(by rintro W ⟨q0,q1,q2,q3,q4,q5,q6,q7,q8,q9,q10⟩;go_simp<;>with_reducible rfl)⟩) (by assumption) ?_;try simp only  [Act.put,List.setIfInBounds_toArray,List.set_cons_zero,List.set_cons_succ]
 refine wpAnyH_take  (i:=25) (v:=?_) (by rw[List.getElem?_toArray];exact rfl) (by kernel_rfl) (by kernel_rfl) (by kernel_rfl) (by exact fun _ _ _ h=>h) (Or.inl ⟨by rfl,(by rintro W ⟨q0,q1,q2,q3,q4,q5,q6,q7,q8,q9,q10⟩;go_simp<;>with_reducible rfl)⟩) (by assumption) ?_;try simp only  [Act.put,List.setIfInBounds_toArray,List.set_cons_zero,List.set_cons_succ]
 refine wpAnyH_ready  (rs:=[8]) (by kernel_rfl) (by simp) (AllReadyH.cons  (by rw[List.getElem?_toArray];exact rfl) (fun K9 hK9=>?_) AllReadyH.nil);go_simp;refine(E1.out _ (HK0.out.trans (Kept.drew _))).mono ?_;rintro e1 w1 ⟨b1,n1,d1,rfl,r1,g1,k1⟩;have K1:=lH (Kept.trans (Kept.drew _) k1);have G1:=lH (show Btw (w.heap.size+2) w1.heap.size b1 from fun b o s e=>⟨Nat.le_trans (by rw[←HZ.out];exact Below.size (Kept.drew _)) (g1 b o s e).1,(g1 b o s e).2⟩);have R1:=lH r1;clear k1 r1 g1;refine hK9.out _ _ (HB.out _ K1.out) (fun hHeld1=>?_);clear hK9 K9;try simp only  [Act.put,List.setIfInBounds_toArray,List.set_cons_zero,List.set_cons_succ]
 refine wpAnyH_ready  (rs:=[11]) (by kernel_rfl) (by simp) (AllReadyH.cons  (by rw[List.getElem?_toArray];exact rfl) (fun K9 hK9=>?_) AllReadyH.nil);go_simp;refine(E2.out _ (HK0.out.trans K1.out)).mono ?_;rintro e2 w2 ⟨b2,n2,d2,rfl,r2,g2,k2⟩;have K2:=lH (Kept.trans K1.out k2);have G2:=lH (show Btw (w.heap.size+2) w2.heap.size b2 from fun b o s e=>⟨Nat.le_trans (by rw[←HZ.out];exact Below.size K1.out) (g2 b o s e).1,(g2 b o s e).2⟩);have R2:=lH r2;have R1:=lH (R1.out.kept k2);have G1:=lH (G1.out.up (Nat.le_refl _) k2.size);clear k2 r2 g2;refine hK9.out _ _ (HB.out _ K2.out) (fun hHeld2=>?_);clear hK9 K9;try simp only  [Act.put,List.setIfInBounds_toArray,List.set_cons_zero,List.set_cons_succ]
 refine wpAnyH_ready  (rs:=[14]) (by kernel_rfl) (by simp) (AllReadyH.cons  (by rw[List.getElem?_toArray];exact rfl) (fun K9 hK9=>?_) AllReadyH.nil);go_simp;refine(E3.out _ (HK0.out.trans K2.out)).mono ?_;rintro e3 w3 ⟨b3,n3,d3,rfl,r3,g3,k3⟩;have K3:=lH (Kept.trans K2.out k3);have G3:=lH (show Btw (w.heap.size+2) w3.heap.size b3 from fun b o s e=>⟨Nat.le_trans (by rw[←HZ.out];exact Below.size K2.out) (g3 b o s e).1,(g3 b o s e).2⟩);have R3:=lH r3;have R1:=lH (R1.out.kept k3);have G1:=lH (G1.out.up (Nat.le_refl _) k3.size);have R2:=lH (R2.out.kept k3);have G2:=lH (G2.out.up (Nat.le_refl _) k3.size);clear k3 r3 g3;refine hK9.out _ _ (HB.out _ K3.out) (fun hHeld3=>?_);clear hK9 K9;try simp only  [Act.put,List.setIfInBounds_toArray,List.set_cons_zero,List.set_cons_succ]
 refine wpAnyH_ready  (rs:=[17]) (by kernel_rfl) (by simp) (AllReadyH.cons  (by rw[List.getElem?_toArray];exact rfl) (fun K9 hK9=>?_) AllReadyH.nil);go_simp;refine(E4.out _ (HK0.out.trans K3.out)).mono ?_;rintro e4 w4 ⟨b4,n4,d4,rfl,r4,g4,k4⟩;have K4:=lH (Kept.trans K3.out k4);have G4:=lH (show Btw (w.heap.size+2) w4.heap.size b4 from fun b o s e=>⟨Nat.le_trans (by rw[←HZ.out];exact Below.size K3.out) (g4 b o s e).1,(g4 b o s e).2⟩);have R4:=lH r4;have R1:=lH (R1.out.kept k4);have G1:=lH (G1.out.up (Nat.le_refl _) k4.size);have R2:=lH (R2.out.kept k4);have G2:=lH (G2.out.up (Nat.le_refl _) k4.size);have R3:=lH (R3.out.kept k4);have G3:=lH (G3.out.up (Nat.le_refl _) k4.size);clear k4 r4 g4;refine hK9.out _ _ (HB.out _ K4.out) (fun hHeld4=>?_);clear hK9 K9;try simp only  [Act.put,List.setIfInBounds_toArray,List.set_cons_zero,List.set_cons_succ]
 refine wpAnyH_take  (i:=26) (v:=?_) (by rw[List.getElem?_toArray];exact rfl) (by kernel_rfl) (by kernel_rfl) (by kernel_rfl) (by exact fun _ _ _ h=>h) (Or.inl ⟨by rfl,(by rintro W ⟨q0,q1,q2,q3,q4,q5,q6,q7,q8,q9,q10⟩;go_simp<;>with_reducible rfl)⟩) (by assumption) ?_;try simp only  [Act.put,List.setIfInBounds_toArray,List.set_cons_zero,List.set_cons_succ]
 have HQ4:=lH (HQ.out _ K4.out);have z0:=HQ4.out.at_ 0 _ rfl;have z1:=HQ4.out.at_ 1 _ rfl;have z2:=HQ4.out.at_ 2 _ rfl;have z3:=HQ4.out.at_ 3 _ rfl;have z4:=HQ4.out.at_ 4 _ rfl;have z5:=HQ4.out.at_ 5 _ rfl;have z6:=HQ4.out.at_ 6 _ rfl;have z7:=HQ4.out.at_ 7 _ rfl;have z8:=HQ4.out.at_ 8 _ rfl;have z9:=HQ4.out.at_ 9 _ rfl;have z10:=HQ4.out.at_ 10 _ rfl;have f0:=HQ4.out.free 0;have f1:=HQ4.out.free 1;have f2:=HQ4.out.free 2;have f3:=HQ4.out.free 3;have f4:=HQ4.out.free 4;have f5:=HQ4.out.free 5;have f6:=HQ4.out.free 6;have f7:=HQ4.out.free 7;have f8:=HQ4.out.free 8;have f9:=HQ4.out.free 9;have f10:=HQ4.out.free 10;refine wpAnyH_ready  (rs:=[27]) (by kernel_rfl) (by simp) (AllReadyH.cons  (by rw[List.getElem?_toArray];exact rfl) (fun K9 hK9=>?_) AllReadyH.nil);go_simp;refine hK9.out _ _ (jaD (HB.out _ K4.out) (by omega)) (fun hHeldS=>?_);clear hK9 K9 hHeldS;try simp only  [Act.put,List.setIfInBounds_toArray,List.set_cons_zero,List.set_cons_succ]
 refine wpAnyH_done (by kernel_rfl) ?_ _;have P:=lH (zg (vs:=[.string x0,.string x1,.int .i64 x2,.slice b1 n1 d1,.slice b2 n2 d2,.slice b3 n3 d3,.slice b4 n4 d4,.string x3,.int .i64 x4,.string x5,.bool x6]) HQ4.out rfl);clear z0 f0 z1 f1 z2 f2 z3 f3 z4 f4 z5 f5 z6 f6 z7 f7 z8 f8 z9 f9 z10 f10;go_wp2;(try simp only[Exit.inBlock,Exit.then])
 obtain⟨WE,hWE⟩:∃W,w4.setCells (w.heap.size+1) 0 [.string x0,.string x1,.int .i64 x2,.slice b1 n1 d1,.slice b2 n2 d2,.slice b3 n3 d3,.slice b4 n4 d4,.string x3,.int .i64 x4,.string x5,.bool x6]=W:=⟨_,rfl⟩
 have hWE2:(((((((((((w4.setCell ⟨w.heap.size+1,0,none⟩ (.string x0)).setCell ⟨w.heap.size+1,1,none⟩ (.string x1)).setCell ⟨w.heap.size+1,2,none⟩ (.int .i64 x2)).setCell ⟨w.heap.size+1,3,none⟩ (.slice b1 n1 d1)).setCell ⟨w.heap.size+1,4,none⟩ (.slice b2 n2 d2)).setCell ⟨w.heap.size+1,5,none⟩ (.slice b3 n3 d3)).setCell ⟨w.heap.size+1,6,none⟩ (.slice b4 n4 d4)).setCell ⟨w.heap.size+1,7,none⟩ (.string x3)).setCell ⟨w.heap.size+1,8,none⟩ (.int .i64 x4)).setCell ⟨w.heap.size+1,9,none⟩ (.string x5)).setCell ⟨w.heap.size+1,10,none⟩ (.bool x6))=WE:=hWE;rw[hWE] at P;rw[hWE2];clear hWE hWE2;obtain⟨PC,hsz,hbl,hkp⟩:=P.out;refine bodyPost_ret (by simp[results,Try.results10,go_sem,PC.at_ 0 _ rfl,PC.at_ 1 _ rfl,PC.at_ 2 _ rfl,PC.at_ 3 _ rfl,PC.at_ 4 _ rfl,PC.at_ 5 _ rfl,PC.at_ 6 _ rfl,PC.at_ 7 _ rfl,PC.at_ 8 _ rfl,PC.at_ 9 _ rfl,PC.at_ 10 _ rfl];try rfl) rfl ?_;refine⟨(⟨x0,x1,x2,l1,l2,l3,l4,x3,x4,x5,x6⟩,(b1,n1,d1),(b2,n2,d2),(b3,n3,d3),(b4,n4,d4)),rfl,rfl,jA.at4 (jA.far (B:=w.heap.size+2) (n:=⟨x0,x1,x2,l1,l2,l3,l4,x3,x4,x5,x6⟩) ⟨HH.out.name,HH.out.owner,HH.out.key,HH.out.node,HH.out.prio,HH.out.most,R1.out,R2.out,R3.out,R4.out⟩ hsz (fun b hb=>hbl b (by omega)) G1.out.behind G2.out.behind G3.out.behind G4.out.behind),?_,hkp _ _ (by omega) (HK0.out.trans K4.out)⟩;rw[hsz];exact⟨G1.out.up (by omega) (Nat.le_refl _),G2.out.up (by omega) (Nat.le_refl _),G3.out.up (by omega) (Nat.le_refl _),G4.out.up (by omega) (Nat.le_refl _)⟩
theorem Jr {v:Value} {n:Pd} {w:World} (h:Zk w v n) (hl:YU n):Calls Try.prog 10 #[v] w fun e w'=>∃v,e=.returned v∧Zk w' v n∧Kept w w':=by
 obtain⟨v1,v2,v3,v4,rfl,h⟩:=h;refine(ja4 n v1 v2 v3 v4 w h hl).mono ?_;rintro e w' ⟨z,rfl,rfl,hz,-,k⟩;exact⟨_,rfl,⟨_,_,_,_,rfl,hz⟩,k⟩
theorem Reads.grown {α:Type} {L:Lay α} {w w':World} {row:Option Nat} {a:Option Addr} {m c:Nat} {l:List α} (h:Reads L w (.slice a m c) l) (hg:w.grownBy w' row) (hb:∀b off sp,a=some ⟨b,off,sp⟩→some b≠row):Reads L w' (.slice a m c) l:=by
 obtain⟨a',cap',e,h1,h2,h3,h4,h5,h6⟩:=h
 cases e
 refine⟨a,c,rfl,h1,h2,h3,h4,h5,h6.imp id ?_⟩;rintro ⟨b,off,rfl,hlt,hc⟩;exact⟨b,off,rfl,Nat.lt_of_lt_of_le hlt hg.size,fun i x j u hi hj=>(World.cell?_of_block (a:=⟨b,off+i*L.m+j,none⟩) (hg.block b hlt (hb b off none rfl))).trans (hc i x j u hi hj)⟩
theorem Vec.Reads.grown {w w':World} {row:Option Nat} {a:Option Addr} {m c:Nat} {l:Vec.V} (h:Vec.Reads w (.slice a m c) l) (hg:w.grownBy w' row) (hb:∀b off sp,a=some ⟨b,off,sp⟩→some b≠row):Vec.Reads w' (.slice a m c) l:=by
 obtain⟨a',cap',e,h1,h2,h3,h4,h5,h6⟩:=h
 cases e
 refine⟨a,c,rfl,h1,h2,h3,h4,h5,h6.imp id ?_⟩;rintro ⟨b,off,rfl,hlt,hc⟩;exact⟨b,off,rfl,Nat.lt_of_lt_of_le hlt hg.size,fun i hi=>⟨(World.cell?_of_block (a:=⟨b,off+i*2,none⟩) (hg.block b hlt (hb b off none rfl))).trans (hc i hi).1,(World.cell?_of_block (a:=⟨b,off+i*2+1,none⟩) (hg.block b hlt (hb b off none rfl))).trans (hc i hi).2⟩⟩
theorem XW (x:NX) (u:Value) (h:u ∈ [Value.string x.1.name,slV x.2.1,slV x.2.2.1,slV x.2.2.2,.bool x.1.cordon]):u.oneCell'=true:=by
 simp only[List.mem_cons,List.not_mem_nil,or_false] at h;rcases h with rfl | rfl | rfl | rfl | rfl<;>rfl
def zH:Lay NX:={ m:=5,cs:=fun x=>[.string x.1.name,slV x.2.1,slV x.2.2.1,slV x.2.2.2,.bool x.1.cordon],fine:=fun _=>True,len:=fun _=>rfl,one:=XW,pos:=by decide }
def jc9 (w:World) (v:Value) (l:List NX):Prop:=∀z ∈ l,At3 w z∧Zs 0 w.heap.size z∧(∀b off sp,z.2.1.1=some ⟨b,off,sp⟩→v.ownBlock≠some b)∧(∀b off sp,z.2.2.1.1=some ⟨b,off,sp⟩→v.ownBlock≠some b)∧(∀b off sp,z.2.2.2.1=some ⟨b,off,sp⟩→v.ownBlock≠some b)
theorem Yz {lo lo' hi hi':Nat} {z:NX} (h:Zs lo hi z) (h1:lo'≤lo) (h2:hi≤hi'):Zs lo' hi' z :=
 ⟨fun b o s e=>⟨Nat.le_trans h1 (h.1 b o s e).1,Nat.lt_of_lt_of_le (h.1 b o s e).2 h2⟩,fun b o s e=>⟨Nat.le_trans h1 (h.2.1 b o s e).1,Nat.lt_of_lt_of_le (h.2.1 b o s e).2 h2⟩,fun b o s e=>⟨Nat.le_trans h1 (h.2.2 b o s e).1,Nat.lt_of_lt_of_le (h.2.2 b o s e).2 h2⟩⟩
theorem jcU {wr w1 w2:World} {o:Obj} {v:Value} {l:List NX} {z0:NX} {gg n cap:Nat} (hv:jc9 wr v l) (k:Kept wr w1) (hz:At3 w1 z0) (hw:Zs wr.heap.size w1.heap.size z0) (hown:∀g,v.ownBlock=some g→g<wr.heap.size)
 (hgrow:(w1.alloc o).grownBy w2 v.ownBlock) (hat:v.ownBlock=some gg∨gg=w1.heap.size+1):jc9 w2 (.slice (some ⟨gg,0,none⟩) n cap) (l++[z0]):=by
 have hs:=hgrow.size;rw[World.size_alloc] at hs;have hk:=k.size;have key:∀z,At3 w1 z→Zs 0 w1.heap.size z→(∀b off sp,z.2.1.1=some ⟨b,off,sp⟩→v.ownBlock≠some b)→(∀b off sp,z.2.2.1.1=some ⟨b,off,sp⟩→v.ownBlock≠some b)→(∀b off sp,z.2.2.2.1=some ⟨b,off,sp⟩→v.ownBlock≠some b) →
  At3 w2 z∧Zs 0 w2.heap.size z∧(∀b off sp,z.2.1.1=some ⟨b,off,sp⟩→some gg≠some b)∧(∀b off sp,z.2.2.1.1=some ⟨b,off,sp⟩→some gg≠some b)∧(∀b off sp,z.2.2.2.1=some ⟨b,off,sp⟩→some gg≠some b):=by
  intro z h3 hwz f1 f2 f3;have ne:∀b,b<w1.heap.size→v.ownBlock≠some b→some gg≠some b:=by
   intro b hb hne e;rcases hat with hat | hat
   · exact hne (hat.trans e)
   · have:gg=b:=Option.some.inj e;omega
  have h3':=h3.kept (ja w1 o);exact⟨⟨h3'.size,h3'.cap.grown hgrow (fun b off sp e=>Ne.symm (f1 b off sp e)),h3'.labels.grown hgrow (fun b off sp e=>Ne.symm (f2 b off sp e)),h3'.taints.grown hgrow (fun b off sp e=>Ne.symm (f3 b off sp e))⟩,
   Yz hwz (Nat.le_refl _) (by omega),fun b off sp e=>ne b (hwz.1 b off sp e).2 (f1 b off sp e),fun b off sp e=>ne b (hwz.2.1 b off sp e).2 (f2 b off sp e),fun b off sp e=>ne b (hwz.2.2 b off sp e).2 (f3 b off sp e)⟩
 intro z hzm;rcases List.mem_append.1 hzm with hzm | hzm
 · obtain⟨h0,h1,h2,h3,h4⟩:=hv z hzm;exact key z (h0.kept k) (Yz h1 (Nat.le_refl _) hk) h2 h3 h4
 · obtain rfl:z=z0:=by simpa using hzm
   exact key z hz (Yz hw (Nat.zero_le _) (Nat.le_refl _)) (fun b off sp e f=>by have:=(hw.1 b off sp e).1;have:=hown b f;omega) (fun b off sp e f=>by have:=(hw.2.1 b off sp e).1;have:=hown b f;omega) (fun b off sp e f=>by have:=(hw.2.2 b off sp e).1;have:=hown b f;omega)
theorem jcd {w:World} {T:TypeId} {B:Nat} {v:Value} {lx:List NX} (ho:Own zH T w B v lx) (hf:∀z ∈ lx,At3 w z):zn w v (lx.map fun z=>z.1):=by
 obtain⟨a,cap,rfl,h1,h2,h3⟩:=ho.at_;obtain⟨g0,g1,g2,g3⟩:=h3;refine⟨a,cap,by rw[List.length_map],by rw[List.length_map];exact h1,h2,rfl,by rw[List.length_map];exact g1,?_⟩;rw[List.length_map];rcases g3 with g3 | ⟨b,off,rfl,hb,hc⟩
 · exact .inl g3
 · refine .inr ⟨b,off,rfl,hb,fun i n hi=>?_⟩;rw[List.getElem?_map] at hi;obtain⟨z,hz,rfl⟩:=Option.map_eq_some_iff.1 hi;exact⟨_,_,_,_,_,_,_,_,_,hc i z 0 _ hz rfl,hc i z 1 _ hz rfl,hc i z 2 _ hz rfl,hc i z 3 _ hz rfl,hc i z 4 _ hz rfl,hf z (List.mem_of_getElem? hz)⟩
theorem jeJ:(Try.prog.info? 99).map (fun i=>(i.zero,i.size,i.bytes))=some (some (.agg #[.string ByteArray.empty,.slice none 0 0,.slice none 0 0,.slice none 0 0,.bool false]),5,96):=by kernel_rfl
theorem jcw (a:Option Addr) (len cap:Nat) (l:List Nod) (w:World) (hr:ju w a len l) (hlow:∀n ∈ l,Yw n) (hlen:len≤1000) :
 Calls Try.prog 41 #[.slice a len cap] w fun e w'=>∃v,e=.returned v∧zn w' v l∧Kept w w':=by
 have hl:=hr.1;have HLOW:=lH hlow;obtain⟨i0,hi,hz0,hz1,hz2'⟩:=info_parts jeJ;rcases hr.form with h0 | ⟨b,off,rfl⟩
 · subst h0;have hl0:l=[]:=List.eq_nil_of_length_eq_zero hl;subst hl0;clear hr hl hi hz0 hz1 hz2' hlow;go_enter Try.func41,Try.ntmps41;go_wp2;refine wp_loop_rounds 1 ?_;rw[rounds_succ];go_wp2;go_ret;exact⟨_,rfl,⟨none,0,rfl,Nat.le_refl _,by decide,rfl,by decide,.inl rfl⟩,Kept.refl _⟩
 · have HR:=lH hr;have HL:=lH hl;clear hr hl hlow;go_enter Try.func41,Try.ntmps41;go_wp2;go_loopw [3,4] (fun v i wr=>∃k:Nat,k≤len∧i=.int .i64 k∧∃lx:List NX,(lx.map fun z=>z.1)=l.take k∧Own zH 99 wr w.heap.size v lx∧jc9 wr v lx∧Below w.heap.size w wr) (fun _ i _=>len-(intOf i).toNat)
   case atStart=>exact⟨0,Nat.zero_le _,rfl,[],rfl,Own.nil _ _ _,(fun z h=>by cases h),Below.refl _ _⟩
   case round =>
    obtain⟨k,hk,rfl,lx,hlx,ho,hv,hB⟩:=hrel;have HX:=lH hlx;have HO:=lH ho;have HV:=lH hv;have HB:=lH hB;have HT:=lH (show lx.length=k by have:=congrArg List.length hlx;rw[List.length_map,List.length_take,HL.out] at this;omega);have HOWN:=lH (show wr.ownsRow w.heap.size 99 5 u3 k (jc zH lx) by have:=HO.out.1;rw[HT.out] at this;exact this);have hbase:w.heap.size≤wr.heap.size:=hB.size;by_cases hlt:k<len
    · obtain⟨n,a1,m1,c1,a2,m2,c2,a3,m3,c3,hn,hd,hb,p0,p1,p2,p3,p4,hat⟩:=(HR.out.kept hB).at_ hlt;have HN:=lH hn;have HOF:=lH (jdX n (.slice a1 m1 c1) (.slice a2 m2 c2) (.slice a3 m3 c3) wr hat (HLOW.out n (List.mem_of_getElem? hn)));have hk1:(k:Int)<(len:Int):=by omega
      clear hlx ho hv hB hn hd hat;go_wp2_with fail
      refine HOF.out.mono ?_;rintro e w1 ⟨z,rfl,hz,h3,hwi,kk⟩;have HZ:=lH hz;have H3:=lH h3;have HW:=lH hwi;have KK:=lH kk;have hs1:wr.heap.size≤w1.heap.size:=kk.size;have HOW2:=lH (show w1.ownsRow w.heap.size 99 5 u3 k (jc zH lx) by have:=(HO.out.kept kk).1;rw[HT.out] at this;exact this);clear hz h3 hwi kk;go_wp2_with (at_builtin;refine wpList_append_lies _ rfl _ _ _ rfl w.heap.size 99 i0 _ 5 96 Try.underlying47 hi hz0 hz1 hz2' rfl (by decide) u3 k (jc zH lx) rfl (HOW2.out.alloc _) ⟨w1.heap.size,0,none⟩ 1 1 (zH.cs z) rfl rfl (World.news_of_block (cs:=#[.string z.1.name,slV z.2.1,slV z.2.2.1,slV z.2.2.2,.bool z.1.cordon]) (t:=99) (fr:=(0,0)) (heap_alloc_new w1 _)) (XW z) (by decide) (by unfold maxLen;omega) (by omega) (by simp;omega) (w1.heap.size+1) (by simp) ?_;intro gg cap1 w2 hown1 hgrow hat hlt1)
      have HFAR:=lH (jcU (n:=k+1) (cap:=cap1) HV.out KK.out H3.out HW.out (fun g h=>(HOWN.out.lt g h).2) hgrow hat);have HBW:=lH ((HB.out.trans ((Below.mono KK.out hbase).trans (Below.mono (ja w1 _) (by omega)))).grown hgrow (by simp;omega) (fun j hj=>(HOWN.out.lt j hj).1));go_wp2;go_roundw
      case rel=>exact⟨k+1,by omega,by go_num,lx++[z],by rw[List.map_append,HX.out,zh HN.out,←HZ.out];rfl,Own.snoc hown1 (by rw[HT.out]) HO.out.2 trivial,HFAR.out,HBW.out⟩
      case measure=>simp[intOf];omega
    · have HK:=lH (show l.take k=l by rw[List.take_of_length_le (by rw[HL.out];omega)]);have HRES:=lH (show zn wr u3 l by have:=jcd HO.out (fun z hz=>(HV.out z hz).1);rw[HX.out,HK.out] at this;exact this);clear hlx ho hv hB;go_wp2;go_ret;exact⟨_,rfl,HRES.out,HB.out⟩
theorem jei {v:Value} {l:List Nod} {w:World} (h:zn w v l) (hlow:∀n ∈ l,Yw n) (hlen:l.length≤1000) :
 Calls Try.prog 41 #[v] w fun e w'=>∃v,e=.returned v∧zn w' v l∧Kept w w':=by
 obtain⟨a,cap,rfl,_,_,hr⟩:=h;exact jcw a _ cap l w hr hlow hlen
theorem qZ (x:PX) (u:Value) (h:u ∈ [Value.string x.1.name,.string x.1.owner,.int .i64 x.1.prio,slV x.2.1,slV x.2.2.1,slV x.2.2.2.1,slV x.2.2.2.2,.string x.1.key,.int .i64 x.1.most,.string x.1.node,.bool x.1.hold]):u.oneCell'=true:=by
 simp only[List.mem_cons,List.not_mem_nil,or_false] at h;rcases h with rfl | rfl | rfl | rfl | rfl | rfl | rfl | rfl | rfl | rfl | rfl<;>rfl
def zp:Lay PX:={ m:=11,cs:=fun x=>[.string x.1.name,.string x.1.owner,.int .i64 x.1.prio,slV x.2.1,slV x.2.2.1,slV x.2.2.2.1,slV x.2.2.2.2,.string x.1.key,.int .i64 x.1.most,.string x.1.node,.bool x.1.hold],fine:=fun _=>True,len:=fun _=>rfl,one:=qZ,pos:=by decide }
def zT (v:Value) (a:Option Addr):Prop:=∀b off sp,a=some ⟨b,off,sp⟩→v.ownBlock≠some b
def jcV (w:World) (v:Value) (l:List PX):Prop:=∀z ∈ l,At4 w z∧Jy 0 w.heap.size z∧zT v z.2.1.1∧zT v z.2.2.1.1∧zT v z.2.2.2.1.1∧zT v z.2.2.2.2.1
theorem jb9 {wr w1 w2:World} {o:Obj} {v:Value} {l:List PX} {z0:PX} {gg n cap:Nat} (hv:jcV wr v l) (k:Kept wr w1) (hz:At4 w1 z0) (hw:Jy wr.heap.size w1.heap.size z0) (hown:∀g,v.ownBlock=some g→g<wr.heap.size)
 (hgrow:(w1.alloc o).grownBy w2 v.ownBlock) (hat:v.ownBlock=some gg∨gg=w1.heap.size+1):jcV w2 (.slice (some ⟨gg,0,none⟩) n cap) (l++[z0]):=by
 have hs:=hgrow.size;rw[World.size_alloc] at hs;have hk:=k.size;have key:∀z,At4 w1 z→Jy 0 w1.heap.size z→zT v z.2.1.1→zT v z.2.2.1.1→zT v z.2.2.2.1.1→zT v z.2.2.2.2.1 →
  At4 w2 z∧Jy 0 w2.heap.size z∧zT (.slice (some ⟨gg,0,none⟩) n cap) z.2.1.1∧zT (.slice (some ⟨gg,0,none⟩) n cap) z.2.2.1.1∧zT (.slice (some ⟨gg,0,none⟩) n cap) z.2.2.2.1.1∧zT (.slice (some ⟨gg,0,none⟩) n cap) z.2.2.2.2.1:=by
  intro z h3 hwz f1 f2 f3 f4;have ne:∀b,b<w1.heap.size→v.ownBlock≠some b→(Value.slice (some ⟨gg,0,none⟩) n cap).ownBlock≠some b:=by
   intro b hb hne e;have e:some gg=some b:=e;rcases hat with hat | hat
   · exact hne (hat.trans e)
   · have:gg=b:=Option.some.inj e;omega
  have h3':=jA.kept h3 (ja w1 o);exact⟨⟨h3'.name,h3'.owner,h3'.key,h3'.node,h3'.prio,h3'.most,h3'.need.grown hgrow (fun b off sp e=>Ne.symm (f1 b off sp e)),h3'.labels.grown hgrow (fun b off sp e=>Ne.symm (f2 b off sp e)),h3'.sel.grown hgrow (fun b off sp e=>Ne.symm (f3 b off sp e)),h3'.tols.grown hgrow (fun b off sp e=>Ne.symm (f4 b off sp e))⟩,
   hwz.up (Nat.le_refl _) (by omega),fun b off sp e=>ne b (hwz.1 b off sp e).2 (f1 b off sp e),fun b off sp e=>ne b (hwz.2.1 b off sp e).2 (f2 b off sp e),fun b off sp e=>ne b (hwz.2.2.1 b off sp e).2 (f3 b off sp e),fun b off sp e=>ne b (hwz.2.2.2 b off sp e).2 (f4 b off sp e)⟩
 intro z hzm;rcases List.mem_append.1 hzm with hzm | hzm
 · obtain⟨h0,h1,h2,h3,h4,h5⟩:=hv z hzm;exact key z (jA.kept h0 k) (h1.up (Nat.le_refl _) hk) h2 h3 h4 h5
 · obtain rfl:z=z0:=by simpa using hzm
   exact key z hz (hw.up (Nat.zero_le _) (Nat.le_refl _)) (fun b off sp e f=>by have:=(hw.1 b off sp e).1;have:=hown b f;omega) (fun b off sp e f=>by have:=(hw.2.1 b off sp e).1;have:=hown b f;omega) (fun b off sp e f=>by have:=(hw.2.2.1 b off sp e).1;have:=hown b f;omega) (fun b off sp e f=>by have:=(hw.2.2.2 b off sp e).1;have:=hown b f;omega)
theorem qy {w:World} {T:TypeId} {B:Nat} {v:Value} {lx:List PX} (ho:Own zp T w B v lx) (hf:∀z ∈ lx,At4 w z):zP w v (lx.map fun z=>z.1):=by
 obtain⟨a,cap,rfl,h1,h2,h3⟩:=ho.at_;obtain⟨g0,g1,g2,g3⟩:=h3;refine⟨a,cap,by rw[List.length_map],by rw[List.length_map];exact h1,h2,rfl,by rw[List.length_map];exact g1,?_⟩;rw[List.length_map];rcases g3 with g3 | ⟨b,off,rfl,hb,hc⟩
 · exact .inl g3
 · refine .inr ⟨b,off,rfl,hb,fun i n hi=>?_⟩;rw[List.getElem?_map] at hi;obtain⟨z,hz,rfl⟩:=Option.map_eq_some_iff.1 hi;exact⟨slV z.2.1,slV z.2.2.1,slV z.2.2.2.1,slV z.2.2.2.2,hc i z 0 _ hz rfl,hc i z 1 _ hz rfl,hc i z 2 _ hz rfl,hc i z 3 _ hz rfl,hc i z 4 _ hz rfl,hc i z 5 _ hz rfl,hc i z 6 _ hz rfl,hc i z 7 _ hz rfl,hc i z 8 _ hz rfl,hc i z 9 _ hz rfl,hc i z 10 _ hz rfl,hf z (List.mem_of_getElem? hz)⟩
theorem jep:(Try.prog.info? 45).map (fun i=>(i.zero,i.size,i.bytes))=some (some (.agg #[.string ByteArray.empty,.string ByteArray.empty,.int .i64 0,.slice none 0 0,.slice none 0 0,.slice none 0 0,.slice none 0 0,.string ByteArray.empty,.int .i64 0,.string ByteArray.empty,.bool false]),11,184):=by kernel_rfl
theorem jbB (a:Option Addr) (len cap:Nat) (l:List Pd) (w:World) (hr:jN w a len l) (hlow:∀n ∈ l,YU n) (hlen:len≤1000) :
 Calls Try.prog 42 #[.slice a len cap] w fun e w'=>∃v,e=.returned v∧zP w' v l∧Kept w w':=by
 have hl:=hr.1;have HLOW:=lH hlow;obtain⟨i0,hi,hz0,hz1,hz2'⟩:=info_parts jep;rcases hr.form with h0 | ⟨b,off,rfl⟩
 · subst h0;have hl0:l=[]:=List.eq_nil_of_length_eq_zero hl;subst hl0;clear hr hl hi hz0 hz1 hz2' hlow;go_enter Try.func42,Try.ntmps42;go_wp2;refine wp_loop_rounds 1 ?_;rw[rounds_succ];go_wp2;go_ret;exact⟨_,rfl,⟨none,0,rfl,Nat.le_refl _,by decide,rfl,by decide,.inl rfl⟩,Kept.refl _⟩
 · have HR:=lH hr;have HL:=lH hl;clear hr hl hlow;go_enter Try.func42,Try.ntmps42;go_wp2;go_loopw [3,4] (fun v i wr=>∃k:Nat,k≤len∧i=.int .i64 k∧∃lx:List PX,(lx.map fun z=>z.1)=l.take k∧Own zp 45 wr w.heap.size v lx∧jcV wr v lx∧Below w.heap.size w wr) (fun _ i _=>len-(intOf i).toNat)
   case atStart=>exact⟨0,Nat.zero_le _,rfl,[],rfl,Own.nil _ _ _,(fun z h=>by cases h),Below.refl _ _⟩
   case round =>
    obtain⟨k,hk,rfl,lx,hlx,ho,hv,hB⟩:=hrel;have HX:=lH hlx;have HO:=lH ho;have HV:=lH hv;have HB:=lH hB;have HT:=lH (show lx.length=k by have:=congrArg List.length hlx;rw[List.length_map,List.length_take,HL.out] at this;omega);have HOWN:=lH (show wr.ownsRow w.heap.size 45 11 u3 k (jc zp lx) by have:=HO.out.1;rw[HT.out] at this;exact this);have hbase:w.heap.size≤wr.heap.size:=hB.size;by_cases hlt:k<len
    · obtain⟨n,a1,m1,c1,a2,m2,c2,a3,m3,c3,a4,m4,c4,hn,hd,hb,p0,p1,p2,p3,p4,p5,p6,p7,p8,p9,p10,hat⟩:=(HR.out.kept hB).at_ hlt;have HN:=lH hn;have HOF:=lH (ja4 n (.slice a1 m1 c1) (.slice a2 m2 c2) (.slice a3 m3 c3) (.slice a4 m4 c4) wr hat (HLOW.out n (List.mem_of_getElem? hn)));have hk1:(k:Int)<(len:Int):=by omega
      clear hlx ho hv hB hn hd hat;go_wp2_with fail
      refine HOF.out.mono ?_;rintro e w1 ⟨z,rfl,hz,h3,hwi,kk⟩;have HZ:=lH hz;have H3:=lH h3;have HW:=lH hwi;have KK:=lH kk;have hs1:wr.heap.size≤w1.heap.size:=kk.size;have HOW2:=lH (show w1.ownsRow w.heap.size 45 11 u3 k (jc zp lx) by have:=(HO.out.kept kk).1;rw[HT.out] at this;exact this);clear hz h3 hwi kk;go_wp2_with (at_builtin;refine wpList_append_lies _ rfl _ _ _ rfl w.heap.size 45 i0 _ 11 184 Try.underlying48 hi hz0 hz1 hz2' rfl (by decide) u3 k (jc zp lx) rfl (HOW2.out.alloc _) ⟨w1.heap.size,0,none⟩ 1 1 (zp.cs z) rfl rfl (World.news_of_block (cs:=#[.string z.1.name,.string z.1.owner,.int .i64 z.1.prio,slV z.2.1,slV z.2.2.1,slV z.2.2.2.1,slV z.2.2.2.2,.string z.1.key,.int .i64 z.1.most,.string z.1.node,.bool z.1.hold]) (t:=45) (fr:=(0,0)) (heap_alloc_new w1 _)) (qZ z) (by decide) (by unfold maxLen;omega) (by omega) (by simp;omega) (w1.heap.size+1) (by simp) ?_;intro gg cap1 w2 hown1 hgrow hat hlt1)
      have HFAR:=lH (jb9 (n:=k+1) (cap:=cap1) HV.out KK.out H3.out HW.out (fun g h=>(HOWN.out.lt g h).2) hgrow hat);have HBW:=lH ((HB.out.trans ((Below.mono KK.out hbase).trans (Below.mono (ja w1 _) (by omega)))).grown hgrow (by simp;omega) (fun j hj=>(HOWN.out.lt j hj).1));go_wp2;go_roundw
      case rel=>exact⟨k+1,by omega,by go_num,lx++[z],by rw[List.map_append,HX.out,zh HN.out,←HZ.out];rfl,Own.snoc hown1 (by rw[HT.out]) HO.out.2 trivial,HFAR.out,HBW.out⟩
      case measure=>simp[intOf];omega
    · have HK:=lH (show l.take k=l by rw[List.take_of_length_le (by rw[HL.out];omega)]);have HRES:=lH (show zP wr u3 l by have:=qy HO.out (fun z hz=>(HV.out z hz).1);rw[HX.out,HK.out] at this;exact this);clear hlx ho hv hB;go_wp2;go_ret;exact⟨_,rfl,HRES.out,HB.out⟩
theorem jd4 {v:Value} {l:List Pd} {w:World} (h:zP w v l) (hlow:∀n ∈ l,YU n) (hlen:l.length≤1000) :
 Calls Try.prog 42 #[v] w fun e w'=>∃v,e=.returned v∧zP w' v l∧Kept w w':=by
 obtain⟨a,cap,rfl,_,_,hr⟩:=h;exact jbB a _ cap l w hr hlow hlen
def qt (w:World):Lay PX:={ m:=11,cs:=zp.cs,fine:=At4 w,len:=fun _=>rfl,one:=zp.one,pos:=by decide }
theorem qU {H:Type} {enc:TypeId×Value→H} {w:World} {base fuel:Nat} {sp:Nat→Bool} {held:Bool} {cs:List Value} {x:DataW H×List MemPlace} (h:DataW.trod enc Try.prog w base sp held fuel 35 cs=some x) :
 ∃a:PX,cs=(qt w).cs a∧(qt w).fine a:=by
 obtain⟨n,v1,v2,v3,v4,e,hat⟩:=Y5 h;obtain⟨b1,n1,d1,b2,n2,d2,b3,n3,d3,b4,n4,d4,rfl,rfl,rfl,rfl⟩:=hat.spelt;exact⟨(n,(b1,n1,d1),(b2,n2,d2),(b3,n3,d3),(b4,n4,d4)),e,hat⟩
theorem qE {H:Type} {enc:TypeId×Value→H} {w:World} {base fuel:Nat} {sp:Nat→Bool} {held:Bool} {v:Value} {x:DataW H×List MemPlace} (h:DataW.trod enc Try.prog w base sp held fuel 23 [v]=some x):∃l,zP w v l:=by
 obtain⟨l,a,cap,rfl,h1,h2,h3⟩:=jY (qt w) Try.underlying23 jaW (fun _ _ _ h=>qU h) h;obtain⟨g0,g1,g2,g3⟩:=h3;refine⟨l.map (fun z=>z.1),a,cap,by rw[List.length_map],by rw[List.length_map];exact h1,h2,rfl,by rw[List.length_map];exact g1,?_⟩;rw[List.length_map];rcases g3 with g3 | ⟨b,off,rfl,hb,hc⟩
 · exact .inl g3
 · refine .inr ⟨b,off,rfl,hb,fun i n hi=>?_⟩;rw[List.getElem?_map] at hi;obtain⟨z,hz,rfl⟩:=Option.map_eq_some_iff.1 hi;exact⟨slV z.2.1,slV z.2.2.1,slV z.2.2.2.1,slV z.2.2.2.2,hc i z 0 _ hz rfl,hc i z 1 _ hz rfl,hc i z 2 _ hz rfl,hc i z 3 _ hz rfl,hc i z 4 _ hz rfl,hc i z 5 _ hz rfl,hc i z 6 _ hz rfl,hc i z 7 _ hz rfl,hc i z 8 _ hz rfl,hc i z 9 _ hz rfl,hc i z 10 _ hz rfl,g2 z (List.mem_of_getElem? hz)⟩
structure Bd where
 name:ByteArray
 sel:TL
 floor:Int
def Bd.zero:Bd:=⟨ByteArray.empty,[],0⟩
abbrev YL (n:Bd) (v1:Value):Value:=.agg #[.string n.name,v1,.int .i64 n.floor]
structure zc (w:World) (v1:Value) (n:Bd):Prop where
 name:n.name.size≤maxLen
 floor:-9223372036854775808≤n.floor∧n.floor≤9223372036854775807
 sel:Reads jQ w v1 n.sel
theorem zc.kept {w w':World} {v1:Value} {n:Bd} (h:zc w v1 n) (k:Kept w w'):zc w' v1 n:=⟨h.name,h.floor,h.sel.kept k⟩
def jbo (w:World) (v:Value) (n:Bd):Prop:=∃v1,v=YL n v1∧zc w v1 n
theorem jbo.kept {w w':World} {v:Value} {n:Bd} (h:jbo w v n) (k:Kept w w'):jbo w' v n:=by
 obtain⟨v1,e,h⟩:=h;exact⟨v1,e,h.kept k⟩
def Jq (B:Nat) (w:World) (v:Value) (n:Bd):Prop:=∃b1 n1 d1,v=YL n (.slice b1 n1 d1)∧zc w (.slice b1 n1 d1) n∧jO B b1
theorem Jq.toR {B:Nat} {w:World} {v:Value} {n:Bd} (h:Jq B w v n):jbo w v n:=by
 obtain⟨b1,n1,d1,e,h,-⟩:=h;exact⟨_,e,h⟩
theorem zc.far {B:Nat} {w w':World} {n:Bd} {b1:Option Addr} {n1 d1:Nat} (h:zc w (.slice b1 n1 d1) n) (hs:w'.heap.size=w.heap.size) (hb:∀b,B≤b→w'.heap[b]?=w.heap[b]?) (g1:jO B b1):zc w' (.slice b1 n1 d1) n :=
 ⟨h.name,h.floor,h.sel.far hs (fun b o s e=>hb b (g1 b o s e))⟩
theorem Jq.far {B:Nat} {w w':World} {v:Value} {n:Bd} (h:Jq B w v n) (hs:w'.heap.size=w.heap.size) (hb:∀b,B≤b→w'.heap[b]?=w.heap[b]?):Jq B w' v n:=by
 obtain⟨b1,n1,d1,e,h,g1⟩:=h;exact⟨b1,n1,d1,e,h.far hs hb g1,g1⟩
theorem Jq.less {B B':Nat} {w:World} {v:Value} {n:Bd} (h:Jq B w v n) (hb:B'≤B):Jq B' w v n:=by
 obtain⟨b1,n1,d1,e,h,g1⟩:=h;exact⟨b1,n1,d1,e,h,g1.less hb⟩
theorem Jq.kept {B:Nat} {w w':World} {v:Value} {n:Bd} (h:Jq B w v n) (k:Kept w w'):Jq B w' v n:=by
 obtain⟨b1,n1,d1,e,h,g1⟩:=h;exact⟨b1,n1,d1,e,h.kept k,g1⟩
theorem zc.spelt {w:World} {v1:Value} {n:Bd} (h:zc w v1 n):∃b1 n1 d1,v1=.slice b1 n1 d1:=by
 obtain⟨a,c,e,-⟩:=h.sel;exact⟨_,_,_,e⟩
def jdp (x:ByteArray):Int:=if isName x=true then 0 else 3
def Ji (m:Int):Int:=if m<0∨128<m then 1 else 0
def zL (n:Bd):Int:=orL [jdp n.name,Zr n.sel,Ji n.floor]
def zK (w:World) (a:Option Addr) (len:Nat) (l:List Bd):Prop :=
 l.length=len∧len≤maxLen∧(len=0∨∃b off,a=some ⟨b,off,none⟩∧b<w.heap.size∧∀i n,l[i]?=some n→∃v1,
  w.cell? ⟨b,off+i*3,none⟩=some (.string n.name)∧w.cell? ⟨b,off+i*3+1,none⟩=some (v1)∧w.cell? ⟨b,off+i*3+2,none⟩=some (.int .i64 n.floor)∧zc w v1 n)
theorem zK.kept {w w':World} {a:Option Addr} {len:Nat} {l:List Bd} (h:zK w a len l) (k:Kept w w'):zK w' a len l:=by
 obtain⟨h0,h1,h2⟩:=h;refine⟨h0,h1,h2.imp id ?_⟩;rintro ⟨b,off,rfl,hb,hc⟩;refine⟨b,off,rfl,Nat.lt_of_lt_of_le hb k.size,fun i n hi=>?_⟩;obtain⟨v1,p0,p1,p2,hn⟩:=hc i n hi;exact⟨v1,cell_later k p0,cell_later k p1,cell_later k p2,hn.kept k⟩
theorem zK.form {w:World} {a:Option Addr} {len:Nat} {l:List Bd} (h:zK w a len l):len=0∨∃b off,a=some ⟨b,off,none⟩:=by
 obtain⟨_,_,h2⟩:=h;exact h2.imp id fun ⟨b,off,e,_⟩=>⟨b,off,e⟩
theorem zK.at_ {w:World} {b off len:Nat} {l:List Bd} {k:Nat} (h:zK w (some ⟨b,off,none⟩) len l) (hk:k<len):∃n a1 m1 c1,l[k]?=some n∧l.drop k=n::l.drop (k+1)∧b<w.heap.size ∧
 w.cell? ⟨b,off+k*3,none⟩=some (.string n.name)∧w.cell? ⟨b,off+k*3+1,none⟩=some (.slice a1 m1 c1)∧w.cell? ⟨b,off+k*3+2,none⟩=some (.int .i64 n.floor)∧zc w (.slice a1 m1 c1) n:=by
 obtain⟨h0,_,h3⟩:=h;have hkl:k<l.length:=by omega
 rcases h3 with h3 | ⟨b',off',e,hb,hc⟩
 · omega
 · injection e with e;injection e with e1 e2 e3;subst e1;subst e2;have he:l[k]?=some l[k]:=List.getElem?_eq_getElem hkl;obtain⟨v1,r⟩:=hc k _ he;obtain⟨a1,m1,c1,rfl⟩:=zc.spelt r.2.2.2;exact⟨l[k],a1,m1,c1,he,List.drop_eq_getElem_cons hkl,hb,r⟩
def zF (w:World) (v:Value) (l:List Bd):Prop:=∃a cap,v=.slice a l.length cap∧l.length≤cap∧cap≤maxLen∧zK w a l.length l
theorem zF.kept {w w':World} {v:Value} {l:List Bd} (h:zF w v l) (k:Kept w w'):zF w' v l:=by
 obtain⟨a,cap,e,h1,h2,h3⟩:=h;exact⟨a,cap,e,h1,h2,h3.kept k⟩
def jbX (c:Int) (n:Bd) (w:World) (e:Ending) (w':World):Prop:=(c=0→∃v,e=.returned v∧Jq w.heap.size w' v n)∧(c≠0→e=.panicked [zQ c])∧Kept w w'
theorem jbX.bad {c:Int} {n:Bd} {w w':World} (hc:c≠0) (hb:Kept w w'):jbX c n w (.panicked [zQ c]) w':=⟨fun g=>absurd g hc,fun _=>rfl,hb⟩
theorem jbE {W:World} {q p:Nat} {c0 c1 c2 u0 u1 u2:Value} (h:(W).cell? ⟨q,0,none⟩=some (c0)∧(W).cell? ⟨q,1,none⟩=some (c1)∧(W).cell? ⟨q,2,none⟩=some (c2)) (hne:q≠p) :
 ((((W.setCell ⟨p,0,none⟩ u0).setCell ⟨p,1,none⟩ u1).setCell ⟨p,2,none⟩ u2)).cell? ⟨q,0,none⟩=some (c0)∧((((W.setCell ⟨p,0,none⟩ u0).setCell ⟨p,1,none⟩ u1).setCell ⟨p,2,none⟩ u2)).cell? ⟨q,1,none⟩=some (c1)∧((((W.setCell ⟨p,0,none⟩ u0).setCell ⟨p,1,none⟩ u1).setCell ⟨p,2,none⟩ u2)).cell? ⟨q,2,none⟩=some (c2):=by
 have e:(W.setCells p 0 [u0,u1,u2]).heap[q]?=W.heap[q]?:=Jn p _ 0 W q hne;have c:∀j,((((W.setCell ⟨p,0,none⟩ u0).setCell ⟨p,1,none⟩ u1).setCell ⟨p,2,none⟩ u2)).cell? ⟨q,j,none⟩=W.cell? ⟨q,j,none⟩:=fun j=>World.cell?_of_block (a:=⟨q,j,none⟩) e;simp only[c];exact h
abbrev BX:=Bd×SX
abbrev jeO (z:BX):Value:=YL z.1 (slV z.2)
def At1 (w:World) (z:BX):Prop:=zc w (slV z.2) z.1
theorem zc.at1 {w:World} {n:Bd} {x1:SX} (h:zc w (slV x1) n):At1 w (n,x1):=h
theorem jd2 (n:Bd) (v1:Value) (w:World) (h:zc w v1 n) (hl:n.sel.length≤1000000) :
 Calls Try.prog 63 #[YL n v1] w fun e w'=>∃z:BX,e=.returned (jeO z)∧z.1=n∧At1 w' z∧Btw w.heap.size w'.heap.size z.2.1∧Kept w w':=by
 have HH:=lH h;have E3:=lH (fun W (k:Kept w W)=>(jes (h.sel.kept k) hl).mono fun _ _=>JA);obtain⟨⟨x0,l3,m⟩,hnn⟩:∃m,m=n:=⟨n,rfl⟩
 subst hnn;dsimp only at E3;obtain⟨W0,hW0⟩:∃Z,(w.alloc (.cells #[.string x0,v1,.int .i64 m] 136)).alloc (.cells #[.string ⟨#[]⟩,.slice none 0 0,.int .i64 0] 133)=Z:=⟨_,rfl⟩
 have hk0:Kept w W0:=by rw[←hW0];exact jX _ _ _
 have hzs:W0.heap.size=w.heap.size+2:=by rw[←hW0];simp
 have HB:=lH (show ∀W,Kept W0 W→W.cell? ⟨w.heap.size,0,none⟩=some (.string x0)∧W.cell? ⟨w.heap.size,1,none⟩=some (v1)∧W.cell? ⟨w.heap.size,2,none⟩=some (.int .i64 m) from fun W k=>by
  have:=jd w (.string x0) [v1,.int .i64 m] 136 W ((by rw[←hW0];exact ja _ _:Kept (w.alloc (.cells #[.string x0,v1,.int .i64 m] 136)) W0).trans k);exact⟨this.at_ 0 _ rfl,this.at_ 1 _ rfl,this.at_ 2 _ rfl⟩)
 have HQ:=lH (show ∀W,Kept W0 W→jh (w.heap.size+1) [.string ⟨#[]⟩,.slice none 0 0,.int .i64 0] W from fun W k=>by
  have:=jd (w.alloc (.cells #[.string x0,v1,.int .i64 m] 136)) (.string ⟨#[]⟩) [.slice none 0 0,.int .i64 0] 133 W (by rw[hW0];exact k);rw[World.size_alloc] at this;exact this)
 have HZ:=lH hzs;have HK0:=lH hk0;obtain⟨b0,b1,b2⟩:=HB.out _ (Kept.refl _);clear h hl hk0 hzs;unfold YL;dsimp only;go_enter Try.func63,Try.ntmps63;go_wp2;try rw[hW0]
 clear hW0;go_region_held3 (fun W=>(W.cell? ⟨w.heap.size,0,none⟩=some (.string x0)∧W.cell? ⟨w.heap.size,1,none⟩=some (v1)∧W.cell? ⟨w.heap.size,2,none⟩=some (.int .i64 m)))
  (first | with_reducible exact HB.out _ K4.out | exact jbE (HB.out _ K4.out) (by omega) | exact HB.out _ (Kept.drew _))
  (first | (go_at_call 39;refine(E3.out _ (HK0.out.trans (Kept.drew _))).mono ?_;rintro e1 w4 ⟨b1,n1,d1,rfl,r1,g1,k1⟩;have K4:=lH (Kept.trans (Kept.drew _) k1);have G1:=lH (show Btw (w.heap.size+2) w4.heap.size b1 from fun b o s e=>⟨Nat.le_trans (by rw[←HZ.out];exact Below.size (Kept.drew _)) (g1 b o s e).1,(g1 b o s e).2⟩);have R1:=lH r1;clear k1 r1 g1;have HQ4:=lH (HQ.out _ K4.out);have z0:=HQ4.out.at_ 0 _ rfl;have f0:=HQ4.out.free 0;have z1:=HQ4.out.at_ 1 _ rfl;have f1:=HQ4.out.free 1;have z2:=HQ4.out.at_ 2 _ rfl;have f2:=HQ4.out.free 2))
 have P:=lH (zg (vs:=[.string x0,.slice b1 n1 d1,.int .i64 m]) HQ4.out rfl);go_wp2;obtain⟨WE,hWE⟩:∃W,w4.setCells (w.heap.size+1) 0 [.string x0,.slice b1 n1 d1,.int .i64 m]=W:=⟨_,rfl⟩
 have hWE2:(((w4.setCell ⟨w.heap.size+1,0,none⟩ (.string x0)).setCell ⟨w.heap.size+1,1,none⟩ (.slice b1 n1 d1)).setCell ⟨w.heap.size+1,2,none⟩ (.int .i64 m))=WE:=hWE;rw[hWE] at P;rw[hWE2];clear hWE hWE2;obtain⟨PC,hsz,hbl,hkp⟩:=P.out;refine bodyPost_ret (by simp[results,Try.results63,go_sem,PC.at_ 0 _ rfl,PC.at_ 1 _ rfl,PC.at_ 2 _ rfl];try rfl) rfl ?_;refine⟨(⟨x0,l3,m⟩,(b1,n1,d1)),rfl,rfl,zc.at1 (zc.far (B:=w.heap.size+2) (n:=⟨x0,l3,m⟩) ⟨HH.out.name,HH.out.floor,R1.out⟩ hsz (fun b hb=>hbl b (by omega)) G1.out.behind),?_,hkp _ _ (Nat.le_succ _) (HK0.out.trans K4.out)⟩;rw[hsz];exact G1.out.up (by omega) (Nat.le_refl _)
theorem jai (x:BX) (u:Value) (h:u ∈ [Value.string x.1.name,slV x.2,.int .i64 x.1.floor]):u.oneCell'=true:=by
 simp only[List.mem_cons,List.not_mem_nil,or_false] at h;rcases h with rfl | rfl | rfl<;>rfl
def zt:Lay BX:={ m:=3,cs:=fun x=>[.string x.1.name,slV x.2,.int .i64 x.1.floor],fine:=fun _=>True,len:=fun _=>rfl,one:=jai,pos:=by decide }
def jde (w:World) (v:Value) (l:List BX):Prop:=∀z ∈ l,At1 w z∧Btw 0 w.heap.size z.2.1∧zT v z.2.1
theorem jcu {wr w1 w2:World} {o:Obj} {v:Value} {l:List BX} {z0:BX} {gg n cap:Nat} (hv:jde wr v l) (k:Kept wr w1) (hz:At1 w1 z0) (hw:Btw wr.heap.size w1.heap.size z0.2.1) (hown:∀g,v.ownBlock=some g→g<wr.heap.size)
 (hgrow:(w1.alloc o).grownBy w2 v.ownBlock) (hat:v.ownBlock=some gg∨gg=w1.heap.size+1):jde w2 (.slice (some ⟨gg,0,none⟩) n cap) (l++[z0]):=by
 have hs:=hgrow.size;rw[World.size_alloc] at hs;have hk:=k.size;have key:∀z,At1 w1 z→Btw 0 w1.heap.size z.2.1→zT v z.2.1→At1 w2 z∧Btw 0 w2.heap.size z.2.1∧zT (.slice (some ⟨gg,0,none⟩) n cap) z.2.1:=by
  intro z h3 hwz f1;have ne:∀b,b<w1.heap.size→v.ownBlock≠some b→(Value.slice (some ⟨gg,0,none⟩) n cap).ownBlock≠some b:=by
   intro b hb hne e;have e:some gg=some b:=e;rcases hat with hat | hat
   · exact hne (hat.trans e)
   · have:gg=b:=Option.some.inj e;omega
  have h3':=zc.kept h3 (ja w1 o);exact⟨⟨h3'.name,h3'.floor,h3'.sel.grown hgrow (fun b off sp e=>Ne.symm (f1 b off sp e))⟩,hwz.up (Nat.le_refl _) (by omega),fun b off sp e=>ne b (hwz b off sp e).2 (f1 b off sp e)⟩
 intro z hzm;rcases List.mem_append.1 hzm with hzm | hzm
 · obtain⟨h0,h1,h2⟩:=hv z hzm;exact key z (zc.kept h0 k) (h1.up (Nat.le_refl _) hk) h2
 · obtain rfl:z=z0:=by simpa using hzm
   exact key z hz (hw.up (Nat.zero_le _) (Nat.le_refl _)) (fun b off sp e f=>by have:=(hw b off sp e).1;have:=hown b f;omega)
theorem jc3 {w:World} {T:TypeId} {B:Nat} {v:Value} {lx:List BX} (ho:Own zt T w B v lx) (hf:∀z ∈ lx,At1 w z):zF w v (lx.map fun z=>z.1):=by
 obtain⟨a,cap,rfl,h1,h2,h3⟩:=ho.at_;obtain⟨g0,g1,g2,g3⟩:=h3;refine⟨a,cap,by rw[List.length_map],by rw[List.length_map];exact h1,h2,rfl,by rw[List.length_map];exact g1,?_⟩;rw[List.length_map];rcases g3 with g3 | ⟨b,off,rfl,hb,hc⟩
 · exact .inl g3
 · refine .inr ⟨b,off,rfl,hb,fun i n hi=>?_⟩;rw[List.getElem?_map] at hi;obtain⟨z,hz,rfl⟩:=Option.map_eq_some_iff.1 hi;exact⟨slV z.2,hc i z 0 _ hz rfl,hc i z 1 _ hz rfl,hc i z 2 _ hz rfl,hf z (List.mem_of_getElem? hz)⟩
theorem jeq:(Try.prog.info? 133).map (fun i=>(i.zero,i.size,i.bytes))=some (some (.agg #[.string ByteArray.empty,.slice none 0 0,.int .i64 0]),3,48):=by kernel_rfl
theorem jbv (a:Option Addr) (len cap:Nat) (l:List Bd) (w:World) (hr:zK w a len l) (hlow:∀n ∈ l,n.sel.length≤1000000) (hlen:len≤1000) :
 Calls Try.prog 43 #[.slice a len cap] w fun e w'=>∃v,e=.returned v∧zF w' v l∧Kept w w':=by
 have hl:=hr.1;have HLOW:=lH hlow;obtain⟨i0,hi,hz0,hz1,hz2'⟩:=info_parts jeq;rcases hr.form with h0 | ⟨b,off,rfl⟩
 · subst h0;have hl0:l=[]:=List.eq_nil_of_length_eq_zero hl;subst hl0;clear hr hl hi hz0 hz1 hz2' hlow;go_enter Try.func43,Try.ntmps43;go_wp2;refine wp_loop_rounds 1 ?_;rw[rounds_succ];go_wp2;go_ret;exact⟨_,rfl,⟨none,0,rfl,Nat.le_refl _,by decide,rfl,by decide,.inl rfl⟩,Kept.refl _⟩
 · have HR:=lH hr;have HL:=lH hl;clear hr hl hlow;go_enter Try.func43,Try.ntmps43;go_wp2;go_loopw [3,4] (fun v i wr=>∃k:Nat,k≤len∧i=.int .i64 k∧∃lx:List BX,(lx.map fun z=>z.1)=l.take k∧Own zt 133 wr w.heap.size v lx∧jde wr v lx∧Below w.heap.size w wr) (fun _ i _=>len-(intOf i).toNat)
   case atStart=>exact⟨0,Nat.zero_le _,rfl,[],rfl,Own.nil _ _ _,(fun z h=>by cases h),Below.refl _ _⟩
   case round =>
    obtain⟨k,hk,rfl,lx,hlx,ho,hv,hB⟩:=hrel;have HX:=lH hlx;have HO:=lH ho;have HV:=lH hv;have HB:=lH hB;have HT:=lH (show lx.length=k by have:=congrArg List.length hlx;rw[List.length_map,List.length_take,HL.out] at this;omega);have HOWN:=lH (show wr.ownsRow w.heap.size 133 3 u3 k (jc zt lx) by have:=HO.out.1;rw[HT.out] at this;exact this);have hbase:w.heap.size≤wr.heap.size:=hB.size;by_cases hlt:k<len
    · obtain⟨n,a1,m1,c1,hn,hd,hb,p0,p1,p2,hat⟩:=(HR.out.kept hB).at_ hlt;have HN:=lH hn;have HOF:=lH (jd2 n (.slice a1 m1 c1) wr hat (HLOW.out n (List.mem_of_getElem? hn)));have hk1:(k:Int)<(len:Int):=by omega
      clear hlx ho hv hB hn hd hat;go_wp2_with fail
      refine HOF.out.mono ?_;rintro e w1 ⟨z,rfl,hz,h3,hwi,kk⟩;have HZ:=lH hz;have H3:=lH h3;have HW:=lH hwi;have KK:=lH kk;have hs1:wr.heap.size≤w1.heap.size:=kk.size;have HOW2:=lH (show w1.ownsRow w.heap.size 133 3 u3 k (jc zt lx) by have:=(HO.out.kept kk).1;rw[HT.out] at this;exact this);clear hz h3 hwi kk;go_wp2_with (at_builtin;refine wpList_append_lies _ rfl _ _ _ rfl w.heap.size 133 i0 _ 3 48 Try.underlying49 hi hz0 hz1 hz2' rfl (by decide) u3 k (jc zt lx) rfl (HOW2.out.alloc _) ⟨w1.heap.size,0,none⟩ 1 1 (zt.cs z) rfl rfl (World.news_of_block (cs:=#[.string z.1.name,slV z.2,.int .i64 z.1.floor]) (t:=133) (fr:=(0,0)) (heap_alloc_new w1 _)) (jai z) (by decide) (by unfold maxLen;omega) (by omega) (by simp;omega) (w1.heap.size+1) (by simp) ?_;intro gg cap1 w2 hown1 hgrow hat hlt1)
      have HFAR:=lH (jcu (n:=k+1) (cap:=cap1) HV.out KK.out H3.out HW.out (fun g h=>(HOWN.out.lt g h).2) hgrow hat);have HBW:=lH ((HB.out.trans ((Below.mono KK.out hbase).trans (Below.mono (ja w1 _) (by omega)))).grown hgrow (by simp;omega) (fun j hj=>(HOWN.out.lt j hj).1));go_wp2;go_roundw
      case rel=>exact⟨k+1,by omega,by go_num,lx++[z],by rw[List.map_append,HX.out,zh HN.out,←HZ.out];rfl,Own.snoc hown1 (by rw[HT.out]) HO.out.2 trivial,HFAR.out,HBW.out⟩
      case measure=>simp[intOf];omega
    · have HK:=lH (show l.take k=l by rw[List.take_of_length_le (by rw[HL.out];omega)]);have HRES:=lH (show zF wr u3 l by have:=jc3 HO.out (fun z hz=>(HV.out z hz).1);rw[HX.out,HK.out] at this;exact this);clear hlx ho hv hB;go_wp2;go_ret;exact⟨_,rfl,HRES.out,HB.out⟩
theorem jd9 {v:Value} {l:List Bd} {w:World} (h:zF w v l) (hlow:∀n ∈ l,n.sel.length≤1000000) (hlen:l.length≤1000) :
 Calls Try.prog 43 #[v] w fun e w'=>∃v,e=.returned v∧zF w' v l∧Kept w w':=by
 obtain⟨a,cap,rfl,_,_,hr⟩:=h;exact jbv a _ cap l w hr hlow hlen
def jam (w:World):Lay BX:={ m:=3,cs:=zt.cs,fine:=At1 w,len:=fun _=>rfl,one:=zt.one,pos:=by decide }
theorem jaY:Try.prog.cellsOf 136=3:=by kernel_rfl
theorem qB {H:Type} {enc:TypeId×Value→H} {w:World} {base fuel:Nat} {sp:Nat→Bool} {held:Bool} {cs:List Value} {x:DataW H×List MemPlace} (h:DataW.trod enc Try.prog w base sp held fuel 136 cs=some x) :
 ∃a:BX,cs=(jam w).cs a∧(jam w).fine a:=by
 obtain⟨ys,m,-,-,hlen,hyl,hf⟩:=DataW.trod_struct Try.underlying136 h;rw[jaY] at hlen
 match cs,hlen with
 | [c0,c1,c2],_ =>
  have h0:DataW.trod enc Try.prog w base sp held m 9 (([c0,c1,c2].drop 0).take (Try.prog.cellsOf 9))=ys[0]?:=hf 0 _ rfl;have h1:DataW.trod enc Try.prog w base sp held m 32 (([c0,c1,c2].drop 1).take (Try.prog.cellsOf 32))=ys[1]?:=hf 1 _ rfl;have h2:DataW.trod enc Try.prog w base sp held m 3 (([c0,c1,c2].drop 2).take (Try.prog.cellsOf 3))=ys[2]?:=hf 2 _ rfl;rw[zW] at h0;rw[ja8] at h1;rw[ZR] at h2;obtain⟨y0,e0⟩:∃y,ys[0]?=some y:=⟨_,List.getElem?_eq_getElem (by rw[hyl];decide)⟩
  rw[e0] at h0;obtain⟨y1,e1⟩:∃y,ys[1]?=some y:=⟨_,List.getElem?_eq_getElem (by rw[hyl];decide)⟩
  rw[e1] at h1;obtain⟨y2,e2⟩:∃y,ys[2]?=some y:=⟨_,List.getElem?_eq_getElem (by rw[hyl];decide)⟩
  rw[e2] at h2;simp only[List.drop_zero,List.take_succ_cons,List.take_zero,List.drop_succ_cons] at h0 h1 h2;obtain⟨s0,q0,-,z0⟩:=DataW.trod_string Try.underlying9 h0;obtain⟨l3,r5⟩:=YZ h1;obtain⟨s2,q2,-,z2⟩:=DataW.trod_int Try.underlying3 h2;have r5':=r5;obtain⟨a1,d1,rfl,-⟩:=r5';simp only[List.cons.injEq,and_true] at q0 q2;subst q0;subst q2;exact⟨(⟨s0,l3,s2⟩,(a1,l3.length,d1)),rfl,⟨z0,bounds_i64 z2,r5⟩⟩
theorem qI {H:Type} {enc:TypeId×Value→H} {w:World} {base fuel:Nat} {sp:Nat→Bool} {held:Bool} {v:Value} {x:DataW H×List MemPlace} (h:DataW.trod enc Try.prog w base sp held fuel 24 [v]=some x):∃l,zF w v l:=by
 obtain⟨l,a,cap,rfl,h1,h2,h3⟩:=jY (jam w) Try.underlying24 jaY (fun _ _ _ h=>qB h) h;obtain⟨g0,g1,g2,g3⟩:=h3;refine⟨l.map (fun z=>z.1),a,cap,by rw[List.length_map],by rw[List.length_map];exact h1,h2,rfl,by rw[List.length_map];exact g1,?_⟩;rw[List.length_map];rcases g3 with g3 | ⟨b,off,rfl,hb,hc⟩
 · exact .inl g3
 · refine .inr ⟨b,off,rfl,hb,fun i n hi=>?_⟩;rw[List.getElem?_map] at hi;obtain⟨z,hz,rfl⟩:=Option.map_eq_some_iff.1 hi;exact⟨slV z.2,hc i z 0 _ hz rfl,hc i z 1 _ hz rfl,hc i z 2 _ hz rfl,g2 z (List.mem_of_getElem? hz)⟩
def jV:Option ByteArray→List Pd→Int
 | _,[]=>0
 | prev,n::t=>if zw n≠0 then zw n else if Vec.jm prev n.name=true then 13 else jV (some n.name) t
def jw (l:List Pd):Int:=if 128<l.length then 4 else jV none l
def JH (l:List Pd) (k:Nat):Option ByteArray:=if k=0 then none else (l[k-1]?).map Pd.name
theorem jav {l:List Pd} {k:Nat} (h:k=0) (s:ByteArray):Vec.jm (JH l k) s=false:=by unfold JH;rw[if_pos h];rfl
theorem jaz {l:List Pd} {k:Nat} {n:Pd} (h:¬k=0) (hn:l[k-1]?=some n) (s:ByteArray):Vec.jm (JH l k) s=leS s n.name:=by unfold JH;rw[if_neg h,hn];rfl
theorem jas {l:List Pd} {k:Nat} {n:Pd} (hn:l[k]?=some n):JH l (k+1)=some n.name:=by unfold JH;rw[if_neg (by omega),Nat.add_sub_cancel,hn];rfl
theorem Xf {p:Option ByteArray} {n:Pd} {t:List Pd} (h:zw n≠0):jV p (n::t)=zw n:=by rw[jV,if_pos h]
theorem Z9 {p:Option ByteArray} {n:Pd} {t:List Pd} (h:zw n=0) (b:Vec.jm p n.name=true):jV p (n::t)=13:=by rw[jV,if_neg (by rw[h];decide),if_pos b]
theorem Zw {p:Option ByteArray} {n:Pd} {t:List Pd} (h:zw n=0) (b:Vec.jm p n.name=false):jV p (n::t)=jV (some n.name) t:=by rw[jV,if_neg (by rw[h];decide),if_neg (by rw[b];decide)]
def jR:Option ByteArray→List Bd→Int
 | _,[]=>0
 | prev,n::t=>if zL n≠0 then zL n else if Vec.jm prev n.name=true then 13 else jR (some n.name) t
def jB (l:List Bd):Int:=if 8<l.length then 4 else jR none l
def JL (l:List Bd) (k:Nat):Option ByteArray:=if k=0 then none else (l[k-1]?).map Bd.name
theorem jaw {l:List Bd} {k:Nat} (h:k=0) (s:ByteArray):Vec.jm (JL l k) s=false:=by unfold JL;rw[if_pos h];rfl
theorem jay {l:List Bd} {k:Nat} {n:Bd} (h:¬k=0) (hn:l[k-1]?=some n) (s:ByteArray):Vec.jm (JL l k) s=leS s n.name:=by unfold JL;rw[if_neg h,hn];rfl
theorem jaM {l:List Bd} {k:Nat} {n:Bd} (hn:l[k]?=some n):JL l (k+1)=some n.name:=by unfold JL;rw[if_neg (by omega),Nat.add_sub_cancel,hn];rfl
theorem jbP {p:Option ByteArray} {n:Bd} {t:List Bd} (h:zL n≠0):jR p (n::t)=zL n:=by rw[jR,if_pos h]
theorem jaA {p:Option ByteArray} {n:Bd} {t:List Bd} (h:zL n=0) (b:Vec.jm p n.name=true):jR p (n::t)=13:=by rw[jR,if_neg (by rw[h];decide),if_pos b]
theorem Xy {p:Option ByteArray} {n:Bd} {t:List Bd} (h:zL n=0) (b:Vec.jm p n.name=false):jR p (n::t)=jR (some n.name) t:=by rw[jR,if_neg (by rw[h];decide),if_neg (by rw[b];decide)]
structure Clu where
 nodes:List Nod
 pods:List Pd
 buds:List Bd
abbrev jbx (v1 v2 v3:Value):Value:=.agg #[v1,v2,v3]
structure XA (w:World) (v1 v2 v3:Value) (s:Clu):Prop where
 nodes:zn w v1 s.nodes
 pods:zP w v2 s.pods
 buds:zF w v3 s.buds
theorem XA.kept {w w':World} {v1 v2 v3:Value} {s:Clu} (h:XA w v1 v2 v3 s) (k:Kept w w'):XA w' v1 v2 v3 s:=⟨h.nodes.kept k,h.pods.kept k,h.buds.kept k⟩
def jT (w:World) (v:Value) (s:Clu):Prop:=∃v1 v2 v3,v=jbx v1 v2 v3∧XA w v1 v2 v3 s
theorem jT.kept {w w':World} {v:Value} {s:Clu} (h:jT w v s) (k:Kept w w'):jT w' v s:=by
 obtain⟨v1,v2,v3,e,h⟩:=h;exact⟨v1,v2,v3,e,h.kept k⟩
structure jb7 (s:Clu):Prop where
 nodes:∀n ∈ s.nodes,Yw n
 pods:∀n ∈ s.pods,YU n
 buds:∀n ∈ s.buds,n.sel.length≤1000000
 nodesN:s.nodes.length≤100000
 podsN:s.pods.length≤100000
 budsN:s.buds.length≤100000
def zi (x:ByteArray):List Pd→Vec.V→Int×Vec.V
 | [],v=>(0,v)
 | p::t,v=>if eqS p.node x=true then (if (Vec.jK Vec.zb v p.need).1=0 then zi x t (Vec.jK Vec.zb v p.need).2 else ((Vec.jK Vec.zb v p.need).1,[])) else zi x t v
theorem jbW {x:ByteArray} {p:Pd} {t:List Pd} {v:Vec.V} (h:eqS p.node x=false):zi x (p::t) v=zi x t v:=by
 rw[zi,if_neg (by rw[h];decide)]
theorem jcY {x:ByteArray} {p:Pd} {t:List Pd} {v m:Vec.V} (h:eqS p.node x=true) (g:Vec.jK Vec.zb v p.need=(0,m)):zi x (p::t) v=zi x t m:=by
 rw[zi,if_pos h,g,if_pos rfl]
theorem jc6 {x:ByteArray} {p:Pd} {t:List Pd} {v m:Vec.V} {c:Int} (h:eqS p.node x=true) (g:Vec.jK Vec.zb v p.need=(c,m)) (hc:c≠0):zi x (p::t) v=(c,[]):=by
 rw[zi,if_pos h,g,if_neg hc]
def Jb:List Nod→Vec.V→Int×Vec.V
 | [],v=>(0,v)
 | n::t,v=>if (Vec.jK Vec.zb v n.cap).1=0 then Jb t (Vec.jK Vec.zb v n.cap).2 else ((Vec.jK Vec.zb v n.cap).1,[])
theorem jc1 {n:Nod} {t:List Nod} {v m:Vec.V} (g:Vec.jK Vec.zb v n.cap=(0,m)):Jb (n::t) v=Jb t m:=by
 rw[Jb,g,if_pos rfl]
theorem jdj {n:Nod} {t:List Nod} {v m:Vec.V} {c:Int} (g:Vec.jK Vec.zb v n.cap=(c,m)) (hc:c≠0):Jb (n::t) v=(c,[]):=by
 rw[Jb,g,if_neg hc]
def J7 (s:Clu) (x:ByteArray):Int×Vec.V:=match jI s.nodes x with | none=>(3,[]) | some n=>zi n.name s.pods []
def jdH (s:Clu):Int×Vec.V:=Jb s.nodes []
def jq (nodes:List Nod):List Pd→Int
 | []=>0
 | p::t=>if zu p.node=false∧(jI nodes p.node).isSome=false then 3 else jq nodes t
theorem jbq {nodes:List Nod} {p:Pd} {t:List Pd} (h:zu p.node=false) (g:(jI nodes p.node).isSome=false):jq nodes (p::t)=3:=by
 rw[jq,if_pos ⟨h,g⟩]
theorem jax {nodes:List Nod} {p:Pd} {t:List Pd} (h:zu p.node=true):jq nodes (p::t)=jq nodes t:=by
 rw[jq,if_neg (by rw[h];simp)]
theorem jaB {nodes:List Nod} {p:Pd} {t:List Pd} (g:(jI nodes p.node).isSome=true):jq nodes (p::t)=jq nodes t:=by
 rw[jq,if_neg (by rw[g];simp)]
def jF (pods:List Pd):List Nod→Int
 | []=>0
 | n::t=>if (zi n.name pods []).1=0 then (if Vec.jW n.cap (zi n.name pods []).2=true then jF pods t else 7) else (zi n.name pods []).1
theorem jb4 {pods:List Pd} {n:Nod} {t:List Nod} {c:Int} {u:Vec.V} (h:zi n.name pods []=(c,u)) (hc:c≠0):jF pods (n::t)=c:=by
 rw[jF,h,if_neg hc]
theorem jbm {pods:List Pd} {n:Nod} {t:List Nod} {u:Vec.V} (h:zi n.name pods []=(0,u)) (hf:Vec.jW n.cap u=false):jF pods (n::t)=7:=by
 rw[jF,h,if_pos rfl,if_neg (by rw[hf];decide)]
theorem jbA {pods:List Pd} {n:Nod} {t:List Nod} {u:Vec.V} (h:zi n.name pods []=(0,u)) (hf:Vec.jW n.cap u=true):jF pods (n::t)=jF pods t:=by
 rw[jF,h,if_pos rfl,if_pos hf]
def Jd (s:Clu):Int :=
 if or3 (js s.nodes) (jw s.pods) (jB s.buds)≠0 then or3 (js s.nodes) (jw s.pods) (jB s.buds)
 else if jq s.nodes s.pods≠0 then jq s.nodes s.pods
 else if jF s.pods s.nodes≠0 then jF s.pods s.nodes
 else (Jb s.nodes []).1
theorem jdJ:Try.prog.cellsOf 26=3:=by kernel_rfl
theorem jcR:Try.prog.cellsOf 22=1:=by kernel_rfl
theorem jdi:Try.prog.cellsOf 23=1:=by kernel_rfl
theorem jdn:Try.prog.cellsOf 24=1:=by kernel_rfl
theorem jaN {H:Type} {enc:TypeId×Value→H} {w:World} {base fuel:Nat} {sp:Nat→Bool} {held:Bool} {cs:List Value} {x:DataW H×List MemPlace} (h:DataW.trod enc Try.prog w base sp held fuel 26 cs=some x) :
 ∃v1 v2 v3 s,cs=[v1,v2,v3]∧XA w v1 v2 v3 s:=by
 obtain⟨ys,m,-,-,hlen,hyl,hf⟩:=DataW.trod_struct Try.underlying26 h;rw[jdJ] at hlen
 match cs,hlen with
 | [c0,c1,c2],_ =>
  have h0:DataW.trod enc Try.prog w base sp held m 22 (([c0,c1,c2].drop 0).take (Try.prog.cellsOf 22))=ys[0]?:=hf 0 _ rfl;rw[jcR] at h0;obtain⟨y0,e0⟩:∃y,ys[0]?=some y:=⟨_,List.getElem?_eq_getElem (by rw[hyl];decide)⟩
  rw[e0] at h0;have h1:DataW.trod enc Try.prog w base sp held m 23 (([c0,c1,c2].drop 1).take (Try.prog.cellsOf 23))=ys[1]?:=hf 1 _ rfl;rw[jdi] at h1;obtain⟨y1,e1⟩:∃y,ys[1]?=some y:=⟨_,List.getElem?_eq_getElem (by rw[hyl];decide)⟩
  rw[e1] at h1;have h2:DataW.trod enc Try.prog w base sp held m 24 (([c0,c1,c2].drop 2).take (Try.prog.cellsOf 24))=ys[2]?:=hf 2 _ rfl;rw[jdn] at h2;obtain⟨y2,e2⟩:∃y,ys[2]?=some y:=⟨_,List.getElem?_eq_getElem (by rw[hyl];decide)⟩
  rw[e2] at h2;simp only[List.drop_zero,List.take_succ_cons,List.take_zero,List.drop_succ_cons] at h0 h1 h2;obtain⟨l0,r0⟩:=qj h0;obtain⟨l1,r1⟩:=qE h1;obtain⟨l2,r2⟩:=qI h2;exact⟨c0,c1,c2,⟨l0,l1,l2⟩,rfl,⟨r0,r1,r2⟩⟩
theorem jdW {H:Type} {enc:TypeId×Value→H} {W:World} {r:Reach} {b0 base:Nat} {sp:Nat→Bool} {held:Bool} {v:Value} {d:DataW H} {ps:List MemPlace} (hval:Value.okWide Try.prog W r b0 26 v) (h:DataW.Trod enc Try.prog W base sp held 26 v d ps):∃s,jT W v s:=by
 obtain⟨cs,rfl,hsz⟩:=okWide_struct Try.underlying26 hval;obtain⟨fuel,hf⟩:=h;obtain⟨v1,v2,v3,s,ha,hat⟩:=jaN hf;have e:cs.toList=[v1,v2,v3]:=by
  have:(Value.agg cs).cells.toList=[v1,v2,v3]:=ha;simpa [Value.cells] using this
 have:cs=#[v1,v2,v3]:=Array.ext' e;rw[this];exact⟨s,v1,v2,v3,rfl,hat⟩
def za (p q:Pd):Bool:=!zu p.owner&&(eqS q.owner p.owner&&(!q.hold&&!eqS q.name p.name))
def onN (p:Pd) (x:ByteArray):List Pd→Nat
 | []=>0
 | q::t=>(if za p q=true∧q.node=x then 1 else 0)+onN p x t
theorem Xq (p:Pd) (x:ByteArray):∀l:List Pd,onN p x l≤l.length
 | []=>Nat.zero_le _
 | q::t=>by
  have:=Xq p x t;unfold onN;simp only[List.length_cons];split<;>omega
def inD (p:Pd) (pods:List Pd) (d:ByteArray):List Nod→Nat
 | []=>0
 | n::t=>(if jr n.labels p.key=some d then onN p n.name pods else 0)+inD p pods d t
theorem jae (p:Pd) (pods:List Pd) (d:ByteArray):∀l:List Nod,inD p pods d l≤l.length*pods.length
 | []=>Nat.zero_le _
 | n::t=>by
  have h1:=jae p pods d t;have h2:=Xq p n.name pods;unfold inD;simp only[List.length_cons,Nat.add_mul];split<;>omega
def zU (k d:ByteArray) (l:List Nod):Bool:=l.any fun n=>decide (jr n.labels k=some d)
theorem YS (p:Pd) (x:ByteArray):∀(a b:List Pd),onN p x (a++b)=onN p x a+onN p x b
 | [],b=>by simp[onN]
 | q::t,b=>by
  have:=YS p x t b;simp only[List.cons_append,onN,this];omega
theorem XP (p:Pd) (pods:List Pd) (d:ByteArray):∀(a b:List Nod),inD p pods d (a++b)=inD p pods d a+inD p pods d b
 | [],b=>by simp[inD]
 | q::t,b=>by
  have:=XP p pods d t b;simp only[List.cons_append,inD,this];omega
def domV (key name:ByteArray):List Nod→Option ByteArray
 | []=>none
 | n::t=>if eqS n.name name=true then jr n.labels key else domV key name t
def JO (p:Pd) (pods:List Pd) (nodes:List Nod) (d:ByteArray):List Nod→Nat→Nat
 | [],m=>m
 | n::t,m=>JO p pods nodes d t (match jr n.labels p.key with
  | none=>m
  | some e=>min m (inD p pods e nodes+(if e=d then 1 else 0)))
def JI (p:Pd) (s:Clu) (d:ByteArray):Int:=((inD p s.pods d s.nodes+1:Nat):Int)-(JO p s.pods s.nodes d s.nodes (inD p s.pods d s.nodes+1):Int)
def jx (p:Pd) (s:Clu) (name:ByteArray):Int×Bool :=
 if zu p.key=true then (0,true) else match domV p.key name s.nodes with
  | none=>(0,false)
  | some d=>(JI p s d,true)
def zV (s:Clu) (p:Pd):Bool:=if zu p.node=true∨zu p.key=true then false else (!(jx p s p.node).2||decide (p.most<(jx p s p.node).1))
def Y6 (s:Clu):List ByteArray:=(s.pods.filter fun p=>zV s p).map fun p=>p.name
theorem ZM (p:Pd) (pods:List Pd) (nodes:List Nod) (d:ByteArray):∀(l:List Nod) (m:Nat),
 JO p pods nodes d l m≤m∧(∀n ∈ l,∀e,jr n.labels p.key=some e→JO p pods nodes d l m≤inD p pods e nodes+(if e=d then 1 else 0)) ∧
 (JO p pods nodes d l m=m∨∃n ∈ l,∃e,jr n.labels p.key=some e∧JO p pods nodes d l m=inD p pods e nodes+(if e=d then 1 else 0))
 | [],m=>⟨Nat.le_refl _,fun n h=>absurd h (by simp),.inl rfl⟩
 | n::t,m=>by
  rw[JO]
  cases h:jr n.labels p.key with
  | none =>
   dsimp only;obtain⟨h1,h2,h3⟩:=ZM p pods nodes d t m;refine⟨h1,fun x hx e he=>?_,h3.imp id fun ⟨x,hx,e,he⟩=>⟨x,by simp[hx],e,he⟩⟩;rcases List.mem_cons.1 hx with rfl | hx
   · rw[h] at he;cases he
   · exact h2 x hx e he
  | some c =>
   dsimp only;obtain⟨h1,h2,h3⟩:=ZM p pods nodes d t (min m (inD p pods c nodes+(if c=d then 1 else 0)));refine⟨Nat.le_trans h1 (Nat.min_le_left _ _),fun x hx e he=>?_,?_⟩
   · rcases List.mem_cons.1 hx with rfl | hx
     · rw[h] at he;cases he;exact Nat.le_trans h1 (Nat.min_le_right _ _)
     · exact h2 x hx e he
   · rcases h3 with h3 | ⟨x,hx,e,he,h3⟩
     · by_cases g:m≤inD p pods c nodes+(if c=d then 1 else 0)
       · exact .inl (by rw[h3,Nat.min_eq_left g])
       · exact .inr ⟨n,by simp,c,h,by rw[h3,Nat.min_eq_right (by omega)]⟩
     · exact .inr ⟨x,by simp[hx],e,he,h3⟩
theorem XT {p:Pd} {pods:List Pd} {nodes:List Nod} {d:ByteArray} {m z:Nat} (hd:zU p.key d nodes=true) (hm:m=inD p pods d nodes+1)
 (h1:∀e,zU p.key e nodes=true→z≤inD p pods e nodes+(if e=d then 1 else 0)) (h2:∃e,zU p.key e nodes=true∧z=inD p pods e nodes+(if e=d then 1 else 0)):JO p pods nodes d nodes m=z:=by
 have has:∀{n:Nod} {e:ByteArray},n ∈ nodes→jr n.labels p.key=some e→zU p.key e nodes=true:=fun {n e} hn he=>by
  unfold zU;rw[List.any_eq_true];exact⟨n,hn,by simpa using he⟩
 have un:∀{e:ByteArray},zU p.key e nodes=true→∃n ∈ nodes,jr n.labels p.key=some e:=fun {e} h=>by
  unfold zU at h;rw[List.any_eq_true] at h;obtain⟨n,hn,he⟩:=h;exact⟨n,hn,by simpa using he⟩
 obtain⟨g1,g2,g3⟩:=ZM p pods nodes d nodes m;obtain⟨e,he,hz⟩:=h2;obtain⟨n,hn,hne⟩:=un he;have a:=g2 n hn e hne;rcases g3 with g3 | ⟨x,hx,c,hc,g3⟩
 · have b:=h1 d hd;rw[if_pos rfl] at b;omega
 · have b:=h1 c (has hx hc);omega
theorem Zq {key name d:ByteArray}:∀{l:List Nod},domV key name l=some d→zU key d l=true
 | n::t,h=>by
  rw[domV] at h;unfold zU;rw[List.any_cons];split at h
  · rw[h];simp
  · have:=Zq h;unfold zU at this;rw[this,Bool.or_true]
def YM (d:Array Value):Nat→List Value→Array Value
 | _,[]=>d
 | k,x::r=>YM (d.setIfInBounds k x) (k+1) r
theorem X2:∀(xs:List Value) (d:Array Value) (k:Nat),(YM d k xs).size=d.size
 | [],_,_=>rfl
 | x::r,d,k=>by rw[YM,X2 r];simp
theorem qH:∀(xs:List Value) (d:Array Value) (k j:Nat),k+xs.length≤d.size→(YM d k xs)[j]?=if k≤j∧j<k+xs.length then xs[j-k]? else d[j]?
 | [],d,k,j,_=>by rw[YM,if_neg (by simp only[List.length_nil];omega)]
 | x::r,d,k,j,h=>by
  have hl:k+(r.length+1)≤d.size:=by simpa using h
  rw[YM,qH r _ _ _ (by simp;omega)];simp only[List.length_cons];by_cases c1:k+1≤j∧j<k+1+r.length
  · rw[if_pos c1,if_pos (by omega),show j-k=(j-(k+1))+1 by omega,List.getElem?_cons_succ]
  · rw[if_neg c1];by_cases c2:j=k
    · subst c2;rw[if_pos (by omega),Nat.sub_self,List.getElem?_cons_zero,Array.getElem?_setIfInBounds_self_of_lt (by omega)]
    · rw[if_neg (by omega),Array.getElem?_setIfInBounds_ne (by omega)]
theorem Xh:∀(vs:List Value) (g o:Nat) (w:World) (cur:Array Value) (e:TypeId),w.heap[g]?=some (.cells cur e (0,0))→(w.setCells g o vs).heap[g]?=some (.cells (YM cur o vs) e (0,0))
 | [],_,_,_,_,_,h=>h
 | v::r,g,o,w,cur,e,h=>by
  rw[World.setCells,YM];exact Xh r g (o+1) _ _ e (heap_setCell_same w g o cur e v h)
theorem jbu {w:World} {B:Nat} {e:TypeId} {s g n cap:Nat} {xs:List Value} (h:w.ownsRow B e s (.slice (some ⟨g,0,none⟩) n cap) n xs) :
 ∃cur,B≤g∧w.heap[g]?=some (.cells cur e (0,0))∧n≤cap∧cap≤maxLen∧cur.size=cap*s∧cur.toList.take (n*s)=xs∧xs.length=n*s:=by
 obtain⟨hl,h⟩:=h;rcases h with ⟨h0,_⟩ | ⟨g2,cap2,cur,h0,hb,hg,hn,hm,hs,ht⟩
 · cases h0
 · cases h0
   exact⟨cur,hb,hg,hn,hm,hs,ht,hl⟩
theorem jaq {cur:Array Value} {m:Nat} {xs:List Value} (hl:xs.length=m) (hm:m≤cur.size) (h:∀j,j<m→cur[j]?=xs[j]?):cur.toList.take m=xs:=by
 apply List.ext_getElem?;intro j;rw[List.getElem?_take];by_cases hj:j<m
 · rw[if_pos hj,Array.getElem?_toList];exact h j hj
 · rw[if_neg hj,List.getElem?_eq_none (by omega)]
theorem jaC {cur:Array Value} {m j:Nat} {xs:List Value} (ht:cur.toList.take m=xs) (hj:j<m):cur[j]?=xs[j]?:=by
 rw[←ht,List.getElem?_take,if_pos hj,Array.getElem?_toList]
theorem jdN {w:World} {B:Nat} {e:TypeId} {s g n cap:Nat} {xs:List Value} {cur:Array Value} (hB:B≤g) (hg:w.heap[g]?=some (.cells cur e (0,0))) (hn:n≤cap) (hm:cap≤maxLen) (hs:cur.size=cap*s) (hl:xs.length=n*s) (h:∀j,j<n*s→cur[j]?=xs[j]?) :
 w.ownsRow B e s (.slice (some ⟨g,0,none⟩) n cap) n xs :=
 ⟨hl,.inr ⟨g,cap,cur,rfl,hB,hg,hn,hm,hs,jaq hl (by rw[hs];exact Nat.mul_le_mul_right s hn) h⟩⟩
theorem jdC {w:World} {B:Nat} {e:TypeId} {s g n cap o:Nat} {xs vs:List Value} (h:w.ownsRow B e s (.slice (some ⟨g,0,none⟩) n cap) n xs) (ho:o+vs.length≤n*s) :
 (w.setCells g o vs).ownsRow B e s (.slice (some ⟨g,0,none⟩) n cap) n (xs.take o++vs++xs.drop (o+vs.length)):=by
 obtain⟨cur,hB,hg,hn,hm,hs,ht,hl⟩:=jbu h;have hns:n*s≤cap*s:=Nat.mul_le_mul_right s hn;refine jdN hB (Xh vs g o w cur e hg) hn hm (by rw[X2];exact hs) (by simp;omega) (fun j hj=>?_);rw[qH _ _ _ _ (by omega)];by_cases c1:o≤j∧j<o+vs.length
 · rw[if_pos c1,List.append_assoc,List.getElem?_append_right (by simp;omega),List.getElem?_append_left (by simp;omega)];congr 1
   simp;omega
 · rw[if_neg c1,jaC ht hj];by_cases c2:j<o
   · rw[List.append_assoc,List.getElem?_append_left (by simp;omega),List.getElem?_take,if_pos c2]
   · rw[List.getElem?_append_right (by simp;omega),List.getElem?_drop];congr 1
     simp;omega
end Go.Proofs.Ytgfoenfaohhjcaa
