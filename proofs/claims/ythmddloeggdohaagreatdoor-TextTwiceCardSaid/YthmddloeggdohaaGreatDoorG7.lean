/- What serves all packages,and package by package the contracts of the functions that the law calls. -/
import Derived.Test.YthmddloeggdohaaGreatDoorG1
import Derived.Test.YthmddloeggdohaaGreatDoorG2
import Derived.Test.YthmddloeggdohaaGreatDoorG3
import Derived.Test.YthmddloeggdohaaGreatDoorG5
import Derived.Test.YthmddloeggdohaaGreatDoorG6
set_option linter.unusedVariables false
set_option maxRecDepth 100000
set_option maxHeartbeats 25600000
namespace Go.Proofs.YthmddloeggdohaaGreatDoor
open Go.ChangeShapes Go.WideShapes Go.ChangeAt Go.RowKit Go.Deep
theorem jki:Tryz.prog.cellsOf 144=2:=by kernel_rfl
theorem jle:Tryz.prog.cellsOf 152=3:=by kernel_rfl
theorem jan:Tryz.prog.cellsOf 3=1:=by kernel_rfl
theorem jgT {H:Type} {enc:TypeId×Value→H} {w:World} {base fuel:Nat} {sp:Nat→Bool} {held:Bool} {cs:List Value} {x:DataW H×List MemPlace} (h:DataW.trod enc Tryz.prog w base sp held fuel 144 cs=some x) :
 ∃a:ByteArray×ByteArray,cs=js.cs a∧js.fine a:=by
 obtain⟨ys,m,-,-,hlen,hyl,hf⟩:=DataW.trod_struct Tryz.underlying144 h;rw[jki] at hlen
 match cs,hlen with
 | [c0,c1],_ =>
  have h0:DataW.trod enc Tryz.prog w base sp held m 9 (([c0,c1].drop 0).take (Tryz.prog.cellsOf 9))=ys[0]?:=hf 0 _ rfl;have h1:DataW.trod enc Tryz.prog w base sp held m 9 (([c0,c1].drop 1).take (Tryz.prog.cellsOf 9))=ys[1]?:=hf 1 _ rfl;rw[ZL] at h0 h1;obtain⟨y0,e0⟩:∃y,ys[0]?=some y:=⟨_,List.getElem?_eq_getElem (by rw[hyl];decide)⟩
  obtain⟨y1,e1⟩:∃y,ys[1]?=some y:=⟨_,List.getElem?_eq_getElem (by rw[hyl];decide)⟩
  rw[e0] at h0;rw[e1] at h1;obtain⟨s,q0,-,hs⟩:=DataW.trod_string Tryz.underlying9 h0;obtain⟨t,q1,-,ht⟩:=DataW.trod_string Tryz.underlying9 h1;simp only[List.drop_zero,List.take_succ_cons,List.take_zero,List.cons.injEq,and_true,List.drop_succ_cons] at q0 q1;subst q0;subst q1;exact⟨(s,t),rfl,hs,ht⟩
theorem jgM {H:Type} {enc:TypeId×Value→H} {w:World} {base fuel:Nat} {sp:Nat→Bool} {held:Bool} {cs:List Value} {x:DataW H×List MemPlace} (h:DataW.trod enc Tryz.prog w base sp held fuel 152 cs=some x) :
 ∃a:Int×ByteArray×ByteArray,cs=jL.cs a∧jL.fine a:=by
 obtain⟨ys,m,-,-,hlen,hyl,hf⟩:=DataW.trod_struct Tryz.underlying152 h;rw[jle] at hlen
 match cs,hlen with
 | [c0,c1,c2],_ =>
  have h0:DataW.trod enc Tryz.prog w base sp held m 3 (([c0,c1,c2].drop 0).take (Tryz.prog.cellsOf 3))=ys[0]?:=hf 0 _ rfl;have h1:DataW.trod enc Tryz.prog w base sp held m 9 (([c0,c1,c2].drop 1).take (Tryz.prog.cellsOf 9))=ys[1]?:=hf 1 _ rfl;have h2:DataW.trod enc Tryz.prog w base sp held m 9 (([c0,c1,c2].drop 2).take (Tryz.prog.cellsOf 9))=ys[2]?:=hf 2 _ rfl;rw[ZL] at h1 h2;rw[jan] at h0;obtain⟨y0,e0⟩:∃y,ys[0]?=some y:=⟨_,List.getElem?_eq_getElem (by rw[hyl];decide)⟩
  obtain⟨y1,e1⟩:∃y,ys[1]?=some y:=⟨_,List.getElem?_eq_getElem (by rw[hyl];decide)⟩
  obtain⟨y2,e2⟩:∃y,ys[2]?=some y:=⟨_,List.getElem?_eq_getElem (by rw[hyl];decide)⟩
  rw[e0] at h0;rw[e1] at h1;rw[e2] at h2;obtain⟨n,q0,-,hn⟩:=DataW.trod_int Tryz.underlying3 h0;obtain⟨s,q1,-,hs⟩:=DataW.trod_string Tryz.underlying9 h1;obtain⟨t,q2,-,ht⟩:=DataW.trod_string Tryz.underlying9 h2;simp only[List.drop_zero,List.take_succ_cons,List.take_zero,List.cons.injEq,and_true,List.drop_succ_cons] at q0 q1 q2;subst q0;subst q1;subst q2;exact⟨(n,s,t),rfl,bounds_i64 hn,hs,ht⟩
theorem jcD {H:Type} {enc:TypeId×Value→H} {w:World} {base fuel:Nat} {sp:Nat→Bool} {held:Bool} {v:Value} {x:DataW H×List MemPlace} (h:DataW.trod enc Tryz.prog w base sp held fuel 39 [v]=some x):∃l,Reads js w v l :=
 zX js Tryz.underlying39 jki (fun _ _ _ h=>jgT h) h
theorem jcM {H:Type} {enc:TypeId×Value→H} {w:World} {base fuel:Nat} {sp:Nat→Bool} {held:Bool} {v:Value} {x:DataW H×List MemPlace} (h:DataW.trod enc Tryz.prog w base sp held fuel 59 [v]=some x):∃l,Reads jL w v l :=
 zX jL Tryz.underlying59 jle (fun _ _ _ h=>jgM h) h
theorem jdl:Tryz.prog.cellsOf 4=1:=by kernel_rfl
theorem jlp:Tryz.prog.cellsOf 148=3:=by kernel_rfl
theorem jgw {H:Type} {enc:TypeId×Value→H} {w:World} {base fuel:Nat} {sp:Nat→Bool} {held:Bool} {cs:List Value} {x:DataW H×List MemPlace} (h:DataW.trod enc Tryz.prog w base sp held fuel 148 cs=some x) :
 ∃a:NT,cs=jq.cs a∧jq.fine a:=by
 obtain⟨ys,m,-,-,hlen,hyl,hf⟩:=DataW.trod_struct Tryz.underlying148 h;rw[jlp] at hlen
 match cs,hlen with
 | [c0,c1,c2],_ =>
  have h0:DataW.trod enc Tryz.prog w base sp held m 9 (([c0,c1,c2].drop 0).take (Tryz.prog.cellsOf 9))=ys[0]?:=hf 0 _ rfl;have h1:DataW.trod enc Tryz.prog w base sp held m 9 (([c0,c1,c2].drop 1).take (Tryz.prog.cellsOf 9))=ys[1]?:=hf 1 _ rfl;have h2:DataW.trod enc Tryz.prog w base sp held m 4 (([c0,c1,c2].drop 2).take (Tryz.prog.cellsOf 4))=ys[2]?:=hf 2 _ rfl;rw[ZL] at h0 h1;rw[jdl] at h2;obtain⟨y0,e0⟩:∃y,ys[0]?=some y:=⟨_,List.getElem?_eq_getElem (by rw[hyl];decide)⟩
  obtain⟨y1,e1⟩:∃y,ys[1]?=some y:=⟨_,List.getElem?_eq_getElem (by rw[hyl];decide)⟩
  obtain⟨y2,e2⟩:∃y,ys[2]?=some y:=⟨_,List.getElem?_eq_getElem (by rw[hyl];decide)⟩
  rw[e0] at h0;rw[e1] at h1;rw[e2] at h2;obtain⟨s,q0,-,hs⟩:=DataW.trod_string Tryz.underlying9 h0;obtain⟨t,q1,-,ht⟩:=DataW.trod_string Tryz.underlying9 h1;obtain⟨b,q2,-⟩:=DataW.trod_bool Tryz.underlying4 h2;simp only[List.drop_zero,List.take_succ_cons,List.take_zero,List.cons.injEq,and_true,List.drop_succ_cons] at q0 q1 q2;subst q0;subst q1;subst q2;exact⟨(s,t,b),rfl,hs,ht⟩
theorem jfP {H:Type} {enc:TypeId×Value→H} {w:World} {base fuel:Nat} {sp:Nat→Bool} {held:Bool} {v:Value} {x:DataW H×List MemPlace} (h:DataW.trod enc Tryz.prog w base sp held fuel 40 [v]=some x):∃l,Reads jq w v l :=
 zX jq Tryz.underlying40 jlp (fun _ _ _ h=>jgw h) h
theorem jj9:Tryz.prog.cellsOf 156=3:=by kernel_rfl
theorem jfR {H:Type} {enc:TypeId×Value→H} {w:World} {base fuel:Nat} {sp:Nat→Bool} {held:Bool} {cs:List Value} {x:DataW H×List MemPlace} (h:DataW.trod enc Tryz.prog w base sp held fuel 156 cs=some x) :
 ∃a:NT,cs=jq.cs a∧jq.fine a:=by
 obtain⟨ys,m,-,-,hlen,hyl,hf⟩:=DataW.trod_struct Tryz.underlying156 h;rw[jj9] at hlen
 match cs,hlen with
 | [c0,c1,c2],_ =>
  have h0:DataW.trod enc Tryz.prog w base sp held m 9 (([c0,c1,c2].drop 0).take (Tryz.prog.cellsOf 9))=ys[0]?:=hf 0 _ rfl;have h1:DataW.trod enc Tryz.prog w base sp held m 9 (([c0,c1,c2].drop 1).take (Tryz.prog.cellsOf 9))=ys[1]?:=hf 1 _ rfl;have h2:DataW.trod enc Tryz.prog w base sp held m 4 (([c0,c1,c2].drop 2).take (Tryz.prog.cellsOf 4))=ys[2]?:=hf 2 _ rfl;rw[ZL] at h0 h1;rw[jdl] at h2;obtain⟨y0,e0⟩:∃y,ys[0]?=some y:=⟨_,List.getElem?_eq_getElem (by rw[hyl];decide)⟩
  obtain⟨y1,e1⟩:∃y,ys[1]?=some y:=⟨_,List.getElem?_eq_getElem (by rw[hyl];decide)⟩
  obtain⟨y2,e2⟩:∃y,ys[2]?=some y:=⟨_,List.getElem?_eq_getElem (by rw[hyl];decide)⟩
  rw[e0] at h0;rw[e1] at h1;rw[e2] at h2;obtain⟨s,q0,-,hs⟩:=DataW.trod_string Tryz.underlying9 h0;obtain⟨t,q1,-,ht⟩:=DataW.trod_string Tryz.underlying9 h1;obtain⟨b,q2,-⟩:=DataW.trod_bool Tryz.underlying4 h2;simp only[List.drop_zero,List.take_succ_cons,List.take_zero,List.cons.injEq,and_true,List.drop_succ_cons] at q0 q1 q2;subst q0;subst q1;subst q2;exact⟨(s,t,b),rfl,hs,ht⟩
theorem jgg {H:Type} {enc:TypeId×Value→H} {w:World} {base fuel:Nat} {sp:Nat→Bool} {held:Bool} {v:Value} {x:DataW H×List MemPlace} (h:DataW.trod enc Tryz.prog w base sp held fuel 60 [v]=some x):∃l,Reads jq w v l :=
 zX jq Tryz.underlying60 jj9 (fun _ _ _ h=>jfR h) h
theorem jlO (x:NX) (u:Value) (h:u ∈ [Value.string x.1.name,slV x.2.1,slV x.2.2.1,slV x.2.2.2,.bool x.1.cordon]):u.oneCell'=true:=by
 simp only[List.mem_cons,List.not_mem_nil,or_false] at h;rcases h with rfl | rfl | rfl | rfl | rfl<;>rfl
def jgx (w:World):Lay NX:={ m:=5,cs:=fun x=>[.string x.1.name,slV x.2.1,slV x.2.2.1,slV x.2.2.2,.bool x.1.cordon],fine:=fun x=>Jo w (slV x.2.1) (slV x.2.2.1) (slV x.2.2.2) x.1,len:=fun _=>rfl,one:=jlO,pos:=by decide }
theorem jjU:Tryz.prog.cellsOf 37=1:=by kernel_rfl
theorem jkA:Tryz.prog.cellsOf 39=1:=by kernel_rfl
theorem jnj:Tryz.prog.cellsOf 40=1:=by kernel_rfl
theorem jln:Tryz.prog.cellsOf 42=5:=by kernel_rfl
theorem jga {H:Type} {enc:TypeId×Value→H} {w:World} {base fuel:Nat} {sp:Nat→Bool} {held:Bool} {cs:List Value} {x:DataW H×List MemPlace} (h:DataW.trod enc Tryz.prog w base sp held fuel 42 cs=some x) :
 ∃a:NX,cs=(jgx w).cs a∧(jgx w).fine a:=by
 obtain⟨ys,m,-,-,hlen,hyl,hf⟩:=DataW.trod_struct Tryz.underlying42 h;rw[jln] at hlen
 match cs,hlen with
 | [c0,c1,c2,c3,c4],_ =>
  have h0:DataW.trod enc Tryz.prog w base sp held m 9 (([c0,c1,c2,c3,c4].drop 0).take (Tryz.prog.cellsOf 9))=ys[0]?:=hf 0 _ rfl;have h1:DataW.trod enc Tryz.prog w base sp held m 37 (([c0,c1,c2,c3,c4].drop 1).take (Tryz.prog.cellsOf 37))=ys[1]?:=hf 1 _ rfl;have h2:DataW.trod enc Tryz.prog w base sp held m 39 (([c0,c1,c2,c3,c4].drop 2).take (Tryz.prog.cellsOf 39))=ys[2]?:=hf 2 _ rfl;have h3:DataW.trod enc Tryz.prog w base sp held m 40 (([c0,c1,c2,c3,c4].drop 3).take (Tryz.prog.cellsOf 40))=ys[3]?:=hf 3 _ rfl;have h4:DataW.trod enc Tryz.prog w base sp held m 4 (([c0,c1,c2,c3,c4].drop 4).take (Tryz.prog.cellsOf 4))=ys[4]?:=hf 4 _ rfl;rw[ZL] at h0;rw[jjU] at h1;rw[jkA] at h2;rw[jnj] at h3;rw[jdl] at h4;obtain⟨y0,e0⟩:∃y,ys[0]?=some y:=⟨_,List.getElem?_eq_getElem (by rw[hyl];decide)⟩
  obtain⟨y1,e1⟩:∃y,ys[1]?=some y:=⟨_,List.getElem?_eq_getElem (by rw[hyl];decide)⟩
  obtain⟨y2,e2⟩:∃y,ys[2]?=some y:=⟨_,List.getElem?_eq_getElem (by rw[hyl];decide)⟩
  obtain⟨y3,e3⟩:∃y,ys[3]?=some y:=⟨_,List.getElem?_eq_getElem (by rw[hyl];decide)⟩
  obtain⟨y4,e4⟩:∃y,ys[4]?=some y:=⟨_,List.getElem?_eq_getElem (by rw[hyl];decide)⟩
  rw[e0] at h0;rw[e1] at h1;rw[e2] at h2;rw[e3] at h3;rw[e4] at h4;simp only[List.drop_zero,List.take_succ_cons,List.take_zero,List.drop_succ_cons] at h0 h1 h2 h3 h4;obtain⟨s,q0,-,hs⟩:=DataW.trod_string Tryz.underlying9 h0;obtain⟨b,q4,-⟩:=DataW.trod_bool Tryz.underlying4 h4;obtain⟨l1,r1⟩:=Vec.zX h1;obtain⟨l2,r2⟩:=jcD h2;obtain⟨l3,r3⟩:=jfP h3;have r1':=r1;have r2':=r2;have r3':=r3;obtain⟨a1,d1,rfl,-⟩:=r1';obtain⟨a2,d2,rfl,-⟩:=r2';obtain⟨a3,d3,rfl,-⟩:=r3';simp only[List.cons.injEq,and_true] at q0 q4;subst q0;subst q4;exact⟨(⟨s,l1,l2,l3,b⟩,(a1,l1.length,d1),(a2,l2.length,d2),(a3,l3.length,d3)),rfl,⟨hs,r1,r2,r3⟩⟩
theorem jfe {H:Type} {enc:TypeId×Value→H} {w:World} {base fuel:Nat} {sp:Nat→Bool} {held:Bool} {v:Value} {x:DataW H×List MemPlace} (h:DataW.trod enc Tryz.prog w base sp held fuel 22 [v]=some x):∃l,Zf w v l:=by
 obtain⟨l,a,cap,rfl,h1,h2,h3⟩:=zX (jgx w) Tryz.underlying22 jln (fun _ _ _ h=>jga h) h;obtain⟨g0,g1,g2,g3⟩:=h3;refine⟨l.map (fun z=>z.1),a,cap,by rw[List.length_map],by rw[List.length_map];exact h1,h2,rfl,by rw[List.length_map];exact g1,?_⟩;rw[List.length_map];rcases g3 with g3 | ⟨b,off,rfl,hb,hc⟩
 · exact .inl g3
 · refine .inr ⟨b,off,rfl,hb,fun i n hi=>?_⟩;rw[List.getElem?_map] at hi;obtain⟨z,hz,rfl⟩:=Option.map_eq_some_iff.1 hi;exact⟨_,_,_,_,_,_,_,_,_,hc i z 0 _ hz rfl,hc i z 1 _ hz rfl,hc i z 2 _ hz rfl,hc i z 3 _ hz rfl,hc i z 4 _ hz rfl,g2 z (List.mem_of_getElem? hz)⟩
theorem jiD:Tryz.prog.globalNamed "strconv.ErrSyntax"=some 4:=by kernel_rfl
theorem jm1 {W:World} (hL:laidMetH Tryz.prog Rows.textTwiceRow.laid W) (hS:W.ShapedOpen Tryz.prog):Jf W:=by
 refine⟨Vec.jjM hL hS,?_⟩;rw[MakeChecks.laidMetH_plain _ _ _ (by kernel_rfl)] at hL;have h6:laidMet Tryz.prog (("strconv.ErrSyntax",Rows.laid_strconv_ErrSyntax)::_) W:=hL.tail.tail.tail.tail.tail;unfold Rows.laid_strconv_ErrSyntax at h6;obtain⟨a,s,hv,-⟩:=laid_sentinel h6 jiD (by kernel_rfl) Tryz.underlying100 Vec.jgb Tryz.underlying361 Tryz.underlying363 rfl rfl Tryz.underlying9 Vec.jlj Vec.ZL;exact⟨_,by simpa using World.var?_cell jiD hv 0,.inr ⟨_,_,rfl⟩⟩
theorem jiG:Tryz.prog.cellsOf 59=1:=by kernel_rfl
theorem jnb:Tryz.prog.cellsOf 60=1:=by kernel_rfl
theorem jij:Tryz.prog.cellsOf 62=11:=by kernel_rfl
theorem jhG {H:Type} {enc:TypeId×Value→H} {w:World} {base fuel:Nat} {sp:Nat→Bool} {held:Bool} {cs:List Value} {x:DataW H×List MemPlace} (h:DataW.trod enc Tryz.prog w base sp held fuel 62 cs=some x) :
 ∃(n:Pd) (v1 v2 v3 v4:Value),cs=[.string n.name,.string n.owner,.int .i64 n.prio,v1,v2,v3,v4,.string n.key,.int .i64 n.most,.string n.node,.bool n.hold]∧zl w v1 v2 v3 v4 n:=by
 obtain⟨ys,m,-,-,hlen,hyl,hf⟩:=DataW.trod_struct Tryz.underlying62 h;rw[jij] at hlen
 match cs,hlen with
 | [c0,c1,c2,c3,c4,c5,c6,c7,c8,c9,c10],_ =>
  have h0:DataW.trod enc Tryz.prog w base sp held m 9 (([c0,c1,c2,c3,c4,c5,c6,c7,c8,c9,c10].drop 0).take (Tryz.prog.cellsOf 9))=ys[0]?:=hf 0 _ rfl;have h1:DataW.trod enc Tryz.prog w base sp held m 9 (([c0,c1,c2,c3,c4,c5,c6,c7,c8,c9,c10].drop 1).take (Tryz.prog.cellsOf 9))=ys[1]?:=hf 1 _ rfl;have h2:DataW.trod enc Tryz.prog w base sp held m 3 (([c0,c1,c2,c3,c4,c5,c6,c7,c8,c9,c10].drop 2).take (Tryz.prog.cellsOf 3))=ys[2]?:=hf 2 _ rfl;have h3:DataW.trod enc Tryz.prog w base sp held m 37 (([c0,c1,c2,c3,c4,c5,c6,c7,c8,c9,c10].drop 3).take (Tryz.prog.cellsOf 37))=ys[3]?:=hf 3 _ rfl;have h4:DataW.trod enc Tryz.prog w base sp held m 39 (([c0,c1,c2,c3,c4,c5,c6,c7,c8,c9,c10].drop 4).take (Tryz.prog.cellsOf 39))=ys[4]?:=hf 4 _ rfl;have h5:DataW.trod enc Tryz.prog w base sp held m 59 (([c0,c1,c2,c3,c4,c5,c6,c7,c8,c9,c10].drop 5).take (Tryz.prog.cellsOf 59))=ys[5]?:=hf 5 _ rfl;have h6:DataW.trod enc Tryz.prog w base sp held m 60 (([c0,c1,c2,c3,c4,c5,c6,c7,c8,c9,c10].drop 6).take (Tryz.prog.cellsOf 60))=ys[6]?:=hf 6 _ rfl;have h7:DataW.trod enc Tryz.prog w base sp held m 9 (([c0,c1,c2,c3,c4,c5,c6,c7,c8,c9,c10].drop 7).take (Tryz.prog.cellsOf 9))=ys[7]?:=hf 7 _ rfl;have h8:DataW.trod enc Tryz.prog w base sp held m 3 (([c0,c1,c2,c3,c4,c5,c6,c7,c8,c9,c10].drop 8).take (Tryz.prog.cellsOf 3))=ys[8]?:=hf 8 _ rfl;have h9:DataW.trod enc Tryz.prog w base sp held m 9 (([c0,c1,c2,c3,c4,c5,c6,c7,c8,c9,c10].drop 9).take (Tryz.prog.cellsOf 9))=ys[9]?:=hf 9 _ rfl;have h10:DataW.trod enc Tryz.prog w base sp held m 4 (([c0,c1,c2,c3,c4,c5,c6,c7,c8,c9,c10].drop 10).take (Tryz.prog.cellsOf 4))=ys[10]?:=hf 10 _ rfl;rw[ZL] at h0;rw[ZL] at h1;rw[jan] at h2;rw[jjU] at h3;rw[jkA] at h4;rw[jiG] at h5;rw[jnb] at h6;rw[ZL] at h7;rw[jan] at h8;rw[ZL] at h9;rw[jdl] at h10;obtain⟨y0,e0⟩:∃y,ys[0]?=some y:=⟨_,List.getElem?_eq_getElem (by rw[hyl];decide)⟩
  rw[e0] at h0;obtain⟨y1,e1⟩:∃y,ys[1]?=some y:=⟨_,List.getElem?_eq_getElem (by rw[hyl];decide)⟩
  rw[e1] at h1;obtain⟨y2,e2⟩:∃y,ys[2]?=some y:=⟨_,List.getElem?_eq_getElem (by rw[hyl];decide)⟩
  rw[e2] at h2;obtain⟨y3,e3⟩:∃y,ys[3]?=some y:=⟨_,List.getElem?_eq_getElem (by rw[hyl];decide)⟩
  rw[e3] at h3;obtain⟨y4,e4⟩:∃y,ys[4]?=some y:=⟨_,List.getElem?_eq_getElem (by rw[hyl];decide)⟩
  rw[e4] at h4;obtain⟨y5,e5⟩:∃y,ys[5]?=some y:=⟨_,List.getElem?_eq_getElem (by rw[hyl];decide)⟩
  rw[e5] at h5;obtain⟨y6,e6⟩:∃y,ys[6]?=some y:=⟨_,List.getElem?_eq_getElem (by rw[hyl];decide)⟩
  rw[e6] at h6;obtain⟨y7,e7⟩:∃y,ys[7]?=some y:=⟨_,List.getElem?_eq_getElem (by rw[hyl];decide)⟩
  rw[e7] at h7;obtain⟨y8,e8⟩:∃y,ys[8]?=some y:=⟨_,List.getElem?_eq_getElem (by rw[hyl];decide)⟩
  rw[e8] at h8;obtain⟨y9,e9⟩:∃y,ys[9]?=some y:=⟨_,List.getElem?_eq_getElem (by rw[hyl];decide)⟩
  rw[e9] at h9;obtain⟨y10,e10⟩:∃y,ys[10]?=some y:=⟨_,List.getElem?_eq_getElem (by rw[hyl];decide)⟩
  rw[e10] at h10;simp only[List.drop_zero,List.take_succ_cons,List.take_zero,List.drop_succ_cons] at h0 h1 h2 h3 h4 h5 h6 h7 h8 h9 h10;obtain⟨s0,q0,-,z0⟩:=DataW.trod_string Tryz.underlying9 h0;obtain⟨s1,q1,-,z1⟩:=DataW.trod_string Tryz.underlying9 h1;obtain⟨s2,q2,-,z2⟩:=DataW.trod_int Tryz.underlying3 h2;obtain⟨l1,r3⟩:=Vec.zX h3;obtain⟨l2,r4⟩:=jcD h4;obtain⟨l3,r5⟩:=jcM h5;obtain⟨l4,r6⟩:=jgg h6;obtain⟨s7,q7,-,z7⟩:=DataW.trod_string Tryz.underlying9 h7;obtain⟨s8,q8,-,z8⟩:=DataW.trod_int Tryz.underlying3 h8;obtain⟨s9,q9,-,z9⟩:=DataW.trod_string Tryz.underlying9 h9;obtain⟨s10,q10,-⟩:=DataW.trod_bool Tryz.underlying4 h10;simp only[List.cons.injEq,and_true] at q0 q1 q2 q7 q8 q9 q10;subst q0;subst q1;subst q2;subst q7;subst q8;subst q9;subst q10;exact⟨⟨s0,s1,s2,l1,l2,l3,l4,s7,s8,s9,s10⟩,_,_,_,_,rfl,⟨z0,z1,z7,z9,bounds_i64 z2,bounds_i64 z8,r3,r4,r5,r6⟩⟩
open Go.RowKit
def jnV (s:List UInt8) (n:Pd):Prop:=∃a b c d e f g h i j:List UInt8,je 32 s=[a,b,c,d,e,f,g,h,i,j]∧n.name=bytes a∧jbu b=some n.owner∧jaY c=some n.prio∧Vec.Z0 d=(0,n.need)∧Jc e=(0,n.labels)∧JU f=(0,n.sel)∧J8 g=(0,n.tols)∧XN h=some (n.key,n.most)∧jbu i=some n.node∧jfx j=some n.hold
def XB (c:Int) (n:Pd) (w:World) (e:Ending) (w':World):Prop:=(c=0→∃v,e=.returned v∧ZT w.heap.size w' v n)∧(c≠0→e=.panicked [ju c])∧Kept w w'
theorem XB.bad {c:Int} {n:Pd} {w w':World} (hc:c≠0) (hb:Kept w w'):XB c n w (.panicked [ju c]) w':=⟨fun g=>absurd g hc,fun _=>rfl,hb⟩
theorem qu (x0 x1 x3 x5:ByteArray) (x2 x4:Int) (x6:Bool) (b1 b2 b3 b4:Option Addr) (n1 d1 n2 d2 n3 d3 n4 d4:Nat) (w:World):Calls Tryz.prog 88 #[.agg #[.string x0,.string x1,.int .i64 x2,.slice b1 n1 d1,.slice b2 n2 d2,.slice b3 n3 d3,.slice b4 n4 d4,.string x3,.int .i64 x4,.string x5,.bool x6],.int .i64 0] w fun e w'=>e=.returned (.agg #[.string x0,.string x1,.int .i64 x2,.slice b1 n1 d1,.slice b2 n2 d2,.slice b3 n3 d3,.slice b4 n4 d4,.string x3,.int .i64 x4,.string x5,.bool x6])∧Kept w w':=by
 go_enter Tryz.func88,Tryz.ntmps88;go_wp2;go_returns
 exact⟨rfl,jk _ _ _⟩
theorem jht (x0 x1 x3 x5:ByteArray) (x2 x4:Int) (x6:Bool) (b1 b2 b3 b4:Option Addr) (n1 d1 n2 d2 n3 d3 n4 d4:Nat) (c:Int) (w:World) (h:c≠0):Calls Tryz.prog 88 #[.agg #[.string x0,.string x1,.int .i64 x2,.slice b1 n1 d1,.slice b2 n2 d2,.slice b3 n3 d3,.slice b4 n4 d4,.string x3,.int .i64 x4,.string x5,.bool x6],.int .i64 c] w fun e w'=>e=.panicked [ju c]∧Kept w w':=by
 have h3:(c != 0)=true:=by simpa using h
 clear h;go_enter Tryz.func88,Tryz.ntmps88;go_wp2;exact⟨rfl,rfl,jk _ _ _⟩
theorem jcl {W:World} {q p:Nat} {c0 c1 c2 c3 c4 c5 c6 c7 c8 c9 c10 u0 u1 u2 u3 u4 u5 u6 u7 u8 u9 u10:Value} (h:(W).cell? ⟨q,0,none⟩=some (c0)∧(W).cell? ⟨q,1,none⟩=some (c1)∧(W).cell? ⟨q,2,none⟩=some (c2)∧(W).cell? ⟨q,3,none⟩=some (c3)∧(W).cell? ⟨q,4,none⟩=some (c4)∧(W).cell? ⟨q,5,none⟩=some (c5)∧(W).cell? ⟨q,6,none⟩=some (c6)∧(W).cell? ⟨q,7,none⟩=some (c7)∧(W).cell? ⟨q,8,none⟩=some (c8)∧(W).cell? ⟨q,9,none⟩=some (c9)∧(W).cell? ⟨q,10,none⟩=some (c10)) (hne:q≠p) :
 ((((((((((((W.setCell ⟨p,0,none⟩ u0).setCell ⟨p,1,none⟩ u1).setCell ⟨p,2,none⟩ u2).setCell ⟨p,3,none⟩ u3).setCell ⟨p,4,none⟩ u4).setCell ⟨p,5,none⟩ u5).setCell ⟨p,6,none⟩ u6).setCell ⟨p,7,none⟩ u7).setCell ⟨p,8,none⟩ u8).setCell ⟨p,9,none⟩ u9).setCell ⟨p,10,none⟩ u10)).cell? ⟨q,0,none⟩=some (c0)∧((((((((((((W.setCell ⟨p,0,none⟩ u0).setCell ⟨p,1,none⟩ u1).setCell ⟨p,2,none⟩ u2).setCell ⟨p,3,none⟩ u3).setCell ⟨p,4,none⟩ u4).setCell ⟨p,5,none⟩ u5).setCell ⟨p,6,none⟩ u6).setCell ⟨p,7,none⟩ u7).setCell ⟨p,8,none⟩ u8).setCell ⟨p,9,none⟩ u9).setCell ⟨p,10,none⟩ u10)).cell? ⟨q,1,none⟩=some (c1)∧((((((((((((W.setCell ⟨p,0,none⟩ u0).setCell ⟨p,1,none⟩ u1).setCell ⟨p,2,none⟩ u2).setCell ⟨p,3,none⟩ u3).setCell ⟨p,4,none⟩ u4).setCell ⟨p,5,none⟩ u5).setCell ⟨p,6,none⟩ u6).setCell ⟨p,7,none⟩ u7).setCell ⟨p,8,none⟩ u8).setCell ⟨p,9,none⟩ u9).setCell ⟨p,10,none⟩ u10)).cell? ⟨q,2,none⟩=some (c2)∧((((((((((((W.setCell ⟨p,0,none⟩ u0).setCell ⟨p,1,none⟩ u1).setCell ⟨p,2,none⟩ u2).setCell ⟨p,3,none⟩ u3).setCell ⟨p,4,none⟩ u4).setCell ⟨p,5,none⟩ u5).setCell ⟨p,6,none⟩ u6).setCell ⟨p,7,none⟩ u7).setCell ⟨p,8,none⟩ u8).setCell ⟨p,9,none⟩ u9).setCell ⟨p,10,none⟩ u10)).cell? ⟨q,3,none⟩=some (c3)∧((((((((((((W.setCell ⟨p,0,none⟩ u0).setCell ⟨p,1,none⟩ u1).setCell ⟨p,2,none⟩ u2).setCell ⟨p,3,none⟩ u3).setCell ⟨p,4,none⟩ u4).setCell ⟨p,5,none⟩ u5).setCell ⟨p,6,none⟩ u6).setCell ⟨p,7,none⟩ u7).setCell ⟨p,8,none⟩ u8).setCell ⟨p,9,none⟩ u9).setCell ⟨p,10,none⟩ u10)).cell? ⟨q,4,none⟩=some (c4)∧((((((((((((W.setCell ⟨p,0,none⟩ u0).setCell ⟨p,1,none⟩ u1).setCell ⟨p,2,none⟩ u2).setCell ⟨p,3,none⟩ u3).setCell ⟨p,4,none⟩ u4).setCell ⟨p,5,none⟩ u5).setCell ⟨p,6,none⟩ u6).setCell ⟨p,7,none⟩ u7).setCell ⟨p,8,none⟩ u8).setCell ⟨p,9,none⟩ u9).setCell ⟨p,10,none⟩ u10)).cell? ⟨q,5,none⟩=some (c5)∧((((((((((((W.setCell ⟨p,0,none⟩ u0).setCell ⟨p,1,none⟩ u1).setCell ⟨p,2,none⟩ u2).setCell ⟨p,3,none⟩ u3).setCell ⟨p,4,none⟩ u4).setCell ⟨p,5,none⟩ u5).setCell ⟨p,6,none⟩ u6).setCell ⟨p,7,none⟩ u7).setCell ⟨p,8,none⟩ u8).setCell ⟨p,9,none⟩ u9).setCell ⟨p,10,none⟩ u10)).cell? ⟨q,6,none⟩=some (c6)∧((((((((((((W.setCell ⟨p,0,none⟩ u0).setCell ⟨p,1,none⟩ u1).setCell ⟨p,2,none⟩ u2).setCell ⟨p,3,none⟩ u3).setCell ⟨p,4,none⟩ u4).setCell ⟨p,5,none⟩ u5).setCell ⟨p,6,none⟩ u6).setCell ⟨p,7,none⟩ u7).setCell ⟨p,8,none⟩ u8).setCell ⟨p,9,none⟩ u9).setCell ⟨p,10,none⟩ u10)).cell? ⟨q,7,none⟩=some (c7)∧((((((((((((W.setCell ⟨p,0,none⟩ u0).setCell ⟨p,1,none⟩ u1).setCell ⟨p,2,none⟩ u2).setCell ⟨p,3,none⟩ u3).setCell ⟨p,4,none⟩ u4).setCell ⟨p,5,none⟩ u5).setCell ⟨p,6,none⟩ u6).setCell ⟨p,7,none⟩ u7).setCell ⟨p,8,none⟩ u8).setCell ⟨p,9,none⟩ u9).setCell ⟨p,10,none⟩ u10)).cell? ⟨q,8,none⟩=some (c8)∧((((((((((((W.setCell ⟨p,0,none⟩ u0).setCell ⟨p,1,none⟩ u1).setCell ⟨p,2,none⟩ u2).setCell ⟨p,3,none⟩ u3).setCell ⟨p,4,none⟩ u4).setCell ⟨p,5,none⟩ u5).setCell ⟨p,6,none⟩ u6).setCell ⟨p,7,none⟩ u7).setCell ⟨p,8,none⟩ u8).setCell ⟨p,9,none⟩ u9).setCell ⟨p,10,none⟩ u10)).cell? ⟨q,9,none⟩=some (c9)∧((((((((((((W.setCell ⟨p,0,none⟩ u0).setCell ⟨p,1,none⟩ u1).setCell ⟨p,2,none⟩ u2).setCell ⟨p,3,none⟩ u3).setCell ⟨p,4,none⟩ u4).setCell ⟨p,5,none⟩ u5).setCell ⟨p,6,none⟩ u6).setCell ⟨p,7,none⟩ u7).setCell ⟨p,8,none⟩ u8).setCell ⟨p,9,none⟩ u9).setCell ⟨p,10,none⟩ u10)).cell? ⟨q,10,none⟩=some (c10):=by
 have e:(W.setCells p 0 [u0,u1,u2,u3,u4,u5,u6,u7,u8,u9,u10]).heap[q]?=W.heap[q]?:=YR p _ 0 W q hne;have c:∀j,((((((((((((W.setCell ⟨p,0,none⟩ u0).setCell ⟨p,1,none⟩ u1).setCell ⟨p,2,none⟩ u2).setCell ⟨p,3,none⟩ u3).setCell ⟨p,4,none⟩ u4).setCell ⟨p,5,none⟩ u5).setCell ⟨p,6,none⟩ u6).setCell ⟨p,7,none⟩ u7).setCell ⟨p,8,none⟩ u8).setCell ⟨p,9,none⟩ u9).setCell ⟨p,10,none⟩ u10)).cell? ⟨q,j,none⟩=W.cell? ⟨q,j,none⟩:=fun j=>World.cell?_of_block (a:=⟨q,j,none⟩) e;simp only[c];exact h
theorem jgh {p:List UInt8} {x:ByteArray} (h:jbu p=some x) (hp:p.length≤1000000):x.size≤maxLen:=by
 unfold jbu at h;split at h
 · cases h
 · split at h
   · obtain rfl:=Option.some.inj h;exact(by decide:(0:Nat)≤maxLen)
   · obtain rfl:=Option.some.inj h;rw[ji];unfold maxLen;omega
theorem jc2 {p:List UInt8} {n:Int} (h:X8 p=some n):-9223372036854775808≤n∧n≤9223372036854775807:=by
 obtain⟨_,h2,rfl⟩:=jeO h;omega
theorem jkM {p:List UInt8} {n:Int} (h:jaY p=some n):-9223372036854775808≤n∧n≤9223372036854775807:=by
 unfold jaY at h;split at h
 · obtain rfl:=Option.some.inj h;decide
 · exact jc2 h
theorem jhC {p:List UInt8} {x:ByteArray} {m:Int} (h:XN p=some (x,m)) (hp:p.length≤1000000):x.size≤maxLen∧(-9223372036854775808≤m∧m≤9223372036854775807):=by
 have hl:=Yl p [47];unfold XN at h;split at h
 · obtain⟨rfl,rfl⟩:=Prod.mk.inj (Option.some.inj h);exact⟨(by decide:(0:Nat)≤maxLen),by decide⟩
 · split at h
   · cases h
   · cases hn:X8 (Lib.cut p [47]).2.1 with
     | none=>rw[hn] at h;cases h
     | some m' =>
      rw[hn] at h;obtain⟨rfl,rfl⟩:=Prod.mk.inj (Option.some.inj h);exact⟨by rw[ji];unfold maxLen;omega,jc2 hn⟩
theorem jfM (s:List UInt8) (n:Pd) (c:Int) (w:World) (hE:Jf w) (hs:s.length≤900000) (h:jnV s n) (hc:zV n=c) :
 Calls Tryz.prog 131 #[.string (bytes s)] w (XB c n w):=by
 obtain⟨a,b,c0,d,e,f,g0,h0,i,j,hp,ha,hb,hcc,hd,he,hf,hg,hh,hi,hj⟩:=h;obtain⟨x0,x1,x2,l1,l2,l3,l4,x3,x4,x5,x6⟩:=n;dsimp only at ha hb hcc hd he hf hg hh hi hj;subst ha;have hlen:∀p ∈ [a,b,c0,d,e,f,g0,h0,i,j],p.length≤s.length:=fun p hm=>Z9 32 s p (by rw[hp];exact hm);have la:=hlen a (by simp);have lb:=hlen b (by simp);have lc:=hlen c0 (by simp);have ld:=hlen d (by simp);have le:=hlen e (by simp);have lf:=hlen f (by simp);have lg:=hlen g0 (by simp);have lh:=hlen h0 (by simp);have li:=hlen i (by simp);obtain⟨Z,hZ⟩:∃Z,w.alloc (.cells #[.string ⟨#[]⟩,.string ⟨#[]⟩,.int .i64 0,.slice none 0 0,.slice none 0 0,.slice none 0 0,.slice none 0 0,.string ⟨#[]⟩,.int .i64 0,.string ⟨#[]⟩,.bool false] 62)=Z:=⟨_,rfl⟩
 have hkz:Kept w Z:=by rw[←hZ];exact ja _ _
 have hzs:Z.heap.size=w.heap.size+1:=by rw[←hZ];simp
 have HR0:=lH (show jf w.heap.size [.string ⟨#[]⟩,.string ⟨#[]⟩,.int .i64 0,.slice none 0 0,.slice none 0 0,.slice none 0 0,.slice none 0 0,.string ⟨#[]⟩,.int .i64 0,.string ⟨#[]⟩,.bool false] Z from jg w (.string ⟨#[]⟩) [.string ⟨#[]⟩,.int .i64 0,.slice none 0 0,.slice none 0 0,.slice none 0 0,.slice none 0 0,.string ⟨#[]⟩,.int .i64 0,.string ⟨#[]⟩,.bool false] 62 Z (by rw[hZ];exact Kept.refl _));have HWD:=lH (jmB s Z (hE.kept hkz).toEnvT.toEnv.base (by omega));have H2:=lH (fun W (_:Kept w W)=>jnh c0 x2 W (by omega) hcc);have H9:=lH (fun W=>jnB j x6 W hj);have H7:=lH (fun W (k:Kept w W)=>jkG h0 x3 x4 W (hE.kept k).toEnvT.toEnv.base (by omega) hh);have H0:=lH (fun W (_:Kept w W)=>Zp (bytes a) W (by rw[ji];omega));have H1:=lH (fun W (_:Kept w W)=>jlm b x1 W (by omega) hb);have H8:=lH (fun W (_:Kept w W)=>jlm i x5 W (by omega) hi);have H3:=lH (fun W (k:Kept w W)=>(Vec.X6 d W (hE.kept k).toEnvT.toEnv (by omega)).mono fun _ _=>Vec.jaC.spelt);have H4:=lH (fun W (k:Kept w W)=>(X6 e W (hE.kept k).toEnvT.toEnv.base (by omega)).mono fun _ _=>Xf);have H5:=lH (fun W (k:Kept w W)=>(jbq f W (hE.kept k).toEnvT.toEnv.base (by omega)).mono fun _ _=>Xf);have H6:=lH (fun W (k:Kept w W)=>(ji5 g0 W (hE.kept k).toEnvT.toEnv.base (by omega)).mono fun _ _=>Xf);rw[hd] at H3;rw[he] at H4;rw[hf] at H5;rw[hg] at H6;dsimp only at H3 H4 H5 H6;have S0:=lH (show (bytes a).size≤maxLen by rw[ji];unfold maxLen;omega);have S1:=lH (jgh hb (by omega));have S5:=lH (jgh hi (by omega));have S3:=lH (jhC hh (by omega));have S2:=lH (jkM hcc);have HCH:=lH hc;have HP:=lH hp;have HKZ:=lH hkz;have HZS:=lH hzs;clear hE hs hc hp hb hcc hd he hf hg hh hi hj hlen la lb lc ld le lf lg lh li hkz hzs;go_enter Tryz.func131,Tryz.ntmps131;go_wp2_with fail
 try rw[hZ]
 clear hZ;refine HWD.out.mono ?_;rintro ee w1 ⟨hw,-,k⟩;obtain⟨g,cap,rfl,-,hcells⟩:=hw (by rw[HP.out];rfl);have K:=lH (HKZ.out.trans k);have HR1:=lH (HR0.out.kept k);have HRS:=lH (show w.heap.size+1≤w1.heap.size by have:=k.size;rw[HZS.out] at this;exact this);rw[HP.out] at hcells;have HC:=lH (show ∀W,Kept w1 W→W.cell? ⟨g,0,none⟩=some (.string (bytes a))∧W.cell? ⟨g,1,none⟩=some (.string (bytes b))∧W.cell? ⟨g,2,none⟩=some (.string (bytes c0))∧W.cell? ⟨g,3,none⟩=some (.string (bytes d))∧W.cell? ⟨g,4,none⟩=some (.string (bytes e))∧W.cell? ⟨g,5,none⟩=some (.string (bytes f))∧W.cell? ⟨g,6,none⟩=some (.string (bytes g0))∧W.cell? ⟨g,7,none⟩=some (.string (bytes h0))∧W.cell? ⟨g,8,none⟩=some (.string (bytes i))∧W.cell? ⟨g,9,none⟩=some (.string (bytes j)) from fun W k =>
  ⟨cell_later k (hcells 0 a rfl),cell_later k (hcells 1 b rfl),cell_later k (hcells 2 c0 rfl),cell_later k (hcells 3 d rfl),cell_later k (hcells 4 e rfl),cell_later k (hcells 5 f rfl),cell_later k (hcells 6 g0 rfl),cell_later k (hcells 7 h0 rfl),cell_later k (hcells 8 i rfl),cell_later k (hcells 9 j rfl)⟩)
 clear hw k hcells HWD;go_wp2;go_cut [4] from 7 to 16 (fun s4 wx=>∃q,s4=.pointer (some ⟨q,0,none⟩)∧jf q [.string ⟨#[]⟩,.string ⟨#[]⟩,.int .i64 x2,.slice none 0 0,.slice none 0 0,.slice none 0 0,.slice none 0 0,.string ⟨#[]⟩,.int .i64 0,.string ⟨#[]⟩,.bool x6] wx∧Kept w1 wx∧w1.heap.size≤q)
 case first =>
  refine wp_region_held_drew (S:=fun W=>Kept w1 W) (by kernel_rfl) (Kept.drew _) (fun hHeld=>?_);have KK:=lH hHeld;obtain⟨wd,hwd⟩:∃W,w1.drew=W:=⟨_,rfl⟩
  rw[hwd] at KK hHeld ⊢;clear hwd;refine tkH 0 (v:=?_) (y:=Or.inl ⟨by rfl,(by intro W hSw;obtain⟨g0,g1,g2,g3,g4,g5,g6,g7,g8,g9⟩:=HC.out _ hSw;go_simp<;>with_reducible rfl)⟩) (h:=?_);try simp only[nP]
  refine tkH 1 (v:=?_) (y:=Or.inl ⟨by rfl,(by intro W hSw;obtain⟨g0,g1,g2,g3,g4,g5,g6,g7,g8,g9⟩:=HC.out _ hSw;go_simp<;>with_reducible rfl)⟩) (h:=?_);try simp only[nP]
  refine tkH 2 (v:=?_) (y:=Or.inl ⟨by rfl,(by intro W hSw;obtain⟨g0,g1,g2,g3,g4,g5,g6,g7,g8,g9⟩:=HC.out _ hSw;go_simp<;>with_reducible rfl)⟩) (h:=?_);try simp only[nP]
  refine tkH 4 (v:=?_) (y:=Or.inl ⟨by rfl,(by intro W hSw;obtain⟨g0,g1,g2,g3,g4,g5,g6,g7,g8,g9⟩:=HC.out _ hSw;go_simp<;>with_reducible rfl)⟩) (h:=?_);try simp only[nP]
  refine tkH 5 (v:=?_) (y:=Or.inl ⟨by rfl,(by intro W hSw;obtain⟨g0,g1,g2,g3,g4,g5,g6,g7,g8,g9⟩:=HC.out _ hSw;go_simp<;>with_reducible rfl)⟩) (h:=?_);try simp only[nP]
  refine tkH 6 (v:=?_) (y:=Or.inl ⟨by rfl,(by intro W hSw;obtain⟨g0,g1,g2,g3,g4,g5,g6,g7,g8,g9⟩:=HC.out _ hSw;go_simp<;>with_reducible rfl)⟩) (h:=?_);try simp only[nP]
  refine rdH (rs:=[3,9]) (h:=coH (fun K9 hK9=>?_) (coH (fun K9 hK9=>?_) AllReadyH.nil))
  · skip;go_simp;refine(H2.out _ (K.out.trans KK.out)).mono ?_;rintro e9 ww1 ⟨rfl,k⟩;have KK:=lH (KK.out.trans k);clear k;refine hK9.out _ _ KK.out (fun hHeld2=>?_);clear hK9 K9;try simp only[nP]
    refine rdH (rs:=[7,9]) (h:=coH (fun K9 hK9=>?_) (coH (fun K9 hK9=>?_) AllReadyH.nil))
    · skip;go_simp;refine(H9.out _).mono ?_;rintro e9 ww3 ⟨rfl,rfl⟩;refine hK9.out _ _ KK.out (fun hHeld4=>?_);clear hK9 K9;try simp only[nP]
      refine tkH 8 (v:=?_) (y:=Or.inl ⟨by rfl,(by intro W hSw;obtain⟨g0,g1,g2,g3,g4,g5,g6,g7,g8,g9⟩:=HC.out _ hSw;go_simp<;>with_reducible rfl)⟩) (h:=?_);try simp only[nP]
      refine rd1 9 fun K9 hK9=>?_;go_simp;have k:=ja ww1 (.cells #[.string ⟨#[]⟩,.string ⟨#[]⟩,.int .i64 0,.slice none 0 0,.slice none 0 0,.slice none 0 0,.slice none 0 0,.string ⟨#[]⟩,.int .i64 0,.string ⟨#[]⟩,.bool false] 62);have hn:=jg ww1 (.string ⟨#[]⟩) [.string ⟨#[]⟩,.int .i64 0,.slice none 0 0,.slice none 0 0,.slice none 0 0,.slice none 0 0,.string ⟨#[]⟩,.int .i64 0,.string ⟨#[]⟩,.bool false] 62 _ (Kept.refl _);have hp9:w1.heap.size≤ww1.heap.size:=KK.out.size;obtain⟨q,hqe⟩:∃z,ww1.heap.size=z:=⟨_,rfl⟩
      rw[hqe] at hn hp9 ⊢;obtain⟨ww5,hnw⟩:∃W,ww1.alloc (.cells #[.string ⟨#[]⟩,.string ⟨#[]⟩,.int .i64 0,.slice none 0 0,.slice none 0 0,.slice none 0 0,.slice none 0 0,.string ⟨#[]⟩,.int .i64 0,.string ⟨#[]⟩,.bool false] 62)=W:=⟨_,rfl⟩
      rw[hnw] at hn k ⊢;clear hnw hqe;have KK:=lH (KK.out.trans k);have QA:=lH hn;have HQP:=lH hp9;clear hn k hp9;refine hK9.out _ _ KK.out (fun hHeld6=>?_);clear hK9 K9;try simp only[nP]
      refine rd1 10 fun K9 hK9=>?_;have z0:=QA.out.at_ 0 _ rfl;have z1:=QA.out.at_ 1 _ rfl;have z2:=QA.out.at_ 2 _ rfl;have z3:=QA.out.at_ 3 _ rfl;have z4:=QA.out.at_ 4 _ rfl;have z5:=QA.out.at_ 5 _ rfl;have z6:=QA.out.at_ 6 _ rfl;have z7:=QA.out.at_ 7 _ rfl;have z8:=QA.out.at_ 8 _ rfl;have z9:=QA.out.at_ 9 _ rfl;have z10:=QA.out.at_ 10 _ rfl;have y0:=QA.out.free 0;have y1:=QA.out.free 1;have y2:=QA.out.free 2;have y3:=QA.out.free 3;have y4:=QA.out.free 4;have y5:=QA.out.free 5;have y6:=QA.out.free 6;have y7:=QA.out.free 7;have y8:=QA.out.free 8;have y9:=QA.out.free 9;have y10:=QA.out.free 10;go_simp;have PP:=lH (J7 (vs:=[.string ⟨#[]⟩,.string ⟨#[]⟩,.int .i64 x2,.slice none 0 0,.slice none 0 0,.slice none 0 0,.slice none 0 0,.string ⟨#[]⟩,.int .i64 0,.string ⟨#[]⟩,.bool x6]) QA.out rfl);obtain⟨ww7,hnw⟩:∃W,ww5.setCells q 0 [.string ⟨#[]⟩,.string ⟨#[]⟩,.int .i64 x2,.slice none 0 0,.slice none 0 0,.slice none 0 0,.slice none 0 0,.string ⟨#[]⟩,.int .i64 0,.string ⟨#[]⟩,.bool x6]=W:=⟨_,rfl⟩
      have hnw2:(((((((((((ww5.setCell ⟨q,0,none⟩ (.string ⟨#[]⟩)).setCell ⟨q,1,none⟩ (.string ⟨#[]⟩)).setCell ⟨q,2,none⟩ (.int .i64 x2)).setCell ⟨q,3,none⟩ (.slice none 0 0)).setCell ⟨q,4,none⟩ (.slice none 0 0)).setCell ⟨q,5,none⟩ (.slice none 0 0)).setCell ⟨q,6,none⟩ (.slice none 0 0)).setCell ⟨q,7,none⟩ (.string ⟨#[]⟩)).setCell ⟨q,8,none⟩ (.int .i64 0)).setCell ⟨q,9,none⟩ (.string ⟨#[]⟩)).setCell ⟨q,10,none⟩ (.bool x6))=ww7:=hnw;rw[hnw] at PP;rw[hnw2];clear hnw hnw2 z0 y0 z1 y1 z2 y2 z3 y3 z4 y4 z5 y5 z6 y6 z7 y7 z8 y8 z9 y9 z10 y10;have KK:=lH (show Kept w1 ww7 from PP.out.below _ _ HQP.out KK.out);have QA:=lH PP.out.cells;clear PP;refine hK9.out _ _ KK.out (fun hHeld8=>?_);clear hK9 K9;try simp only[nP]
      refine wpAnyH_done (by kernel_rfl) ?_ _;go_wp2;go_meet
      case rel=>exact⟨q,rfl,QA.out,KK.out,HQP.out⟩
    · skip;go_simp;have k:=ja ww1 (.cells #[.string ⟨#[]⟩,.string ⟨#[]⟩,.int .i64 0,.slice none 0 0,.slice none 0 0,.slice none 0 0,.slice none 0 0,.string ⟨#[]⟩,.int .i64 0,.string ⟨#[]⟩,.bool false] 62);have hn:=jg ww1 (.string ⟨#[]⟩) [.string ⟨#[]⟩,.int .i64 0,.slice none 0 0,.slice none 0 0,.slice none 0 0,.slice none 0 0,.string ⟨#[]⟩,.int .i64 0,.string ⟨#[]⟩,.bool false] 62 _ (Kept.refl _);have hp9:w1.heap.size≤ww1.heap.size:=KK.out.size;obtain⟨q,hqe⟩:∃z,ww1.heap.size=z:=⟨_,rfl⟩
      rw[hqe] at hn hp9 ⊢;obtain⟨ww9,hnw⟩:∃W,ww1.alloc (.cells #[.string ⟨#[]⟩,.string ⟨#[]⟩,.int .i64 0,.slice none 0 0,.slice none 0 0,.slice none 0 0,.slice none 0 0,.string ⟨#[]⟩,.int .i64 0,.string ⟨#[]⟩,.bool false] 62)=W:=⟨_,rfl⟩
      rw[hnw] at hn k ⊢;clear hnw hqe;have KK:=lH (KK.out.trans k);have QA:=lH hn;have HQP:=lH hp9;clear hn k hp9;refine hK9.out _ _ KK.out (fun hHeld10=>?_);clear hK9 K9;try simp only[nP]
      refine rd1 7 fun K9 hK9=>?_;go_simp;refine(H9.out _).mono ?_;rintro e9 ww11 ⟨rfl,rfl⟩;refine hK9.out _ _ KK.out (fun hHeld12=>?_);clear hK9 K9;try simp only[nP]
      refine tkH 8 (v:=?_) (y:=Or.inl ⟨by rfl,(by intro W hSw;obtain⟨g0,g1,g2,g3,g4,g5,g6,g7,g8,g9⟩:=HC.out _ hSw;go_simp<;>with_reducible rfl)⟩) (h:=?_);try simp only[nP]
      refine rd1 10 fun K9 hK9=>?_;have z0:=QA.out.at_ 0 _ rfl;have z1:=QA.out.at_ 1 _ rfl;have z2:=QA.out.at_ 2 _ rfl;have z3:=QA.out.at_ 3 _ rfl;have z4:=QA.out.at_ 4 _ rfl;have z5:=QA.out.at_ 5 _ rfl;have z6:=QA.out.at_ 6 _ rfl;have z7:=QA.out.at_ 7 _ rfl;have z8:=QA.out.at_ 8 _ rfl;have z9:=QA.out.at_ 9 _ rfl;have z10:=QA.out.at_ 10 _ rfl;have y0:=QA.out.free 0;have y1:=QA.out.free 1;have y2:=QA.out.free 2;have y3:=QA.out.free 3;have y4:=QA.out.free 4;have y5:=QA.out.free 5;have y6:=QA.out.free 6;have y7:=QA.out.free 7;have y8:=QA.out.free 8;have y9:=QA.out.free 9;have y10:=QA.out.free 10;go_simp;have PP:=lH (J7 (vs:=[.string ⟨#[]⟩,.string ⟨#[]⟩,.int .i64 x2,.slice none 0 0,.slice none 0 0,.slice none 0 0,.slice none 0 0,.string ⟨#[]⟩,.int .i64 0,.string ⟨#[]⟩,.bool x6]) QA.out rfl);obtain⟨ww13,hnw⟩:∃W,ww9.setCells q 0 [.string ⟨#[]⟩,.string ⟨#[]⟩,.int .i64 x2,.slice none 0 0,.slice none 0 0,.slice none 0 0,.slice none 0 0,.string ⟨#[]⟩,.int .i64 0,.string ⟨#[]⟩,.bool x6]=W:=⟨_,rfl⟩
      have hnw2:(((((((((((ww9.setCell ⟨q,0,none⟩ (.string ⟨#[]⟩)).setCell ⟨q,1,none⟩ (.string ⟨#[]⟩)).setCell ⟨q,2,none⟩ (.int .i64 x2)).setCell ⟨q,3,none⟩ (.slice none 0 0)).setCell ⟨q,4,none⟩ (.slice none 0 0)).setCell ⟨q,5,none⟩ (.slice none 0 0)).setCell ⟨q,6,none⟩ (.slice none 0 0)).setCell ⟨q,7,none⟩ (.string ⟨#[]⟩)).setCell ⟨q,8,none⟩ (.int .i64 0)).setCell ⟨q,9,none⟩ (.string ⟨#[]⟩)).setCell ⟨q,10,none⟩ (.bool x6))=ww13:=hnw;rw[hnw] at PP;rw[hnw2];clear hnw hnw2 z0 y0 z1 y1 z2 y2 z3 y3 z4 y4 z5 y5 z6 y6 z7 y7 z8 y8 z9 y9 z10 y10;have KK:=lH (show Kept w1 ww13 from PP.out.below _ _ HQP.out KK.out);have QA:=lH PP.out.cells;clear PP;refine hK9.out _ _ KK.out (fun hHeld14=>?_);clear hK9 K9;try simp only[nP]
      refine wpAnyH_done (by kernel_rfl) ?_ _;go_wp2;go_meet
      case rel=>exact⟨q,rfl,QA.out,KK.out,HQP.out⟩
  · skip;go_simp;have k:=ja wd (.cells #[.string ⟨#[]⟩,.string ⟨#[]⟩,.int .i64 0,.slice none 0 0,.slice none 0 0,.slice none 0 0,.slice none 0 0,.string ⟨#[]⟩,.int .i64 0,.string ⟨#[]⟩,.bool false] 62);have hn:=jg wd (.string ⟨#[]⟩) [.string ⟨#[]⟩,.int .i64 0,.slice none 0 0,.slice none 0 0,.slice none 0 0,.slice none 0 0,.string ⟨#[]⟩,.int .i64 0,.string ⟨#[]⟩,.bool false] 62 _ (Kept.refl _);have hp9:w1.heap.size≤wd.heap.size:=KK.out.size;obtain⟨q,hqe⟩:∃z,wd.heap.size=z:=⟨_,rfl⟩
    rw[hqe] at hn hp9 ⊢;obtain⟨ww15,hnw⟩:∃W,wd.alloc (.cells #[.string ⟨#[]⟩,.string ⟨#[]⟩,.int .i64 0,.slice none 0 0,.slice none 0 0,.slice none 0 0,.slice none 0 0,.string ⟨#[]⟩,.int .i64 0,.string ⟨#[]⟩,.bool false] 62)=W:=⟨_,rfl⟩
    rw[hnw] at hn k ⊢;clear hnw hqe;have KK:=lH (KK.out.trans k);have QA:=lH hn;have HQP:=lH hp9;clear hn k hp9;refine hK9.out _ _ KK.out (fun hHeld16=>?_);clear hK9 K9;try simp only[nP]
    refine rd1 3 fun K9 hK9=>?_;go_simp;refine(H2.out _ (K.out.trans KK.out)).mono ?_;rintro e9 ww17 ⟨rfl,k⟩;have KK:=lH (KK.out.trans k);have QA:=lH (QA.out.kept k);clear k;refine hK9.out _ _ KK.out (fun hHeld18=>?_);clear hK9 K9;try simp only[nP]
    refine rd1 7 fun K9 hK9=>?_;go_simp;refine(H9.out _).mono ?_;rintro e9 ww19 ⟨rfl,rfl⟩;refine hK9.out _ _ KK.out (fun hHeld20=>?_);clear hK9 K9;try simp only[nP]
    refine tkH 8 (v:=?_) (y:=Or.inl ⟨by rfl,(by intro W hSw;obtain⟨g0,g1,g2,g3,g4,g5,g6,g7,g8,g9⟩:=HC.out _ hSw;go_simp<;>with_reducible rfl)⟩) (h:=?_);try simp only[nP]
    refine rd1 10 fun K9 hK9=>?_;have z0:=QA.out.at_ 0 _ rfl;have z1:=QA.out.at_ 1 _ rfl;have z2:=QA.out.at_ 2 _ rfl;have z3:=QA.out.at_ 3 _ rfl;have z4:=QA.out.at_ 4 _ rfl;have z5:=QA.out.at_ 5 _ rfl;have z6:=QA.out.at_ 6 _ rfl;have z7:=QA.out.at_ 7 _ rfl;have z8:=QA.out.at_ 8 _ rfl;have z9:=QA.out.at_ 9 _ rfl;have z10:=QA.out.at_ 10 _ rfl;have y0:=QA.out.free 0;have y1:=QA.out.free 1;have y2:=QA.out.free 2;have y3:=QA.out.free 3;have y4:=QA.out.free 4;have y5:=QA.out.free 5;have y6:=QA.out.free 6;have y7:=QA.out.free 7;have y8:=QA.out.free 8;have y9:=QA.out.free 9;have y10:=QA.out.free 10;go_simp;have PP:=lH (J7 (vs:=[.string ⟨#[]⟩,.string ⟨#[]⟩,.int .i64 x2,.slice none 0 0,.slice none 0 0,.slice none 0 0,.slice none 0 0,.string ⟨#[]⟩,.int .i64 0,.string ⟨#[]⟩,.bool x6]) QA.out rfl);obtain⟨ww21,hnw⟩:∃W,ww17.setCells q 0 [.string ⟨#[]⟩,.string ⟨#[]⟩,.int .i64 x2,.slice none 0 0,.slice none 0 0,.slice none 0 0,.slice none 0 0,.string ⟨#[]⟩,.int .i64 0,.string ⟨#[]⟩,.bool x6]=W:=⟨_,rfl⟩
    have hnw2:(((((((((((ww17.setCell ⟨q,0,none⟩ (.string ⟨#[]⟩)).setCell ⟨q,1,none⟩ (.string ⟨#[]⟩)).setCell ⟨q,2,none⟩ (.int .i64 x2)).setCell ⟨q,3,none⟩ (.slice none 0 0)).setCell ⟨q,4,none⟩ (.slice none 0 0)).setCell ⟨q,5,none⟩ (.slice none 0 0)).setCell ⟨q,6,none⟩ (.slice none 0 0)).setCell ⟨q,7,none⟩ (.string ⟨#[]⟩)).setCell ⟨q,8,none⟩ (.int .i64 0)).setCell ⟨q,9,none⟩ (.string ⟨#[]⟩)).setCell ⟨q,10,none⟩ (.bool x6))=ww21:=hnw;rw[hnw] at PP;rw[hnw2];clear hnw hnw2 z0 y0 z1 y1 z2 y2 z3 y3 z4 y4 z5 y5 z6 y6 z7 y7 z8 y8 z9 y9 z10 y10;have KK:=lH (show Kept w1 ww21 from PP.out.below _ _ HQP.out KK.out);have QA:=lH PP.out.cells;clear PP;refine hK9.out _ _ KK.out (fun hHeld22=>?_);clear hK9 K9;try simp only[nP]
    refine wpAnyH_done (by kernel_rfl) ?_ _;go_wp2;go_meet
    case rel=>exact⟨q,rfl,QA.out,KK.out,HQP.out⟩
 case rest =>
  obtain⟨q,rfl,hq,kk,hq1⟩:=hcut;have HQ1:=lH hq1;have KK:=lH kk;have Q:=lH hq;obtain⟨g0,g1,g2,g3,g4,g5,g6,g7,g8,g9⟩:=HC.out _ kk;clear hq kk;go_wp2_with fail
  clear g0 g1 g2 g3 g4 g5 g6 g7 g8 g9;refine(H7.out _ (K.out.trans KK.out)).mono ?_;rintro e9 v0 ⟨rfl,k⟩;have KK:=lH (KK.out.trans k);have Q:=lH (Q.out.kept k);clear k;have y:=Q.out.at_ 7 _ rfl;have x:=Q.out.free 7;have y2:=Q.out.at_ 8 _ rfl;have x2_:=Q.out.free 8;have Q:=lH (show jf q [.string ⟨#[]⟩,.string ⟨#[]⟩,.int .i64 x2,.slice none 0 0,.slice none 0 0,.slice none 0 0,.slice none 0 0,.string x3,.int .i64 0,.string ⟨#[]⟩,.bool x6] (v0.setCell ⟨q,7,none⟩ (.string x3)) from Q.out.set (j:=7) (by simp));have KK:=lH (show Kept w1 (v0.setCell ⟨q,7,none⟩ (.string x3)) from KK.out.setCell (p:=⟨q,7,none⟩) HQ1.out _);have Q:=lH (show jf q [.string ⟨#[]⟩,.string ⟨#[]⟩,.int .i64 x2,.slice none 0 0,.slice none 0 0,.slice none 0 0,.slice none 0 0,.string x3,.int .i64 x4,.string ⟨#[]⟩,.bool x6] ((v0.setCell ⟨q,7,none⟩ (.string x3)).setCell ⟨q,8,none⟩ (.int .i64 x4)) from Q.out.set (j:=8) (by simp));have KK:=lH (show Kept w1 ((v0.setCell ⟨q,7,none⟩ (.string x3)).setCell ⟨q,8,none⟩ (.int .i64 x4)) from KK.out.setCell (p:=⟨q,8,none⟩) HQ1.out _);obtain⟨g0,g1,g2,g3,g4,g5,g6,g7,g8,g9⟩:=HC.out _ KK.out;go_wp2_with fail
  clear g0 g1 g2 g3 g4 g5 g6 g7 g8 g9 y x y2 x2_;obtain⟨W0,hW⟩:∃W,((v0.setCell ⟨q,7,none⟩ (.string x3)).setCell ⟨q,8,none⟩ (.int .i64 x4))=W:=⟨_,rfl⟩
  rw[hW] at Q KK  ⊢;clear hW;refine(H0.out _ (K.out.trans KK.out)).mono ?_;rintro e9 v1 ⟨rfl,k⟩;have KK:=lH (KK.out.trans k);have Q:=lH (Q.out.kept k);clear k;have y:=Q.out.at_ 0 _ rfl;have x:=Q.out.free 0;have Q:=lH (show jf q [.string (bytes a),.string ⟨#[]⟩,.int .i64 x2,.slice none 0 0,.slice none 0 0,.slice none 0 0,.slice none 0 0,.string x3,.int .i64 x4,.string ⟨#[]⟩,.bool x6] (v1.setCell ⟨q,0,none⟩ (.string (bytes a))) from Q.out.set (j:=0) (by simp));have KK:=lH (show Kept w1 (v1.setCell ⟨q,0,none⟩ (.string (bytes a))) from KK.out.setCell (p:=⟨q,0,none⟩) HQ1.out _);obtain⟨g0,g1,g2,g3,g4,g5,g6,g7,g8,g9⟩:=HC.out _ KK.out;go_wp2_with fail
  clear g0 g1 g2 g3 g4 g5 g6 g7 g8 g9 y x;obtain⟨W1,hW⟩:∃W,(v1.setCell ⟨q,0,none⟩ (.string (bytes a)))=W:=⟨_,rfl⟩
  rw[hW] at Q KK  ⊢;clear hW;refine(H1.out _ (K.out.trans KK.out)).mono ?_;rintro e9 v2 ⟨rfl,k⟩;have KK:=lH (KK.out.trans k);have Q:=lH (Q.out.kept k);clear k;have y:=Q.out.at_ 1 _ rfl;have x:=Q.out.free 1;have Q:=lH (show jf q [.string (bytes a),.string x1,.int .i64 x2,.slice none 0 0,.slice none 0 0,.slice none 0 0,.slice none 0 0,.string x3,.int .i64 x4,.string ⟨#[]⟩,.bool x6] (v2.setCell ⟨q,1,none⟩ (.string x1)) from Q.out.set (j:=1) (by simp));have KK:=lH (show Kept w1 (v2.setCell ⟨q,1,none⟩ (.string x1)) from KK.out.setCell (p:=⟨q,1,none⟩) HQ1.out _);obtain⟨g0,g1,g2,g3,g4,g5,g6,g7,g8,g9⟩:=HC.out _ KK.out;go_wp2_with fail
  clear g0 g1 g2 g3 g4 g5 g6 g7 g8 g9 y x;obtain⟨W2,hW⟩:∃W,(v2.setCell ⟨q,1,none⟩ (.string x1))=W:=⟨_,rfl⟩
  rw[hW] at Q KK  ⊢;clear hW;refine(H3.out _ (K.out.trans KK.out)).mono ?_;rintro e9 v3 ⟨b1,n1,d1,rfl,rr,gg,k⟩;have G1:=lH (show j2 (q+1) b1 from fun b o s e=>Nat.le_trans Q.out.lt (gg b o s e).1);have R1:=lH rr;have KK:=lH (KK.out.trans k);have Q:=lH (Q.out.kept k);clear k;clear rr gg;go_wp2_with fail
  refine(YF _ _).mono ?_;rintro e9 w9 ⟨rfl,rfl⟩;have y:=Q.out.at_ 3 _ rfl;have x:=Q.out.free 3;have Q:=lH (show jf q [.string (bytes a),.string x1,.int .i64 x2,.slice b1 n1 d1,.slice none 0 0,.slice none 0 0,.slice none 0 0,.string x3,.int .i64 x4,.string ⟨#[]⟩,.bool x6] (v3.setCell ⟨q,3,none⟩ (.slice b1 n1 d1)) from Q.out.set (j:=3) (by simp));have KK:=lH (show Kept w1 (v3.setCell ⟨q,3,none⟩ (.slice b1 n1 d1)) from KK.out.setCell (p:=⟨q,3,none⟩) HQ1.out _);have R1:=lH (Yz (p:=q) (j:=3) (u:=.slice b1 n1 d1) R1.out G1.out (Nat.lt_succ_self q));obtain⟨g0,g1,g2,g3,g4,g5,g6,g7,g8,g9⟩:=HC.out _ KK.out;go_wp2_with fail
  clear g0 g1 g2 g3 g4 g5 g6 g7 g8 g9 y x;obtain⟨W3,hW⟩:∃W,(v3.setCell ⟨q,3,none⟩ (.slice b1 n1 d1))=W:=⟨_,rfl⟩
  rw[hW] at Q KK R1 ⊢;clear hW;refine(H4.out _ (K.out.trans KK.out)).mono ?_;rintro e9 v4 ⟨b2,n2,d2,rfl,rr,gg,k⟩;have G2:=lH (show j2 (q+1) b2 from fun b o s e=>Nat.le_trans Q.out.lt (gg b o s e).1);have R2:=lH rr;have KK:=lH (KK.out.trans k);have Q:=lH (Q.out.kept k);have R1:=lH (R1.out.kept k);clear k;clear rr gg;go_wp2_with fail
  refine(Z8 _ _).mono ?_;rintro e9 w9 ⟨rfl,rfl⟩;have y:=Q.out.at_ 4 _ rfl;have x:=Q.out.free 4;have Q:=lH (show jf q [.string (bytes a),.string x1,.int .i64 x2,.slice b1 n1 d1,.slice b2 n2 d2,.slice none 0 0,.slice none 0 0,.string x3,.int .i64 x4,.string ⟨#[]⟩,.bool x6] (v4.setCell ⟨q,4,none⟩ (.slice b2 n2 d2)) from Q.out.set (j:=4) (by simp));have KK:=lH (show Kept w1 (v4.setCell ⟨q,4,none⟩ (.slice b2 n2 d2)) from KK.out.setCell (p:=⟨q,4,none⟩) HQ1.out _);have R1:=lH (Yz (p:=q) (j:=4) (u:=.slice b2 n2 d2) R1.out G1.out (Nat.lt_succ_self q));have R2:=lH (Zr (p:=q) (j:=4) (u:=.slice b2 n2 d2) R2.out G2.out (Nat.lt_succ_self q));obtain⟨g0,g1,g2,g3,g4,g5,g6,g7,g8,g9⟩:=HC.out _ KK.out;go_wp2_with fail
  clear g0 g1 g2 g3 g4 g5 g6 g7 g8 g9 y x;obtain⟨W4,hW⟩:∃W,(v4.setCell ⟨q,4,none⟩ (.slice b2 n2 d2))=W:=⟨_,rfl⟩
  rw[hW] at Q KK R1 R2 ⊢;clear hW;refine(H5.out _ (K.out.trans KK.out)).mono ?_;rintro e9 v5 ⟨b3,n3,d3,rfl,rr,gg,k⟩;have G3:=lH (show j2 (q+1) b3 from fun b o s e=>Nat.le_trans Q.out.lt (gg b o s e).1);have R3:=lH rr;have KK:=lH (KK.out.trans k);have Q:=lH (Q.out.kept k);have R1:=lH (R1.out.kept k);have R2:=lH (R2.out.kept k);clear k;clear rr gg;go_wp2_with fail
  refine(jbC _ _).mono ?_;rintro e9 w9 ⟨rfl,rfl⟩;have y:=Q.out.at_ 5 _ rfl;have x:=Q.out.free 5;have Q:=lH (show jf q [.string (bytes a),.string x1,.int .i64 x2,.slice b1 n1 d1,.slice b2 n2 d2,.slice b3 n3 d3,.slice none 0 0,.string x3,.int .i64 x4,.string ⟨#[]⟩,.bool x6] (v5.setCell ⟨q,5,none⟩ (.slice b3 n3 d3)) from Q.out.set (j:=5) (by simp));have KK:=lH (show Kept w1 (v5.setCell ⟨q,5,none⟩ (.slice b3 n3 d3)) from KK.out.setCell (p:=⟨q,5,none⟩) HQ1.out _);have R1:=lH (Yz (p:=q) (j:=5) (u:=.slice b3 n3 d3) R1.out G1.out (Nat.lt_succ_self q));have R2:=lH (Zr (p:=q) (j:=5) (u:=.slice b3 n3 d3) R2.out G2.out (Nat.lt_succ_self q));have R3:=lH (Zr (p:=q) (j:=5) (u:=.slice b3 n3 d3) R3.out G3.out (Nat.lt_succ_self q));obtain⟨g0,g1,g2,g3,g4,g5,g6,g7,g8,g9⟩:=HC.out _ KK.out;go_wp2_with fail
  clear g0 g1 g2 g3 g4 g5 g6 g7 g8 g9 y x;obtain⟨W5,hW⟩:∃W,(v5.setCell ⟨q,5,none⟩ (.slice b3 n3 d3))=W:=⟨_,rfl⟩
  rw[hW] at Q KK R1 R2 R3 ⊢;clear hW;refine(H6.out _ (K.out.trans KK.out)).mono ?_;rintro e9 v6 ⟨b4,n4,d4,rfl,rr,gg,k⟩;have G4:=lH (show j2 (q+1) b4 from fun b o s e=>Nat.le_trans Q.out.lt (gg b o s e).1);have R4:=lH rr;have KK:=lH (KK.out.trans k);have Q:=lH (Q.out.kept k);have R1:=lH (R1.out.kept k);have R2:=lH (R2.out.kept k);have R3:=lH (R3.out.kept k);clear k;clear rr gg;go_wp2_with fail
  refine(jeL _ _).mono ?_;rintro e9 w9 ⟨rfl,rfl⟩;have y:=Q.out.at_ 6 _ rfl;have x:=Q.out.free 6;have Q:=lH (show jf q [.string (bytes a),.string x1,.int .i64 x2,.slice b1 n1 d1,.slice b2 n2 d2,.slice b3 n3 d3,.slice b4 n4 d4,.string x3,.int .i64 x4,.string ⟨#[]⟩,.bool x6] (v6.setCell ⟨q,6,none⟩ (.slice b4 n4 d4)) from Q.out.set (j:=6) (by simp));have KK:=lH (show Kept w1 (v6.setCell ⟨q,6,none⟩ (.slice b4 n4 d4)) from KK.out.setCell (p:=⟨q,6,none⟩) HQ1.out _);have R1:=lH (Yz (p:=q) (j:=6) (u:=.slice b4 n4 d4) R1.out G1.out (Nat.lt_succ_self q));have R2:=lH (Zr (p:=q) (j:=6) (u:=.slice b4 n4 d4) R2.out G2.out (Nat.lt_succ_self q));have R3:=lH (Zr (p:=q) (j:=6) (u:=.slice b4 n4 d4) R3.out G3.out (Nat.lt_succ_self q));have R4:=lH (Zr (p:=q) (j:=6) (u:=.slice b4 n4 d4) R4.out G4.out (Nat.lt_succ_self q));obtain⟨g0,g1,g2,g3,g4,g5,g6,g7,g8,g9⟩:=HC.out _ KK.out;go_wp2_with fail
  clear g0 g1 g2 g3 g4 g5 g6 g7 g8 g9 y x;obtain⟨W6,hW⟩:∃W,(v6.setCell ⟨q,6,none⟩ (.slice b4 n4 d4))=W:=⟨_,rfl⟩
  rw[hW] at Q KK R1 R2 R3 R4 ⊢;clear hW;refine(H8.out _ (K.out.trans KK.out)).mono ?_;rintro e9 v7 ⟨rfl,k⟩;have KK:=lH (KK.out.trans k);have Q:=lH (Q.out.kept k);have R1:=lH (R1.out.kept k);have R2:=lH (R2.out.kept k);have R3:=lH (R3.out.kept k);have R4:=lH (R4.out.kept k);clear k;have y:=Q.out.at_ 9 _ rfl;have x:=Q.out.free 9;have Q:=lH (show jf q [.string (bytes a),.string x1,.int .i64 x2,.slice b1 n1 d1,.slice b2 n2 d2,.slice b3 n3 d3,.slice b4 n4 d4,.string x3,.int .i64 x4,.string x5,.bool x6] (v7.setCell ⟨q,9,none⟩ (.string x5)) from Q.out.set (j:=9) (by simp));have KK:=lH (show Kept w1 (v7.setCell ⟨q,9,none⟩ (.string x5)) from KK.out.setCell (p:=⟨q,9,none⟩) HQ1.out _);have R1:=lH (Yz (p:=q) (j:=9) (u:=.string x5) R1.out G1.out (Nat.lt_succ_self q));have R2:=lH (Zr (p:=q) (j:=9) (u:=.string x5) R2.out G2.out (Nat.lt_succ_self q));have R3:=lH (Zr (p:=q) (j:=9) (u:=.string x5) R3.out G3.out (Nat.lt_succ_self q));have R4:=lH (Zr (p:=q) (j:=9) (u:=.string x5) R4.out G4.out (Nat.lt_succ_self q));have g0:=Q.out.at_ 0 _ rfl;have g1:=Q.out.at_ 1 _ rfl;have g2:=Q.out.at_ 2 _ rfl;have g3:=Q.out.at_ 3 _ rfl;have g4:=Q.out.at_ 4 _ rfl;have g5:=Q.out.at_ 5 _ rfl;have g6:=Q.out.at_ 6 _ rfl;have g7:=Q.out.at_ 7 _ rfl;have g8:=Q.out.at_ 8 _ rfl;have g9:=Q.out.at_ 9 _ rfl;have g10:=Q.out.at_ 10 _ rfl;go_wp2;clear g0 g1 g2 g3 g4 g5 g6 g7 g8 g9 g10 y x;obtain⟨W7,hW⟩:∃W,(v7.setCell ⟨q,9,none⟩ (.string x5))=W:=⟨_,rfl⟩
  rw[hW] at Q KK R1 R2 R3 R4 ⊢;clear hW;have HAT:=lH (show zl W7 (.slice b1 n1 d1) (.slice b2 n2 d2) (.slice b3 n3 d3) (.slice b4 n4 d4) ⟨bytes a,x1,x2,l1,l2,l3,l4,x3,x4,x5,x6⟩ from⟨S0.out,S1.out,S3.out.1,S5.out,S2.out,S3.out.2,R1.out,R2.out,R3.out,R4.out⟩);have HCK:=lH (fun W (k:Kept W7 W)=>jdh ⟨bytes a,x1,x2,l1,l2,l3,l4,x3,x4,x5,x6⟩ (.slice b1 n1 d1) (.slice b2 n2 d2) (.slice b3 n3 d3) (.slice b4 n4 d4) W (HAT.out.kept k));rw[HCH.out] at HCK;unfold JQ at HCK;dsimp only at HCK;have HS:=lH (show ∀W,Kept W7 W→W.cell? ⟨q,0,none⟩=some (.string (bytes a))∧W.cell? ⟨q,1,none⟩=some (.string x1)∧W.cell? ⟨q,2,none⟩=some (.int .i64 x2)∧W.cell? ⟨q,3,none⟩=some (.slice b1 n1 d1)∧W.cell? ⟨q,4,none⟩=some (.slice b2 n2 d2)∧W.cell? ⟨q,5,none⟩=some (.slice b3 n3 d3)∧W.cell? ⟨q,6,none⟩=some (.slice b4 n4 d4)∧W.cell? ⟨q,7,none⟩=some (.string x3)∧W.cell? ⟨q,8,none⟩=some (.int .i64 x4)∧W.cell? ⟨q,9,none⟩=some (.string x5)∧W.cell? ⟨q,10,none⟩=some (.bool x6) from fun W k=>by
   have h:=jf.kept Q.out k;exact⟨h.at_ 0 _ rfl,h.at_ 1 _ rfl,h.at_ 2 _ rfl,h.at_ 3 _ rfl,h.at_ 4 _ rfl,h.at_ 5 _ rfl,h.at_ 6 _ rfl,h.at_ 7 _ rfl,h.at_ 8 _ rfl,h.at_ 9 _ rfl,h.at_ 10 _ rfl⟩)
  have HR7:=lH (fun W (k:Kept W7 W)=>jf.kept HR1.out (KK.out.trans k));have HQR:=lH (show q≠w.heap.size by have:=HQ1.out;have:=HRS.out;omega);have HRT:=lH (show w.heap.size<W7.heap.size by have:=KK.out.size;have:=HRS.out;omega);refine wp_region_held_drew (S:=fun W=>W.cell? ⟨q,0,none⟩=some (.string (bytes a))∧W.cell? ⟨q,1,none⟩=some (.string x1)∧W.cell? ⟨q,2,none⟩=some (.int .i64 x2)∧W.cell? ⟨q,3,none⟩=some (.slice b1 n1 d1)∧W.cell? ⟨q,4,none⟩=some (.slice b2 n2 d2)∧W.cell? ⟨q,5,none⟩=some (.slice b3 n3 d3)∧W.cell? ⟨q,6,none⟩=some (.slice b4 n4 d4)∧W.cell? ⟨q,7,none⟩=some (.string x3)∧W.cell? ⟨q,8,none⟩=some (.int .i64 x4)∧W.cell? ⟨q,9,none⟩=some (.string x5)∧W.cell? ⟨q,10,none⟩=some (.bool x6)) (by kernel_rfl) (HS.out _ (Kept.drew _)) (fun hHeld=>?_);refine tkI 0 ?_;refine tkI 1 ?_;try simp only[nP]
  refine rd1 2 fun K9 hK9=>?_;go_simp;refine(HCK.out _ (Kept.drew _)).mono ?_;rintro e9 u1 ⟨rfl,k⟩;have J1:=lH ((Kept.drew _).trans k);clear k;refine hK9.out _ _ (HS.out _ J1.out) (fun hHeld23=>?_);clear hK9 K9;try simp only[nP]
  by_cases z:c=0
  · subst z;refine rd1 3 fun K9 hK9=>?_;go_simp;refine(qu _ _ _ _ _ _ _ _ _ _ _ _ _ _ _ _ _ _ _ _).mono ?_;rintro e8 u2 ⟨rfl,k⟩;have J2:=lH (J1.out.trans k);clear k;refine hK9.out _ _ (HS.out _ J2.out) (fun hHeld24=>?_);clear hK9 K9;try simp only[nP]
    have z0:=(HR7.out _ J2.out).at_ 0 _ rfl;have z1:=(HR7.out _ J2.out).at_ 1 _ rfl;have z2:=(HR7.out _ J2.out).at_ 2 _ rfl;have z3:=(HR7.out _ J2.out).at_ 3 _ rfl;have z4:=(HR7.out _ J2.out).at_ 4 _ rfl;have z5:=(HR7.out _ J2.out).at_ 5 _ rfl;have z6:=(HR7.out _ J2.out).at_ 6 _ rfl;have z7:=(HR7.out _ J2.out).at_ 7 _ rfl;have z8:=(HR7.out _ J2.out).at_ 8 _ rfl;have z9:=(HR7.out _ J2.out).at_ 9 _ rfl;have z10:=(HR7.out _ J2.out).at_ 10 _ rfl;have f0:=(HR7.out _ J2.out).free 0;have f1:=(HR7.out _ J2.out).free 1;have f2:=(HR7.out _ J2.out).free 2;have f3:=(HR7.out _ J2.out).free 3;have f4:=(HR7.out _ J2.out).free 4;have f5:=(HR7.out _ J2.out).free 5;have f6:=(HR7.out _ J2.out).free 6;have f7:=(HR7.out _ J2.out).free 7;have f8:=(HR7.out _ J2.out).free 8;have f9:=(HR7.out _ J2.out).free 9;have f10:=(HR7.out _ J2.out).free 10;refine rd1 4 fun K9 hK9=>?_;go_simp;refine hK9.out _ _ (jcl (HS.out _ J2.out) HQR.out) (fun hHeldS=>?_);clear hK9 K9 hHeldS;try simp only[nP]
    refine wpAnyH_done (by kernel_rfl) ?_ _;have P:=lH (J7 (vs:=[.string (bytes a),.string x1,.int .i64 x2,.slice b1 n1 d1,.slice b2 n2 d2,.slice b3 n3 d3,.slice b4 n4 d4,.string x3,.int .i64 x4,.string x5,.bool x6]) (HR7.out _ J2.out) rfl);clear z0 f0 z1 f1 z2 f2 z3 f3 z4 f4 z5 f5 z6 f6 z7 f7 z8 f8 z9 f9 z10 f10;go_wp2;(try simp only[Exit.inBlock,Exit.then])
    obtain⟨WE,hWE⟩:∃W,u2.setCells w.heap.size 0 [.string (bytes a),.string x1,.int .i64 x2,.slice b1 n1 d1,.slice b2 n2 d2,.slice b3 n3 d3,.slice b4 n4 d4,.string x3,.int .i64 x4,.string x5,.bool x6]=W:=⟨_,rfl⟩
    have hWE2:(((((((((((u2.setCell ⟨w.heap.size,0,none⟩ (.string (bytes a))).setCell ⟨w.heap.size,1,none⟩ (.string x1)).setCell ⟨w.heap.size,2,none⟩ (.int .i64 x2)).setCell ⟨w.heap.size,3,none⟩ (.slice b1 n1 d1)).setCell ⟨w.heap.size,4,none⟩ (.slice b2 n2 d2)).setCell ⟨w.heap.size,5,none⟩ (.slice b3 n3 d3)).setCell ⟨w.heap.size,6,none⟩ (.slice b4 n4 d4)).setCell ⟨w.heap.size,7,none⟩ (.string x3)).setCell ⟨w.heap.size,8,none⟩ (.int .i64 x4)).setCell ⟨w.heap.size,9,none⟩ (.string x5)).setCell ⟨w.heap.size,10,none⟩ (.bool x6))=WE:=hWE;rw[hWE] at P;rw[hWE2];clear hWE hWE2;obtain⟨PC,hsz,hbl,hkp⟩:=P.out;refine bodyPost_ret (by simp[results,Tryz.results131,go_sem,PC.at_ 0 _ rfl,PC.at_ 1 _ rfl,PC.at_ 2 _ rfl,PC.at_ 3 _ rfl,PC.at_ 4 _ rfl,PC.at_ 5 _ rfl,PC.at_ 6 _ rfl,PC.at_ 7 _ rfl,PC.at_ 8 _ rfl,PC.at_ 9 _ rfl,PC.at_ 10 _ rfl];try rfl) rfl ?_;refine⟨fun _=>⟨_,rfl,⟨_,_,_,_,_,_,_,_,_,_,_,_,rfl,zl.far (B:=q+1) (HAT.out.kept J2.out) hsz (fun b hb=>hbl b (by have:=HQ1.out;have:=HRS.out;omega)) G1.out G2.out G3.out G4.out,G1.out.less (by have:=HQ1.out;have:=HRS.out;omega),G2.out.less (by have:=HQ1.out;have:=HRS.out;omega),G3.out.less (by have:=HQ1.out;have:=HRS.out;omega),G4.out.less (by have:=HQ1.out;have:=HRS.out;omega)⟩⟩,fun h=>absurd rfl h,hkp _ _ (Nat.le_refl _) (K.out.trans (KK.out.trans J2.out))⟩
  · skip;refine rd1 3 fun K9 hK9=>?_;go_simp;refine(jht _ _ _ _ _ _ _ _ _ _ _ _ _ _ _ _ _ _ _ _ _ z).mono ?_;rintro e8 u2 ⟨rfl,k⟩;exact⟨rfl,XB.bad z (K.out.trans (KK.out.trans (J1.out.trans k)))⟩
theorem jn7 {v:Value} {l:TL} {w:World} (h:Reads jL w v l) (hf:l.length≤1000000) :
 Calls Tryz.prog 111 #[v] w (fun e w'=>∃x,e=.returned x∧Own jL 225 w' w.heap.size x l∧Kept w w'):=by
 obtain⟨a,cap,rfl,h1,h2,h3⟩:=h;exact jlq a _ cap l w h3 hf
theorem jo2 {v:Value} {l:NL} {w:World} (h:Reads jq w v l) (hf:l.length≤1000000) :
 Calls Tryz.prog 112 #[v] w (fun e w'=>∃x,e=.returned x∧Own jq 226 w' w.heap.size x l∧Kept w w'):=by
 obtain⟨a,cap,rfl,h1,h2,h3⟩:=h;exact jnu a _ cap l w h3 hf
abbrev PX:=Pd×SX×SX×SX×SX
abbrev jpc (z:PX):Value:=JQ z.1 (slV z.2.1) (slV z.2.2.1) (slV z.2.2.2.1) (slV z.2.2.2.2)
def At4 (w:World) (z:PX):Prop:=zl w (slV z.2.1) (slV z.2.2.1) (slV z.2.2.2.1) (slV z.2.2.2.2) z.1
def Btw (lo hi:Nat) (a:Option Addr):Prop:=∀b off sp,a=some ⟨b,off,sp⟩→lo≤b∧b<hi
theorem Btw.up {lo hi lo' hi':Nat} {a:Option Addr} (h:Btw lo hi a) (h1:lo'≤lo) (h2:hi≤hi'):Btw lo' hi' a:=fun b o s e=>⟨Nat.le_trans h1 (h b o s e).1,Nat.lt_of_lt_of_le (h b o s e).2 h2⟩
theorem Btw.behind {lo hi:Nat} {a:Option Addr} (h:Btw lo hi a):j2 lo a:=fun b o s e=>(h b o s e).1
def Xg (lo hi:Nat) (z:PX):Prop:=Btw lo hi z.2.1.1∧Btw lo hi z.2.2.1.1∧Btw lo hi z.2.2.2.1.1∧Btw lo hi z.2.2.2.2.1
theorem Xg.up {lo hi lo' hi':Nat} {z:PX} (h:Xg lo hi z) (h1:lo'≤lo) (h2:hi≤hi'):Xg lo' hi' z:=⟨h.1.up h1 h2,h.2.1.up h1 h2,h.2.2.1.up h1 h2,h.2.2.2.up h1 h2⟩
theorem zl.at4 {w:World} {n:Pd} {x1 x2 x3 x4:SX} (h:zl w (slV x1) (slV x2) (slV x3) (slV x4) n):At4 w (n,x1,x2,x3,x4):=h
theorem jnc (n:Pd) (v1 v2 v3 v4:Value) (w:World) (h:zl w v1 v2 v3 v4 n) (hl:jdZ n) :
 Calls Tryz.prog 65 #[JQ n v1 v2 v3 v4] w fun e w'=>∃z:PX,e=.returned (jpc z)∧z.1=n∧At4 w' z∧Xg w.heap.size w'.heap.size z∧Kept w w':=by
 have HH:=lH h;have E1:=lH (fun W (k:Kept w W)=>(jot (h.need.kept k) hl.need).mono fun _ _=>jey);have E2:=lH (fun W (k:Kept w W)=>(jnS (h.labels.kept k) hl.labels).mono fun _ _=>Xe);have E3:=lH (fun W (k:Kept w W)=>(jn7 (h.sel.kept k) hl.sel).mono fun _ _=>Xe);have E4:=lH (fun W (k:Kept w W)=>(jo2 (h.tols.kept k) hl.tols).mono fun _ _=>Xe);obtain⟨⟨x0,x1,x2,l1,l2,l3,l4,x3,x4,x5,x6⟩,hnn⟩:∃m,m=n:=⟨n,rfl⟩
 subst hnn;dsimp only at E1 E2 E3 E4;obtain⟨Y,hY⟩:∃Y,w.alloc (.cells #[.string x0,.string x1,.int .i64 x2,v1,v2,v3,v4,.string x3,.int .i64 x4,.string x5,.bool x6] 62)=Y:=⟨_,rfl⟩
 obtain⟨W0,hW0⟩:∃Z,(w.alloc (.cells #[.string x0,.string x1,.int .i64 x2,v1,v2,v3,v4,.string x3,.int .i64 x4,.string x5,.bool x6] 62)).alloc (.cells #[.string ⟨#[]⟩,.string ⟨#[]⟩,.int .i64 0,.slice none 0 0,.slice none 0 0,.slice none 0 0,.slice none 0 0,.string ⟨#[]⟩,.int .i64 0,.string ⟨#[]⟩,.bool false] 86)=Z:=⟨_,rfl⟩
 have hk0:Kept w W0:=by rw[←hW0];exact jk _ _ _
 have hzs:W0.heap.size=w.heap.size+2:=by rw[←hW0];simp
 have HB:=lH (show ∀W,Kept W0 W→W.cell? ⟨w.heap.size,0,none⟩=some (.string x0)∧W.cell? ⟨w.heap.size,1,none⟩=some (.string x1)∧W.cell? ⟨w.heap.size,2,none⟩=some (.int .i64 x2)∧W.cell? ⟨w.heap.size,3,none⟩=some (v1)∧W.cell? ⟨w.heap.size,4,none⟩=some (v2)∧W.cell? ⟨w.heap.size,5,none⟩=some (v3)∧W.cell? ⟨w.heap.size,6,none⟩=some (v4)∧W.cell? ⟨w.heap.size,7,none⟩=some (.string x3)∧W.cell? ⟨w.heap.size,8,none⟩=some (.int .i64 x4)∧W.cell? ⟨w.heap.size,9,none⟩=some (.string x5)∧W.cell? ⟨w.heap.size,10,none⟩=some (.bool x6) from fun W k=>by
  have:=jg w (.string x0) [.string x1,.int .i64 x2,v1,v2,v3,v4,.string x3,.int .i64 x4,.string x5,.bool x6] 62 W ((by rw[←hW0];exact ja _ _:Kept (w.alloc (.cells #[.string x0,.string x1,.int .i64 x2,v1,v2,v3,v4,.string x3,.int .i64 x4,.string x5,.bool x6] 62)) W0).trans k);exact⟨this.at_ 0 _ rfl,this.at_ 1 _ rfl,this.at_ 2 _ rfl,this.at_ 3 _ rfl,this.at_ 4 _ rfl,this.at_ 5 _ rfl,this.at_ 6 _ rfl,this.at_ 7 _ rfl,this.at_ 8 _ rfl,this.at_ 9 _ rfl,this.at_ 10 _ rfl⟩)
 have HQ:=lH (show ∀W,Kept W0 W→jf (w.heap.size+1) [.string ⟨#[]⟩,.string ⟨#[]⟩,.int .i64 0,.slice none 0 0,.slice none 0 0,.slice none 0 0,.slice none 0 0,.string ⟨#[]⟩,.int .i64 0,.string ⟨#[]⟩,.bool false] W from fun W k=>by
  have:=jg (w.alloc (.cells #[.string x0,.string x1,.int .i64 x2,v1,v2,v3,v4,.string x3,.int .i64 x4,.string x5,.bool x6] 62)) (.string ⟨#[]⟩) [.string ⟨#[]⟩,.int .i64 0,.slice none 0 0,.slice none 0 0,.slice none 0 0,.slice none 0 0,.string ⟨#[]⟩,.int .i64 0,.string ⟨#[]⟩,.bool false] 86 W (by rw[hW0];exact k);rw[World.size_alloc] at this;exact this)
 have HZ:=lH hzs;have HK0:=lH hk0;obtain⟨b0,b1,b2,b3,b4,b5,b6,b7,b8,b9,b10⟩:=HB.out _ (Kept.refl _);clear h hl hk0 hzs hY Y;unfold JQ;dsimp only;go_enter Tryz.func65,Tryz.ntmps65;go_wp2;try rw[hW0]
 clear hW0;refine wp_region_held_drew (S:=fun W=>W.cell? ⟨w.heap.size,0,none⟩=some (.string x0)∧W.cell? ⟨w.heap.size,1,none⟩=some (.string x1)∧W.cell? ⟨w.heap.size,2,none⟩=some (.int .i64 x2)∧W.cell? ⟨w.heap.size,3,none⟩=some (v1)∧W.cell? ⟨w.heap.size,4,none⟩=some (v2)∧W.cell? ⟨w.heap.size,5,none⟩=some (v3)∧W.cell? ⟨w.heap.size,6,none⟩=some (v4)∧W.cell? ⟨w.heap.size,7,none⟩=some (.string x3)∧W.cell? ⟨w.heap.size,8,none⟩=some (.int .i64 x4)∧W.cell? ⟨w.heap.size,9,none⟩=some (.string x5)∧W.cell? ⟨w.heap.size,10,none⟩=some (.bool x6)) (by kernel_rfl) (HB.out _ (Kept.drew _)) (fun hHeld=>?_);refine tkI 0 ?_;refine tkI 1 ?_;refine tkI 2 ?_;refine tkI 3 ?_;refine tkI 4 ?_;refine tkI 5 ?_;refine tkI 6 ?_;refine tkI 7 ?_;refine tkI 9 ?_;refine tkI 10 ?_;refine tkI 12 ?_;refine tkI 13 ?_;refine tkI 15 ?_;refine tkI 16 ?_;refine tkI 18 ?_;refine tkI 19 ?_;refine tkI 20 ?_;refine tkI 21 ?_;refine tkI 22 ?_;refine tkI 23 ?_;refine tkI 24 ?_;refine tkI 25 ?_;try simp only[nP]
 refine rd1 8 fun K9 hK9=>?_;go_simp;refine(E1.out _ (HK0.out.trans (Kept.drew _))).mono ?_;rintro e1 w1 ⟨b1,n1,d1,rfl,r1,g1,k1⟩;have K1:=lH (Kept.trans (Kept.drew _) k1);have G1:=lH (show Btw (w.heap.size+2) w1.heap.size b1 from fun b o s e=>⟨Nat.le_trans (by rw[←HZ.out];exact Below.size (Kept.drew _)) (g1 b o s e).1,(g1 b o s e).2⟩);have R1:=lH r1;clear k1 r1 g1;refine hK9.out _ _ (HB.out _ K1.out) (fun hHeld1=>?_);clear hK9 K9;try simp only[nP]
 refine rd1 11 fun K9 hK9=>?_;go_simp;refine(E2.out _ (HK0.out.trans K1.out)).mono ?_;rintro e2 w2 ⟨b2,n2,d2,rfl,r2,g2,k2⟩;have K2:=lH (Kept.trans K1.out k2);have G2:=lH (show Btw (w.heap.size+2) w2.heap.size b2 from fun b o s e=>⟨Nat.le_trans (by rw[←HZ.out];exact Below.size K1.out) (g2 b o s e).1,(g2 b o s e).2⟩);have R2:=lH r2;have R1:=lH (R1.out.kept k2);have G1:=lH (G1.out.up (Nat.le_refl _) k2.size);clear k2 r2 g2;refine hK9.out _ _ (HB.out _ K2.out) (fun hHeld2=>?_);clear hK9 K9;try simp only[nP]
 refine rd1 14 fun K9 hK9=>?_;go_simp;refine(E3.out _ (HK0.out.trans K2.out)).mono ?_;rintro e3 w3 ⟨b3,n3,d3,rfl,r3,g3,k3⟩;have K3:=lH (Kept.trans K2.out k3);have G3:=lH (show Btw (w.heap.size+2) w3.heap.size b3 from fun b o s e=>⟨Nat.le_trans (by rw[←HZ.out];exact Below.size K2.out) (g3 b o s e).1,(g3 b o s e).2⟩);have R3:=lH r3;have R1:=lH (R1.out.kept k3);have G1:=lH (G1.out.up (Nat.le_refl _) k3.size);have R2:=lH (R2.out.kept k3);have G2:=lH (G2.out.up (Nat.le_refl _) k3.size);clear k3 r3 g3;refine hK9.out _ _ (HB.out _ K3.out) (fun hHeld3=>?_);clear hK9 K9;try simp only[nP]
 refine rd1 17 fun K9 hK9=>?_;go_simp;refine(E4.out _ (HK0.out.trans K3.out)).mono ?_;rintro e4 w4 ⟨b4,n4,d4,rfl,r4,g4,k4⟩;have K4:=lH (Kept.trans K3.out k4);have G4:=lH (show Btw (w.heap.size+2) w4.heap.size b4 from fun b o s e=>⟨Nat.le_trans (by rw[←HZ.out];exact Below.size K3.out) (g4 b o s e).1,(g4 b o s e).2⟩);have R4:=lH r4;have R1:=lH (R1.out.kept k4);have G1:=lH (G1.out.up (Nat.le_refl _) k4.size);have R2:=lH (R2.out.kept k4);have G2:=lH (G2.out.up (Nat.le_refl _) k4.size);have R3:=lH (R3.out.kept k4);have G3:=lH (G3.out.up (Nat.le_refl _) k4.size);clear k4 r4 g4;refine hK9.out _ _ (HB.out _ K4.out) (fun hHeld4=>?_);clear hK9 K9;try simp only[nP]
 refine tkI 26 ?_;try simp only[nP]
 have HQ4:=lH (HQ.out _ K4.out);have z0:=HQ4.out.at_ 0 _ rfl;have z1:=HQ4.out.at_ 1 _ rfl;have z2:=HQ4.out.at_ 2 _ rfl;have z3:=HQ4.out.at_ 3 _ rfl;have z4:=HQ4.out.at_ 4 _ rfl;have z5:=HQ4.out.at_ 5 _ rfl;have z6:=HQ4.out.at_ 6 _ rfl;have z7:=HQ4.out.at_ 7 _ rfl;have z8:=HQ4.out.at_ 8 _ rfl;have z9:=HQ4.out.at_ 9 _ rfl;have z10:=HQ4.out.at_ 10 _ rfl;have f0:=HQ4.out.free 0;have f1:=HQ4.out.free 1;have f2:=HQ4.out.free 2;have f3:=HQ4.out.free 3;have f4:=HQ4.out.free 4;have f5:=HQ4.out.free 5;have f6:=HQ4.out.free 6;have f7:=HQ4.out.free 7;have f8:=HQ4.out.free 8;have f9:=HQ4.out.free 9;have f10:=HQ4.out.free 10;refine rd1 27 fun K9 hK9=>?_;go_simp;refine hK9.out _ _ (jcl (HB.out _ K4.out) (by omega)) (fun hHeldS=>?_);clear hK9 K9 hHeldS;try simp only[nP]
 refine wpAnyH_done (by kernel_rfl) ?_ _;have P:=lH (J7 (vs:=[.string x0,.string x1,.int .i64 x2,.slice b1 n1 d1,.slice b2 n2 d2,.slice b3 n3 d3,.slice b4 n4 d4,.string x3,.int .i64 x4,.string x5,.bool x6]) HQ4.out rfl);clear z0 f0 z1 f1 z2 f2 z3 f3 z4 f4 z5 f5 z6 f6 z7 f7 z8 f8 z9 f9 z10 f10;go_wp2;(try simp only[Exit.inBlock,Exit.then])
 obtain⟨WE,hWE⟩:∃W,w4.setCells (w.heap.size+1) 0 [.string x0,.string x1,.int .i64 x2,.slice b1 n1 d1,.slice b2 n2 d2,.slice b3 n3 d3,.slice b4 n4 d4,.string x3,.int .i64 x4,.string x5,.bool x6]=W:=⟨_,rfl⟩
 have hWE2:(((((((((((w4.setCell ⟨w.heap.size+1,0,none⟩ (.string x0)).setCell ⟨w.heap.size+1,1,none⟩ (.string x1)).setCell ⟨w.heap.size+1,2,none⟩ (.int .i64 x2)).setCell ⟨w.heap.size+1,3,none⟩ (.slice b1 n1 d1)).setCell ⟨w.heap.size+1,4,none⟩ (.slice b2 n2 d2)).setCell ⟨w.heap.size+1,5,none⟩ (.slice b3 n3 d3)).setCell ⟨w.heap.size+1,6,none⟩ (.slice b4 n4 d4)).setCell ⟨w.heap.size+1,7,none⟩ (.string x3)).setCell ⟨w.heap.size+1,8,none⟩ (.int .i64 x4)).setCell ⟨w.heap.size+1,9,none⟩ (.string x5)).setCell ⟨w.heap.size+1,10,none⟩ (.bool x6))=WE:=hWE;rw[hWE] at P;rw[hWE2];clear hWE hWE2;obtain⟨PC,hsz,hbl,hkp⟩:=P.out;refine bodyPost_ret (by simp[results,Tryz.results65,go_sem,PC.at_ 0 _ rfl,PC.at_ 1 _ rfl,PC.at_ 2 _ rfl,PC.at_ 3 _ rfl,PC.at_ 4 _ rfl,PC.at_ 5 _ rfl,PC.at_ 6 _ rfl,PC.at_ 7 _ rfl,PC.at_ 8 _ rfl,PC.at_ 9 _ rfl,PC.at_ 10 _ rfl];try rfl) rfl ?_;refine⟨(⟨x0,x1,x2,l1,l2,l3,l4,x3,x4,x5,x6⟩,(b1,n1,d1),(b2,n2,d2),(b3,n3,d3),(b4,n4,d4)),rfl,rfl,zl.at4 (zl.far (B:=w.heap.size+2) (n:=⟨x0,x1,x2,l1,l2,l3,l4,x3,x4,x5,x6⟩) ⟨HH.out.name,HH.out.owner,HH.out.key,HH.out.node,HH.out.prio,HH.out.most,R1.out,R2.out,R3.out,R4.out⟩ hsz (fun b hb=>hbl b (by omega)) G1.out.behind G2.out.behind G3.out.behind G4.out.behind),?_,hkp _ _ (by omega) (HK0.out.trans K4.out)⟩;rw[hsz];exact⟨G1.out.up (by omega) (Nat.le_refl _),G2.out.up (by omega) (Nat.le_refl _),G3.out.up (by omega) (Nat.le_refl _),G4.out.up (by omega) (Nat.le_refl _)⟩
theorem Reads.grown {α:Type} {L:Lay α} {w w':World} {row:Option Nat} {a:Option Addr} {m c:Nat} {l:List α} (h:Reads L w (.slice a m c) l) (hg:w.grownBy w' row) (hb:∀b off sp,a=some ⟨b,off,sp⟩→some b≠row):Reads L w' (.slice a m c) l:=by
 obtain⟨a',cap',e,h1,h2,h3,h4,h5,h6⟩:=h
 cases e
 refine⟨a,c,rfl,h1,h2,h3,h4,h5,h6.imp id ?_⟩;rintro ⟨b,off,rfl,hlt,hc⟩;exact⟨b,off,rfl,Nat.lt_of_lt_of_le hlt hg.size,fun i x j u hi hj=>(World.cell?_of_block (a:=⟨b,off+i*L.m+j,none⟩) (hg.block b hlt (hb b off none rfl))).trans (hc i x j u hi hj)⟩
theorem Vec.Reads.grown {w w':World} {row:Option Nat} {a:Option Addr} {m c:Nat} {l:Vec.V} (h:Vec.Reads w (.slice a m c) l) (hg:w.grownBy w' row) (hb:∀b off sp,a=some ⟨b,off,sp⟩→some b≠row):Vec.Reads w' (.slice a m c) l:=by
 obtain⟨a',cap',e,h1,h2,h3,h4,h5,h6⟩:=h
 cases e
 refine⟨a,c,rfl,h1,h2,h3,h4,h5,h6.imp id ?_⟩;rintro ⟨b,off,rfl,hlt,hc⟩;exact⟨b,off,rfl,Nat.lt_of_lt_of_le hlt hg.size,fun i hi=>⟨(World.cell?_of_block (a:=⟨b,off+i*2,none⟩) (hg.block b hlt (hb b off none rfl))).trans (hc i hi).1,(World.cell?_of_block (a:=⟨b,off+i*2+1,none⟩) (hg.block b hlt (hb b off none rfl))).trans (hc i hi).2⟩⟩
theorem jb1 (x:NX) (u:Value) (h:u ∈ [Value.string x.1.name,slV x.2.1,slV x.2.2.1,slV x.2.2.2,.bool x.1.cordon]):u.oneCell'=true:=by
 simp only[List.mem_cons,List.not_mem_nil,or_false] at h;rcases h with rfl | rfl | rfl | rfl | rfl<;>rfl
def zJ:Lay NX:={ m:=5,cs:=fun x=>[.string x.1.name,slV x.2.1,slV x.2.2.1,slV x.2.2.2,.bool x.1.cordon],fine:=fun _=>True,len:=fun _=>rfl,one:=jb1,pos:=by decide }
def jmG (w:World) (v:Value) (l:List NX):Prop:=∀z ∈ l,At3 w z∧qD 0 w.heap.size z∧(∀b off sp,z.2.1.1=some ⟨b,off,sp⟩→v.ownBlock≠some b)∧(∀b off sp,z.2.2.1.1=some ⟨b,off,sp⟩→v.ownBlock≠some b)∧(∀b off sp,z.2.2.2.1=some ⟨b,off,sp⟩→v.ownBlock≠some b)
theorem jbV {lo lo' hi hi':Nat} {z:NX} (h:qD lo hi z) (h1:lo'≤lo) (h2:hi≤hi'):qD lo' hi' z :=
 ⟨fun b o s e=>⟨Nat.le_trans h1 (h.1 b o s e).1,Nat.lt_of_lt_of_le (h.1 b o s e).2 h2⟩,fun b o s e=>⟨Nat.le_trans h1 (h.2.1 b o s e).1,Nat.lt_of_lt_of_le (h.2.1 b o s e).2 h2⟩,fun b o s e=>⟨Nat.le_trans h1 (h.2.2 b o s e).1,Nat.lt_of_lt_of_le (h.2.2 b o s e).2 h2⟩⟩
theorem jlZ {wr w1 w2:World} {o:Obj} {v:Value} {l:List NX} {z0:NX} {gg n cap:Nat} (hv:jmG wr v l) (k:Kept wr w1) (hz:At3 w1 z0) (hw:qD wr.heap.size w1.heap.size z0) (hown:∀g,v.ownBlock=some g→g<wr.heap.size)
 (hgrow:(w1.alloc o).grownBy w2 v.ownBlock) (hat:v.ownBlock=some gg∨gg=w1.heap.size+1):jmG w2 (.slice (some ⟨gg,0,none⟩) n cap) (l++[z0]):=by
 have hs:=hgrow.size;rw[World.size_alloc] at hs;have hk:=k.size;have key:∀z,At3 w1 z→qD 0 w1.heap.size z→(∀b off sp,z.2.1.1=some ⟨b,off,sp⟩→v.ownBlock≠some b)→(∀b off sp,z.2.2.1.1=some ⟨b,off,sp⟩→v.ownBlock≠some b)→(∀b off sp,z.2.2.2.1=some ⟨b,off,sp⟩→v.ownBlock≠some b) →
  At3 w2 z∧qD 0 w2.heap.size z∧(∀b off sp,z.2.1.1=some ⟨b,off,sp⟩→some gg≠some b)∧(∀b off sp,z.2.2.1.1=some ⟨b,off,sp⟩→some gg≠some b)∧(∀b off sp,z.2.2.2.1=some ⟨b,off,sp⟩→some gg≠some b):=by
  intro z h3 hwz f1 f2 f3;have ne:∀b,b<w1.heap.size→v.ownBlock≠some b→some gg≠some b:=by
   intro b hb hne e;rcases hat with hat | hat
   · exact hne (hat.trans e)
   · have:gg=b:=Option.some.inj e;omega
  have h3':=h3.kept (ja w1 o);exact⟨⟨h3'.size,h3'.cap.grown hgrow (fun b off sp e=>Ne.symm (f1 b off sp e)),h3'.labels.grown hgrow (fun b off sp e=>Ne.symm (f2 b off sp e)),h3'.taints.grown hgrow (fun b off sp e=>Ne.symm (f3 b off sp e))⟩,
   jbV hwz (Nat.le_refl _) (by omega),fun b off sp e=>ne b (hwz.1 b off sp e).2 (f1 b off sp e),fun b off sp e=>ne b (hwz.2.1 b off sp e).2 (f2 b off sp e),fun b off sp e=>ne b (hwz.2.2 b off sp e).2 (f3 b off sp e)⟩
 intro z hzm;rcases List.mem_append.1 hzm with hzm | hzm
 · obtain⟨h0,h1,h2,h3,h4⟩:=hv z hzm;exact key z (h0.kept k) (jbV h1 (Nat.le_refl _) hk) h2 h3 h4
 · obtain rfl:z=z0:=by simpa using hzm
   exact key z hz (jbV hw (Nat.zero_le _) (Nat.le_refl _)) (fun b off sp e f=>by have:=(hw.1 b off sp e).1;have:=hown b f;omega) (fun b off sp e f=>by have:=(hw.2.1 b off sp e).1;have:=hown b f;omega) (fun b off sp e f=>by have:=(hw.2.2 b off sp e).1;have:=hown b f;omega)
theorem jeH {w:World} {T:TypeId} {B:Nat} {v:Value} {lx:List NX} (ho:Own zJ T w B v lx) (hf:∀z ∈ lx,At3 w z):Zf w v (lx.map fun z=>z.1):=by
 obtain⟨a,cap,rfl,h1,h2,h3⟩:=ho.at_;obtain⟨g0,g1,g2,g3⟩:=h3;refine⟨a,cap,by rw[List.length_map],by rw[List.length_map];exact h1,h2,rfl,by rw[List.length_map];exact g1,?_⟩;rw[List.length_map];rcases g3 with g3 | ⟨b,off,rfl,hb,hc⟩
 · exact .inl g3
 · refine .inr ⟨b,off,rfl,hb,fun i n hi=>?_⟩;rw[List.getElem?_map] at hi;obtain⟨z,hz,rfl⟩:=Option.map_eq_some_iff.1 hi;exact⟨_,_,_,_,_,_,_,_,_,hc i z 0 _ hz rfl,hc i z 1 _ hz rfl,hc i z 2 _ hz rfl,hc i z 3 _ hz rfl,hc i z 4 _ hz rfl,hf z (List.mem_of_getElem? hz)⟩
theorem joP:(Tryz.prog.info? 89).map (fun i=>(i.zero,i.size,i.bytes))=some (some (.agg #[.string ByteArray.empty,.slice none 0 0,.slice none 0 0,.slice none 0 0,.bool false]),5,96):=by kernel_rfl
theorem jlw (a:Option Addr) (len cap:Nat) (l:List Nod) (w:World) (hr:j0 w a len l) (hlow:∀n ∈ l,zO n) (hlen:len≤1000) :
 Calls Tryz.prog 33 #[.slice a len cap] w fun e w'=>∃v,e=.returned v∧Zf w' v l∧Kept w w':=by
 have hl:=hr.1;have HLOW:=lH hlow;obtain⟨i0,hi,hz0,hz1,hz2'⟩:=info_parts joP;rcases hr.form with h0 | ⟨b,off,rfl⟩
 · subst h0;have hl0:l=[]:=List.eq_nil_of_length_eq_zero hl;subst hl0;clear hr hl hi hz0 hz1 hz2' hlow;go_enter Tryz.func33,Tryz.ntmps33;go_wp2;refine wp_loop_rounds 1 ?_;rw[rounds_succ];go_wp2;go_ret;exact⟨_,rfl,⟨none,0,rfl,Nat.le_refl _,by decide,rfl,by decide,.inl rfl⟩,Kept.refl _⟩
 · have HR:=lH hr;have HL:=lH hl;clear hr hl hlow;go_enter Tryz.func33,Tryz.ntmps33;go_wp2;go_loopw [3,4] (fun v i wr=>∃k:Nat,k≤len∧i=.int .i64 k∧∃lx:List NX,(lx.map fun z=>z.1)=l.take k∧Own zJ 89 wr w.heap.size v lx∧jmG wr v lx∧Below w.heap.size w wr) (fun _ i _=>len-(intOf i).toNat)
   case atStart=>exact⟨0,Nat.zero_le _,rfl,[],rfl,Own.nil _ _ _,(fun z h=>by cases h),Below.refl _ _⟩
   case round =>
    obtain⟨k,hk,rfl,lx,hlx,ho,hv,hB⟩:=hrel;have HX:=lH hlx;have HO:=lH ho;have HV:=lH hv;have HB:=lH hB;have HT:=lH (show lx.length=k by have:=congrArg List.length hlx;rw[List.length_map,List.length_take,HL.out] at this;omega);have HOWN:=lH (show wr.ownsRow w.heap.size 89 5 u3 k (jd zJ lx) by have:=HO.out.1;rw[HT.out] at this;exact this);have hbase:w.heap.size≤wr.heap.size:=hB.size;by_cases hlt:k<len
    · obtain⟨n,a1,m1,c1,a2,m2,c2,a3,m3,c3,hn,hd,hb,p0,p1,p2,p3,p4,hat⟩:=(HR.out.kept hB).at_ hlt;have HN:=lH hn;have HOF:=lH (jnw n (.slice a1 m1 c1) (.slice a2 m2 c2) (.slice a3 m3 c3) wr hat (HLOW.out n (List.mem_of_getElem? hn)));have hk1:(k:Int)<(len:Int):=by omega
      clear hlx ho hv hB hn hd hat;go_wp2_with fail
      refine HOF.out.mono ?_;rintro e w1 ⟨z,rfl,hz,h3,hwi,kk⟩;have HZ:=lH hz;have H3:=lH h3;have HW:=lH hwi;have KK:=lH kk;have hs1:wr.heap.size≤w1.heap.size:=kk.size;have HOW2:=lH (show w1.ownsRow w.heap.size 89 5 u3 k (jd zJ lx) by have:=(HO.out.kept kk).1;rw[HT.out] at this;exact this);clear hz h3 hwi kk;go_wp2_with (at_builtin;refine wpList_append_lies _ rfl _ _ _ rfl w.heap.size 89 i0 _ 5 96 Tryz.underlying44 hi hz0 hz1 hz2' rfl (by decide) u3 k (jd zJ lx) rfl (HOW2.out.alloc _) ⟨w1.heap.size,0,none⟩ 1 1 (zJ.cs z) rfl rfl (World.news_of_block (cs:=#[.string z.1.name,slV z.2.1,slV z.2.2.1,slV z.2.2.2,.bool z.1.cordon]) (t:=89) (fr:=(0,0)) (heap_alloc_new w1 _)) (jb1 z) (by decide) (by unfold maxLen;omega) (by omega) (by simp;omega) (w1.heap.size+1) (by simp) ?_;intro gg cap1 w2 hown1 hgrow hat hlt1)
      have HFAR:=lH (jlZ (n:=k+1) (cap:=cap1) HV.out KK.out H3.out HW.out (fun g h=>(HOWN.out.lt g h).2) hgrow hat);have HBW:=lH ((HB.out.trans ((Below.mono KK.out hbase).trans (Below.mono (ja w1 _) (by omega)))).grown hgrow (by simp;omega) (fun j hj=>(HOWN.out.lt j hj).1));go_wp2;go_roundw
      case rel=>exact⟨k+1,by omega,by go_num,lx++[z],by rw[List.map_append,HX.out,zW HN.out,←HZ.out];rfl,Own.snoc hown1 (by rw[HT.out]) HO.out.2 trivial,HFAR.out,HBW.out⟩
      case measure=>simp[intOf];omega
    · have HK:=lH (show l.take k=l by rw[List.take_of_length_le (by rw[HL.out];omega)]);have HRES:=lH (show Zf wr u3 l by have:=jeH HO.out (fun z hz=>(HV.out z hz).1);rw[HX.out,HK.out] at this;exact this);clear hlx ho hv hB;go_wp2;go_ret;exact⟨_,rfl,HRES.out,HB.out⟩
theorem jon {v:Value} {l:List Nod} {w:World} (h:Zf w v l) (hlow:∀n ∈ l,zO n) (hlen:l.length≤1000) :
 Calls Tryz.prog 33 #[v] w fun e w'=>∃v,e=.returned v∧Zf w' v l∧Kept w w':=by
 obtain⟨a,cap,rfl,_,_,hr⟩:=h;exact jlw a _ cap l w hr hlow hlen
theorem jc9 (x:PX) (u:Value) (h:u ∈ [Value.string x.1.name,.string x.1.owner,.int .i64 x.1.prio,slV x.2.1,slV x.2.2.1,slV x.2.2.2.1,slV x.2.2.2.2,.string x.1.key,.int .i64 x.1.most,.string x.1.node,.bool x.1.hold]):u.oneCell'=true:=by
 simp only[List.mem_cons,List.not_mem_nil,or_false] at h;rcases h with rfl | rfl | rfl | rfl | rfl | rfl | rfl | rfl | rfl | rfl | rfl<;>rfl
def zi:Lay PX:={ m:=11,cs:=fun x=>[.string x.1.name,.string x.1.owner,.int .i64 x.1.prio,slV x.2.1,slV x.2.2.1,slV x.2.2.2.1,slV x.2.2.2.2,.string x.1.key,.int .i64 x.1.most,.string x.1.node,.bool x.1.hold],fine:=fun _=>True,len:=fun _=>rfl,one:=jc9,pos:=by decide }
def Yf (v:Value) (a:Option Addr):Prop:=∀b off sp,a=some ⟨b,off,sp⟩→v.ownBlock≠some b
def jlG (w:World) (v:Value) (l:List PX):Prop:=∀z ∈ l,At4 w z∧Xg 0 w.heap.size z∧Yf v z.2.1.1∧Yf v z.2.2.1.1∧Yf v z.2.2.2.1.1∧Yf v z.2.2.2.2.1
theorem jlf {wr w1 w2:World} {o:Obj} {v:Value} {l:List PX} {z0:PX} {gg n cap:Nat} (hv:jlG wr v l) (k:Kept wr w1) (hz:At4 w1 z0) (hw:Xg wr.heap.size w1.heap.size z0) (hown:∀g,v.ownBlock=some g→g<wr.heap.size)
 (hgrow:(w1.alloc o).grownBy w2 v.ownBlock) (hat:v.ownBlock=some gg∨gg=w1.heap.size+1):jlG w2 (.slice (some ⟨gg,0,none⟩) n cap) (l++[z0]):=by
 have hs:=hgrow.size;rw[World.size_alloc] at hs;have hk:=k.size;have key:∀z,At4 w1 z→Xg 0 w1.heap.size z→Yf v z.2.1.1→Yf v z.2.2.1.1→Yf v z.2.2.2.1.1→Yf v z.2.2.2.2.1 →
  At4 w2 z∧Xg 0 w2.heap.size z∧Yf (.slice (some ⟨gg,0,none⟩) n cap) z.2.1.1∧Yf (.slice (some ⟨gg,0,none⟩) n cap) z.2.2.1.1∧Yf (.slice (some ⟨gg,0,none⟩) n cap) z.2.2.2.1.1∧Yf (.slice (some ⟨gg,0,none⟩) n cap) z.2.2.2.2.1:=by
  intro z h3 hwz f1 f2 f3 f4;have ne:∀b,b<w1.heap.size→v.ownBlock≠some b→(Value.slice (some ⟨gg,0,none⟩) n cap).ownBlock≠some b:=by
   intro b hb hne e;have e:some gg=some b:=e;rcases hat with hat | hat
   · exact hne (hat.trans e)
   · have:gg=b:=Option.some.inj e;omega
  have h3':=zl.kept h3 (ja w1 o);exact⟨⟨h3'.name,h3'.owner,h3'.key,h3'.node,h3'.prio,h3'.most,h3'.need.grown hgrow (fun b off sp e=>Ne.symm (f1 b off sp e)),h3'.labels.grown hgrow (fun b off sp e=>Ne.symm (f2 b off sp e)),h3'.sel.grown hgrow (fun b off sp e=>Ne.symm (f3 b off sp e)),h3'.tols.grown hgrow (fun b off sp e=>Ne.symm (f4 b off sp e))⟩,
   hwz.up (Nat.le_refl _) (by omega),fun b off sp e=>ne b (hwz.1 b off sp e).2 (f1 b off sp e),fun b off sp e=>ne b (hwz.2.1 b off sp e).2 (f2 b off sp e),fun b off sp e=>ne b (hwz.2.2.1 b off sp e).2 (f3 b off sp e),fun b off sp e=>ne b (hwz.2.2.2 b off sp e).2 (f4 b off sp e)⟩
 intro z hzm;rcases List.mem_append.1 hzm with hzm | hzm
 · obtain⟨h0,h1,h2,h3,h4,h5⟩:=hv z hzm;exact key z (zl.kept h0 k) (h1.up (Nat.le_refl _) hk) h2 h3 h4 h5
 · obtain rfl:z=z0:=by simpa using hzm
   exact key z hz (hw.up (Nat.zero_le _) (Nat.le_refl _)) (fun b off sp e f=>by have:=(hw.1 b off sp e).1;have:=hown b f;omega) (fun b off sp e f=>by have:=(hw.2.1 b off sp e).1;have:=hown b f;omega) (fun b off sp e f=>by have:=(hw.2.2.1 b off sp e).1;have:=hown b f;omega) (fun b off sp e f=>by have:=(hw.2.2.2 b off sp e).1;have:=hown b f;omega)
theorem jc4 {w:World} {T:TypeId} {B:Nat} {v:Value} {lx:List PX} (ho:Own zi T w B v lx) (hf:∀z ∈ lx,At4 w z):Yw w v (lx.map fun z=>z.1):=by
 obtain⟨a,cap,rfl,h1,h2,h3⟩:=ho.at_;obtain⟨g0,g1,g2,g3⟩:=h3;refine⟨a,cap,by rw[List.length_map],by rw[List.length_map];exact h1,h2,rfl,by rw[List.length_map];exact g1,?_⟩;rw[List.length_map];rcases g3 with g3 | ⟨b,off,rfl,hb,hc⟩
 · exact .inl g3
 · refine .inr ⟨b,off,rfl,hb,fun i n hi=>?_⟩;rw[List.getElem?_map] at hi;obtain⟨z,hz,rfl⟩:=Option.map_eq_some_iff.1 hi;exact⟨slV z.2.1,slV z.2.2.1,slV z.2.2.2.1,slV z.2.2.2.2,hc i z 0 _ hz rfl,hc i z 1 _ hz rfl,hc i z 2 _ hz rfl,hc i z 3 _ hz rfl,hc i z 4 _ hz rfl,hc i z 5 _ hz rfl,hc i z 6 _ hz rfl,hc i z 7 _ hz rfl,hc i z 8 _ hz rfl,hc i z 9 _ hz rfl,hc i z 10 _ hz rfl,hf z (List.mem_of_getElem? hz)⟩
theorem jnR:(Tryz.prog.info? 86).map (fun i=>(i.zero,i.size,i.bytes))=some (some (.agg #[.string ByteArray.empty,.string ByteArray.empty,.int .i64 0,.slice none 0 0,.slice none 0 0,.slice none 0 0,.slice none 0 0,.string ByteArray.empty,.int .i64 0,.string ByteArray.empty,.bool false]),11,184):=by kernel_rfl
theorem jjm (a:Option Addr) (len cap:Nat) (l:List Pd) (w:World) (hr:Jd w a len l) (hlow:∀n ∈ l,jdZ n) (hlen:len≤1000) :
 Calls Tryz.prog 34 #[.slice a len cap] w fun e w'=>∃v,e=.returned v∧Yw w' v l∧Kept w w':=by
 have hl:=hr.1;have HLOW:=lH hlow;obtain⟨i0,hi,hz0,hz1,hz2'⟩:=info_parts jnR;rcases hr.form with h0 | ⟨b,off,rfl⟩
 · subst h0;have hl0:l=[]:=List.eq_nil_of_length_eq_zero hl;subst hl0;clear hr hl hi hz0 hz1 hz2' hlow;go_enter Tryz.func34,Tryz.ntmps34;go_wp2;refine wp_loop_rounds 1 ?_;rw[rounds_succ];go_wp2;go_ret;exact⟨_,rfl,⟨none,0,rfl,Nat.le_refl _,by decide,rfl,by decide,.inl rfl⟩,Kept.refl _⟩
 · have HR:=lH hr;have HL:=lH hl;clear hr hl hlow;go_enter Tryz.func34,Tryz.ntmps34;go_wp2;go_loopw [3,4] (fun v i wr=>∃k:Nat,k≤len∧i=.int .i64 k∧∃lx:List PX,(lx.map fun z=>z.1)=l.take k∧Own zi 86 wr w.heap.size v lx∧jlG wr v lx∧Below w.heap.size w wr) (fun _ i _=>len-(intOf i).toNat)
   case atStart=>exact⟨0,Nat.zero_le _,rfl,[],rfl,Own.nil _ _ _,(fun z h=>by cases h),Below.refl _ _⟩
   case round =>
    obtain⟨k,hk,rfl,lx,hlx,ho,hv,hB⟩:=hrel;have HX:=lH hlx;have HO:=lH ho;have HV:=lH hv;have HB:=lH hB;have HT:=lH (show lx.length=k by have:=congrArg List.length hlx;rw[List.length_map,List.length_take,HL.out] at this;omega);have HOWN:=lH (show wr.ownsRow w.heap.size 86 11 u3 k (jd zi lx) by have:=HO.out.1;rw[HT.out] at this;exact this);have hbase:w.heap.size≤wr.heap.size:=hB.size;by_cases hlt:k<len
    · obtain⟨n,a1,m1,c1,a2,m2,c2,a3,m3,c3,a4,m4,c4,hn,hd,hb,p0,p1,p2,p3,p4,p5,p6,p7,p8,p9,p10,hat⟩:=(HR.out.kept hB).at_ hlt;have HN:=lH hn;have HOF:=lH (jnc n (.slice a1 m1 c1) (.slice a2 m2 c2) (.slice a3 m3 c3) (.slice a4 m4 c4) wr hat (HLOW.out n (List.mem_of_getElem? hn)));have hk1:(k:Int)<(len:Int):=by omega
      clear hlx ho hv hB hn hd hat;go_wp2_with fail
      refine HOF.out.mono ?_;rintro e w1 ⟨z,rfl,hz,h3,hwi,kk⟩;have HZ:=lH hz;have H3:=lH h3;have HW:=lH hwi;have KK:=lH kk;have hs1:wr.heap.size≤w1.heap.size:=kk.size;have HOW2:=lH (show w1.ownsRow w.heap.size 86 11 u3 k (jd zi lx) by have:=(HO.out.kept kk).1;rw[HT.out] at this;exact this);clear hz h3 hwi kk;go_wp2_with (at_builtin;refine wpList_append_lies _ rfl _ _ _ rfl w.heap.size 86 i0 _ 11 184 Tryz.underlying45 hi hz0 hz1 hz2' rfl (by decide) u3 k (jd zi lx) rfl (HOW2.out.alloc _) ⟨w1.heap.size,0,none⟩ 1 1 (zi.cs z) rfl rfl (World.news_of_block (cs:=#[.string z.1.name,.string z.1.owner,.int .i64 z.1.prio,slV z.2.1,slV z.2.2.1,slV z.2.2.2.1,slV z.2.2.2.2,.string z.1.key,.int .i64 z.1.most,.string z.1.node,.bool z.1.hold]) (t:=86) (fr:=(0,0)) (heap_alloc_new w1 _)) (jc9 z) (by decide) (by unfold maxLen;omega) (by omega) (by simp;omega) (w1.heap.size+1) (by simp) ?_;intro gg cap1 w2 hown1 hgrow hat hlt1)
      have HFAR:=lH (jlf (n:=k+1) (cap:=cap1) HV.out KK.out H3.out HW.out (fun g h=>(HOWN.out.lt g h).2) hgrow hat);have HBW:=lH ((HB.out.trans ((Below.mono KK.out hbase).trans (Below.mono (ja w1 _) (by omega)))).grown hgrow (by simp;omega) (fun j hj=>(HOWN.out.lt j hj).1));go_wp2;go_roundw
      case rel=>exact⟨k+1,by omega,by go_num,lx++[z],by rw[List.map_append,HX.out,zW HN.out,←HZ.out];rfl,Own.snoc hown1 (by rw[HT.out]) HO.out.2 trivial,HFAR.out,HBW.out⟩
      case measure=>simp[intOf];omega
    · have HK:=lH (show l.take k=l by rw[List.take_of_length_le (by rw[HL.out];omega)]);have HRES:=lH (show Yw wr u3 l by have:=jc4 HO.out (fun z hz=>(HV.out z hz).1);rw[HX.out,HK.out] at this;exact this);clear hlx ho hv hB;go_wp2;go_ret;exact⟨_,rfl,HRES.out,HB.out⟩
theorem jnJ {v:Value} {l:List Pd} {w:World} (h:Yw w v l) (hlow:∀n ∈ l,jdZ n) (hlen:l.length≤1000) :
 Calls Tryz.prog 34 #[v] w fun e w'=>∃v,e=.returned v∧Yw w' v l∧Kept w w':=by
 obtain⟨a,cap,rfl,_,_,hr⟩:=h;exact jjm a _ cap l w hr hlow hlen
def jfD (w:World):Lay PX:={ m:=11,cs:=zi.cs,fine:=At4 w,len:=fun _=>rfl,one:=zi.one,pos:=by decide }
theorem jfV {H:Type} {enc:TypeId×Value→H} {w:World} {base fuel:Nat} {sp:Nat→Bool} {held:Bool} {cs:List Value} {x:DataW H×List MemPlace} (h:DataW.trod enc Tryz.prog w base sp held fuel 62 cs=some x) :
 ∃a:PX,cs=(jfD w).cs a∧(jfD w).fine a:=by
 obtain⟨n,v1,v2,v3,v4,e,hat⟩:=jhG h;obtain⟨b1,n1,d1,b2,n2,d2,b3,n3,d3,b4,n4,d4,rfl,rfl,rfl,rfl⟩:=hat.spelt;exact⟨(n,(b1,n1,d1),(b2,n2,d2),(b3,n3,d3),(b4,n4,d4)),e,hat⟩
theorem jfC {H:Type} {enc:TypeId×Value→H} {w:World} {base fuel:Nat} {sp:Nat→Bool} {held:Bool} {v:Value} {x:DataW H×List MemPlace} (h:DataW.trod enc Tryz.prog w base sp held fuel 23 [v]=some x):∃l,Yw w v l:=by
 obtain⟨l,a,cap,rfl,h1,h2,h3⟩:=zX (jfD w) Tryz.underlying23 jij (fun _ _ _ h=>jfV h) h;obtain⟨g0,g1,g2,g3⟩:=h3;refine⟨l.map (fun z=>z.1),a,cap,by rw[List.length_map],by rw[List.length_map];exact h1,h2,rfl,by rw[List.length_map];exact g1,?_⟩;rw[List.length_map];rcases g3 with g3 | ⟨b,off,rfl,hb,hc⟩
 · exact .inl g3
 · refine .inr ⟨b,off,rfl,hb,fun i n hi=>?_⟩;rw[List.getElem?_map] at hi;obtain⟨z,hz,rfl⟩:=Option.map_eq_some_iff.1 hi;exact⟨slV z.2.1,slV z.2.2.1,slV z.2.2.2.1,slV z.2.2.2.2,hc i z 0 _ hz rfl,hc i z 1 _ hz rfl,hc i z 2 _ hz rfl,hc i z 3 _ hz rfl,hc i z 4 _ hz rfl,hc i z 5 _ hz rfl,hc i z 6 _ hz rfl,hc i z 7 _ hz rfl,hc i z 8 _ hz rfl,hc i z 9 _ hz rfl,hc i z 10 _ hz rfl,g2 z (List.mem_of_getElem? hz)⟩
structure Bd where
 name:ByteArray
 sel:TL
 floor:Int
def Bd.zero:Bd:=⟨ByteArray.empty,[],0⟩
abbrev Zt (n:Bd) (v1:Value):Value:=.agg #[.string n.name,v1,.int .i64 n.floor]
structure zL (w:World) (v1:Value) (n:Bd):Prop where
 name:n.name.size≤maxLen
 floor:-9223372036854775808≤n.floor∧n.floor≤9223372036854775807
 sel:Reads jL w v1 n.sel
theorem zL.kept {w w':World} {v1:Value} {n:Bd} (h:zL w v1 n) (k:Kept w w'):zL w' v1 n:=⟨h.name,h.floor,h.sel.kept k⟩
def jjh (w:World) (v:Value) (n:Bd):Prop:=∃v1,v=Zt n v1∧zL w v1 n
theorem jjh.kept {w w':World} {v:Value} {n:Bd} (h:jjh w v n) (k:Kept w w'):jjh w' v n:=by
 obtain⟨v1,e,h⟩:=h;exact⟨v1,e,h.kept k⟩
def ZP (B:Nat) (w:World) (v:Value) (n:Bd):Prop:=∃b1 n1 d1,v=Zt n (.slice b1 n1 d1)∧zL w (.slice b1 n1 d1) n∧j2 B b1
theorem ZP.toR {B:Nat} {w:World} {v:Value} {n:Bd} (h:ZP B w v n):jjh w v n:=by
 obtain⟨b1,n1,d1,e,h,-⟩:=h;exact⟨_,e,h⟩
theorem zL.far {B:Nat} {w w':World} {n:Bd} {b1:Option Addr} {n1 d1:Nat} (h:zL w (.slice b1 n1 d1) n) (hs:w'.heap.size=w.heap.size) (hb:∀b,B≤b→w'.heap[b]?=w.heap[b]?) (g1:j2 B b1):zL w' (.slice b1 n1 d1) n :=
 ⟨h.name,h.floor,h.sel.far hs (fun b o s e=>hb b (g1 b o s e))⟩
theorem ZP.far {B:Nat} {w w':World} {v:Value} {n:Bd} (h:ZP B w v n) (hs:w'.heap.size=w.heap.size) (hb:∀b,B≤b→w'.heap[b]?=w.heap[b]?):ZP B w' v n:=by
 obtain⟨b1,n1,d1,e,h,g1⟩:=h;exact⟨b1,n1,d1,e,h.far hs hb g1,g1⟩
theorem ZP.less {B B':Nat} {w:World} {v:Value} {n:Bd} (h:ZP B w v n) (hb:B'≤B):ZP B' w v n:=by
 obtain⟨b1,n1,d1,e,h,g1⟩:=h;exact⟨b1,n1,d1,e,h,g1.less hb⟩
theorem ZP.kept {B:Nat} {w w':World} {v:Value} {n:Bd} (h:ZP B w v n) (k:Kept w w'):ZP B w' v n:=by
 obtain⟨b1,n1,d1,e,h,g1⟩:=h;exact⟨b1,n1,d1,e,h.kept k,g1⟩
theorem jg6 (B:Nat) (w:World):ZP B w (.agg #[.string ⟨#[]⟩,.slice none 0 0,.int .i64 0]) Bd.zero :=
 ⟨none,0,0,rfl,⟨(by decide:(0:Nat)≤maxLen),by decide,Reads.nil _⟩,j2.none _⟩
theorem zL.spelt {w:World} {v1:Value} {n:Bd} (h:zL w v1 n):∃b1 n1 d1,v1=.slice b1 n1 d1:=by
 obtain⟨a,c,e,-⟩:=h.sel;exact⟨_,_,_,e⟩
def Jz (x:ByteArray):Int:=if isName x=true then 0 else 3
def zc (m:Int):Int:=if m<0∨128<m then 1 else 0
def zx (n:Bd):Int:=orL [Jz n.name,zb n.sel,zc n.floor]
theorem jd6 (x:ByteArray) (w:World) (hx:x.size≤maxLen) :
 Calls Tryz.prog 240 #[.string x] w fun e w'=>e=.returned (.int .i64 (Jz x))∧w=w':=by
 obtain⟨q,hq⟩:∃q,isName x=q:=⟨_,rfl⟩
 have HV:=lH (show Jz x=if q=true then 0 else 3 by unfold Jz;rw[hq]);have HR:=lH hq;have HX:=lH hx;clear hq hx
 cases q <;>
 (go_enter Tryz.func240,Tryz.ntmps240
  go_wp2_with fail
  refine(Vec.jaF HX.out HR.out).mono ?_;rintro e w' ⟨rfl,rfl⟩;go_wp2;go_ret;exact⟨jb HV.out.symm,rfl⟩)
theorem jen (m:Int) (w:World) :
 Calls Tryz.prog 241 #[.int .i64 m] w fun e w'=>e=.returned (.int .i64 (zc m))∧w=w':=by
 by_cases z:m<0
 · have HW:=lH (show zc m=1 by unfold zc;rw[if_pos (.inl z)]);go_enter Tryz.func241,Tryz.ntmps241;go_wp2;go_ret;exact⟨jb HW.out.symm,rfl⟩
 · by_cases y:128<m
   · have HW:=lH (show zc m=1 by unfold zc;rw[if_pos (.inr y)]);have z':0≤m:=by omega
     clear z;go_enter Tryz.func241,Tryz.ntmps241;go_wp2;go_ret;exact⟨jb HW.out.symm,rfl⟩
   · have HW:=lH (show zc m=0 by unfold zc;rw[if_neg (by omega)]);have z':0≤m:=by omega
     have y':m≤128:=by omega
     clear z y;go_enter Tryz.func241,Tryz.ntmps241;go_wp2;go_ret;exact⟨jb HW.out.symm,rfl⟩
theorem jhY (W:World) (x1 x2 x3:Int) (T:TypeId) (i:Nat) (x:Int) (hi:([x1,x2,x3]:List Int)[i]?=some x) :
 (W.alloc (.cells #[.int .i64 x1,.int .i64 x2,.int .i64 x3] T)).cell? ⟨W.heap.size,i,none⟩=some (.int .i64 x):=by
 refine(jg W (.int .i64 x1) [.int .i64 x2,.int .i64 x3] T _ (Kept.refl _)).at_ i _ ?_
 match i,hi with
 | 0,h=>simpa using h
 | 1,h=>simpa using h
 | 2,h=>simpa using h
 | j+3,h=>simp at h
theorem jdv (n:Bd) (v1:Value) (w:World) (h:zL w v1 n) :
 Calls Tryz.prog 185 #[Zt n v1] w (Say (.int .i64 (zx n)) w):=by
 obtain⟨W0,hW0⟩:∃W0,w.alloc (.cells #[.string n.name,v1,.int .i64 n.floor] 66)=W0:=⟨_,rfl⟩
 have hk0:Kept w W0:=by rw[←hW0];exact ja _ _
 have HC:=lH (show ∀W,Kept W0 W→W.cell? ⟨w.heap.size,0,none⟩=some (.string n.name)∧W.cell? ⟨w.heap.size,1,none⟩=some (v1)∧W.cell? ⟨w.heap.size,2,none⟩=some (.int .i64 n.floor) from fun W k=>by
  have c:=jg w (.string n.name) [v1,.int .i64 n.floor] 66 W (by rw[hW0];exact k);exact⟨c.at_ 0 _ rfl,c.at_ 1 _ rfl,c.at_ 2 _ rfl⟩)
 have E1:=lH (fun W=>jd6 n.name W h.name);have E5:=lH (fun W (k:Kept W0 W)=>jeZ (h.sel.kept (hk0.trans k)) rfl);have E7:=lH (fun W=>jen n.floor W);have HK0:=lH hk0;obtain⟨x1,hx1⟩:∃x,Jz n.name=x:=⟨_,rfl⟩
 rw[hx1] at E1;obtain⟨x2,hx2⟩:∃x,zb n.sel=x:=⟨_,rfl⟩
 rw[hx2] at E5;obtain⟨x3,hx3⟩:∃x,zc n.floor=x:=⟨_,rfl⟩
 rw[hx3] at E7;have HV:=lH (show zx n=orL [x1,x2,x3] by unfold zx;rw[hx1,hx2,hx3]);have ORC:=lH (fun W=>jhY W x1 x2 x3 32);clear hx1 hx2 hx3 h hk0;obtain⟨c0,c1,c2⟩:=HC.out _ (Kept.refl _);unfold Zt;go_enter Tryz.func185,Tryz.ntmps185;go_wp2;try rw[hW0]
 clear hW0;go_region_held3 (fun W=>W.cell? ⟨w.heap.size,0,none⟩=some (.string n.name)∧W.cell? ⟨w.heap.size,1,none⟩=some (v1)∧W.cell? ⟨w.heap.size,2,none⟩=some (.int .i64 n.floor))
  (first | exact HC.out _ (Kept.drew _) | exact HC.out _ K5.out | exact HC.out _ (K5.out.trans (ja _ _)))
  (first | (go_at_call 240;refine(E1.out _).mono ?_;rintro e1 w1 ⟨rfl,rfl⟩)
         | (go_at_call 227;refine(E5.out _ (Kept.drew _)).mono ?_;rintro e5 w5 ⟨rfl,k5⟩;have K5:=lH ((Kept.drew _).trans k5);clear k5)
         | (go_at_call 241;refine(E7.out _).mono ?_;rintro e7 w7 ⟨rfl,rfl⟩)
         | (go_at_call 140;refine(jiu _ 3 [x1,x2,x3] _ rfl (by decide) (ORC.out _)).mono ?_;rintro e9 w9 ⟨rfl,rfl⟩))
 go_wp2;go_ret;exact⟨jb HV.out.symm,HK0.out.trans (K5.out.trans (ja _ _))⟩
def Je (w:World) (a:Option Addr) (len:Nat) (l:List Bd):Prop :=
 l.length=len∧len≤maxLen∧(len=0∨∃b off,a=some ⟨b,off,none⟩∧b<w.heap.size∧∀i n,l[i]?=some n→∃v1,
  w.cell? ⟨b,off+i*3,none⟩=some (.string n.name)∧w.cell? ⟨b,off+i*3+1,none⟩=some (v1)∧w.cell? ⟨b,off+i*3+2,none⟩=some (.int .i64 n.floor)∧zL w v1 n)
theorem Je.kept {w w':World} {a:Option Addr} {len:Nat} {l:List Bd} (h:Je w a len l) (k:Kept w w'):Je w' a len l:=by
 obtain⟨h0,h1,h2⟩:=h;refine⟨h0,h1,h2.imp id ?_⟩;rintro ⟨b,off,rfl,hb,hc⟩;refine⟨b,off,rfl,Nat.lt_of_lt_of_le hb k.size,fun i n hi=>?_⟩;obtain⟨v1,p0,p1,p2,hn⟩:=hc i n hi;exact⟨v1,cell_later k p0,cell_later k p1,cell_later k p2,hn.kept k⟩
theorem Je.form {w:World} {a:Option Addr} {len:Nat} {l:List Bd} (h:Je w a len l):len=0∨∃b off,a=some ⟨b,off,none⟩:=by
 obtain⟨_,_,h2⟩:=h;exact h2.imp id fun ⟨b,off,e,_⟩=>⟨b,off,e⟩
theorem Je.at_ {w:World} {b off len:Nat} {l:List Bd} {k:Nat} (h:Je w (some ⟨b,off,none⟩) len l) (hk:k<len):∃n a1 m1 c1,l[k]?=some n∧l.drop k=n::l.drop (k+1)∧b<w.heap.size ∧
 w.cell? ⟨b,off+k*3,none⟩=some (.string n.name)∧w.cell? ⟨b,off+k*3+1,none⟩=some (.slice a1 m1 c1)∧w.cell? ⟨b,off+k*3+2,none⟩=some (.int .i64 n.floor)∧zL w (.slice a1 m1 c1) n:=by
 obtain⟨h0,_,h3⟩:=h;have hkl:k<l.length:=by omega
 rcases h3 with h3 | ⟨b',off',e,hb,hc⟩
 · omega
 · injection e with e;injection e with e1 e2 e3;subst e1;subst e2;have he:l[k]?=some l[k]:=List.getElem?_eq_getElem hkl;obtain⟨v1,r⟩:=hc k _ he;obtain⟨a1,m1,c1,rfl⟩:=zL.spelt r.2.2.2;exact⟨l[k],a1,m1,c1,he,List.drop_eq_getElem_cons hkl,hb,r⟩
def ZQ (w:World) (v:Value) (l:List Bd):Prop:=∃a cap,v=.slice a l.length cap∧l.length≤cap∧cap≤maxLen∧Je w a l.length l
theorem ZQ.kept {w w':World} {v:Value} {l:List Bd} (h:ZQ w v l) (k:Kept w w'):ZQ w' v l:=by
 obtain⟨a,cap,e,h1,h2,h3⟩:=h;exact⟨a,cap,e,h1,h2,h3.kept k⟩
theorem jnr (s:List UInt8) (w:World) (hE:Env w) (hs:s.length≤1000000) :
 Calls Tryz.prog 171 #[.string (bytes s),.int .i64 3] w (Split 3 s w):=by
 obtain⟨m,hm⟩:=hE.most;have HSP:=lH (Tryz.strings_SplitN (bytes s) ⟨#[32]⟩ 4 m w (by rw[ji];omega) hm (by decide) (by decide) (by decide));obtain⟨h5,hn5⟩:=jeb 3 s;obtain⟨L,hL⟩:∃L,Lib.splitB ⟨#[32]⟩ 0 (min 4 ((bytes s).size+1)-1) (bytes s)=L:=⟨_,rfl⟩
 obtain⟨n,hn⟩:∃n,min 4 ((bytes s).size+1)=n:=⟨_,rfl⟩
 rw[hL] at h5 hn5 HSP;rw[hn] at HSP;have hcap:L.length≤n:=by
  rw[←hL,←hn];have:=Lib.splitB_length_le ⟨#[32]⟩ 0 (min 4 ((bytes s).size+1)-1) (bytes s);omega
 by_cases hp:(je 32 s).length=3
 · have hLp:=h5 hp;have HP:=lH hp;obtain⟨ps,hps⟩:∃ps,je 32 s=ps:=⟨_,rfl⟩
   have HPS:=lH hps;rw[hps] at hp hLp;have hl5:L.length=3:=by rw[hLp,List.length_map,hp]
   rw[hl5] at HSP;have HC:=lH (show ∀j p,ps[j]?=some p→(w.alloc (.cells (Lib.cellsOf L n) 9)).cell? ⟨w.heap.size,j,none⟩=some (.string (bytes p)) from fun j p hj=>by
    have hh:=w.alloc_heap_new (.cells (Lib.cellsOf L n) 9);have hj5:j<L.length:=by have:=(List.getElem?_eq_some_iff.1 hj).1;omega
    have hLj:L[j]?=some (bytes p):=by rw[hLp,List.getElem?_map,hj];rfl
    rw[Lib.cell_of_heap hh];show (Lib.cellsOf L n)[j]?=some (.string (bytes p));unfold Lib.cellsOf;rw[List.getElem?_toArray,List.getElem?_append_left (by rw[List.length_map];exact hj5),List.getElem?_map,hLj];rfl)
   have hcap5:3≤n:=by omega
   clear h5 hn5 hcap hE hm hL hn hLp hl5 hp hps;go_enter Tryz.func171,Tryz.ntmps171;go_wp2_with fail
   refine HSP.out.mono ?_;rintro e w1 ⟨rfl,rfl⟩;go_wp2;go_ret;exact⟨fun _=>⟨_,_,rfl,Nat.le_refl _,by rw[HPS.out];exact HC.out⟩,fun h=>absurd HP.out h,ja _ _⟩
 · obtain⟨k,hk⟩:∃k,L.length=k:=⟨_,rfl⟩
   have hk5:k≠3:=by rw[←hk];exact hn5 hp
   rw[hk] at HSP;have HP:=lH hp;have hb:((k:Int) != 3)=true:=by simp;omega
   clear h5 hn5 hcap hp hE hm hL hn hk hk5;go_enter Tryz.func171,Tryz.ntmps171;go_wp2_with fail
   refine HSP.out.mono ?_;rintro e w1 ⟨rfl,rfl⟩;go_wp2;exact⟨rfl,⟨fun h=>absurd h HP.out,fun _=>rfl,ja _ _⟩⟩
end Go.Proofs.YthmddloeggdohaaGreatDoor
