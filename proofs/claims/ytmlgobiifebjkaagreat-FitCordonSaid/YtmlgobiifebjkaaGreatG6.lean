/- What serves all packages,and package by package the contracts of the functions that the law calls. -/
import Derived.Test.YtmlgobiifebjkaaGreatG0
import Derived.Test.YtmlgobiifebjkaaGreatG1
import Derived.Test.YtmlgobiifebjkaaGreatG2
import Derived.Test.YtmlgobiifebjkaaGreatG3
import Derived.Test.YtmlgobiifebjkaaGreatG4
import Derived.Test.YtmlgobiifebjkaaGreatG5
import Derived.Sort.KeysCollected
set_option linter.unusedVariables false
set_option maxRecDepth 100000
set_option maxHeartbeats 25600000
namespace Go.Proofs.YtmlgobiifebjkaaGreat
open Go.RowKit
def nodK (x:ByteArray) (c:Int):Nod:=⟨x,[(⟨#[99,112,117]⟩,c)],[],[],false⟩
def podK (x:ByteArray) (c:Int) (y:ByteArray):Pd:=⟨x,⟨#[]⟩,0,[(⟨#[99,112,117]⟩,c)],[],[],[],⟨#[]⟩,0,y,false⟩
theorem one_amount (w:World) (c:Int) (h:-9223372036854775808≤c∧c≤9223372036854775807) (W:World) (k:Kept (w.alloc (.cells #[.string ⟨#[99,112,117]⟩,.int .i64 c] 71)) W):Vec.Reads W (.slice (some ⟨w.heap.size,0,none⟩) 1 1) [(⟨#[99,112,117]⟩,c)]:=by
 have cc:=freshN w (.string ⟨#[99,112,117]⟩) [.int .i64 c] 71 W k;refine⟨_,1,rfl,(by decide:(1:Nat)≤1),(by decide:(1:Nat)≤maxLen),rfl,(by decide:(1:Nat)≤maxLen),fun i hi=>?_,.inr ⟨w.heap.size,0,rfl,cc.lt,fun i hi=>?_⟩⟩
 · obtain rfl:i=0:=by simpa using hi
   exact⟨(by decide:(3:Nat)≤maxLen),h.1,h.2⟩
 · obtain rfl:i=0:=by simpa using hi
   exact⟨cc.at_ 0 _ rfl,cc.at_ 1 _ rfl⟩
theorem lawN_far (x:ByteArray) (c:Int) (hc:-9223372036854775808≤c∧c≤9223372036854775807) (hx:x.size≤maxLen) (w:World) :
 Calls Tryz.prog 9 #[.string x,.int .i64 c] w fun e w'=>∃b1 n1 d1,e=.returned (.agg #[.string x,.slice b1 n1 d1,.slice none 0 0,.slice none 0 0,.bool false])∧NodAt w' (.slice b1 n1 d1) (.slice none 0 0) (.slice none 0 0) (nodK x c)∧Kept w w'∧∀b o z,b1=some ⟨b,o,z⟩→w.heap.size<b:=by
 have cc:=freshN w (.string ⟨#[]⟩) [.slice none 0 0,.slice none 0 0,.slice none 0 0,.bool false] 47 _ (Kept.refl _);obtain⟨W0,hW0⟩:∃W,w.alloc (.cells #[.string ⟨#[]⟩,.slice none 0 0,.slice none 0 0,.slice none 0 0,.bool false] 47)=W:=⟨_,rfl⟩
 have hs:W0.heap.size=w.heap.size+1:=by rw[←hW0];simp
 rw[hW0] at cc;obtain⟨W1,hW1⟩:∃W,W0.alloc (.cells #[.string ⟨#[99,112,117]⟩,.int .i64 c] 71)=W:=⟨_,rfl⟩
 have HR:=lH (one_amount W0 c hc W1 (by rw[hW1];exact Kept.refl _));rw[hs] at HR;have c1:=cc.kept (W':=W1) (by rw[←hW1];exact kept_alloc _ _);have KW:=lH (show Kept w W1 by rw[←hW1,←hW0];exact kept_two _ _ _);have y0:=c1.at_ 0 _ rfl;have y1:=c1.at_ 1 _ rfl;have y2:=c1.at_ 2 _ rfl;have y3:=c1.at_ 3 _ rfl;have y4:=c1.at_ 4 _ rfl;have f0:=c1.free 0;have f1:=c1.free 1;have f2:=c1.free 2;have f3:=c1.free 3;have f4:=c1.free 4;have P:=lH (putN (vs:=[.string x,.slice (some ⟨w.heap.size+1,0,none⟩) 1 1,.slice none 0 0,.slice none 0 0,.bool false]) c1 rfl);clear c1 cc;go_enter Tryz.func9,Tryz.ntmps9;go_wp2;try rw[hW0]
 try rw[hW1]
 obtain⟨WE,hWE⟩:∃W,W1.setCells w.heap.size 0 [.string x,.slice (some ⟨w.heap.size+1,0,none⟩) 1 1,.slice none 0 0,.slice none 0 0,.bool false]=W:=⟨_,rfl⟩
 have hWE2:(((((W1.setCell ⟨w.heap.size,0,none⟩ (.string x)).setCell ⟨w.heap.size,1,none⟩ (.slice (some ⟨w.heap.size+1,0,none⟩) 1 1)).setCell ⟨w.heap.size,2,none⟩ (.slice none 0 0)).setCell ⟨w.heap.size,3,none⟩ (.slice none 0 0)).setCell ⟨w.heap.size,4,none⟩ (.bool false))=WE:=hWE;rw[hWE] at P;try rw[hWE2]
 clear hWE hWE2;obtain⟨PC,hsz,hbl,hkp⟩:=P.out;refine bodyPost_ret (by simp[results,Tryz.results9,go_sem,PC.at_ 0 _ rfl,PC.at_ 1 _ rfl,PC.at_ 2 _ rfl,PC.at_ 3 _ rfl,PC.at_ 4 _ rfl];try rfl) rfl ?_;exact⟨_,_,_,rfl,⟨hx,(HR.out.far hsz (fun b o s e=>hbl b (by cases e;omega))),Reads.nil _,Reads.nil _⟩,hkp _ _ (Nat.le_refl _) KW.out,fun b o z e=>by cases e;omega⟩
theorem lawN_any (x:ByteArray) (c:Int) (hc:-9223372036854775808≤c∧c≤9223372036854775807) (hx:x.size≤maxLen) (w:World) :
 Calls Tryz.prog 9 #[.string x,.int .i64 c] w fun e w'=>∃b1 n1 d1,e=.returned (.agg #[.string x,.slice b1 n1 d1,.slice none 0 0,.slice none 0 0,.bool false])∧NodAt w' (.slice b1 n1 d1) (.slice none 0 0) (.slice none 0 0) (nodK x c)∧Kept w w' :=
 (lawN_far x c hc hx w).mono fun e w' ⟨b,n,d,h1,h2,h3,_⟩=>⟨b,n,d,h1,h2,h3⟩
theorem lawP_far (x:ByteArray) (c:Int) (y:ByteArray) (hc:-9223372036854775808≤c∧c≤9223372036854775807) (hx:x.size≤maxLen) (hy:y.size≤maxLen) (w:World) :
 Calls Tryz.prog 10 #[.string x,.int .i64 c,.string y] w fun e w'=>∃b1 n1 d1,e=.returned (.agg #[.string x,.string ⟨#[]⟩,.int .i64 0,.slice b1 n1 d1,.slice none 0 0,.slice none 0 0,.slice none 0 0,.string ⟨#[]⟩,.int .i64 0,.string y,.bool false])∧PodAt w' (.slice b1 n1 d1) (.slice none 0 0) (.slice none 0 0) (.slice none 0 0) (podK x c y)∧Kept w w'∧∀b o z,b1=some ⟨b,o,z⟩→w.heap.size<b:=by
 have cc:=freshN w (.string ⟨#[]⟩) [.string ⟨#[]⟩,.int .i64 0,.slice none 0 0,.slice none 0 0,.slice none 0 0,.slice none 0 0,.string ⟨#[]⟩,.int .i64 0,.string ⟨#[]⟩,.bool false] 37 _ (Kept.refl _);obtain⟨W0,hW0⟩:∃W,w.alloc (.cells #[.string ⟨#[]⟩,.string ⟨#[]⟩,.int .i64 0,.slice none 0 0,.slice none 0 0,.slice none 0 0,.slice none 0 0,.string ⟨#[]⟩,.int .i64 0,.string ⟨#[]⟩,.bool false] 37)=W:=⟨_,rfl⟩
 have hs:W0.heap.size=w.heap.size+1:=by rw[←hW0];simp
 rw[hW0] at cc;obtain⟨W1,hW1⟩:∃W,W0.alloc (.cells #[.string ⟨#[99,112,117]⟩,.int .i64 c] 71)=W:=⟨_,rfl⟩
 have HR:=lH (one_amount W0 c hc W1 (by rw[hW1];exact Kept.refl _));rw[hs] at HR;have c1:=cc.kept (W':=W1) (by rw[←hW1];exact kept_alloc _ _);have KW:=lH (show Kept w W1 by rw[←hW1,←hW0];exact kept_two _ _ _);have y0:=c1.at_ 0 _ rfl;have y1:=c1.at_ 1 _ rfl;have y2:=c1.at_ 2 _ rfl;have y3:=c1.at_ 3 _ rfl;have y4:=c1.at_ 4 _ rfl;have y5:=c1.at_ 5 _ rfl;have y6:=c1.at_ 6 _ rfl;have y7:=c1.at_ 7 _ rfl;have y8:=c1.at_ 8 _ rfl;have y9:=c1.at_ 9 _ rfl;have y10:=c1.at_ 10 _ rfl;have f0:=c1.free 0;have f1:=c1.free 1;have f2:=c1.free 2;have f3:=c1.free 3;have f4:=c1.free 4;have f5:=c1.free 5;have f6:=c1.free 6;have f7:=c1.free 7;have f8:=c1.free 8;have f9:=c1.free 9;have f10:=c1.free 10;have P:=lH (putN (vs:=[.string x,.string ⟨#[]⟩,.int .i64 0,.slice (some ⟨w.heap.size+1,0,none⟩) 1 1,.slice none 0 0,.slice none 0 0,.slice none 0 0,.string ⟨#[]⟩,.int .i64 0,.string y,.bool false]) c1 rfl);clear c1 cc;go_enter Tryz.func10,Tryz.ntmps10;go_wp2;try rw[hW0]
 try rw[hW1]
 obtain⟨WE,hWE⟩:∃W,W1.setCells w.heap.size 0 [.string x,.string ⟨#[]⟩,.int .i64 0,.slice (some ⟨w.heap.size+1,0,none⟩) 1 1,.slice none 0 0,.slice none 0 0,.slice none 0 0,.string ⟨#[]⟩,.int .i64 0,.string y,.bool false]=W:=⟨_,rfl⟩
 have hWE2:(((((((((((W1.setCell ⟨w.heap.size,0,none⟩ (.string x)).setCell ⟨w.heap.size,1,none⟩ (.string ⟨#[]⟩)).setCell ⟨w.heap.size,2,none⟩ (.int .i64 0)).setCell ⟨w.heap.size,3,none⟩ (.slice (some ⟨w.heap.size+1,0,none⟩) 1 1)).setCell ⟨w.heap.size,4,none⟩ (.slice none 0 0)).setCell ⟨w.heap.size,5,none⟩ (.slice none 0 0)).setCell ⟨w.heap.size,6,none⟩ (.slice none 0 0)).setCell ⟨w.heap.size,7,none⟩ (.string ⟨#[]⟩)).setCell ⟨w.heap.size,8,none⟩ (.int .i64 0)).setCell ⟨w.heap.size,9,none⟩ (.string y)).setCell ⟨w.heap.size,10,none⟩ (.bool false))=WE:=hWE;rw[hWE] at P;try rw[hWE2]
 clear hWE hWE2;obtain⟨PC,hsz,hbl,hkp⟩:=P.out;refine bodyPost_ret (by simp[results,Tryz.results10,go_sem,PC.at_ 0 _ rfl,PC.at_ 1 _ rfl,PC.at_ 2 _ rfl,PC.at_ 3 _ rfl,PC.at_ 4 _ rfl,PC.at_ 5 _ rfl,PC.at_ 6 _ rfl,PC.at_ 7 _ rfl,PC.at_ 8 _ rfl,PC.at_ 9 _ rfl,PC.at_ 10 _ rfl];try rfl) rfl ?_;exact⟨_,_,_,rfl,⟨hx,(by decide:(0:Nat)≤maxLen),(by decide:(0:Nat)≤maxLen),hy,(by decide:(-9223372036854775808:Int)≤0∧(0:Int)≤9223372036854775807),(by decide:(-9223372036854775808:Int)≤0∧(0:Int)≤9223372036854775807),(HR.out.far hsz (fun b o s e=>hbl b (by cases e;omega))),Reads.nil _,Reads.nil _,Reads.nil _⟩,hkp _ _ (Nat.le_refl _) KW.out,fun b o z e=>by cases e;omega⟩
theorem row_fresh {X:Type} {L:Lay X} {lx:List X} {q:Nat} {v:Value} {vs:List Value} {W:World} (hc:rowCells L lx=v::vs) (c:CellsN q (v::vs) W) (hf:∀x ∈ lx,L.fine x) (hm:lx.length≤maxLen):RowAt L W (some ⟨q,0,none⟩) lx.length lx :=
 ⟨rfl,hm,hf,.inr ⟨q,0,rfl,c.lt,fun i x j u hi hj=>by
  have:=rowCells_at L lx i x j u hi hj;rw[hc] at this;rw[Nat.zero_add];exact c.at_ _ u this⟩⟩
theorem nodes_row {w:World} {a:Option Addr} {len:Nat} {lx:List NX} (h:RowAt NodLay0 w a len lx) (hf:∀z ∈ lx,At3 w z):NodesAt w a len (lx.map fun z=>z.1):=by
 obtain⟨g0,g1,g2,g3⟩:=h;refine⟨by rw[List.length_map];exact g0,g1,g3.imp id ?_⟩;rintro ⟨b,off,rfl,hb,hc⟩;refine⟨b,off,rfl,hb,fun i n hi=>?_⟩;rw[List.getElem?_map] at hi;obtain⟨z,hz,rfl⟩:=Option.map_eq_some_iff.1 hi;exact⟨_,_,_,_,_,_,_,_,_,hc i z 0 _ hz rfl,hc i z 1 _ hz rfl,hc i z 2 _ hz rfl,hc i z 3 _ hz rfl,hc i z 4 _ hz rfl,hf z (List.mem_of_getElem? hz)⟩
theorem pods_row {w:World} {a:Option Addr} {len:Nat} {lx:List PX} (h:RowAt PodLay0 w a len lx) (hf:∀z ∈ lx,At4 w z):PodsAt w a len (lx.map fun z=>z.1):=by
 obtain⟨g0,g1,g2,g3⟩:=h;refine⟨by rw[List.length_map];exact g0,g1,g3.imp id ?_⟩;rintro ⟨b,off,rfl,hb,hc⟩;refine⟨b,off,rfl,hb,fun i n hi=>?_⟩;rw[List.getElem?_map] at hi;obtain⟨z,hz,rfl⟩:=Option.map_eq_some_iff.1 hi;exact⟨_,_,_,_,hc i z 0 _ hz rfl,hc i z 1 _ hz rfl,hc i z 2 _ hz rfl,hc i z 3 _ hz rfl,hc i z 4 _ hz rfl,hc i z 5 _ hz rfl,hc i z 6 _ hz rfl,hc i z 7 _ hz rfl,hc i z 8 _ hz rfl,hc i z 9 _ hz rfl,hc i z 10 _ hz rfl,hf z (List.mem_of_getElem? hz)⟩
theorem buds_none (w:World):BudsAt w none 0 []:=⟨rfl,by decide,.inl rfl⟩
theorem lawP_any (x:ByteArray) (c:Int) (y:ByteArray) (hc:-9223372036854775808≤c∧c≤9223372036854775807) (hx:x.size≤maxLen) (hy:y.size≤maxLen) (w:World) :
 Calls Tryz.prog 10 #[.string x,.int .i64 c,.string y] w fun e w'=>∃b1 n1 d1,e=.returned (.agg #[.string x,.string ⟨#[]⟩,.int .i64 0,.slice b1 n1 d1,.slice none 0 0,.slice none 0 0,.slice none 0 0,.string ⟨#[]⟩,.int .i64 0,.string y,.bool false])∧PodAt w' (.slice b1 n1 d1) (.slice none 0 0) (.slice none 0 0) (.slice none 0 0) (podK x c y)∧Kept w w' :=
 (lawP_far x c y hc hx hy w).mono fun e w' ⟨b,n,d,h1,h2,h3,_⟩=>⟨b,n,d,h1,h2,h3⟩
def AllSl (W:World) (q:Nat):Prop:=∀i u,W.cell? ⟨q,i,none⟩=some u→∃a n c,u=.slice a n c
theorem all_sl {W:World} {q:Nat} {a1 a2 a3:Option Addr} {m1 c1 m2 c2 m3 c3:Nat} {T:TypeId} {fr:Nat×Nat} (hh:W.heap[q]?=some (.cells #[.slice a1 m1 c1,.slice a2 m2 c2,.slice a3 m3 c3] T fr)):AllSl W q:=by
 intro i u h;rw[Lib.cell_of_heap hh] at h
 match i,h with
 | 0,h=>cases h;exact⟨_,_,_,rfl⟩
 | 1,h=>cases h;exact⟨_,_,_,rfl⟩
 | 2,h=>cases h;exact⟨_,_,_,rfl⟩
 | i+3,h=>simp at h
theorem AllSl.noRow {W:World} {q:Nat} (h:AllSl W q):NoRow W q:=fun o x u h1 _=>by
 obtain⟨_,_,_,e⟩:=h _ _ h1
 cases e
theorem row_past {α:Type} {L:Lay α} {w w':World} {a:Option Addr} {len:Nat} {l:List α} {N:Nat} (hL:∀x,∃u,(L.cs x)[0]?=some u∧∀a n c,u≠.slice a n c) (h:RowAt L w a len l) (hs:w'.heap.size=w.heap.size) (hb:∀b,b≠N→w'.heap[b]?=w.heap[b]?) (hn:AllSl w N):RowAt L w' a len l:=by
 obtain⟨h3,h4,h5,h6⟩:=h;refine⟨h3,h4,h5,?_⟩;rcases h6 with h6 | ⟨b,off,rfl,hlt,hc⟩
 · exact .inl h6
 · cases l with
   | nil=>exact .inl h3.symm
   | cons x t =>
    have hne:b≠N:=by
     rintro rfl;obtain⟨u,g0,g1⟩:=hL x;obtain⟨_,_,_,e⟩:=hn _ _ (hc 0 x 0 _ rfl g0);exact g1 _ _ _ e
    exact .inr ⟨b,off,rfl,by rw[hs];exact hlt,fun i x j u hi hj=>(World.cell?_of_block (a:=⟨b,off+i*L.m+j,none⟩) (hb b hne)).trans (hc i x j u hi hj)⟩
theorem reads_pastS {α:Type} {L:Lay α} {w w':World} {v:Value} {l:List α} {N:Nat} (hL:∀x,∃u,(L.cs x)[0]?=some u∧∀a n c,u≠.slice a n c) (h:Reads L w v l) (hs:w'.heap.size=w.heap.size) (hb:∀b,b≠N→w'.heap[b]?=w.heap[b]?) (hn:AllSl w N):Reads L w' v l:=by
 obtain⟨a,cap,rfl,h1,h2,h3⟩:=h;exact⟨a,cap,rfl,h1,h2,row_past hL h3 hs hb hn⟩
theorem fst_P (x:ByteArray×ByteArray):∃u,(PairLay.cs x)[0]?=some u∧∀a n c,u≠.slice a n c:=⟨_,rfl,fun _ _ _ e=>by cases e⟩
theorem fst_A (x:NT):∃u,(TaLay.cs x)[0]?=some u∧∀a n c,u≠.slice a n c:=⟨_,rfl,fun _ _ _ e=>by cases e⟩
theorem fst_T (x:Int×ByteArray×ByteArray):∃u,(TermLay.cs x)[0]?=some u∧∀a n c,u≠.slice a n c:=⟨_,rfl,fun _ _ _ e=>by cases e⟩
theorem fst_N (x:NX):∃u,(NodLay0.cs x)[0]?=some u∧∀a n c,u≠.slice a n c:=⟨_,rfl,fun _ _ _ e=>by cases e⟩
theorem fst_Pd (x:PX):∃u,(PodLay0.cs x)[0]?=some u∧∀a n c,u≠.slice a n c:=⟨_,rfl,fun _ _ _ e=>by cases e⟩
theorem fst_B (x:BX):∃u,(BudLay0.cs x)[0]?=some u∧∀a n c,u≠.slice a n c:=⟨_,rfl,fun _ _ _ e=>by cases e⟩
theorem buds_row {w:World} {a:Option Addr} {len:Nat} {lx:List BX} (h:RowAt BudLay0 w a len lx) (hf:∀z ∈ lx,At1 w z):BudsAt w a len (lx.map fun z=>z.1):=by
 obtain⟨g0,g1,g2,g3⟩:=h;refine⟨by rw[List.length_map];exact g0,g1,g3.imp id ?_⟩;rintro ⟨b,off,rfl,hb,hc⟩;refine⟨b,off,rfl,hb,fun i n hi=>?_⟩;rw[List.getElem?_map] at hi;obtain⟨z,hz,rfl⟩:=Option.map_eq_some_iff.1 hi;exact⟨_,hc i z 0 _ hz rfl,hc i z 1 _ hz rfl,hc i z 2 _ hz rfl,hf z (List.mem_of_getElem? hz)⟩
section
variable {w w':World} {N:Nat} (hs:w'.heap.size=w.heap.size) (hb:∀b,b≠N→w'.heap[b]?=w.heap[b]?) (hn:AllSl w N)
include hs hb hn
theorem nodes_pastS {v:Value} {l:List Nod} (h:NodesR w v l):NodesR w' v l:=by
 obtain⟨a,cap,rfl,h1,h2,h3⟩:=h;obtain⟨lx,hm,hr,hat⟩:=nrows_x h3;exact⟨a,cap,rfl,h1,h2,by rw[←hm];exact nodes_row (by rw[hm];exact row_past fst_N hr hs hb hn) fun z hz=>node_past (hat z hz) hs hb hn.noRow⟩
theorem pods_pastS {v:Value} {l:List Pd} (h:PodsR w v l):PodsR w' v l:=by
 obtain⟨a,cap,rfl,h1,h2,h3⟩:=h;obtain⟨lx,hm,hr,hat⟩:=prows_x h3;exact⟨a,cap,rfl,h1,h2,by
  rw[←hm];exact pods_row (by rw[hm];exact row_past fst_Pd hr hs hb hn) fun z hz=>by
   have g:=hat z hz;exact⟨g.name,g.owner,g.key,g.node,g.prio,g.most,vec_past g.need hs hb hn.noRow,reads_pastS fst_P g.labels hs hb hn,reads_pastS fst_T g.sel hs hb hn,reads_pastS fst_A g.tols hs hb hn⟩⟩
theorem buds_pastS {v:Value} {l:List Bd} (h:BudsR w v l):BudsR w' v l:=by
 obtain⟨a,cap,rfl,h1,h2,h3⟩:=h;obtain⟨lx,hm,hr,hat⟩:=brows_x h3;exact⟨a,cap,rfl,h1,h2,by
  rw[←hm];exact buds_row (by rw[hm];exact row_past fst_B hr hs hb hn) fun z hz=>by
   have g:=hat z hz;exact⟨g.name,g.floor,reads_pastS fst_T g.sel hs hb hn⟩⟩
theorem clu_pastS {v:Value} {s:Clu} (h:CluR w v s):CluR w' v s:=by
 obtain⟨v1,v2,v3,e,g⟩:=h;exact⟨v1,v2,v3,e,nodes_pastS hs hb hn g.nodes,pods_pastS hs hb hn g.pods,buds_pastS hs hb hn g.buds⟩
end
end Go.Proofs.YtmlgobiifebjkaaGreat
namespace Go.Proofs.YtmlgobiifebjkaaGreat
open Go.RowKit
theorem ofStR {v:Value} {s:Clu} {w:World} (h:CluR w v s) (hl:LowClu s) (e1:s.nodes.length≤1000) (e2:s.pods.length≤1000) (e3:s.buds.length≤1000):Calls Tryz.prog 7 #[v] w fun e w'=>∃v,e=.returned v∧CluR w' v s∧Kept w w':=by
 obtain⟨v1,v2,v3,rfl,⟨a,cap,rfl,l1,m1,h1⟩,⟨b,cp,rfl,l2,m2,h2⟩,⟨d,cb,rfl,l3,m3,h3⟩⟩:=h;obtain⟨nl,pl,bl⟩:=s;dsimp only at *;obtain⟨len,hlen⟩:∃q,nl.length=q:=⟨_,rfl⟩
 obtain⟨m,hm⟩:∃q,pl.length=q:=⟨_,rfl⟩
 obtain⟨n,hn⟩:∃q,bl.length=q:=⟨_,rfl⟩
 rw[hlen] at h1 l1;rw[hm] at h2 l2;rw[hn] at h3 l3;try rw[hlen]
 try rw[hm]
 try rw[hn]
 obtain⟨Z,hZ⟩:∃Z,(w.alloc (.cells #[.slice a len cap,.slice b m cp,.slice d n cb] 26)).alloc (.cells #[.slice none 0 0,.slice none 0 0,.slice none 0 0] 43)=Z:=⟨_,rfl⟩
 have hkz:Kept w Z:=by rw[←hZ];exact kept_two _ _ _
 have cc:=freshN w (.slice a len cap) [.slice b m cp,.slice d n cb] 26 Z (by rw[←hZ];exact kept_alloc _ _);have HH:=lH (show CellsN (w.heap.size+1) [.slice none 0 0,.slice none 0 0,.slice none 0 0] Z by
  have dd:=freshN (w.alloc (.cells #[.slice a len cap,.slice b m cp,.slice d n cb] 26)) (.slice none 0 0) [.slice none 0 0,.slice none 0 0] 43 Z (by rw[hZ];exact Kept.refl _);rw[World.size_alloc] at dd;exact dd)
 have HN:=lH (fun W (k:Kept Z W)=>ofAllR (nodes_at l1 m1 (h1.kept (hkz.trans k))) hl.nodes e1);have HP:=lH (fun W (k:Kept Z W)=>ofAllPR (pods_at l2 m2 (h2.kept (hkz.trans k))) hl.pods e2);have HB:=lH (fun W (k:Kept Z W)=>ofAllBR (buds_at l3 m3 (h3.kept (hkz.trans k))) hl.buds e3);have HKZ:=lH hkz;have HSL:=lH (show ∀W,Kept Z W→AllSl W (w.heap.size+1) from fun W k=>by
  have hh:Z.heap[w.heap.size+1]?=some (.cells #[.slice none 0 0,.slice none 0 0,.slice none 0 0] 43):=by
   have:=(w.alloc (.cells #[.slice a len cap,.slice b m cp,.slice d n cb] 26)).alloc_heap_new (.cells #[.slice none 0 0,.slice none 0 0,.slice none 0 0] 43);rw[World.size_alloc,hZ] at this;exact this
  exact all_sl ((k.block _ (Array.getElem?_eq_some_iff.1 hh).1).trans hh))
 have HS:=lH (show ∀W,Kept Z W→W.cell? ⟨w.heap.size,0,none⟩=some (.slice a len cap)∧W.cell? ⟨w.heap.size,1,none⟩=some (.slice b m cp)∧W.cell? ⟨w.heap.size,2,none⟩=some (.slice d n cb) from fun W k=>⟨(cc.kept k).at_ 0 _ rfl,(cc.kept k).at_ 1 _ rfl,(cc.kept k).at_ 2 _ rfl⟩);have HS2:=lH (show ∀U W:World,(∀b,b≠w.heap.size+1→U.heap[b]?=W.heap[b]?)→Kept Z W→U.cell? ⟨w.heap.size,0,none⟩=some (.slice a len cap)∧U.cell? ⟨w.heap.size,1,none⟩=some (.slice b m cp)∧U.cell? ⟨w.heap.size,2,none⟩=some (.slice d n cb) from fun U W e k=>by
  have c:=(cc.kept k).block (e _ (by omega));exact⟨c.at_ 0 _ rfl,c.at_ 1 _ rfl,c.at_ 2 _ rfl⟩)
 clear h1 h2 h3 l1 l2 l3 m1 m2 m3 hkz cc hl e1 e2 e3;go_enter Tryz.func7,Tryz.ntmps7;go_wp2_with fail
 try rw[hZ]
 clear hZ;refine wp_region_held_drew (S:=fun W=>W.cell? ⟨w.heap.size,0,none⟩=some (.slice a len cap)∧W.cell? ⟨w.heap.size,1,none⟩=some (.slice b m cp)∧W.cell? ⟨w.heap.size,2,none⟩=some (.slice d n cb)) (by kernel_rfl) (HS.out _ (Kept.drew _)) (fun hHeld=>?_);refine wpAnyH_take  (i:=0) (v:=?_) (by rw[List.getElem?_toArray];exact rfl) (by kernel_rfl) (by kernel_rfl) (by kernel_rfl) (by exact fun _ _ _ h=>h) (Or.inl ⟨by rfl,(by rintro W ⟨o0,o1,o2⟩;go_simp<;>with_reducible rfl)⟩) (by assumption) ?_;try simp only  [Act.put,List.setIfInBounds_toArray,List.set_cons_zero,List.set_cons_succ]
 refine wpAnyH_take  (i:=1) (v:=?_) (by rw[List.getElem?_toArray];exact rfl) (by kernel_rfl) (by kernel_rfl) (by kernel_rfl) (by exact fun _ _ _ h=>h) (Or.inl ⟨by rfl,(by rintro W ⟨o0,o1,o2⟩;go_simp<;>with_reducible rfl)⟩) (by assumption) ?_;try simp only  [Act.put,List.setIfInBounds_toArray,List.set_cons_zero,List.set_cons_succ]
 refine wpAnyH_take  (i:=3) (v:=?_) (by rw[List.getElem?_toArray];exact rfl) (by kernel_rfl) (by kernel_rfl) (by kernel_rfl) (by exact fun _ _ _ h=>h) (Or.inl ⟨by rfl,(by rintro W ⟨o0,o1,o2⟩;go_simp<;>with_reducible rfl)⟩) (by assumption) ?_;try simp only  [Act.put,List.setIfInBounds_toArray,List.set_cons_zero,List.set_cons_succ]
 refine wpAnyH_take  (i:=4) (v:=?_) (by rw[List.getElem?_toArray];exact rfl) (by kernel_rfl) (by kernel_rfl) (by kernel_rfl) (by exact fun _ _ _ h=>h) (Or.inl ⟨by rfl,(by rintro W ⟨o0,o1,o2⟩;go_simp<;>with_reducible rfl)⟩) (by assumption) ?_;try simp only  [Act.put,List.setIfInBounds_toArray,List.set_cons_zero,List.set_cons_succ]
 refine wpAnyH_take  (i:=6) (v:=?_) (by rw[List.getElem?_toArray];exact rfl) (by kernel_rfl) (by kernel_rfl) (by kernel_rfl) (by exact fun _ _ _ h=>h) (Or.inl ⟨by rfl,(by rintro W ⟨o0,o1,o2⟩;go_simp<;>with_reducible rfl)⟩) (by assumption) ?_;try simp only  [Act.put,List.setIfInBounds_toArray,List.set_cons_zero,List.set_cons_succ]
 refine wpAnyH_take  (i:=7) (v:=?_) (by rw[List.getElem?_toArray];exact rfl) (by kernel_rfl) (by kernel_rfl) (by kernel_rfl) (by exact fun _ _ _ h=>h) (Or.inl ⟨by rfl,(by rintro W ⟨o0,o1,o2⟩;go_simp<;>with_reducible rfl)⟩) (by assumption) ?_;try simp only  [Act.put,List.setIfInBounds_toArray,List.set_cons_zero,List.set_cons_succ]
 have J:=lH (Kept.drew Z);refine wpAnyH_ready  (rs:=[2]) (by kernel_rfl) (by simp) (AllReadyH.cons  (by rw[List.getElem?_toArray];exact rfl) (fun K9 hK9=>?_) AllReadyH.nil);go_simp;refine(HN.out _ J.out).mono ?_;rintro e1 w1 ⟨u1,rfl,hr,kk⟩;have J:=lH (J.out.trans kk);have hr2:=hr;obtain⟨x1,q1,rfl,-,-,-⟩:=hr2;rw[hlen] at hr;try rw[hlen]
 have RR1:=lH hr;clear hr kk;refine hK9.out _ _ (HS.out _ J.out) (fun hHeld1=>?_);clear hK9 K9;try simp only  [Act.put,List.setIfInBounds_toArray,List.set_cons_zero,List.set_cons_succ]
 refine wpAnyH_ready  (rs:=[5]) (by kernel_rfl) (by simp) (AllReadyH.cons  (by rw[List.getElem?_toArray];exact rfl) (fun K9 hK9=>?_) AllReadyH.nil);go_simp;refine(HP.out _ J.out).mono ?_;rintro e2 w2 ⟨u2,rfl,hr,kk⟩;have J:=lH (J.out.trans kk);have RR1:=lH (RR1.out.kept kk);have hr2:=hr;obtain⟨x2,q2,rfl,-,-,-⟩:=hr2;rw[hm] at hr;try rw[hm]
 have RR2:=lH hr;clear hr kk;refine hK9.out _ _ (HS.out _ J.out) (fun hHeld2=>?_);clear hK9 K9;try simp only  [Act.put,List.setIfInBounds_toArray,List.set_cons_zero,List.set_cons_succ]
 refine wpAnyH_ready  (rs:=[8]) (by kernel_rfl) (by simp) (AllReadyH.cons  (by rw[List.getElem?_toArray];exact rfl) (fun K9 hK9=>?_) AllReadyH.nil);go_simp;refine(HB.out _ J.out).mono ?_;rintro e3 w3 ⟨u3,rfl,hr,kk⟩;have J:=lH (J.out.trans kk);have RR1:=lH (RR1.out.kept kk);have RR2:=lH (RR2.out.kept kk);have hr2:=hr;obtain⟨x3,q3,rfl,-,-,-⟩:=hr2;rw[hn] at hr;try rw[hn]
 have RR3:=lH hr;clear hr kk;refine hK9.out _ _ (HS.out _ J.out) (fun hHeld3=>?_);clear hK9 K9;try simp only  [Act.put,List.setIfInBounds_toArray,List.set_cons_zero,List.set_cons_succ]
 refine wpAnyH_take  (i:=9) (v:=?_) (by rw[List.getElem?_toArray];exact rfl) (by kernel_rfl) (by kernel_rfl) (by kernel_rfl) (by exact fun _ _ _ h=>h) (Or.inl ⟨by rfl,(by rintro W ⟨o0,o1,o2⟩;go_simp<;>with_reducible rfl)⟩) (by assumption) ?_;try simp only  [Act.put,List.setIfInBounds_toArray,List.set_cons_zero,List.set_cons_succ]
 have H9:=lH (HH.out.kept J.out);have z0:=H9.out.at_ 0 _ rfl;have z1:=H9.out.at_ 1 _ rfl;have z2:=H9.out.at_ 2 _ rfl;have f0:=H9.out.free 0;have f1:=H9.out.free 1;have f2:=H9.out.free 2;have PP:=lH (putN (vs:=[.slice x1 len q1,.slice x2 m q2,.slice x3 n q3]) H9.out rfl);refine wpAnyH_ready  (rs:=[10]) (by kernel_rfl) (by simp) (AllReadyH.cons  (by rw[List.getElem?_toArray];exact rfl) (fun K9 hK9=>?_) AllReadyH.nil);go_simp;obtain⟨WE,hWE⟩:∃W,w3.setCells (w.heap.size+1) 0 [.slice x1 len q1,.slice x2 m q2,.slice x3 n q3]=W:=⟨_,rfl⟩
 have hWE2:(((w3.setCell ⟨(w.heap.size+1),0,none⟩ (.slice x1 len q1)).setCell ⟨(w.heap.size+1),1,none⟩ (.slice x2 m q2)).setCell ⟨(w.heap.size+1),2,none⟩ (.slice x3 n q3))=WE:=hWE;rw[hWE] at PP;try rw[hWE2]
 obtain⟨PC,hsz,hbl,hkp⟩:=PP.out;skip;refine hK9.out _ _ (HS2.out _ _ hbl J.out) (fun hHeldS=>?_);clear hK9 K9 z0 z1 z2 f0 f1 f2;try simp only  [Act.put,List.setIfInBounds_toArray,List.set_cons_zero,List.set_cons_succ]
 refine wpAnyH_done (by kernel_rfl) ?_ _;go_wp2;refine bodyPost_ret (by simp[results,Tryz.results7,go_sem,PC.at_ 0 _ rfl,PC.at_ 1 _ rfl,PC.at_ 2 _ rfl];try rfl) rfl ?_;have SL:=HSL.out _ J.out;exact⟨_,rfl,⟨_,_,_,rfl,nodes_pastS hsz hbl SL RR1.out,pods_pastS hsz hbl SL RR2.out,buds_pastS hsz hbl SL RR3.out⟩,hkp _ _ (Nat.le_succ _) (HKZ.out.trans J.out)⟩
end Go.Proofs.YtmlgobiifebjkaaGreat
namespace Go.Proofs.YtmlgobiifebjkaaGreat.Vec
open Go.RowKit
theorem refInfoT:(Tryz.prog.info? 71).map (fun i=>(i.zero,i.size,i.bytes))=some (some (.agg #[.string ByteArray.empty,.int .i64 0]),2,24):=by kernel_rfl
theorem of_ownT (a:Option Addr) (len cap:Nat) (l:V) (w:World) (hr:VecAt w a len l) (hlen:len≤1000000) :
 Calls Tryz.prog 56 #[.slice a len cap] w (fun e w'=>∃x,e=.returned x∧OwnV 71 w' w.heap.size x l∧Kept w w'):=by
 have hl:=hr.1;obtain⟨i0,hi,hz0,hz1,hz2⟩:=info_parts refInfoT;rcases hr.form with h0 | ⟨b,off,rfl⟩
 · subst h0;have hl0:l=[]:=List.eq_nil_of_length_eq_zero hl;subst hl0;clear hr hl hi hz0 hz1 hz2;go_enter Tryz.func56,Tryz.ntmps56;go_wp2;refine wp_loop_rounds 1 ?_;rw[rounds_succ];go_wp2;go_ret;exact⟨_,rfl,OwnV.nil _ _ _,Kept.refl _⟩
 · have HR:=lH hr;have HL:=lH hl;have HF:=lH hr.2.2.1;clear hr hl;go_enter Tryz.func56,Tryz.ntmps56;go_wp2;go_loopw [3,4] (fun v i wr=>∃k:Nat,k≤len∧i=.int .i64 k∧OwnV 71 wr w.heap.size v (l.take k)∧Below w.heap.size w wr) (fun _ i _=>len-(intOf i).toNat)
   case atStart=>exact⟨0,Nat.zero_le _,rfl,OwnV.nil _ _ _,Below.refl _ _⟩
   case round =>
    obtain⟨k,hk,rfl,ho,hB⟩:=hrel;have HO:=lH ho;have HB:=lH hB;have HT:=lH (show (l.take k).length=k by rw[List.length_take,HL.out];omega);have HOWN:=lH (show wr.ownsRow w.heap.size 71 2 u3 k (cellsOf (l.take k)) by have:=HO.out.1;rw[HT.out] at this;exact this);by_cases hlt:k<len
    · obtain⟨hb,c1,c2⟩:=(HR.out.kept hB).cells hlt;have HI:=lH (show k<l.length by rw[HL.out];exact hlt);have hbw:b<w.heap.size:=(HR.out.cells hlt).1;have hbase:w.heap.size≤wr.heap.size:=hB.size;have HNE:=lH (show u3.ownBlock≠some b by
       intro e;have:=(HOWN.out.lt b e).1;omega)
      have HBASE:=lH (show w.heap.size≤(wr.alloc (.cells #[.string (nm l k),.int .i64 (qn l k)] 71)).drew.heap.size by simp;omega);have HBD:=lH (show Below w.heap.size w ((wr.alloc (.cells #[.string (nm l k),.int .i64 (qn l k)] 71)).drew) from HB.out.trans (Below.mono ((kept_alloc wr _).trans (Kept.drewN _ 1)) hbase));have hk1:(k:Int)<(len:Int):=by omega
      have HFK:=lH (HF.out k HI.out);clear ho hB;go_wp2_with fail
      go_region_held3 (fun W=>W.cell? ⟨b,off+k*2,none⟩=some (.string (nm l k))∧W.cell? ⟨b,off+k*2+1,none⟩=some (.int .i64 (qn l k)))
       (first
         | go_keep
         | (go_split_ands
            refine⟨?_,?_⟩
            · (refine(hgrow.cell_far ⟨b,off+k*2,none⟩ (by simp;omega) (Ne.symm HNE.out)).trans ?_;assumption)
            · (refine(hgrow.cell_far ⟨b,off+k*2+1,none⟩ (by simp;omega) (Ne.symm HNE.out)).trans ?_;assumption)))
       ((refine step_append_lies _ (by rfl) _ _ _ (by rfl) w.heap.size 71 i0 _ 2 24 Tryz.underlying30 hi hz0 hz1 hz2 rfl (by decide) u3 k (cellsOf (l.take k)) (by rfl) ((HOWN.out.alloc _).drew)
          ⟨wr.heap.size,0,none⟩ 1 1 [.string (nm l k),.int .i64 (qn l k)] (by rfl) (by rfl) (World.news_of_block (cs:=#[.string (nm l k),.int .i64 (qn l k)]) (t:=71) (fr:=(0,0)) (heap_alloc_new wr _)) (cellsOf_one [(nm l k,qn l k)])
          (by decide) (by unfold maxLen;omega) (by omega) (by simp;omega) (wr.heap.size+1) (by simp) ?_;intro gg cap1 w1 hown1 hgrow hat hlt1))
      all_goals
       go_wp2;go_roundw
       case rel=>exact⟨k+1,by omega,by go_num,⟨by rw[take_next HI.out,cellsOf_append,List.length_append,HT.out];exact hown1,by rw[take_next HI.out];exact HO.out.2.snoc HFK.out.1 HFK.out.2.1 HFK.out.2.2⟩,HBD.out.grown hgrow HBASE.out (fun j hj=>(HOWN.out.lt j hj).1)⟩
       case measure=>simp[intOf];omega
    · have HK:=lH (show l.take k=l by rw[List.take_of_length_le (by rw[HL.out];omega)]);clear ho hB;go_wp2;go_ret;exact⟨_,rfl,by have h:=HO.out;rw[HK.out] at h;exact h,HB.out⟩
end Go.Proofs.YtmlgobiifebjkaaGreat.Vec
namespace Go.Proofs.YtmlgobiifebjkaaGreat
open Go.RowKit
theorem refInfoPT:(Tryz.prog.info? 143).map (fun i=>(i.zero,i.size,i.bytes))=some (some (.agg #[.string ByteArray.empty,.string ByteArray.empty]),2,32):=by kernel_rfl
theorem of_ownT (a:Option Addr) (len cap:Nat) (l:PL) (w:World) (hr:RowAt PairLay w a len l) (hlen:len≤1000000) :
 Calls Tryz.prog 57 #[.slice a len cap] w (fun e w'=>∃x,e=.returned x∧Own PairLay 143 w' w.heap.size x l∧Kept w w'):=by
 have hl:=hr.1;obtain⟨i0,hi,hz0,hz1,hz2'⟩:=info_parts refInfoPT;rcases hr.form with h0 | ⟨b,off,rfl⟩
 · subst h0;have hl0:l=[]:=List.eq_nil_of_length_eq_zero hl;subst hl0;clear hr hl hi hz0 hz1 hz2';go_enter Tryz.func57,Tryz.ntmps57;go_wp2;refine wp_loop_rounds 1 ?_;rw[rounds_succ];go_wp2;go_ret;exact⟨_,rfl,Own.nil _ _ _,Kept.refl _⟩
 · have HR:=lH hr;have HL:=lH hl;clear hr hl;go_enter Tryz.func57,Tryz.ntmps57;go_wp2;go_loopw [3,4] (fun v i wr=>∃k:Nat,k≤len∧i=.int .i64 k∧Own PairLay 143 wr w.heap.size v (l.take k)∧Below w.heap.size w wr) (fun _ i _=>len-(intOf i).toNat)
   case atStart=>exact⟨0,Nat.zero_le _,rfl,Own.nil _ _ _,Below.refl _ _⟩
   case round =>
    obtain⟨k,hk,rfl,ho,hB⟩:=hrel;have HO:=lH ho;have HB:=lH hB;have HT:=lH (show (l.take k).length=k by rw[List.length_take,HL.out];omega);have HOWN:=lH (show wr.ownsRow w.heap.size 143 2 u3 k (rowCells PairLay (l.take k)) by have:=HO.out.1;rw[HT.out] at this;exact this);by_cases hlt:k<len
    · obtain⟨x,y,hx,hd,hb,hz,hz2,c1,c2⟩:=(HR.out.kept hB).pair hlt;have HX:=lH hx;have hbw:b<w.heap.size:=by obtain⟨z,_,_,h,_⟩:=HR.out.cells hlt;exact h
      have hbase:w.heap.size≤wr.heap.size:=hB.size;have HNE:=lH (show u3.ownBlock≠some b by
       intro e;have:=(HOWN.out.lt b e).1;omega)
      have HBASE:=lH (show w.heap.size≤(wr.alloc (.cells #[.string x,.string y] 143)).drew.heap.size by simp;omega);have HBD:=lH (show Below w.heap.size w ((wr.alloc (.cells #[.string x,.string y] 143)).drew) from HB.out.trans (Below.mono ((kept_alloc wr _).trans (Kept.drewN _ 1)) hbase));have hk1:(k:Int)<(len:Int):=by omega
      have HFK:=lH (show PairLay.fine (x,y) from⟨hz,hz2⟩);clear ho hB hx hd hz hz2;go_wp2_with fail
      go_region_held3 (fun W=>W.cell? ⟨b,off+k*2,none⟩=some (.string x)∧W.cell? ⟨b,off+k*2+1,none⟩=some (.string y))
       (first
         | go_keep
         | (go_split_ands
            refine⟨?_,?_⟩
            · (refine(hgrow.cell_far ⟨b,off+k*2,none⟩ (by simp;omega) (Ne.symm HNE.out)).trans ?_;assumption)
            · (refine(hgrow.cell_far ⟨b,off+k*2+1,none⟩ (by simp;omega) (Ne.symm HNE.out)).trans ?_;assumption)))
       ((refine step_append_lies _ (by rfl) _ _ _ (by rfl) w.heap.size 143 i0 _ 2 32 Tryz.underlying32 hi hz0 hz1 hz2' rfl (by decide) u3 k (rowCells PairLay (l.take k)) (by rfl) ((HOWN.out.alloc _).drew)
          ⟨wr.heap.size,0,none⟩ 1 1 [.string x,.string y] (by rfl) (by rfl) (World.news_of_block (cs:=#[.string x,.string y]) (t:=143) (fr:=(0,0)) (heap_alloc_new wr _)) (one_ss x y)
          (by decide) (by unfold maxLen;omega) (by omega) (by simp;omega) (wr.heap.size+1) (by simp) ?_;intro gg cap1 w1 hown1 hgrow hat hlt1))
      all_goals
       go_wp2;go_roundw
       case rel=>exact⟨k+1,by omega,by go_num,by rw[take_snoc HX.out];exact Own.snoc hown1 (by rw[HT.out]) HO.out.2 HFK.out,HBD.out.grown hgrow HBASE.out (fun j hj=>(HOWN.out.lt j hj).1)⟩
       case measure=>simp[intOf];omega
    · have HK:=lH (show l.take k=l by rw[List.take_of_length_le (by rw[HL.out];omega)]);clear ho hB;go_wp2;go_ret;exact⟨_,rfl,by have h:=HO.out;rw[HK.out] at h;exact h,HB.out⟩
theorem refInfoTT:(Tryz.prog.info? 57).map (fun i=>(i.zero,i.size,i.bytes))=some (some (.agg #[.int .i64 0,.string ByteArray.empty,.string ByteArray.empty]),3,40):=by kernel_rfl
theorem ofSel_ownT (a:Option Addr) (len cap:Nat) (l:TL) (w:World) (hr:RowAt TermLay w a len l) (hlen:len≤1000000) :
 Calls Tryz.prog 59 #[.slice a len cap] w (fun e w'=>∃x,e=.returned x∧Own TermLay 57 w' w.heap.size x l∧Kept w w'):=by
 have hl:=hr.1;obtain⟨i0,hi,hz0,hz1,hz2'⟩:=info_parts refInfoTT;rcases hr.form with h0 | ⟨b,off,rfl⟩
 · subst h0;have hl0:l=[]:=List.eq_nil_of_length_eq_zero hl;subst hl0;clear hr hl hi hz0 hz1 hz2';go_enter Tryz.func59,Tryz.ntmps59;go_wp2;refine wp_loop_rounds 1 ?_;rw[rounds_succ];go_wp2;go_ret;exact⟨_,rfl,Own.nil _ _ _,Kept.refl _⟩
 · have HR:=lH hr;have HL:=lH hl;clear hr hl;go_enter Tryz.func59,Tryz.ntmps59;go_wp2;go_loopw [3,4] (fun v i wr=>∃k:Nat,k≤len∧i=.int .i64 k∧Own TermLay 57 wr w.heap.size v (l.take k)∧Below w.heap.size w wr) (fun _ i _=>len-(intOf i).toNat)
   case atStart=>exact⟨0,Nat.zero_le _,rfl,Own.nil _ _ _,Below.refl _ _⟩
   case round =>
    obtain⟨k,hk,rfl,ho,hB⟩:=hrel;have HO:=lH ho;have HB:=lH hB;have HT:=lH (show (l.take k).length=k by rw[List.length_take,HL.out];omega);have HOWN:=lH (show wr.ownsRow w.heap.size 57 3 u3 k (rowCells TermLay (l.take k)) by have:=HO.out.1;rw[HT.out] at this;exact this);by_cases hlt:k<len
    · obtain⟨o,x,y,hx,hd,hb,ho9,hz,hz2,c0,c1,c2⟩:=(HR.out.kept hB).term hlt;have HX:=lH hx;have hbw:b<w.heap.size:=by obtain⟨z,_,_,h,_⟩:=HR.out.cells hlt;exact h
      have hbase:w.heap.size≤wr.heap.size:=hB.size;have HNE:=lH (show u3.ownBlock≠some b by
       intro e;have:=(HOWN.out.lt b e).1;omega)
      have HBASE:=lH (show w.heap.size≤(wr.alloc (.cells #[.int .i64 o,.string x,.string y] 57)).drew.heap.size by simp;omega);have HBD:=lH (show Below w.heap.size w ((wr.alloc (.cells #[.int .i64 o,.string x,.string y] 57)).drew) from HB.out.trans (Below.mono ((kept_alloc wr _).trans (Kept.drewN _ 1)) hbase));have hk1:(k:Int)<(len:Int):=by omega
      have HFK:=lH (show TermLay.fine (o,x,y) from⟨ho9,hz,hz2⟩);clear ho hB hx hd hz hz2;go_wp2_with fail
      go_region_held3 (fun W=>W.cell? ⟨b,off+k*3,none⟩=some (.int .i64 o)∧W.cell? ⟨b,off+k*3+1,none⟩=some (.string x)∧W.cell? ⟨b,off+k*3+2,none⟩=some (.string y))
       (first
         | go_keep
         | (go_split_ands
            refine⟨?_,?_,?_⟩
            · (refine(hgrow.cell_far ⟨b,off+k*3,none⟩ (by simp;omega) (Ne.symm HNE.out)).trans ?_;assumption)
            · (refine(hgrow.cell_far ⟨b,off+k*3+1,none⟩ (by simp;omega) (Ne.symm HNE.out)).trans ?_;assumption)
            · (refine(hgrow.cell_far ⟨b,off+k*3+2,none⟩ (by simp;omega) (Ne.symm HNE.out)).trans ?_;assumption)))
       ((refine step_append_lies _ (by rfl) _ _ _ (by rfl) w.heap.size 57 i0 _ 3 40 Tryz.underlying34 hi hz0 hz1 hz2' rfl (by decide) u3 k (rowCells TermLay (l.take k)) (by rfl) ((HOWN.out.alloc _).drew)
          ⟨wr.heap.size,0,none⟩ 1 1 [.int .i64 o,.string x,.string y] (by rfl) (by rfl) (World.news_of_block (cs:=#[.int .i64 o,.string x,.string y]) (t:=57) (fr:=(0,0)) (heap_alloc_new wr _)) (one_iss o x y)
          (by decide) (by unfold maxLen;omega) (by omega) (by simp;omega) (wr.heap.size+1) (by simp) ?_;intro gg cap1 w1 hown1 hgrow hat hlt1))
      all_goals
       go_wp2;go_roundw
       case rel=>exact⟨k+1,by omega,by go_num,by rw[take_snoc HX.out];exact Own.snoc hown1 (by rw[HT.out]) HO.out.2 HFK.out,HBD.out.grown hgrow HBASE.out (fun j hj=>(HOWN.out.lt j hj).1)⟩
       case measure=>simp[intOf];omega
    · have HK:=lH (show l.take k=l by rw[List.take_of_length_le (by rw[HL.out];omega)]);clear ho hB;go_wp2;go_ret;exact⟨_,rfl,by have h:=HO.out;rw[HK.out] at h;exact h,HB.out⟩
theorem refInfoAT:(Tryz.prog.info? 54).map (fun i=>(i.zero,i.size,i.bytes))=some (some (.agg #[.string ByteArray.empty,.string ByteArray.empty,.bool false]),3,40):=by kernel_rfl
theorem ofA_ownT (a:Option Addr) (len cap:Nat) (l:NL) (w:World) (hr:RowAt TaLay w a len l) (hlen:len≤1000000) :
 Calls Tryz.prog 58 #[.slice a len cap] w (fun e w'=>∃x,e=.returned x∧Own TaLay 54 w' w.heap.size x l∧Kept w w'):=by
 have hl:=hr.1;obtain⟨i0,hi,hz0,hz1,hz2'⟩:=info_parts refInfoAT;rcases hr.form with h0 | ⟨b,off,rfl⟩
 · subst h0;have hl0:l=[]:=List.eq_nil_of_length_eq_zero hl;subst hl0;clear hr hl hi hz0 hz1 hz2';go_enter Tryz.func58,Tryz.ntmps58;go_wp2;refine wp_loop_rounds 1 ?_;rw[rounds_succ];go_wp2;go_ret;exact⟨_,rfl,Own.nil _ _ _,Kept.refl _⟩
 · have HR:=lH hr;have HL:=lH hl;clear hr hl;go_enter Tryz.func58,Tryz.ntmps58;go_wp2;go_loopw [3,4] (fun v i wr=>∃k:Nat,k≤len∧i=.int .i64 k∧Own TaLay 54 wr w.heap.size v (l.take k)∧Below w.heap.size w wr) (fun _ i _=>len-(intOf i).toNat)
   case atStart=>exact⟨0,Nat.zero_le _,rfl,Own.nil _ _ _,Below.refl _ _⟩
   case round =>
    obtain⟨k,hk,rfl,ho,hB⟩:=hrel;have HO:=lH ho;have HB:=lH hB;have HT:=lH (show (l.take k).length=k by rw[List.length_take,HL.out];omega);have HOWN:=lH (show wr.ownsRow w.heap.size 54 3 u3 k (rowCells TaLay (l.take k)) by have:=HO.out.1;rw[HT.out] at this;exact this);by_cases hlt:k<len
    · obtain⟨x,y,m,hx,hd,hb,hz,hz2,c0,c1,c2⟩:=(HR.out.kept hB).tri hlt;have HX:=lH hx;have hbw:b<w.heap.size:=by obtain⟨z,_,_,h,_⟩:=HR.out.cells hlt;exact h
      have hbase:w.heap.size≤wr.heap.size:=hB.size;have HNE:=lH (show u3.ownBlock≠some b by
       intro e;have:=(HOWN.out.lt b e).1;omega)
      have HBASE:=lH (show w.heap.size≤(wr.alloc (.cells #[.string x,.string y,.bool m] 54)).drew.heap.size by simp;omega);have HBD:=lH (show Below w.heap.size w ((wr.alloc (.cells #[.string x,.string y,.bool m] 54)).drew) from HB.out.trans (Below.mono ((kept_alloc wr _).trans (Kept.drewN _ 1)) hbase));have hk1:(k:Int)<(len:Int):=by omega
      have HFK:=lH (show TaLay.fine (x,y,m) from⟨hz,hz2⟩);clear ho hB hx hd hz hz2;go_wp2_with fail
      go_region_held3 (fun W=>W.cell? ⟨b,off+k*3,none⟩=some (.string x)∧W.cell? ⟨b,off+k*3+1,none⟩=some (.string y)∧W.cell? ⟨b,off+k*3+2,none⟩=some (.bool m))
       (first
         | go_keep
         | (go_split_ands
            refine⟨?_,?_,?_⟩
            · (refine(hgrow.cell_far ⟨b,off+k*3,none⟩ (by simp;omega) (Ne.symm HNE.out)).trans ?_;assumption)
            · (refine(hgrow.cell_far ⟨b,off+k*3+1,none⟩ (by simp;omega) (Ne.symm HNE.out)).trans ?_;assumption)
            · (refine(hgrow.cell_far ⟨b,off+k*3+2,none⟩ (by simp;omega) (Ne.symm HNE.out)).trans ?_;assumption)))
       ((refine step_append_lies _ (by rfl) _ _ _ (by rfl) w.heap.size 54 i0 _ 3 40 Tryz.underlying45 hi hz0 hz1 hz2' rfl (by decide) u3 k (rowCells TaLay (l.take k)) (by rfl) ((HOWN.out.alloc _).drew)
          ⟨wr.heap.size,0,none⟩ 1 1 [.string x,.string y,.bool m] (by rfl) (by rfl) (World.news_of_block (cs:=#[.string x,.string y,.bool m]) (t:=54) (fr:=(0,0)) (heap_alloc_new wr _)) (one_ssb x y m)
          (by decide) (by unfold maxLen;omega) (by omega) (by simp;omega) (wr.heap.size+1) (by simp) ?_;intro gg cap1 w1 hown1 hgrow hat hlt1))
      all_goals
       go_wp2;go_roundw
       case rel=>exact⟨k+1,by omega,by go_num,by rw[take_snoc HX.out];exact Own.snoc hown1 (by rw[HT.out]) HO.out.2 HFK.out,HBD.out.grown hgrow HBASE.out (fun j hj=>(HOWN.out.lt j hj).1)⟩
       case measure=>simp[intOf];omega
    · have HK:=lH (show l.take k=l by rw[List.take_of_length_le (by rw[HL.out];omega)]);clear ho hB;go_wp2;go_ret;exact⟨_,rfl,by have h:=HO.out;rw[HK.out] at h;exact h,HB.out⟩
theorem refInfoOT:(Tryz.prog.info? 145).map (fun i=>(i.zero,i.size,i.bytes))=some (some (.agg #[.string ByteArray.empty,.string ByteArray.empty,.bool false]),3,40):=by kernel_rfl
theorem ofO_ownT (a:Option Addr) (len cap:Nat) (l:NL) (w:World) (hr:RowAt TaLay w a len l) (hlen:len≤1000000) :
 Calls Tryz.prog 60 #[.slice a len cap] w (fun e w'=>∃x,e=.returned x∧Own TaLay 145 w' w.heap.size x l∧Kept w w'):=by
 have hl:=hr.1;obtain⟨i0,hi,hz0,hz1,hz2'⟩:=info_parts refInfoOT;rcases hr.form with h0 | ⟨b,off,rfl⟩
 · subst h0;have hl0:l=[]:=List.eq_nil_of_length_eq_zero hl;subst hl0;clear hr hl hi hz0 hz1 hz2';go_enter Tryz.func60,Tryz.ntmps60;go_wp2;refine wp_loop_rounds 1 ?_;rw[rounds_succ];go_wp2;go_ret;exact⟨_,rfl,Own.nil _ _ _,Kept.refl _⟩
 · have HR:=lH hr;have HL:=lH hl;clear hr hl;go_enter Tryz.func60,Tryz.ntmps60;go_wp2;go_loopw [3,4] (fun v i wr=>∃k:Nat,k≤len∧i=.int .i64 k∧Own TaLay 145 wr w.heap.size v (l.take k)∧Below w.heap.size w wr) (fun _ i _=>len-(intOf i).toNat)
   case atStart=>exact⟨0,Nat.zero_le _,rfl,Own.nil _ _ _,Below.refl _ _⟩
   case round =>
    obtain⟨k,hk,rfl,ho,hB⟩:=hrel;have HO:=lH ho;have HB:=lH hB;have HT:=lH (show (l.take k).length=k by rw[List.length_take,HL.out];omega);have HOWN:=lH (show wr.ownsRow w.heap.size 145 3 u3 k (rowCells TaLay (l.take k)) by have:=HO.out.1;rw[HT.out] at this;exact this);by_cases hlt:k<len
    · obtain⟨x,y,m,hx,hd,hb,hz,hz2,c0,c1,c2⟩:=(HR.out.kept hB).tri hlt;have HX:=lH hx;have hbw:b<w.heap.size:=by obtain⟨z,_,_,h,_⟩:=HR.out.cells hlt;exact h
      have hbase:w.heap.size≤wr.heap.size:=hB.size;have HNE:=lH (show u3.ownBlock≠some b by
       intro e;have:=(HOWN.out.lt b e).1;omega)
      have HBASE:=lH (show w.heap.size≤(wr.alloc (.cells #[.string x,.string y,.bool m] 145)).drew.heap.size by simp;omega);have HBD:=lH (show Below w.heap.size w ((wr.alloc (.cells #[.string x,.string y,.bool m] 145)).drew) from HB.out.trans (Below.mono ((kept_alloc wr _).trans (Kept.drewN _ 1)) hbase));have hk1:(k:Int)<(len:Int):=by omega
      have HFK:=lH (show TaLay.fine (x,y,m) from⟨hz,hz2⟩);clear ho hB hx hd hz hz2;go_wp2_with fail
      go_region_held3 (fun W=>W.cell? ⟨b,off+k*3,none⟩=some (.string x)∧W.cell? ⟨b,off+k*3+1,none⟩=some (.string y)∧W.cell? ⟨b,off+k*3+2,none⟩=some (.bool m))
       (first
         | go_keep
         | (go_split_ands
            refine⟨?_,?_,?_⟩
            · (refine(hgrow.cell_far ⟨b,off+k*3,none⟩ (by simp;omega) (Ne.symm HNE.out)).trans ?_;assumption)
            · (refine(hgrow.cell_far ⟨b,off+k*3+1,none⟩ (by simp;omega) (Ne.symm HNE.out)).trans ?_;assumption)
            · (refine(hgrow.cell_far ⟨b,off+k*3+2,none⟩ (by simp;omega) (Ne.symm HNE.out)).trans ?_;assumption)))
       ((refine step_append_lies _ (by rfl) _ _ _ (by rfl) w.heap.size 145 i0 _ 3 40 Tryz.underlying35 hi hz0 hz1 hz2' rfl (by decide) u3 k (rowCells TaLay (l.take k)) (by rfl) ((HOWN.out.alloc _).drew)
          ⟨wr.heap.size,0,none⟩ 1 1 [.string x,.string y,.bool m] (by rfl) (by rfl) (World.news_of_block (cs:=#[.string x,.string y,.bool m]) (t:=145) (fr:=(0,0)) (heap_alloc_new wr _)) (one_ssb x y m)
          (by decide) (by unfold maxLen;omega) (by omega) (by simp;omega) (wr.heap.size+1) (by simp) ?_;intro gg cap1 w1 hown1 hgrow hat hlt1))
      all_goals
       go_wp2;go_roundw
       case rel=>exact⟨k+1,by omega,by go_num,by rw[take_snoc HX.out];exact Own.snoc hown1 (by rw[HT.out]) HO.out.2 HFK.out,HBD.out.grown hgrow HBASE.out (fun j hj=>(HOWN.out.lt j hj).1)⟩
       case measure=>simp[intOf];omega
    · have HK:=lH (show l.take k=l by rw[List.take_of_length_le (by rw[HL.out];omega)]);clear ho hB;go_wp2;go_ret;exact⟨_,rfl,by have h:=HO.out;rw[HK.out] at h;exact h,HB.out⟩
theorem ofVOT {v:Value} {l:Vec.V} {w:World} (h:Vec.Reads w v l) (hf:l.length≤1000000) :
 Calls Tryz.prog 56 #[v] w (fun e w'=>∃x,e=.returned x∧Vec.OwnV 71 w' w.heap.size x l∧Kept w w'):=by
 obtain⟨a,cap,rfl,h1,h2,h3⟩:=h;exact Vec.of_ownT a _ cap l w h3 hf
theorem ofPOT {v:Value} {l:PL} {w:World} (h:Reads PairLay w v l) (hf:l.length≤1000000) :
 Calls Tryz.prog 57 #[v] w (fun e w'=>∃x,e=.returned x∧Own PairLay 143 w' w.heap.size x l∧Kept w w'):=by
 obtain⟨a,cap,rfl,h1,h2,h3⟩:=h;exact of_ownT a _ cap l w h3 hf
theorem ofAOT {v:Value} {l:NL} {w:World} (h:Reads TaLay w v l) (hf:l.length≤1000000) :
 Calls Tryz.prog 58 #[v] w (fun e w'=>∃x,e=.returned x∧Own TaLay 54 w' w.heap.size x l∧Kept w w'):=by
 obtain⟨a,cap,rfl,h1,h2,h3⟩:=h;exact ofA_ownT a _ cap l w h3 hf
theorem ofN_anyT (n:Nod) (v1 v2 v3:Value) (w:World) (h:NodAt w v1 v2 v3 n) (hl:LowNod n) :
 Calls Tryz.prog 34 #[NodV n v1 v2 v3] w fun e w'=>∃z:NX,e=.returned (aggN z)∧z.1=n∧At3 w' z∧Within w.heap.size w'.heap.size z∧Kept w w':=by
 obtain⟨W0,hW0⟩:∃W0,(w.alloc (.cells #[.string n.name,v1,v2,v3,.bool n.cordon] 86)).alloc (.cells #[.string ⟨#[]⟩,.slice none 0 0,.slice none 0 0,.slice none 0 0,.bool false] 47)=W0:=⟨_,rfl⟩
 have hk0:Kept w W0:=by rw[←hW0];exact kept_two _ _ _
 have HB:=lH (show ∀W,Kept W0 W→W.cell? ⟨w.heap.size,0,none⟩=some (.string n.name)∧W.cell? ⟨w.heap.size,1,none⟩=some v1∧W.cell? ⟨w.heap.size,2,none⟩=some v2∧W.cell? ⟨w.heap.size,3,none⟩=some v3∧W.cell? ⟨w.heap.size,4,none⟩=some (.bool n.cordon) from fun W k=>(fresh5 w _ _ _ _ _ 86 W ((by rw[←hW0];exact kept_alloc _ _:Kept (w.alloc (.cells #[.string n.name,v1,v2,v3,.bool n.cordon] 86)) W0).trans k)).1);have HQ:=lH (show ∀W,Kept W0 W→Cells5 (w.heap.size+1) (.string ⟨#[]⟩) (.slice none 0 0) (.slice none 0 0) (.slice none 0 0) (.bool false) W from fun W k=>by
  have:=fresh5 (w.alloc (.cells #[.string n.name,v1,v2,v3,.bool n.cordon] 86)) (.string ⟨#[]⟩) (.slice none 0 0) (.slice none 0 0) (.slice none 0 0) (.bool false) 47 W (by rw[hW0];exact k);rw[World.size_alloc] at this;exact this)
 have HH:=lH (show W0.heap[w.heap.size+1]?=some (.cells #[.string ⟨#[]⟩,.slice none 0 0,.slice none 0 0,.slice none 0 0,.bool false] 47) by
  have:=(w.alloc (.cells #[.string n.name,v1,v2,v3,.bool n.cordon] 86)).alloc_heap_new (.cells #[.string ⟨#[]⟩,.slice none 0 0,.slice none 0 0,.slice none 0 0,.bool false] 47);rw[hW0,World.size_alloc] at this;exact this)
 have H1:=lH (fun W (k:Kept W0 W)=>(ofVOT (h.cap.kept (hk0.trans k)) hl.cap).mono fun _ _=>vec_spelt);have H2:=lH (fun W (k:Kept W0 W)=>(ofPOT (h.labels.kept (hk0.trans k)) hl.labels).mono fun _ _=>row_spelt);have H3:=lH (fun W (k:Kept W0 W)=>(ofAOT (h.taints.kept (hk0.trans k)) hl.taints).mono fun _ _=>row_spelt);have HSZ:=lH h.size;have HK0:=lH hk0;obtain⟨⟨nm,l1,l2,l3,cd⟩,hnn⟩:∃m,m=n:=⟨n,rfl⟩
 subst hnn;dsimp only at H1 H2 H3 HSZ HB hW0;obtain⟨b0,b1,b2,b3,b4⟩:=HB.out _ (Kept.refl _);clear h hl hk0;unfold NodV;dsimp only;go_enter Tryz.func34,Tryz.ntmps34;go_wp2;try rw[hW0]
 clear hW0;go_region_held3 (fun W=>(W.cell? ⟨w.heap.size,0,none⟩=some (.string nm)∧W.cell? ⟨w.heap.size,1,none⟩=some v1∧W.cell? ⟨w.heap.size,2,none⟩=some v2∧W.cell? ⟨w.heap.size,3,none⟩=some v3∧W.cell? ⟨w.heap.size,4,none⟩=some (.bool cd)))
  (first | exact HB.out _ (Kept.drew _) | exact HB.out _ K1.out | exact HB.out _ K2.out | exact HB.out _ K3.out | exact five_past (HB.out _ K3.out) (by omega))
  (first | (go_at_call 56;refine(H1.out _ (Kept.drew _)).mono ?_;rintro e1 w1 ⟨a1,m1,c1,rfl,r1,g1,k1⟩;have G1:=lH (show ∀b off sp,a1=some ⟨b,off,sp⟩→w.heap.size≤b∧b<w1.heap.size from fun b o s e=>⟨Nat.le_trans HK0.out.size (g1 b o s e).1,(g1 b o s e).2⟩);have K1:=lH ((Kept.drew _).trans k1);have R1:=lH r1;clear k1 r1 g1)
         | (go_at_call 57;refine(H2.out _ K1.out).mono ?_;rintro e2 w2 ⟨a2,m2,c2,rfl,r2,g2,k2⟩;have G2:=lH (show ∀b off sp,a2=some ⟨b,off,sp⟩→w.heap.size≤b∧b<w2.heap.size from fun b o s e=>⟨Nat.le_trans HK0.out.size (Nat.le_trans K1.out.size (g2 b o s e).1),(g2 b o s e).2⟩);have G1:=lH (show ∀b off sp,a1=some ⟨b,off,sp⟩→w.heap.size≤b∧b<w2.heap.size from fun b o s e=>⟨(G1.out b o s e).1,Nat.lt_of_lt_of_le (G1.out b o s e).2 k2.size⟩);have R1:=lH (R1.out.kept k2);have K2:=lH (K1.out.trans k2);have R2:=lH r2;clear k2 r2 g2)
         | (go_at_call 58;refine(H3.out _ K2.out).mono ?_;rintro e3 w3 ⟨a3,m3,c3,rfl,r3,g3,k3⟩;have G3:=lH (show ∀b off sp,a3=some ⟨b,off,sp⟩→w.heap.size≤b∧b<w3.heap.size from fun b o s e=>⟨Nat.le_trans HK0.out.size (Nat.le_trans K2.out.size (g3 b o s e).1),(g3 b o s e).2⟩);have G1:=lH (show ∀b off sp,a1=some ⟨b,off,sp⟩→w.heap.size≤b∧b<w3.heap.size from fun b o s e=>⟨(G1.out b o s e).1,Nat.lt_of_lt_of_le (G1.out b o s e).2 k3.size⟩);have G2:=lH (show ∀b off sp,a2=some ⟨b,off,sp⟩→w.heap.size≤b∧b<w3.heap.size from fun b o s e=>⟨(G2.out b o s e).1,Nat.lt_of_lt_of_le (G2.out b o s e).2 k3.size⟩);have R1:=lH (R1.out.kept k3);have R2:=lH (R2.out.kept k3);have K3:=lH (K2.out.trans k3);have R3:=lH r3;clear k3 r3 g3;obtain⟨⟨y0,y1,y2,y3,y4⟩,x0,x1,x2,x3,x4⟩:=HQ.out _ K3.out))
 have P:=lH (put_at ⟨y0,y1,y2,y3,y4⟩ nm a1 a2 a3 m1 c1 m2 c2 m3 c3 cd);have HZ:=lH ((K3.out.block (w.heap.size+1) (Array.getElem?_eq_some_iff.1 HH.out).1).trans HH.out);go_wp2;obtain⟨WE,hWE⟩:∃W,(((((w3.setCell ⟨w.heap.size+1,0,none⟩ (.string nm)).setCell ⟨w.heap.size+1,1,none⟩ (.slice a1 m1 c1)).setCell ⟨w.heap.size+1,2,none⟩ (.slice a2 m2 c2)).setCell ⟨w.heap.size+1,3,none⟩ (.slice a3 m3 c3)).setCell ⟨w.heap.size+1,4,none⟩ (.bool cd))=W:=⟨_,rfl⟩
 rw[hWE] at P ⊢;clear hWE y0 y1 y2 y3 y4 x0 x1 x2 x3 x4;obtain⟨⟨d0,d1,d2,d3,d4⟩,hsz,hbl,hkp⟩:=P.out;refine bodyPost_ret (by simp[results,Tryz.results34,go_sem,d0,d1,d2,d3,d4];try rfl) rfl ?_;exact⟨(⟨nm,l1,l2,l3,cd⟩,(a1,m1,c1),(a2,m2,c2),(a3,m3,c3)),rfl,rfl,node_past (n:=⟨nm,l1,l2,l3,cd⟩) ⟨HSZ.out,R1.out,R2.out,R3.out⟩ hsz hbl (no_row HZ.out),⟨fun b o s e=>by rw[hsz];exact G1.out b o s e,fun b o s e=>by rw[hsz];exact G2.out b o s e,fun b o s e=>by rw[hsz];exact G3.out b o s e⟩,hkp _ _ (Nat.le_succ _) (HK0.out.trans K3.out)⟩
theorem infoRT:(Tryz.prog.info? 47).map (fun i=>(i.zero,i.size,i.bytes))=some (some (.agg #[.string ByteArray.empty,.slice none 0 0,.slice none 0 0,.slice none 0 0,.bool false]),5,96):=by kernel_rfl
def FreshN (base:Nat) (w:World) (v:Value) (l:List Nod):Prop:=∃lx:List NX,Own NodLay0 47 w base v lx∧FarN w v lx∧(lx.map fun z=>z.1)=l
theorem ofAll_ownT (a:Option Addr) (len cap:Nat) (l:List Nod) (w:World) (hr:NodesAt w a len l) (hlow:∀n ∈ l,LowNod n) (hlen:len≤1000) :
 Calls Tryz.prog 16 #[.slice a len cap] w fun e w'=>∃v,e=.returned v∧FreshN w.heap.size w' v l∧Kept w w':=by
 have hl:=hr.1;have HLOW:=lH hlow;obtain⟨i0,hi,hz0,hz1,hz2'⟩:=info_parts infoRT;rcases hr.form with h0 | ⟨b,off,rfl⟩
 · subst h0;have hl0:l=[]:=List.eq_nil_of_length_eq_zero hl;subst hl0;clear hr hl hi hz0 hz1 hz2' hlow;go_enter Tryz.func16,Tryz.ntmps16;go_wp2;refine wp_loop_rounds 1 ?_;rw[rounds_succ];go_wp2;go_ret;exact⟨_,rfl,⟨[],Own.nil _ _ _,(fun z h=>by cases h),rfl⟩,Kept.refl _⟩
 · have HR:=lH hr;have HL:=lH hl;clear hr hl hlow;go_enter Tryz.func16,Tryz.ntmps16;go_wp2;go_loopw [3,4] (fun v i wr=>∃k:Nat,k≤len∧i=.int .i64 k∧∃lx:List NX,(lx.map fun z=>z.1)=l.take k∧Own NodLay0 47 wr w.heap.size v lx∧FarN wr v lx∧Below w.heap.size w wr) (fun _ i _=>len-(intOf i).toNat)
   case atStart=>exact⟨0,Nat.zero_le _,rfl,[],rfl,Own.nil _ _ _,(fun z h=>by cases h),Below.refl _ _⟩
   case round =>
    obtain⟨k,hk,rfl,lx,hlx,ho,hv,hB⟩:=hrel;have HX:=lH hlx;have HO:=lH ho;have HV:=lH hv;have HB:=lH hB;have HT:=lH (show lx.length=k by have:=congrArg List.length hlx;rw[List.length_map,List.length_take,HL.out] at this;omega);have HOWN:=lH (show wr.ownsRow w.heap.size 47 5 u3 k (rowCells NodLay0 lx) by have:=HO.out.1;rw[HT.out] at this;exact this);have hbase:w.heap.size≤wr.heap.size:=hB.size;by_cases hlt:k<len
    · obtain⟨n,a1,m1,c1,a2,m2,c2,a3,m3,c3,hn,hd,hb,p0,p1,p2,p3,p4,hat⟩:=(HR.out.kept hB).at_ hlt;have HN:=lH hn;have HOF:=lH (ofN_anyT n (.slice a1 m1 c1) (.slice a2 m2 c2) (.slice a3 m3 c3) wr hat (HLOW.out n (List.mem_of_getElem? hn)));have hk1:(k:Int)<(len:Int):=by omega
      clear hlx ho hv hB hn hd hat;go_wp2_with fail
      refine HOF.out.mono ?_;rintro e w1 ⟨z,rfl,hz,h3,hwi,kk⟩;have HZ:=lH hz;have H3:=lH h3;have HW:=lH hwi;have KK:=lH kk;have hs1:wr.heap.size≤w1.heap.size:=kk.size;have HOW2:=lH (show w1.ownsRow w.heap.size 47 5 u3 k (rowCells NodLay0 lx) by have:=(HO.out.kept kk).1;rw[HT.out] at this;exact this);clear hz h3 hwi kk;go_wp2_with (at_builtin;refine wpList_append_lies _ rfl _ _ _ rfl w.heap.size 47 i0 _ 5 96 Tryz.underlying22 hi hz0 hz1 hz2' rfl (by decide) u3 k (rowCells NodLay0 lx) rfl (HOW2.out.alloc _) ⟨w1.heap.size,0,none⟩ 1 1 (NodLay0.cs z) rfl rfl (World.news_of_block (cs:=#[.string z.1.name,slV z.2.1,slV z.2.2.1,slV z.2.2.2,.bool z.1.cordon]) (t:=47) (fr:=(0,0)) (heap_alloc_new w1 _)) (one_node0 z) (by decide) (by unfold maxLen;omega) (by omega) (by simp;omega) (w1.heap.size+1) (by simp) ?_;intro gg cap1 w2 hown1 hgrow hat hlt1)
      have HFAR:=lH (far_grow (n:=k+1) (cap:=cap1) HV.out KK.out H3.out HW.out (fun g h=>(HOWN.out.lt g h).2) hgrow hat);have HBW:=lH ((HB.out.trans ((Below.mono KK.out hbase).trans (Below.mono (kept_alloc w1 _) (by omega)))).grown hgrow (by simp;omega) (fun j hj=>(HOWN.out.lt j hj).1));go_wp2;go_roundw
      case rel=>exact⟨k+1,by omega,by go_num,lx++[z],by rw[List.map_append,HX.out,take_snoc HN.out,←HZ.out];rfl,Own.snoc hown1 (by rw[HT.out]) HO.out.2 trivial,HFAR.out,HBW.out⟩
      case measure=>simp[intOf];omega
    · have HK:=lH (show l.take k=l by rw[List.take_of_length_le (by rw[HL.out];omega)]);have HRES:=lH (show FreshN w.heap.size wr u3 l from⟨lx,HO.out,HV.out,by rw[HX.out,HK.out]⟩);clear hlx ho hv hB;go_wp2;go_ret;exact⟨_,rfl,HRES.out,HB.out⟩
theorem ofLOT {v:Value} {l:TL} {w:World} (h:Reads TermLay w v l) (hf:l.length≤1000000) :
 Calls Tryz.prog 59 #[v] w (fun e w'=>∃x,e=.returned x∧Own TermLay 57 w' w.heap.size x l∧Kept w w'):=by
 obtain⟨a,cap,rfl,h1,h2,h3⟩:=h;exact ofSel_ownT a _ cap l w h3 hf
theorem ofOOT {v:Value} {l:NL} {w:World} (h:Reads TaLay w v l) (hf:l.length≤1000000) :
 Calls Tryz.prog 60 #[v] w (fun e w'=>∃x,e=.returned x∧Own TaLay 145 w' w.heap.size x l∧Kept w w'):=by
 obtain⟨a,cap,rfl,h1,h2,h3⟩:=h;exact ofO_ownT a _ cap l w h3 hf
theorem ofP_anyT (n:Pd) (v1 v2 v3 v4:Value) (w:World) (h:PodAt w v1 v2 v3 v4 n) (hl:LowPd n) :
 Calls Tryz.prog 35 #[PodV n v1 v2 v3 v4] w fun e w'=>∃z:PX,e=.returned (aggP z)∧z.1=n∧At4 w' z∧Within4 w.heap.size w'.heap.size z∧Kept w w':=by
 have HH:=lH h;have E1:=lH (fun W (k:Kept w W)=>(ofVOT (h.need.kept k) hl.need).mono fun _ _=>vec_spelt);have E2:=lH (fun W (k:Kept w W)=>(ofPOT (h.labels.kept k) hl.labels).mono fun _ _=>row_spelt);have E3:=lH (fun W (k:Kept w W)=>(ofLOT (h.sel.kept k) hl.sel).mono fun _ _=>row_spelt);have E4:=lH (fun W (k:Kept w W)=>(ofOOT (h.tols.kept k) hl.tols).mono fun _ _=>row_spelt);obtain⟨⟨x0,x1,x2,l1,l2,l3,l4,x3,x4,x5,x6⟩,hnn⟩:∃m,m=n:=⟨n,rfl⟩
 subst hnn;dsimp only at E1 E2 E3 E4;obtain⟨Y,hY⟩:∃Y,w.alloc (.cells #[.string x0,.string x1,.int .i64 x2,v1,v2,v3,v4,.string x3,.int .i64 x4,.string x5,.bool x6] 83)=Y:=⟨_,rfl⟩
 obtain⟨W0,hW0⟩:∃Z,(w.alloc (.cells #[.string x0,.string x1,.int .i64 x2,v1,v2,v3,v4,.string x3,.int .i64 x4,.string x5,.bool x6] 83)).alloc (.cells #[.string ⟨#[]⟩,.string ⟨#[]⟩,.int .i64 0,.slice none 0 0,.slice none 0 0,.slice none 0 0,.slice none 0 0,.string ⟨#[]⟩,.int .i64 0,.string ⟨#[]⟩,.bool false] 37)=Z:=⟨_,rfl⟩
 have hk0:Kept w W0:=by rw[←hW0];exact kept_two _ _ _
 have hzs:W0.heap.size=w.heap.size+2:=by rw[←hW0];simp
 have HB:=lH (show ∀W,Kept W0 W→W.cell? ⟨w.heap.size,0,none⟩=some (.string x0)∧W.cell? ⟨w.heap.size,1,none⟩=some (.string x1)∧W.cell? ⟨w.heap.size,2,none⟩=some (.int .i64 x2)∧W.cell? ⟨w.heap.size,3,none⟩=some (v1)∧W.cell? ⟨w.heap.size,4,none⟩=some (v2)∧W.cell? ⟨w.heap.size,5,none⟩=some (v3)∧W.cell? ⟨w.heap.size,6,none⟩=some (v4)∧W.cell? ⟨w.heap.size,7,none⟩=some (.string x3)∧W.cell? ⟨w.heap.size,8,none⟩=some (.int .i64 x4)∧W.cell? ⟨w.heap.size,9,none⟩=some (.string x5)∧W.cell? ⟨w.heap.size,10,none⟩=some (.bool x6) from fun W k=>by
  have:=freshN w (.string x0) [.string x1,.int .i64 x2,v1,v2,v3,v4,.string x3,.int .i64 x4,.string x5,.bool x6] 83 W ((by rw[←hW0];exact kept_alloc _ _:Kept (w.alloc (.cells #[.string x0,.string x1,.int .i64 x2,v1,v2,v3,v4,.string x3,.int .i64 x4,.string x5,.bool x6] 83)) W0).trans k);exact⟨this.at_ 0 _ rfl,this.at_ 1 _ rfl,this.at_ 2 _ rfl,this.at_ 3 _ rfl,this.at_ 4 _ rfl,this.at_ 5 _ rfl,this.at_ 6 _ rfl,this.at_ 7 _ rfl,this.at_ 8 _ rfl,this.at_ 9 _ rfl,this.at_ 10 _ rfl⟩)
 have HQ:=lH (show ∀W,Kept W0 W→CellsN (w.heap.size+1) [.string ⟨#[]⟩,.string ⟨#[]⟩,.int .i64 0,.slice none 0 0,.slice none 0 0,.slice none 0 0,.slice none 0 0,.string ⟨#[]⟩,.int .i64 0,.string ⟨#[]⟩,.bool false] W from fun W k=>by
  have:=freshN (w.alloc (.cells #[.string x0,.string x1,.int .i64 x2,v1,v2,v3,v4,.string x3,.int .i64 x4,.string x5,.bool x6] 83)) (.string ⟨#[]⟩) [.string ⟨#[]⟩,.int .i64 0,.slice none 0 0,.slice none 0 0,.slice none 0 0,.slice none 0 0,.string ⟨#[]⟩,.int .i64 0,.string ⟨#[]⟩,.bool false] 37 W (by rw[hW0];exact k);rw[World.size_alloc] at this;exact this)
 have HZ:=lH hzs;have HK0:=lH hk0;obtain⟨b0,b1,b2,b3,b4,b5,b6,b7,b8,b9,b10⟩:=HB.out _ (Kept.refl _);clear h hl hk0 hzs hY Y;unfold PodV;dsimp only;go_enter Tryz.func35,Tryz.ntmps35;go_wp2;try rw[hW0]
 clear hW0;refine wp_region_held_drew (S:=fun W=>W.cell? ⟨w.heap.size,0,none⟩=some (.string x0)∧W.cell? ⟨w.heap.size,1,none⟩=some (.string x1)∧W.cell? ⟨w.heap.size,2,none⟩=some (.int .i64 x2)∧W.cell? ⟨w.heap.size,3,none⟩=some (v1)∧W.cell? ⟨w.heap.size,4,none⟩=some (v2)∧W.cell? ⟨w.heap.size,5,none⟩=some (v3)∧W.cell? ⟨w.heap.size,6,none⟩=some (v4)∧W.cell? ⟨w.heap.size,7,none⟩=some (.string x3)∧W.cell? ⟨w.heap.size,8,none⟩=some (.int .i64 x4)∧W.cell? ⟨w.heap.size,9,none⟩=some (.string x5)∧W.cell? ⟨w.heap.size,10,none⟩=some (.bool x6)) (by kernel_rfl) (HB.out _ (Kept.drew _)) (fun hHeld=>?_);refine wpAnyH_take  (i:=0) (v:=?_) (by rw[List.getElem?_toArray];exact rfl) (by kernel_rfl) (by kernel_rfl) (by kernel_rfl) (by exact fun _ _ _ h=>h) (Or.inl ⟨by rfl,(by rintro W ⟨q0,q1,q2,q3,q4,q5,q6,q7,q8,q9,q10⟩;go_simp<;>with_reducible rfl)⟩) (by assumption) ?_;try simp only  [Act.put,List.setIfInBounds_toArray,List.set_cons_zero,List.set_cons_succ]
 refine wpAnyH_take  (i:=1) (v:=?_) (by rw[List.getElem?_toArray];exact rfl) (by kernel_rfl) (by kernel_rfl) (by kernel_rfl) (by exact fun _ _ _ h=>h) (Or.inl ⟨by rfl,(by rintro W ⟨q0,q1,q2,q3,q4,q5,q6,q7,q8,q9,q10⟩;go_simp<;>with_reducible rfl)⟩) (by assumption) ?_;try simp only  [Act.put,List.setIfInBounds_toArray,List.set_cons_zero,List.set_cons_succ]
 refine wpAnyH_take  (i:=2) (v:=?_) (by rw[List.getElem?_toArray];exact rfl) (by kernel_rfl) (by kernel_rfl) (by kernel_rfl) (by exact fun _ _ _ h=>h) (Or.inl ⟨by rfl,(by rintro W ⟨q0,q1,q2,q3,q4,q5,q6,q7,q8,q9,q10⟩;go_simp<;>with_reducible rfl)⟩) (by assumption) ?_;try simp only  [Act.put,List.setIfInBounds_toArray,List.set_cons_zero,List.set_cons_succ]
 refine wpAnyH_take  (i:=3) (v:=?_) (by rw[List.getElem?_toArray];exact rfl) (by kernel_rfl) (by kernel_rfl) (by kernel_rfl) (by exact fun _ _ _ h=>h) (Or.inl ⟨by rfl,(by rintro W ⟨q0,q1,q2,q3,q4,q5,q6,q7,q8,q9,q10⟩;go_simp<;>with_reducible rfl)⟩) (by assumption) ?_;try simp only  [Act.put,List.setIfInBounds_toArray,List.set_cons_zero,List.set_cons_succ]
 refine wpAnyH_take  (i:=4) (v:=?_) (by rw[List.getElem?_toArray];exact rfl) (by kernel_rfl) (by kernel_rfl) (by kernel_rfl) (by exact fun _ _ _ h=>h) (Or.inl ⟨by rfl,(by rintro W ⟨q0,q1,q2,q3,q4,q5,q6,q7,q8,q9,q10⟩;go_simp<;>with_reducible rfl)⟩) (by assumption) ?_;try simp only  [Act.put,List.setIfInBounds_toArray,List.set_cons_zero,List.set_cons_succ]
 refine wpAnyH_take  (i:=5) (v:=?_) (by rw[List.getElem?_toArray];exact rfl) (by kernel_rfl) (by kernel_rfl) (by kernel_rfl) (by exact fun _ _ _ h=>h) (Or.inl ⟨by rfl,(by rintro W ⟨q0,q1,q2,q3,q4,q5,q6,q7,q8,q9,q10⟩;go_simp<;>with_reducible rfl)⟩) (by assumption) ?_;try simp only  [Act.put,List.setIfInBounds_toArray,List.set_cons_zero,List.set_cons_succ]
 refine wpAnyH_take  (i:=6) (v:=?_) (by rw[List.getElem?_toArray];exact rfl) (by kernel_rfl) (by kernel_rfl) (by kernel_rfl) (by exact fun _ _ _ h=>h) (Or.inl ⟨by rfl,(by rintro W ⟨q0,q1,q2,q3,q4,q5,q6,q7,q8,q9,q10⟩;go_simp<;>with_reducible rfl)⟩) (by assumption) ?_;try simp only  [Act.put,List.setIfInBounds_toArray,List.set_cons_zero,List.set_cons_succ]
 refine wpAnyH_take  (i:=7) (v:=?_) (by rw[List.getElem?_toArray];exact rfl) (by kernel_rfl) (by kernel_rfl) (by kernel_rfl) (by exact fun _ _ _ h=>h) (Or.inl ⟨by rfl,(by rintro W ⟨q0,q1,q2,q3,q4,q5,q6,q7,q8,q9,q10⟩;go_simp<;>with_reducible rfl)⟩) (by assumption) ?_;try simp only  [Act.put,List.setIfInBounds_toArray,List.set_cons_zero,List.set_cons_succ]
 refine wpAnyH_take  (i:=9) (v:=?_) (by rw[List.getElem?_toArray];exact rfl) (by kernel_rfl) (by kernel_rfl) (by kernel_rfl) (by exact fun _ _ _ h=>h) (Or.inl ⟨by rfl,(by rintro W ⟨q0,q1,q2,q3,q4,q5,q6,q7,q8,q9,q10⟩;go_simp<;>with_reducible rfl)⟩) (by assumption) ?_;try simp only  [Act.put,List.setIfInBounds_toArray,List.set_cons_zero,List.set_cons_succ]
 refine wpAnyH_take  (i:=10) (v:=?_) (by rw[List.getElem?_toArray];exact rfl) (by kernel_rfl) (by kernel_rfl) (by kernel_rfl) (by exact fun _ _ _ h=>h) (Or.inl ⟨by rfl,(by rintro W ⟨q0,q1,q2,q3,q4,q5,q6,q7,q8,q9,q10⟩;go_simp<;>with_reducible rfl)⟩) (by assumption) ?_;try simp only  [Act.put,List.setIfInBounds_toArray,List.set_cons_zero,List.set_cons_succ]
 refine wpAnyH_take  (i:=12) (v:=?_) (by rw[List.getElem?_toArray];exact rfl) (by kernel_rfl) (by kernel_rfl) (by kernel_rfl) (by exact fun _ _ _ h=>h) (Or.inl ⟨by rfl,(by rintro W ⟨q0,q1,q2,q3,q4,q5,q6,q7,q8,q9,q10⟩;go_simp<;>with_reducible rfl)⟩) (by assumption) ?_;try simp only  [Act.put,List.setIfInBounds_toArray,List.set_cons_zero,List.set_cons_succ]
 refine wpAnyH_take  (i:=13) (v:=?_) (by rw[List.getElem?_toArray];exact rfl) (by kernel_rfl) (by kernel_rfl) (by kernel_rfl) (by exact fun _ _ _ h=>h) (Or.inl ⟨by rfl,(by rintro W ⟨q0,q1,q2,q3,q4,q5,q6,q7,q8,q9,q10⟩;go_simp<;>with_reducible rfl)⟩) (by assumption) ?_;try simp only  [Act.put,List.setIfInBounds_toArray,List.set_cons_zero,List.set_cons_succ]
 refine wpAnyH_take  (i:=15) (v:=?_) (by rw[List.getElem?_toArray];exact rfl) (by kernel_rfl) (by kernel_rfl) (by kernel_rfl) (by exact fun _ _ _ h=>h) (Or.inl ⟨by rfl,(by rintro W ⟨q0,q1,q2,q3,q4,q5,q6,q7,q8,q9,q10⟩;go_simp<;>with_reducible rfl)⟩) (by assumption) ?_;try simp only  [Act.put,List.setIfInBounds_toArray,List.set_cons_zero,List.set_cons_succ]
 refine wpAnyH_take  (i:=16) (v:=?_) (by rw[List.getElem?_toArray];exact rfl) (by kernel_rfl) (by kernel_rfl) (by kernel_rfl) (by exact fun _ _ _ h=>h) (Or.inl ⟨by rfl,(by rintro W ⟨q0,q1,q2,q3,q4,q5,q6,q7,q8,q9,q10⟩;go_simp<;>with_reducible rfl)⟩) (by assumption) ?_;try simp only  [Act.put,List.setIfInBounds_toArray,List.set_cons_zero,List.set_cons_succ]
 refine wpAnyH_take  (i:=18) (v:=?_) (by rw[List.getElem?_toArray];exact rfl) (by kernel_rfl) (by kernel_rfl) (by kernel_rfl) (by exact fun _ _ _ h=>h) (Or.inl ⟨by rfl,(by rintro W ⟨q0,q1,q2,q3,q4,q5,q6,q7,q8,q9,q10⟩;go_simp<;>with_reducible rfl)⟩) (by assumption) ?_;try simp only  [Act.put,List.setIfInBounds_toArray,List.set_cons_zero,List.set_cons_succ]
 refine wpAnyH_take  (i:=19) (v:=?_) (by rw[List.getElem?_toArray];exact rfl) (by kernel_rfl) (by kernel_rfl) (by kernel_rfl) (by exact fun _ _ _ h=>h) (Or.inl ⟨by rfl,(by rintro W ⟨q0,q1,q2,q3,q4,q5,q6,q7,q8,q9,q10⟩;go_simp<;>with_reducible rfl)⟩) (by assumption) ?_;try simp only  [Act.put,List.setIfInBounds_toArray,List.set_cons_zero,List.set_cons_succ]
 refine wpAnyH_take  (i:=20) (v:=?_) (by rw[List.getElem?_toArray];exact rfl) (by kernel_rfl) (by kernel_rfl) (by kernel_rfl) (by exact fun _ _ _ h=>h) (Or.inl ⟨by rfl,(by rintro W ⟨q0,q1,q2,q3,q4,q5,q6,q7,q8,q9,q10⟩;go_simp<;>with_reducible rfl)⟩) (by assumption) ?_;try simp only  [Act.put,List.setIfInBounds_toArray,List.set_cons_zero,List.set_cons_succ]
 refine wpAnyH_take  (i:=21) (v:=?_) (by rw[List.getElem?_toArray];exact rfl) (by kernel_rfl) (by kernel_rfl) (by kernel_rfl) (by exact fun _ _ _ h=>h) (Or.inl ⟨by rfl,(by rintro W ⟨q0,q1,q2,q3,q4,q5,q6,q7,q8,q9,q10⟩;go_simp<;>with_reducible rfl)⟩) (by assumption) ?_;try simp only  [Act.put,List.setIfInBounds_toArray,List.set_cons_zero,List.set_cons_succ]
 refine wpAnyH_take  (i:=22) (v:=?_) (by rw[List.getElem?_toArray];exact rfl) (by kernel_rfl) (by kernel_rfl) (by kernel_rfl) (by exact fun _ _ _ h=>h) (Or.inl ⟨by rfl,(by rintro W ⟨q0,q1,q2,q3,q4,q5,q6,q7,q8,q9,q10⟩;go_simp<;>with_reducible rfl)⟩) (by assumption) ?_;try simp only  [Act.put,List.setIfInBounds_toArray,List.set_cons_zero,List.set_cons_succ]
 refine wpAnyH_take  (i:=23) (v:=?_) (by rw[List.getElem?_toArray];exact rfl) (by kernel_rfl) (by kernel_rfl) (by kernel_rfl) (by exact fun _ _ _ h=>h) (Or.inl ⟨by rfl,(by rintro W ⟨q0,q1,q2,q3,q4,q5,q6,q7,q8,q9,q10⟩;go_simp<;>with_reducible rfl)⟩) (by assumption) ?_;try simp only  [Act.put,List.setIfInBounds_toArray,List.set_cons_zero,List.set_cons_succ]
 refine wpAnyH_take  (i:=24) (v:=?_) (by rw[List.getElem?_toArray];exact rfl) (by kernel_rfl) (by kernel_rfl) (by kernel_rfl) (by exact fun _ _ _ h=>h) (Or.inl ⟨by rfl,(by rintro W ⟨q0,q1,q2,q3,q4,q5,q6,q7,q8,q9,q10⟩;go_simp<;>with_reducible rfl)⟩) (by assumption) ?_;try simp only  [Act.put,List.setIfInBounds_toArray,List.set_cons_zero,List.set_cons_succ]
 refine wpAnyH_take  (i:=25) (v:=?_) (by rw[List.getElem?_toArray];exact rfl) (by kernel_rfl) (by kernel_rfl) (by kernel_rfl) (by exact fun _ _ _ h=>h) (Or.inl ⟨by rfl,(by rintro W ⟨q0,q1,q2,q3,q4,q5,q6,q7,q8,q9,q10⟩;go_simp<;>with_reducible rfl)⟩) (by assumption) ?_;try simp only  [Act.put,List.setIfInBounds_toArray,List.set_cons_zero,List.set_cons_succ]
 refine wpAnyH_ready  (rs:=[8]) (by kernel_rfl) (by simp) (AllReadyH.cons  (by rw[List.getElem?_toArray];exact rfl) (fun K9 hK9=>?_) AllReadyH.nil);go_simp;refine(E1.out _ (HK0.out.trans (Kept.drew _))).mono ?_;rintro e1 w1 ⟨b1,n1,d1,rfl,r1,g1,k1⟩;have K1:=lH (Kept.trans (Kept.drew _) k1);have G1:=lH (show Btw (w.heap.size+2) w1.heap.size b1 from fun b o s e=>⟨Nat.le_trans (by rw[←HZ.out];exact Below.size (Kept.drew _)) (g1 b o s e).1,(g1 b o s e).2⟩);have R1:=lH r1;clear k1 r1 g1;refine hK9.out _ _ (HB.out _ K1.out) (fun hHeld1=>?_);clear hK9 K9;try simp only  [Act.put,List.setIfInBounds_toArray,List.set_cons_zero,List.set_cons_succ]
 refine wpAnyH_ready  (rs:=[11]) (by kernel_rfl) (by simp) (AllReadyH.cons  (by rw[List.getElem?_toArray];exact rfl) (fun K9 hK9=>?_) AllReadyH.nil);go_simp;refine(E2.out _ (HK0.out.trans K1.out)).mono ?_;rintro e2 w2 ⟨b2,n2,d2,rfl,r2,g2,k2⟩;have K2:=lH (Kept.trans K1.out k2);have G2:=lH (show Btw (w.heap.size+2) w2.heap.size b2 from fun b o s e=>⟨Nat.le_trans (by rw[←HZ.out];exact Below.size K1.out) (g2 b o s e).1,(g2 b o s e).2⟩);have R2:=lH r2;have R1:=lH (R1.out.kept k2);have G1:=lH (G1.out.up (Nat.le_refl _) k2.size);clear k2 r2 g2;refine hK9.out _ _ (HB.out _ K2.out) (fun hHeld2=>?_);clear hK9 K9;try simp only  [Act.put,List.setIfInBounds_toArray,List.set_cons_zero,List.set_cons_succ]
 refine wpAnyH_ready  (rs:=[14]) (by kernel_rfl) (by simp) (AllReadyH.cons  (by rw[List.getElem?_toArray];exact rfl) (fun K9 hK9=>?_) AllReadyH.nil);go_simp;refine(E3.out _ (HK0.out.trans K2.out)).mono ?_;rintro e3 w3 ⟨b3,n3,d3,rfl,r3,g3,k3⟩;have K3:=lH (Kept.trans K2.out k3);have G3:=lH (show Btw (w.heap.size+2) w3.heap.size b3 from fun b o s e=>⟨Nat.le_trans (by rw[←HZ.out];exact Below.size K2.out) (g3 b o s e).1,(g3 b o s e).2⟩);have R3:=lH r3;have R1:=lH (R1.out.kept k3);have G1:=lH (G1.out.up (Nat.le_refl _) k3.size);have R2:=lH (R2.out.kept k3);have G2:=lH (G2.out.up (Nat.le_refl _) k3.size);clear k3 r3 g3;refine hK9.out _ _ (HB.out _ K3.out) (fun hHeld3=>?_);clear hK9 K9;try simp only  [Act.put,List.setIfInBounds_toArray,List.set_cons_zero,List.set_cons_succ]
 refine wpAnyH_ready  (rs:=[17]) (by kernel_rfl) (by simp) (AllReadyH.cons  (by rw[List.getElem?_toArray];exact rfl) (fun K9 hK9=>?_) AllReadyH.nil);go_simp;refine(E4.out _ (HK0.out.trans K3.out)).mono ?_;rintro e4 w4 ⟨b4,n4,d4,rfl,r4,g4,k4⟩;have K4:=lH (Kept.trans K3.out k4);have G4:=lH (show Btw (w.heap.size+2) w4.heap.size b4 from fun b o s e=>⟨Nat.le_trans (by rw[←HZ.out];exact Below.size K3.out) (g4 b o s e).1,(g4 b o s e).2⟩);have R4:=lH r4;have R1:=lH (R1.out.kept k4);have G1:=lH (G1.out.up (Nat.le_refl _) k4.size);have R2:=lH (R2.out.kept k4);have G2:=lH (G2.out.up (Nat.le_refl _) k4.size);have R3:=lH (R3.out.kept k4);have G3:=lH (G3.out.up (Nat.le_refl _) k4.size);clear k4 r4 g4;refine hK9.out _ _ (HB.out _ K4.out) (fun hHeld4=>?_);clear hK9 K9;try simp only  [Act.put,List.setIfInBounds_toArray,List.set_cons_zero,List.set_cons_succ]
 refine wpAnyH_take  (i:=26) (v:=?_) (by rw[List.getElem?_toArray];exact rfl) (by kernel_rfl) (by kernel_rfl) (by kernel_rfl) (by exact fun _ _ _ h=>h) (Or.inl ⟨by rfl,(by rintro W ⟨q0,q1,q2,q3,q4,q5,q6,q7,q8,q9,q10⟩;go_simp<;>with_reducible rfl)⟩) (by assumption) ?_;try simp only  [Act.put,List.setIfInBounds_toArray,List.set_cons_zero,List.set_cons_succ]
 have HQ4:=lH (HQ.out _ K4.out);have z0:=HQ4.out.at_ 0 _ rfl;have z1:=HQ4.out.at_ 1 _ rfl;have z2:=HQ4.out.at_ 2 _ rfl;have z3:=HQ4.out.at_ 3 _ rfl;have z4:=HQ4.out.at_ 4 _ rfl;have z5:=HQ4.out.at_ 5 _ rfl;have z6:=HQ4.out.at_ 6 _ rfl;have z7:=HQ4.out.at_ 7 _ rfl;have z8:=HQ4.out.at_ 8 _ rfl;have z9:=HQ4.out.at_ 9 _ rfl;have z10:=HQ4.out.at_ 10 _ rfl;have f0:=HQ4.out.free 0;have f1:=HQ4.out.free 1;have f2:=HQ4.out.free 2;have f3:=HQ4.out.free 3;have f4:=HQ4.out.free 4;have f5:=HQ4.out.free 5;have f6:=HQ4.out.free 6;have f7:=HQ4.out.free 7;have f8:=HQ4.out.free 8;have f9:=HQ4.out.free 9;have f10:=HQ4.out.free 10;refine wpAnyH_ready  (rs:=[27]) (by kernel_rfl) (by simp) (AllReadyH.cons  (by rw[List.getElem?_toArray];exact rfl) (fun K9 hK9=>?_) AllReadyH.nil);go_simp;refine hK9.out _ _ (eleven_past (HB.out _ K4.out) (by omega)) (fun hHeldS=>?_);clear hK9 K9 hHeldS;try simp only  [Act.put,List.setIfInBounds_toArray,List.set_cons_zero,List.set_cons_succ]
 refine wpAnyH_done (by kernel_rfl) ?_ _;have P:=lH (putN (vs:=[.string x0,.string x1,.int .i64 x2,.slice b1 n1 d1,.slice b2 n2 d2,.slice b3 n3 d3,.slice b4 n4 d4,.string x3,.int .i64 x4,.string x5,.bool x6]) HQ4.out rfl);clear z0 f0 z1 f1 z2 f2 z3 f3 z4 f4 z5 f5 z6 f6 z7 f7 z8 f8 z9 f9 z10 f10;go_wp2;(try simp only[Exit.inBlock,Exit.then])
 obtain⟨WE,hWE⟩:∃W,w4.setCells (w.heap.size+1) 0 [.string x0,.string x1,.int .i64 x2,.slice b1 n1 d1,.slice b2 n2 d2,.slice b3 n3 d3,.slice b4 n4 d4,.string x3,.int .i64 x4,.string x5,.bool x6]=W:=⟨_,rfl⟩
 have hWE2:(((((((((((w4.setCell ⟨w.heap.size+1,0,none⟩ (.string x0)).setCell ⟨w.heap.size+1,1,none⟩ (.string x1)).setCell ⟨w.heap.size+1,2,none⟩ (.int .i64 x2)).setCell ⟨w.heap.size+1,3,none⟩ (.slice b1 n1 d1)).setCell ⟨w.heap.size+1,4,none⟩ (.slice b2 n2 d2)).setCell ⟨w.heap.size+1,5,none⟩ (.slice b3 n3 d3)).setCell ⟨w.heap.size+1,6,none⟩ (.slice b4 n4 d4)).setCell ⟨w.heap.size+1,7,none⟩ (.string x3)).setCell ⟨w.heap.size+1,8,none⟩ (.int .i64 x4)).setCell ⟨w.heap.size+1,9,none⟩ (.string x5)).setCell ⟨w.heap.size+1,10,none⟩ (.bool x6))=WE:=hWE;rw[hWE] at P;rw[hWE2];clear hWE hWE2;obtain⟨PC,hsz,hbl,hkp⟩:=P.out;refine bodyPost_ret (by simp[results,Tryz.results35,go_sem,PC.at_ 0 _ rfl,PC.at_ 1 _ rfl,PC.at_ 2 _ rfl,PC.at_ 3 _ rfl,PC.at_ 4 _ rfl,PC.at_ 5 _ rfl,PC.at_ 6 _ rfl,PC.at_ 7 _ rfl,PC.at_ 8 _ rfl,PC.at_ 9 _ rfl,PC.at_ 10 _ rfl];try rfl) rfl ?_;refine⟨(⟨x0,x1,x2,l1,l2,l3,l4,x3,x4,x5,x6⟩,(b1,n1,d1),(b2,n2,d2),(b3,n3,d3),(b4,n4,d4)),rfl,rfl,PodAt.at4 (PodAt.far (B:=w.heap.size+2) (n:=⟨x0,x1,x2,l1,l2,l3,l4,x3,x4,x5,x6⟩) ⟨HH.out.name,HH.out.owner,HH.out.key,HH.out.node,HH.out.prio,HH.out.most,R1.out,R2.out,R3.out,R4.out⟩ hsz (fun b hb=>hbl b (by omega)) G1.out.behind G2.out.behind G3.out.behind G4.out.behind),?_,hkp _ _ (by omega) (HK0.out.trans K4.out)⟩;rw[hsz];exact⟨G1.out.up (by omega) (Nat.le_refl _),G2.out.up (by omega) (Nat.le_refl _),G3.out.up (by omega) (Nat.le_refl _),G4.out.up (by omega) (Nat.le_refl _)⟩
theorem infoRPT:(Tryz.prog.info? 37).map (fun i=>(i.zero,i.size,i.bytes))=some (some (.agg #[.string ByteArray.empty,.string ByteArray.empty,.int .i64 0,.slice none 0 0,.slice none 0 0,.slice none 0 0,.slice none 0 0,.string ByteArray.empty,.int .i64 0,.string ByteArray.empty,.bool false]),11,184):=by kernel_rfl
theorem ofAllP_anyT (a:Option Addr) (len cap:Nat) (l:List Pd) (w:World) (hr:PodsAt w a len l) (hlow:∀n ∈ l,LowPd n) (hlen:len≤1000) :
 Calls Tryz.prog 17 #[.slice a len cap] w fun e w'=>∃v,e=.returned v∧PodsR w' v l∧Kept w w':=by
 have hl:=hr.1;have HLOW:=lH hlow;obtain⟨i0,hi,hz0,hz1,hz2'⟩:=info_parts infoRPT;rcases hr.form with h0 | ⟨b,off,rfl⟩
 · subst h0;have hl0:l=[]:=List.eq_nil_of_length_eq_zero hl;subst hl0;clear hr hl hi hz0 hz1 hz2' hlow;go_enter Tryz.func17,Tryz.ntmps17;go_wp2;refine wp_loop_rounds 1 ?_;rw[rounds_succ];go_wp2;go_ret;exact⟨_,rfl,⟨none,0,rfl,Nat.le_refl _,by decide,rfl,by decide,.inl rfl⟩,Kept.refl _⟩
 · have HR:=lH hr;have HL:=lH hl;clear hr hl hlow;go_enter Tryz.func17,Tryz.ntmps17;go_wp2;go_loopw [3,4] (fun v i wr=>∃k:Nat,k≤len∧i=.int .i64 k∧∃lx:List PX,(lx.map fun z=>z.1)=l.take k∧Own PodLay0 37 wr w.heap.size v lx∧FarP wr v lx∧Below w.heap.size w wr) (fun _ i _=>len-(intOf i).toNat)
   case atStart=>exact⟨0,Nat.zero_le _,rfl,[],rfl,Own.nil _ _ _,(fun z h=>by cases h),Below.refl _ _⟩
   case round =>
    obtain⟨k,hk,rfl,lx,hlx,ho,hv,hB⟩:=hrel;have HX:=lH hlx;have HO:=lH ho;have HV:=lH hv;have HB:=lH hB;have HT:=lH (show lx.length=k by have:=congrArg List.length hlx;rw[List.length_map,List.length_take,HL.out] at this;omega);have HOWN:=lH (show wr.ownsRow w.heap.size 37 11 u3 k (rowCells PodLay0 lx) by have:=HO.out.1;rw[HT.out] at this;exact this);have hbase:w.heap.size≤wr.heap.size:=hB.size;by_cases hlt:k<len
    · obtain⟨n,a1,m1,c1,a2,m2,c2,a3,m3,c3,a4,m4,c4,hn,hd,hb,p0,p1,p2,p3,p4,p5,p6,p7,p8,p9,p10,hat⟩:=(HR.out.kept hB).at_ hlt;have HN:=lH hn;have HOF:=lH (ofP_anyT n (.slice a1 m1 c1) (.slice a2 m2 c2) (.slice a3 m3 c3) (.slice a4 m4 c4) wr hat (HLOW.out n (List.mem_of_getElem? hn)));have hk1:(k:Int)<(len:Int):=by omega
      clear hlx ho hv hB hn hd hat;go_wp2_with fail
      refine HOF.out.mono ?_;rintro e w1 ⟨z,rfl,hz,h3,hwi,kk⟩;have HZ:=lH hz;have H3:=lH h3;have HW:=lH hwi;have KK:=lH kk;have hs1:wr.heap.size≤w1.heap.size:=kk.size;have HOW2:=lH (show w1.ownsRow w.heap.size 37 11 u3 k (rowCells PodLay0 lx) by have:=(HO.out.kept kk).1;rw[HT.out] at this;exact this);clear hz h3 hwi kk;go_wp2_with (at_builtin;refine wpList_append_lies _ rfl _ _ _ rfl w.heap.size 37 i0 _ 11 184 Tryz.underlying23 hi hz0 hz1 hz2' rfl (by decide) u3 k (rowCells PodLay0 lx) rfl (HOW2.out.alloc _) ⟨w1.heap.size,0,none⟩ 1 1 (PodLay0.cs z) rfl rfl (World.news_of_block (cs:=#[.string z.1.name,.string z.1.owner,.int .i64 z.1.prio,slV z.2.1,slV z.2.2.1,slV z.2.2.2.1,slV z.2.2.2.2,.string z.1.key,.int .i64 z.1.most,.string z.1.node,.bool z.1.hold]) (t:=37) (fr:=(0,0)) (heap_alloc_new w1 _)) (one_pod0 z) (by decide) (by unfold maxLen;omega) (by omega) (by simp;omega) (w1.heap.size+1) (by simp) ?_;intro gg cap1 w2 hown1 hgrow hat hlt1)
      have HFAR:=lH (farP_grow (n:=k+1) (cap:=cap1) HV.out KK.out H3.out HW.out (fun g h=>(HOWN.out.lt g h).2) hgrow hat);have HBW:=lH ((HB.out.trans ((Below.mono KK.out hbase).trans (Below.mono (kept_alloc w1 _) (by omega)))).grown hgrow (by simp;omega) (fun j hj=>(HOWN.out.lt j hj).1));go_wp2;go_roundw
      case rel=>exact⟨k+1,by omega,by go_num,lx++[z],by rw[List.map_append,HX.out,take_snoc HN.out,←HZ.out];rfl,Own.snoc hown1 (by rw[HT.out]) HO.out.2 trivial,HFAR.out,HBW.out⟩
      case measure=>simp[intOf];omega
    · have HK:=lH (show l.take k=l by rw[List.take_of_length_le (by rw[HL.out];omega)]);have HRES:=lH (show PodsR wr u3 l by have:=pods_own HO.out (fun z hz=>(HV.out z hz).1);rw[HX.out,HK.out] at this;exact this);clear hlx ho hv hB;go_wp2;go_ret;exact⟨_,rfl,HRES.out,HB.out⟩
theorem ofAllPRT {v:Value} {l:List Pd} {w:World} (h:PodsR w v l) (hlow:∀n ∈ l,LowPd n) (hlen:l.length≤1000) :
 Calls Tryz.prog 17 #[v] w fun e w'=>∃v,e=.returned v∧PodsR w' v l∧Kept w w':=by
 obtain⟨a,cap,rfl,_,_,hr⟩:=h;exact ofAllP_anyT a _ cap l w hr hlow hlen
theorem ofB_anyT (n:Bd) (v1:Value) (w:World) (h:BudAt w v1 n) (hl:n.sel.length≤1000000) :
 Calls Tryz.prog 36 #[BudV n v1] w fun e w'=>∃z:BX,e=.returned (aggB z)∧z.1=n∧At1 w' z∧Btw w.heap.size w'.heap.size z.2.1∧Kept w w':=by
 have HH:=lH h;have E3:=lH (fun W (k:Kept w W)=>(ofLOT (h.sel.kept k) hl).mono fun _ _=>row_spelt);obtain⟨⟨x0,l3,m⟩,hnn⟩:∃m,m=n:=⟨n,rfl⟩
 subst hnn;dsimp only at E3;obtain⟨W0,hW0⟩:∃Z,(w.alloc (.cells #[.string x0,v1,.int .i64 m] 99)).alloc (.cells #[.string ⟨#[]⟩,.slice none 0 0,.int .i64 0] 96)=Z:=⟨_,rfl⟩
 have hk0:Kept w W0:=by rw[←hW0];exact kept_two _ _ _
 have hzs:W0.heap.size=w.heap.size+2:=by rw[←hW0];simp
 have HB:=lH (show ∀W,Kept W0 W→W.cell? ⟨w.heap.size,0,none⟩=some (.string x0)∧W.cell? ⟨w.heap.size,1,none⟩=some (v1)∧W.cell? ⟨w.heap.size,2,none⟩=some (.int .i64 m) from fun W k=>by
  have:=freshN w (.string x0) [v1,.int .i64 m] 99 W ((by rw[←hW0];exact kept_alloc _ _:Kept (w.alloc (.cells #[.string x0,v1,.int .i64 m] 99)) W0).trans k);exact⟨this.at_ 0 _ rfl,this.at_ 1 _ rfl,this.at_ 2 _ rfl⟩)
 have HQ:=lH (show ∀W,Kept W0 W→CellsN (w.heap.size+1) [.string ⟨#[]⟩,.slice none 0 0,.int .i64 0] W from fun W k=>by
  have:=freshN (w.alloc (.cells #[.string x0,v1,.int .i64 m] 99)) (.string ⟨#[]⟩) [.slice none 0 0,.int .i64 0] 96 W (by rw[hW0];exact k);rw[World.size_alloc] at this;exact this)
 have HZ:=lH hzs;have HK0:=lH hk0;obtain⟨b0,b1,b2⟩:=HB.out _ (Kept.refl _);clear h hl hk0 hzs;unfold BudV;dsimp only;go_enter Tryz.func36,Tryz.ntmps36;go_wp2;try rw[hW0]
 clear hW0;go_region_held3 (fun W=>(W.cell? ⟨w.heap.size,0,none⟩=some (.string x0)∧W.cell? ⟨w.heap.size,1,none⟩=some (v1)∧W.cell? ⟨w.heap.size,2,none⟩=some (.int .i64 m)))
  (first | with_reducible exact HB.out _ K4.out | exact three_past (HB.out _ K4.out) (by omega) | exact HB.out _ (Kept.drew _))
  (first | (go_at_call 59;refine(E3.out _ (HK0.out.trans (Kept.drew _))).mono ?_;rintro e1 w4 ⟨b1,n1,d1,rfl,r1,g1,k1⟩;have K4:=lH (Kept.trans (Kept.drew _) k1);have G1:=lH (show Btw (w.heap.size+2) w4.heap.size b1 from fun b o s e=>⟨Nat.le_trans (by rw[←HZ.out];exact Below.size (Kept.drew _)) (g1 b o s e).1,(g1 b o s e).2⟩);have R1:=lH r1;clear k1 r1 g1;have HQ4:=lH (HQ.out _ K4.out);have z0:=HQ4.out.at_ 0 _ rfl;have f0:=HQ4.out.free 0;have z1:=HQ4.out.at_ 1 _ rfl;have f1:=HQ4.out.free 1;have z2:=HQ4.out.at_ 2 _ rfl;have f2:=HQ4.out.free 2))
 have P:=lH (putN (vs:=[.string x0,.slice b1 n1 d1,.int .i64 m]) HQ4.out rfl);go_wp2;obtain⟨WE,hWE⟩:∃W,w4.setCells (w.heap.size+1) 0 [.string x0,.slice b1 n1 d1,.int .i64 m]=W:=⟨_,rfl⟩
 have hWE2:(((w4.setCell ⟨w.heap.size+1,0,none⟩ (.string x0)).setCell ⟨w.heap.size+1,1,none⟩ (.slice b1 n1 d1)).setCell ⟨w.heap.size+1,2,none⟩ (.int .i64 m))=WE:=hWE;rw[hWE] at P;rw[hWE2];clear hWE hWE2;obtain⟨PC,hsz,hbl,hkp⟩:=P.out;refine bodyPost_ret (by simp[results,Tryz.results36,go_sem,PC.at_ 0 _ rfl,PC.at_ 1 _ rfl,PC.at_ 2 _ rfl];try rfl) rfl ?_;refine⟨(⟨x0,l3,m⟩,(b1,n1,d1)),rfl,rfl,BudAt.at1 (BudAt.far (B:=w.heap.size+2) (n:=⟨x0,l3,m⟩) ⟨HH.out.name,HH.out.floor,R1.out⟩ hsz (fun b hb=>hbl b (by omega)) G1.out.behind),?_,hkp _ _ (Nat.le_succ _) (HK0.out.trans K4.out)⟩;rw[hsz];exact G1.out.up (by omega) (Nat.le_refl _)
theorem infoRBT:(Tryz.prog.info? 96).map (fun i=>(i.zero,i.size,i.bytes))=some (some (.agg #[.string ByteArray.empty,.slice none 0 0,.int .i64 0]),3,48):=by kernel_rfl
theorem ofAllB_anyT (a:Option Addr) (len cap:Nat) (l:List Bd) (w:World) (hr:BudsAt w a len l) (hlow:∀n ∈ l,n.sel.length≤1000000) (hlen:len≤1000) :
 Calls Tryz.prog 18 #[.slice a len cap] w fun e w'=>∃v,e=.returned v∧BudsR w' v l∧Kept w w':=by
 have hl:=hr.1;have HLOW:=lH hlow;obtain⟨i0,hi,hz0,hz1,hz2'⟩:=info_parts infoRBT;rcases hr.form with h0 | ⟨b,off,rfl⟩
 · subst h0;have hl0:l=[]:=List.eq_nil_of_length_eq_zero hl;subst hl0;clear hr hl hi hz0 hz1 hz2' hlow;go_enter Tryz.func18,Tryz.ntmps18;go_wp2;refine wp_loop_rounds 1 ?_;rw[rounds_succ];go_wp2;go_ret;exact⟨_,rfl,⟨none,0,rfl,Nat.le_refl _,by decide,rfl,by decide,.inl rfl⟩,Kept.refl _⟩
 · have HR:=lH hr;have HL:=lH hl;clear hr hl hlow;go_enter Tryz.func18,Tryz.ntmps18;go_wp2;go_loopw [3,4] (fun v i wr=>∃k:Nat,k≤len∧i=.int .i64 k∧∃lx:List BX,(lx.map fun z=>z.1)=l.take k∧Own BudLay0 96 wr w.heap.size v lx∧FarB wr v lx∧Below w.heap.size w wr) (fun _ i _=>len-(intOf i).toNat)
   case atStart=>exact⟨0,Nat.zero_le _,rfl,[],rfl,Own.nil _ _ _,(fun z h=>by cases h),Below.refl _ _⟩
   case round =>
    obtain⟨k,hk,rfl,lx,hlx,ho,hv,hB⟩:=hrel;have HX:=lH hlx;have HO:=lH ho;have HV:=lH hv;have HB:=lH hB;have HT:=lH (show lx.length=k by have:=congrArg List.length hlx;rw[List.length_map,List.length_take,HL.out] at this;omega);have HOWN:=lH (show wr.ownsRow w.heap.size 96 3 u3 k (rowCells BudLay0 lx) by have:=HO.out.1;rw[HT.out] at this;exact this);have hbase:w.heap.size≤wr.heap.size:=hB.size;by_cases hlt:k<len
    · obtain⟨n,a1,m1,c1,hn,hd,hb,p0,p1,p2,hat⟩:=(HR.out.kept hB).at_ hlt;have HN:=lH hn;have HOF:=lH (ofB_anyT n (.slice a1 m1 c1) wr hat (HLOW.out n (List.mem_of_getElem? hn)));have hk1:(k:Int)<(len:Int):=by omega
      clear hlx ho hv hB hn hd hat;go_wp2_with fail
      refine HOF.out.mono ?_;rintro e w1 ⟨z,rfl,hz,h3,hwi,kk⟩;have HZ:=lH hz;have H3:=lH h3;have HW:=lH hwi;have KK:=lH kk;have hs1:wr.heap.size≤w1.heap.size:=kk.size;have HOW2:=lH (show w1.ownsRow w.heap.size 96 3 u3 k (rowCells BudLay0 lx) by have:=(HO.out.kept kk).1;rw[HT.out] at this;exact this);clear hz h3 hwi kk;go_wp2_with (at_builtin;refine wpList_append_lies _ rfl _ _ _ rfl w.heap.size 96 i0 _ 3 48 Tryz.underlying24 hi hz0 hz1 hz2' rfl (by decide) u3 k (rowCells BudLay0 lx) rfl (HOW2.out.alloc _) ⟨w1.heap.size,0,none⟩ 1 1 (BudLay0.cs z) rfl rfl (World.news_of_block (cs:=#[.string z.1.name,slV z.2,.int .i64 z.1.floor]) (t:=96) (fr:=(0,0)) (heap_alloc_new w1 _)) (one_bud0 z) (by decide) (by unfold maxLen;omega) (by omega) (by simp;omega) (w1.heap.size+1) (by simp) ?_;intro gg cap1 w2 hown1 hgrow hat hlt1)
      have HFAR:=lH (farB_grow (n:=k+1) (cap:=cap1) HV.out KK.out H3.out HW.out (fun g h=>(HOWN.out.lt g h).2) hgrow hat);have HBW:=lH ((HB.out.trans ((Below.mono KK.out hbase).trans (Below.mono (kept_alloc w1 _) (by omega)))).grown hgrow (by simp;omega) (fun j hj=>(HOWN.out.lt j hj).1));go_wp2;go_roundw
      case rel=>exact⟨k+1,by omega,by go_num,lx++[z],by rw[List.map_append,HX.out,take_snoc HN.out,←HZ.out];rfl,Own.snoc hown1 (by rw[HT.out]) HO.out.2 trivial,HFAR.out,HBW.out⟩
      case measure=>simp[intOf];omega
    · have HK:=lH (show l.take k=l by rw[List.take_of_length_le (by rw[HL.out];omega)]);have HRES:=lH (show BudsR wr u3 l by have:=buds_own HO.out (fun z hz=>(HV.out z hz).1);rw[HX.out,HK.out] at this;exact this);clear hlx ho hv hB;go_wp2;go_ret;exact⟨_,rfl,HRES.out,HB.out⟩
theorem ofAllBRT {v:Value} {l:List Bd} {w:World} (h:BudsR w v l) (hlow:∀n ∈ l,n.sel.length≤1000000) (hlen:l.length≤1000) :
 Calls Tryz.prog 18 #[v] w fun e w'=>∃v,e=.returned v∧BudsR w' v l∧Kept w w':=by
 obtain⟨a,cap,rfl,_,_,hr⟩:=h;exact ofAllB_anyT a _ cap l w hr hlow hlen
def besideB (p q:Pd):Bool:=!isNo p.owner&&(eqS q.owner p.owner&&(!q.hold&&!eqS q.name p.name))
def onN (p:Pd) (x:ByteArray):List Pd→Nat
 | []=>0
 | q::t=>(if besideB p q=true∧q.node=x then 1 else 0)+onN p x t
theorem onN_le (p:Pd) (x:ByteArray):∀l:List Pd,onN p x l≤l.length
 | []=>Nat.zero_le _
 | q::t=>by
  have:=onN_le p x t;unfold onN;simp only[List.length_cons];split<;>omega
def inD (p:Pd) (pods:List Pd) (d:ByteArray):List Nod→Nat
 | []=>0
 | n::t=>(if getS n.labels p.key=some d then onN p n.name pods else 0)+inD p pods d t
theorem inD_le (p:Pd) (pods:List Pd) (d:ByteArray):∀l:List Nod,inD p pods d l≤l.length*pods.length
 | []=>Nat.zero_le _
 | n::t=>by
  have h1:=inD_le p pods d t;have h2:=onN_le p n.name pods;unfold inD;simp only[List.length_cons,Nat.add_mul];split<;>omega
def hasD (k d:ByteArray) (l:List Nod):Bool:=l.any fun n=>decide (getS n.labels k=some d)
theorem onN_app (p:Pd) (x:ByteArray):∀(a b:List Pd),onN p x (a++b)=onN p x a+onN p x b
 | [],b=>by simp[onN]
 | q::t,b=>by
  have:=onN_app p x t b;simp only[List.cons_append,onN,this];omega
theorem inD_app (p:Pd) (pods:List Pd) (d:ByteArray):∀(a b:List Nod),inD p pods d (a++b)=inD p pods d a+inD p pods d b
 | [],b=>by simp[inD]
 | q::t,b=>by
  have:=inD_app p pods d t b;simp only[List.cons_append,inD,this];omega
def domV (key name:ByteArray):List Nod→Option ByteArray
 | []=>none
 | n::t=>if eqS n.name name=true then getS n.labels key else domV key name t
def leastD (p:Pd) (pods:List Pd) (nodes:List Nod) (d:ByteArray):List Nod→Nat→Nat
 | [],m=>m
 | n::t,m=>leastD p pods nodes d t (match getS n.labels p.key with
  | none=>m
  | some e=>min m (inD p pods e nodes+(if e=d then 1 else 0)))
def skewD (p:Pd) (s:Clu) (d:ByteArray):Int:=((inD p s.pods d s.nodes+1:Nat):Int)-(leastD p s.pods s.nodes d s.nodes (inD p s.pods d s.nodes+1):Int)
def skewS (p:Pd) (s:Clu) (name:ByteArray):Int×Bool :=
 if isNo p.key=true then (0,true) else match domV p.key name s.nodes with
  | none=>(0,false)
  | some d=>(skewD p s d,true)
theorem leastD_spec (p:Pd) (pods:List Pd) (nodes:List Nod) (d:ByteArray):∀(l:List Nod) (m:Nat),
 leastD p pods nodes d l m≤m∧(∀n ∈ l,∀e,getS n.labels p.key=some e→leastD p pods nodes d l m≤inD p pods e nodes+(if e=d then 1 else 0)) ∧
 (leastD p pods nodes d l m=m∨∃n ∈ l,∃e,getS n.labels p.key=some e∧leastD p pods nodes d l m=inD p pods e nodes+(if e=d then 1 else 0))
 | [],m=>⟨Nat.le_refl _,fun n h=>absurd h (by simp),.inl rfl⟩
 | n::t,m=>by
  rw[leastD]
  cases h:getS n.labels p.key with
  | none =>
   dsimp only;obtain⟨h1,h2,h3⟩:=leastD_spec p pods nodes d t m;refine⟨h1,fun x hx e he=>?_,h3.imp id fun ⟨x,hx,e,he⟩=>⟨x,by simp[hx],e,he⟩⟩;rcases List.mem_cons.1 hx with rfl | hx
   · rw[h] at he;cases he
   · exact h2 x hx e he
  | some c =>
   dsimp only;obtain⟨h1,h2,h3⟩:=leastD_spec p pods nodes d t (min m (inD p pods c nodes+(if c=d then 1 else 0)));refine⟨Nat.le_trans h1 (Nat.min_le_left _ _),fun x hx e he=>?_,?_⟩
   · rcases List.mem_cons.1 hx with rfl | hx
     · rw[h] at he;cases he;exact Nat.le_trans h1 (Nat.min_le_right _ _)
     · exact h2 x hx e he
   · rcases h3 with h3 | ⟨x,hx,e,he,h3⟩
     · by_cases g:m≤inD p pods c nodes+(if c=d then 1 else 0)
       · exact .inl (by rw[h3,Nat.min_eq_left g])
       · exact .inr ⟨n,by simp,c,h,by rw[h3,Nat.min_eq_right (by omega)]⟩
     · exact .inr ⟨x,by simp[hx],e,he,h3⟩
theorem leastD_is {p:Pd} {pods:List Pd} {nodes:List Nod} {d:ByteArray} {m z:Nat} (hd:hasD p.key d nodes=true) (hm:m=inD p pods d nodes+1)
 (h1:∀e,hasD p.key e nodes=true→z≤inD p pods e nodes+(if e=d then 1 else 0)) (h2:∃e,hasD p.key e nodes=true∧z=inD p pods e nodes+(if e=d then 1 else 0)):leastD p pods nodes d nodes m=z:=by
 have has:∀{n:Nod} {e:ByteArray},n ∈ nodes→getS n.labels p.key=some e→hasD p.key e nodes=true:=fun {n e} hn he=>by
  unfold hasD;rw[List.any_eq_true];exact⟨n,hn,by simpa using he⟩
 have un:∀{e:ByteArray},hasD p.key e nodes=true→∃n ∈ nodes,getS n.labels p.key=some e:=fun {e} h=>by
  unfold hasD at h;rw[List.any_eq_true] at h;obtain⟨n,hn,he⟩:=h;exact⟨n,hn,by simpa using he⟩
 obtain⟨g1,g2,g3⟩:=leastD_spec p pods nodes d nodes m;obtain⟨e,he,hz⟩:=h2;obtain⟨n,hn,hne⟩:=un he;have a:=g2 n hn e hne;rcases g3 with g3 | ⟨x,hx,c,hc,g3⟩
 · have b:=h1 d hd;rw[if_pos rfl] at b;omega
 · have b:=h1 c (has hx hc);omega
theorem domV_has {key name d:ByteArray}:∀{l:List Nod},domV key name l=some d→hasD key d l=true
 | n::t,h=>by
  rw[domV] at h;unfold hasD;rw[List.any_cons];split at h
  · rw[h];simp
  · have:=domV_has h;unfold hasD at this;rw[this,Bool.or_true]
def crowdB (s:Clu) (p:Pd) (x:ByteArray):Bool:=if isNo p.key=true then false else (!(skewS p s x).2||decide (p.most<(skewS p s x).1))
def wantedB (p:Pd) (n:Nod):Bool:=!n.cordon&&matchT p.sel n.labels
def borneB (p:Pd) (n:Nod):Bool:=!(worstN p.tols n.taints).isSome
def roomB (s:Clu) (p:Pd) (x:ByteArray):Bool:=decide ((freeSt s x).1=0)&&Vec.fitsFrom (freeSt s x).2 p.need
def reasonN (s:Clu) (p:Pd) (n:Nod) (x:ByteArray):Int:=if wantedB p n=false then 8 else if borneB p n=false then 9 else if crowdB s p x=true then 10 else if roomB s p x=false then 7 else 0
def reasonS (s:Clu) (p:Pd) (x:ByteArray):Int:=match findN s.nodes x with
 | none=>3
 | some n=>reasonN s p n x
def fitS (s:Clu) (p:Pd) (x:ByteArray):Int:=reasonS (dropSt s p.name) p x
def whyL (s:Clu) (p:Pd) (l:List Nod):List Int:=l.map fun n=>fitS s p n.name
def fitsL (s:Clu) (p:Pd) (l:List Nod):List ByteArray:=(l.filter fun n=>decide (fitS s p n.name=0)).map fun n=>n.name
theorem reason_none {s:Clu} {p:Pd} {x:ByteArray} (h:findN s.nodes x=none):reasonS s p x=3:=by unfold reasonS;rw[h]
theorem reason_some {s:Clu} {p:Pd} {x:ByteArray} {n:Nod} (h:findN s.nodes x=some n):reasonS s p x=reasonN s p n x:=by unfold reasonS;rw[h]
theorem reasonN_sel {s:Clu} {p:Pd} {n:Nod} {x:ByteArray} (h:wantedB p n=false):reasonN s p n x=8:=by unfold reasonN;rw[if_pos h]
theorem reasonN_taint {s:Clu} {p:Pd} {n:Nod} {x:ByteArray} (h:wantedB p n=true) (h2:borneB p n=false):reasonN s p n x=9:=by unfold reasonN;rw[if_neg (by rw[h];decide),if_pos h2]
theorem reasonN_skew {s:Clu} {p:Pd} {n:Nod} {x:ByteArray} (h:wantedB p n=true) (h2:borneB p n=true) (h3:crowdB s p x=true):reasonN s p n x=10:=by unfold reasonN;rw[if_neg (by rw[h];decide),if_neg (by rw[h2];decide),if_pos h3]
theorem reasonN_room {s:Clu} {p:Pd} {n:Nod} {x:ByteArray} (h:wantedB p n=true) (h2:borneB p n=true) (h3:crowdB s p x=false) (h4:roomB s p x=false):reasonN s p n x=7:=by unfold reasonN;rw[if_neg (by rw[h];decide),if_neg (by rw[h2];decide),if_neg (by rw[h3];decide),if_pos h4]
theorem reasonN_ok {s:Clu} {p:Pd} {n:Nod} {x:ByteArray} (h:wantedB p n=true) (h2:borneB p n=true) (h3:crowdB s p x=false) (h4:roomB s p x=true):reasonN s p n x=0:=by unfold reasonN;rw[if_neg (by rw[h];decide),if_neg (by rw[h2];decide),if_neg (by rw[h3];decide),if_neg (by rw[h4];decide)]
theorem reasonN_bd (s:Clu) (p:Pd) (n:Nod) (x:ByteArray):0≤reasonN s p n x∧reasonN s p n x≤10:=by
 unfold reasonN;split
 · decide
 · split
   · decide
   · split
     · decide
     · split<;>decide
theorem reason_bd (s:Clu) (p:Pd) (x:ByteArray):0≤reasonS s p x∧reasonS s p x≤10:=by
 unfold reasonS;split
 · decide
 · exact reasonN_bd _ _ _ _
theorem whyL_take {s:Clu} {p:Pd} {l:List Nod} {k:Nat} {n:Nod} (h:l[k]?=some n):whyL s p (l.take (k+1))=whyL s p (l.take k)++[fitS s p n.name]:=by
 unfold whyL;rw[List.take_add_one,h,List.map_append];rfl
theorem whyL_len (s:Clu) (p:Pd) (l:List Nod):(whyL s p l).length=l.length:=by unfold whyL;rw[List.length_map]
theorem whyL_at {s:Clu} {p:Pd} {l:List Nod} {k:Nat} {n:Nod} (h:l[k]?=some n):(whyL s p l)[k]?=some (fitS s p n.name):=by unfold whyL;rw[List.getElem?_map,h];rfl
theorem fitsL_take {s:Clu} {p:Pd} {l:List Nod} {k:Nat} {n:Nod} (h:l[k]?=some n):fitsL s p (l.take (k+1))=fitsL s p (l.take k)++(if fitS s p n.name=0 then [n.name] else []):=by
 unfold fitsL;rw[List.take_add_one,h,List.filter_append,List.map_append];by_cases hb:fitS s p n.name=0
 · rw[if_pos hb];simp[hb]
 · rw[if_neg hb];simp[hb]
theorem fitsL_len (s:Clu) (p:Pd) (l:List Nod):(fitsL s p l).length≤l.length:=by
 unfold fitsL;rw[List.length_map];exact List.length_filter_le _ _
def DomRes (o:Option ByteArray) (w:World) (e:Ending) (w':World):Prop:=(∀d,o=some d→e=.returned (.string d))∧(o=none→e=.panicked [perr 3])∧Kept w w'
theorem DomRes.bad {o:Option ByteArray} {w w':World} (h:o=none) (k:Kept w w'):DomRes o w (.panicked [perr 3]) w':=⟨(fun d e=>by rw[h] at e;cases e),(fun _=>rfl),k⟩
theorem DomRes.good {o:Option ByteArray} {d:ByteArray} {w w':World} (h:o=some d) (k:Kept w w'):DomRes o w (.returned (.string d)) w':=⟨(fun c e=>by rw[h] at e;cases e;rfl),(fun e=>by rw[h] at e;cases e),k⟩
theorem valOf_any (a:Option Addr) (m c:Nat) (l:PL) (key:ByteArray) (w:World) (h:Reads PairLay w (.slice a m c) l):Calls Tryz.prog 133 #[.slice a m c,.string key] w (DomRes (getS l key) w):=by
 obtain⟨go,hgo⟩:∃z,getS l key=z:=⟨_,rfl⟩
 rw[hgo];have HG:=lH (getR h (x:=go.getD ByteArray.empty) (b:=go.isSome) (by unfold getT;rw[hgo]) (by unfold hasS;rw[hgo]));clear h hgo;go_enter Tryz.func133,Tryz.ntmps133;go_wp2_with fail
 refine HG.out.mono ?_;rintro e w1 ⟨rfl,kk⟩;have K:=lH kk;clear kk
 cases go with
 | none =>
  go_wp2;exact⟨rfl,DomRes.bad rfl K.out⟩
 | some d =>
  go_wp2;go_ret;exact DomRes.good rfl K.out
theorem domV_hit {key name:ByteArray} {n:Nod} {l:List Nod} (h:eqS n.name name=true):domV key name (n::l)=getS n.labels key:=by rw[domV,if_pos h]
theorem domV_miss {key name:ByteArray} {n:Nod} {l:List Nod} (h:eqS n.name name=false):domV key name (n::l)=domV key name l:=by rw[domV,if_neg (by rw[h];decide)]
theorem domainOf_any (s1 s2 s3:Option Addr) (n1 e1 n2 e2 n3 e3:Nat) (nodes:List Nod) (key name:ByteArray) (w:World) (hn:NodesAt w s1 n1 nodes) (hb1:n1≤100000) :
 Calls Tryz.prog 121 #[.agg #[.slice s1 n1 e1,.slice s2 n2 e2,.slice s3 n3 e3],.string key,.string name] w (DomRes (domV key name nodes) w):=by
 obtain⟨Z,hZ⟩:∃Z,w.alloc (.cells #[.slice s1 n1 e1,.slice s2 n2 e2,.slice s3 n3 e3] 26)=Z:=⟨_,rfl⟩
 have hkz:Kept w Z:=by rw[←hZ];exact kept_alloc _ _
 have HSB:=lH (freshN w (.slice s1 n1 e1) [.slice s2 n2 e2,.slice s3 n3 e3] 26 Z (by rw[hZ];exact Kept.refl _));have HN:=lH hn;have HNL:=lH hn.1;have HKZ:=lH hkz;clear hn hkz;go_enter Tryz.func121,Tryz.ntmps121;have y0:=HSB.out.at_ 0 _ rfl;go_upto_region 1 with fail
 try rw[hZ]
 clear hZ;go_wp2;clear y0;go_loopw [12] (fun i wr=>∃k:Nat,k≤n1∧i=.int .i64 k∧domV key name (nodes.drop k)=domV key name nodes∧Kept Z wr) (fun i _=>n1-(intOf i).toNat)
 case atStart=>exact⟨0,Nat.zero_le _,rfl,rfl,Kept.refl _⟩
 case round =>
  obtain⟨k,hk,rfl,hR,hK⟩:=hrel;have HR:=lH hR;have HK:=lH (HKZ.out.trans hK);have HKR:=lH hK;by_cases hlt:k<n1
  · obtain⟨g,off,rfl⟩:=HN.out.form.resolve_left (by omega);obtain⟨n,b1,k1,d1,b2,k2,d2,b3,k3,d3,hn,hd,hb,u0,u1,u2,u3,u4,hat⟩:=(HN.out.kept HK.out).at_ hlt;have HAT:=lH hat;have HD:=lH hd;have hkk:(k:Int)<(n1:Int):=by omega
    have hk0:¬(k:Int)<0:=by omega
    obtain⟨wx,hwx⟩:∃W,wr.alloc (.cells #[.string n.name,.slice b1 k1 d1,.slice b2 k2 d2,.slice b3 k3 d3,.bool n.cordon] 47)=W:=⟨_,rfl⟩
    have hkx:Kept wr wx:=by rw[←hwx];exact kept_alloc _ _
    have HQB:=lH (freshN wr (.string n.name) [.slice b1 k1 d1,.slice b2 k2 d2,.slice b3 k3 d3,.bool n.cordon] 47 wx (by rw[hwx];exact Kept.refl _));obtain⟨bq,hbq⟩:∃z,wr.heap.size=z:=⟨_,rfl⟩
    rw[hbq] at HQB;have KX:=lH hkx;go_upto_region 4 with fail
    try rw[hwx]
    try rw[hbq]
    clear hwx hbq hd hb hn hR hK hkx hk0 hkk hat u0 u1 u2 u3 u4;have t0:=HQB.out.at_ 0 _ rfl;have t2:=HQB.out.at_ 2 _ rfl;obtain⟨t,ht⟩:∃t,(n.name.toList==name.toList)=t:=⟨_,rfl⟩
    have HT:=lH (show eqS n.name name=t from ht)
    cases t with
    | false =>
     have HX:=lH (show domV key name (nodes.drop (k+1))=domV key name nodes by rw[←HR.out,HD.out,domV_miss HT.out]);go_wp2;go_roundw
     case rel=>exact⟨k+1,by omega,by go_num,HX.out,HKR.out.trans KX.out⟩
     case measure=>simp[intOf];omega
    | true =>
     have HX:=lH (show getS n.labels key=domV key name nodes by rw[←HR.out,HD.out,domV_hit HT.out]);go_wp2_with fail
     refine(valOf_any b2 k2 d2 n.labels key wx (HAT.out.labels.kept KX.out)).mono ?_;rintro e w3 ⟨h1,h2,kk⟩;have K3:=lH (HK.out.trans (KX.out.trans kk));clear kk;rw[HX.out] at h1 h2
     cases ho:domV key name nodes with
     | none =>
      obtain rfl:=h2 ho;have HO:=lH ho;clear h1 h2 ho;go_wp2;exact⟨rfl,DomRes.bad HO.out K3.out⟩
     | some d =>
      obtain rfl:=h1 d ho;have HO:=lH ho;clear h1 h2 ho;go_wp2;go_ret;exact DomRes.good HO.out K3.out
  · have hge:¬(k:Int)<(n1:Int):=by omega
    have HO:=lH (show domV key name nodes=none by rw[←HR.out,List.drop_of_length_le (by rw[HNL.out];omega)];rfl);clear hR hK;go_wp2;exact⟨rfl,DomRes.bad HO.out HK.out⟩
theorem beside_any (p q:Pd) (a1 a2 a3 a4 b1 b2 b3 b4:Option Addr) (m1 c1 m2 c2 m3 c3 m4 c4 k1 d1 k2 d2 k3 d3 k4 d4:Nat) (w:World):Calls Tryz.prog 134 #[PodV p (.slice a1 m1 c1) (.slice a2 m2 c2) (.slice a3 m3 c3) (.slice a4 m4 c4),PodV q (.slice b1 k1 d1) (.slice b2 k2 d2) (.slice b3 k3 d3) (.slice b4 k4 d4)] w (Say (.bool (besideB p q)) w):=by
 obtain⟨Z,hZ⟩:∃Z,(w.alloc (.cells #[.string p.name,.string p.owner,.int .i64 p.prio,.slice a1 m1 c1,.slice a2 m2 c2,.slice a3 m3 c3,.slice a4 m4 c4,.string p.key,.int .i64 p.most,.string p.node,.bool p.hold] 37)).alloc (.cells #[.string q.name,.string q.owner,.int .i64 q.prio,.slice b1 k1 d1,.slice b2 k2 d2,.slice b3 k3 d3,.slice b4 k4 d4,.string q.key,.int .i64 q.most,.string q.node,.bool q.hold] 37)=Z:=⟨_,rfl⟩
 have hkz:Kept w Z:=by rw[←hZ];exact kept_two _ _ _
 have hp:=freshN w (.string p.name) [.string p.owner,.int .i64 p.prio,.slice a1 m1 c1,.slice a2 m2 c2,.slice a3 m3 c3,.slice a4 m4 c4,.string p.key,.int .i64 p.most,.string p.node,.bool p.hold] 37 Z (by rw[←hZ];exact kept_alloc _ _);have hq:CellsN (w.heap.size+1) [.string q.name,.string q.owner,.int .i64 q.prio,.slice b1 k1 d1,.slice b2 k2 d2,.slice b3 k3 d3,.slice b4 k4 d4,.string q.key,.int .i64 q.most,.string q.node,.bool q.hold] Z:=by
  have dd:=freshN (w.alloc (.cells #[.string p.name,.string p.owner,.int .i64 p.prio,.slice a1 m1 c1,.slice a2 m2 c2,.slice a3 m3 c3,.slice a4 m4 c4,.string p.key,.int .i64 p.most,.string p.node,.bool p.hold] 37)) (.string q.name) [.string q.owner,.int .i64 q.prio,.slice b1 k1 d1,.slice b2 k2 d2,.slice b3 k3 d3,.slice b4 k4 d4,.string q.key,.int .i64 q.most,.string q.node,.bool q.hold] 37 Z (by rw[hZ];exact Kept.refl _);rw[World.size_alloc] at dd;exact dd
 have p0:=hp.at_ 0 _ rfl;have p1:=hp.at_ 1 _ rfl;have q0:=hq.at_ 0 _ rfl;have q1:=hq.at_ 1 _ rfl;have q10:=hq.at_ 10 _ rfl;have HK:=lH hkz;obtain⟨t0,h0⟩:∃t,(p.owner.toList==([]:List UInt8))=t:=⟨_,rfl⟩
 obtain⟨t1,h1⟩:∃t,(q.owner.toList==p.owner.toList)=t:=⟨_,rfl⟩
 obtain⟨t2,h2⟩:∃t,(q.name.toList==p.name.toList)=t:=⟨_,rfl⟩
 obtain⟨t3,h3⟩:∃t,q.hold=t:=⟨_,rfl⟩
 have HV:=lH (show besideB p q=(!t0&&(t1&&(!t3&&!t2))) by unfold besideB eqS;rw[no_iff,h0,h1,h2,h3]);rw[h3] at q10;rw[h3] at hZ;clear hp hq hkz;unfold PodV;rw[h3];clear h3;go_enter Tryz.func134,Tryz.ntmps134
 cases t0 with
 | true =>
  go_wp2;try rw[hZ]
  go_ret;exact⟨ret_bool (by rw[HV.out];rfl),by first | exact HK.out | (rw[hZ];exact HK.out)⟩
 | false =>
  cases t1 with
  | false =>
   go_wp2;try rw[hZ]
   go_ret;exact⟨ret_bool (by rw[HV.out];rfl),by first | exact HK.out | (rw[hZ];exact HK.out)⟩
  | true =>
   cases t3 with
   | true =>
    go_wp2;try rw[hZ]
    go_ret;exact⟨ret_bool (by rw[HV.out];rfl),by first | exact HK.out | (rw[hZ];exact HK.out)⟩
   | false =>
    cases t2 with
    | true =>
     go_wp2;try rw[hZ]
     go_ret;exact⟨ret_bool (by rw[HV.out];rfl),by first | exact HK.out | (rw[hZ];exact HK.out)⟩
    | false =>
     go_wp2;try rw[hZ]
     go_ret;exact⟨ret_bool (by rw[HV.out];rfl),by first | exact HK.out | (rw[hZ];exact HK.out)⟩
open Go.RowKit Go.Maps Go.WideShapes Go.WideMaps
theorem mapLaw:Keyed Tryz.prog 9:=string_keyed Tryz.underlying9
theorem mapZero (w:World):(zeroValue 3).run Tryz.prog w=.ok (.int .i64 0) w:=by kernel_rfl
abbrev mk9 (x:ByteArray):Lit:=.string x.data.toList
theorem mk9_inj {x y:ByteArray} (h:mk9 x=mk9 y):x=y:=by
 injection h with h
 cases x;cases y
 simp only at h;congr 1
 exact Array.toList_inj.1 h
structure MapD (w:World) (b n:Nat) (D:DataW Unit) (f:ByteArray→Int) (dom:ByteArray→Bool):Prop where
 own:w.ownsMap Tryz.prog 9 (plainElem Tryz.prog 3) b n D
 at_:∀x,D.atKey (mk9 x) (.lit (.int .i64 0))=.lit (.int .i64 (f x))
 has:∀x,Maps.has D (mk9 x)=dom x
 map:IsMap D
def MapIs (w:World) (b n:Nat) (f:ByteArray→Int) (dom:ByteArray→Bool):Prop:=∃D:DataW Unit,MapD w b n D f dom
theorem MapIs.made (w:World):MapIs (w.alloc (.map #[] 0)) w.heap.size 0 (fun _=>0) (fun _=>false) :=
 ⟨.map [],World.ownsMap_made w _ _ _,fun _=>rfl,fun _=>rfl,isMap_empty⟩
theorem MapIs.block {w w':World} {b n:Nat} {f:ByteArray→Int} {dom:ByteArray→Bool} (h:MapIs w b n f dom) (hb:w'.heap[b]?=w.heap[b]?):MapIs w' b n f dom:=by
 obtain⟨D,⟨es,clock,h1,h2⟩,h3,h4,h5⟩:=h;exact⟨D,⟨es,clock,hb.trans h1,h2⟩,h3,h4,h5⟩
theorem MapIs.lt {w:World} {b n:Nat} {f:ByteArray→Int} {dom:ByteArray→Bool} (h:MapIs w b n f dom):b<w.heap.size:=by
 obtain⟨D,h,-⟩:=h;exact h.lt
theorem MapIs.kept {w w':World} {b n:Nat} {f:ByteArray→Int} {dom:ByteArray→Bool} (h:MapIs w b n f dom) (k:Kept w w'):MapIs w' b n f dom:=h.block (k.block b h.lt)
theorem MapIs.eq {w:World} {b n:Nat} {f g:ByteArray→Int} {dom dem:ByteArray→Bool} (h:MapIs w b n f dom) (hf:∀x,f x=g x) (hd:∀x,dom x=dem x):MapIs w b n g dem:=by
 obtain⟨D,h1,h2,h3,h4⟩:=h;exact⟨D,h1,fun x=>by rw[h2,hf],fun x=>by rw[h3,hd],h4⟩
theorem MapIs.look {w:World} {b n:Nat} {f:ByteArray→Int} {dom:ByteArray→Bool} (h:MapIs w b n f dom) (x:ByteArray) (hx:x.size≤maxLen):(Instr.lookup 195 (.map (some b)) (.string x) false).run Tryz.prog w=.ok (.int .i64 (f x)) w:=by
 obtain⟨D,h1,h2,h3,h4⟩:=h;obtain⟨c,hrun,hat,-⟩:=h1.lookup_int (t:=195) mapLaw Tryz.underlying195 Tryz.underlying3 (mapZero _) (keyOf_string_mk Tryz.underlying9 hx);rw[hrun];have:=(h2 x).symm.trans hat;injection this with this;injection this with _ this;rw[this]
theorem MapIs.put {w:World} {b n:Nat} {f:ByteArray→Int} {dom:ByteArray→Bool} (h:MapIs w b n f dom) (hn:n<maxLen) (x:ByteArray) (hx:x.size≤maxLen) (c:Int) (hc:-9223372036854775808≤c∧c≤9223372036854775807) :
 ∃w',(Instr.mapUpdate 195 (.map (some b)) (.string x) (.int .i64 c)).run Tryz.prog w=.ok () w'∧MapIs w' b (n+1) (fun y=>if y=x then c else f y) (fun y=>if y=x then true else dom y)∧GOff (fun i=>i=b) w w':=by
 obtain⟨D,h1,h2,h3,h4⟩:=h;obtain⟨w',hrun,ho,hg⟩:=h1.update (t:=195) mapLaw Tryz.underlying195 hn (keyOf_string_mk Tryz.underlying9 hx) (plainElem_int (H:=Unit) Tryz.underlying3 (WalkArith.wf_i64 hc));refine⟨w',hrun,⟨_,ho,fun y=>?_,fun y=>?_,h4.put _ _⟩,GOff.grown hg fun k e=>by cases e;rfl⟩
 · by_cases e:y=x
   · subst e;rw[if_pos rfl,atKey_put_same h4 (show WideAt.IsKeyLit (.string _) from trivial)]
   · rw[if_neg e,atKey_put_other (fun g=>e (mk9_inj g)),h2]
 · by_cases e:y=x
   · subst e;rw[if_pos rfl,has_put_same h4 (show WideAt.IsKeyLit (.string _) from trivial)]
   · rw[if_neg e,has_put_other (fun g=>e (mk9_inj g)),h3]
end Go.Proofs.YtmlgobiifebjkaaGreat
