/- What serves all packages,and package by package the contracts of the functions that the law calls. -/
import Derived.Test.YtgfoenfaohhjcabGreatG1
import Derived.Test.YtgfoenfaohhjcabGreatG2
import Derived.Test.YtgfoenfaohhjcabGreatG3
import Derived.Test.YtgfoenfaohhjcabGreatG4
import Derived.Test.YtgfoenfaohhjcabGreatG5
import Derived.Test.YtgfoenfaohhjcabGreatG6
import Derived.Test.YtgfoenfaohhjcabGreatG7
set_option linter.unusedVariables false
set_option maxRecDepth 100000
set_option maxHeartbeats 25600000
namespace Go.Proofs.YtgfoenfaohhjcabGreat
open Go.RowKit
def qO (x:ByteArray) (c:Int):Nod:=⟨x,[(⟨#[99,112,117]⟩,c)],[],[],false⟩
def XU (x:ByteArray) (c:Int) (y:ByteArray):Pd:=⟨x,⟨#[]⟩,0,[(⟨#[99,112,117]⟩,c)],[],[],[],⟨#[]⟩,0,y,false⟩
theorem qB (w:World) (c:Int) (h:-9223372036854775808≤c∧c≤9223372036854775807) (W:World) (k:Kept (w.alloc (.cells #[.string ⟨#[99,112,117]⟩,.int .i64 c] 105)) W):Vec.Reads W (.slice (some ⟨w.heap.size,0,none⟩) 1 1) [(⟨#[99,112,117]⟩,c)]:=by
 have cc:=jc w (.string ⟨#[99,112,117]⟩) [.int .i64 c] 105 W k;refine⟨_,1,rfl,(by decide:(1:Nat)≤1),(by decide:(1:Nat)≤maxLen),rfl,(by decide:(1:Nat)≤maxLen),fun i hi=>?_,.inr ⟨w.heap.size,0,rfl,cc.lt,fun i hi=>?_⟩⟩
 · obtain rfl:i=0:=by simpa using hi
   exact⟨(by decide:(3:Nat)≤maxLen),h.1,h.2⟩
 · obtain rfl:i=0:=by simpa using hi
   exact⟨cc.at_ 0 _ rfl,cc.at_ 1 _ rfl⟩
theorem jeR (x:ByteArray) (c:Int) (hc:-9223372036854775808≤c∧c≤9223372036854775807) (hx:x.size≤maxLen) (w:World) :
 Calls Tryz.prog 20 #[.string x,.int .i64 c] w fun e w'=>∃b1 n1 d1,e=.returned (.agg #[.string x,.slice b1 n1 d1,.slice none 0 0,.slice none 0 0,.bool false])∧zq w' (.slice b1 n1 d1) (.slice none 0 0) (.slice none 0 0) (qO x c)∧Kept w w'∧∀b o z,b1=some ⟨b,o,z⟩→w.heap.size<b:=by
 have cc:=jc w (.string ⟨#[]⟩) [.slice none 0 0,.slice none 0 0,.slice none 0 0,.bool false] 65 _ (Kept.refl _);obtain⟨W0,hW0⟩:∃W,w.alloc (.cells #[.string ⟨#[]⟩,.slice none 0 0,.slice none 0 0,.slice none 0 0,.bool false] 65)=W:=⟨_,rfl⟩
 have hs:W0.heap.size=w.heap.size+1:=by rw[←hW0];simp
 rw[hW0] at cc;obtain⟨W1,hW1⟩:∃W,W0.alloc (.cells #[.string ⟨#[99,112,117]⟩,.int .i64 c] 105)=W:=⟨_,rfl⟩
 have HR:=lH (qB W0 c hc W1 (by rw[hW1];exact Kept.refl _));rw[hs] at HR;have c1:=cc.kept (W':=W1) (by rw[←hW1];exact ja _ _);have KW:=lH (show Kept w W1 by rw[←hW1,←hW0];exact jr _ _ _);have y0:=c1.at_ 0 _ rfl;have y1:=c1.at_ 1 _ rfl;have y2:=c1.at_ 2 _ rfl;have y3:=c1.at_ 3 _ rfl;have y4:=c1.at_ 4 _ rfl;have f0:=c1.free 0;have f1:=c1.free 1;have f2:=c1.free 2;have f3:=c1.free 3;have f4:=c1.free 4;have P:=lH (zv (vs:=[.string x,.slice (some ⟨w.heap.size+1,0,none⟩) 1 1,.slice none 0 0,.slice none 0 0,.bool false]) c1 rfl);clear c1 cc;go_enter Tryz.func20,Tryz.ntmps20;go_wp2;try rw[hW0]
 try rw[hW1]
 obtain⟨WE,hWE⟩:∃W,W1.setCells w.heap.size 0 [.string x,.slice (some ⟨w.heap.size+1,0,none⟩) 1 1,.slice none 0 0,.slice none 0 0,.bool false]=W:=⟨_,rfl⟩
 have hWE2:(((((W1.setCell ⟨w.heap.size,0,none⟩ (.string x)).setCell ⟨w.heap.size,1,none⟩ (.slice (some ⟨w.heap.size+1,0,none⟩) 1 1)).setCell ⟨w.heap.size,2,none⟩ (.slice none 0 0)).setCell ⟨w.heap.size,3,none⟩ (.slice none 0 0)).setCell ⟨w.heap.size,4,none⟩ (.bool false))=WE:=hWE;rw[hWE] at P;try rw[hWE2]
 clear hWE hWE2;obtain⟨PC,hsz,hbl,hkp⟩:=P.out;refine bodyPost_ret (by simp[results,Tryz.results20,go_sem,PC.at_ 0 _ rfl,PC.at_ 1 _ rfl,PC.at_ 2 _ rfl,PC.at_ 3 _ rfl,PC.at_ 4 _ rfl];try rfl) rfl ?_;exact⟨_,_,_,rfl,⟨hx,(HR.out.far hsz (fun b o s e=>hbl b (by cases e;omega))),Reads.nil _,Reads.nil _⟩,hkp _ _ (Nat.le_refl _) KW.out,fun b o z e=>by cases e;omega⟩
theorem YP (x:ByteArray) (c:Int) (hc:-9223372036854775808≤c∧c≤9223372036854775807) (hx:x.size≤maxLen) (w:World) :
 Calls Tryz.prog 20 #[.string x,.int .i64 c] w fun e w'=>∃b1 n1 d1,e=.returned (.agg #[.string x,.slice b1 n1 d1,.slice none 0 0,.slice none 0 0,.bool false])∧zq w' (.slice b1 n1 d1) (.slice none 0 0) (.slice none 0 0) (qO x c)∧Kept w w' :=
 (jeR x c hc hx w).mono fun e w' ⟨b,n,d,h1,h2,h3,_⟩=>⟨b,n,d,h1,h2,h3⟩
theorem je2 (x:ByteArray) (c:Int) (y:ByteArray) (hc:-9223372036854775808≤c∧c≤9223372036854775807) (hx:x.size≤maxLen) (hy:y.size≤maxLen) (w:World) :
 Calls Tryz.prog 21 #[.string x,.int .i64 c,.string y] w fun e w'=>∃b1 n1 d1,e=.returned (.agg #[.string x,.string ⟨#[]⟩,.int .i64 0,.slice b1 n1 d1,.slice none 0 0,.slice none 0 0,.slice none 0 0,.string ⟨#[]⟩,.int .i64 0,.string y,.bool false])∧jB w' (.slice b1 n1 d1) (.slice none 0 0) (.slice none 0 0) (.slice none 0 0) (XU x c y)∧Kept w w'∧∀b o z,b1=some ⟨b,o,z⟩→w.heap.size<b:=by
 have cc:=jc w (.string ⟨#[]⟩) [.string ⟨#[]⟩,.int .i64 0,.slice none 0 0,.slice none 0 0,.slice none 0 0,.slice none 0 0,.string ⟨#[]⟩,.int .i64 0,.string ⟨#[]⟩,.bool false] 35 _ (Kept.refl _);obtain⟨W0,hW0⟩:∃W,w.alloc (.cells #[.string ⟨#[]⟩,.string ⟨#[]⟩,.int .i64 0,.slice none 0 0,.slice none 0 0,.slice none 0 0,.slice none 0 0,.string ⟨#[]⟩,.int .i64 0,.string ⟨#[]⟩,.bool false] 35)=W:=⟨_,rfl⟩
 have hs:W0.heap.size=w.heap.size+1:=by rw[←hW0];simp
 rw[hW0] at cc;obtain⟨W1,hW1⟩:∃W,W0.alloc (.cells #[.string ⟨#[99,112,117]⟩,.int .i64 c] 105)=W:=⟨_,rfl⟩
 have HR:=lH (qB W0 c hc W1 (by rw[hW1];exact Kept.refl _));rw[hs] at HR;have c1:=cc.kept (W':=W1) (by rw[←hW1];exact ja _ _);have KW:=lH (show Kept w W1 by rw[←hW1,←hW0];exact jr _ _ _);have y0:=c1.at_ 0 _ rfl;have y1:=c1.at_ 1 _ rfl;have y2:=c1.at_ 2 _ rfl;have y3:=c1.at_ 3 _ rfl;have y4:=c1.at_ 4 _ rfl;have y5:=c1.at_ 5 _ rfl;have y6:=c1.at_ 6 _ rfl;have y7:=c1.at_ 7 _ rfl;have y8:=c1.at_ 8 _ rfl;have y9:=c1.at_ 9 _ rfl;have y10:=c1.at_ 10 _ rfl;have f0:=c1.free 0;have f1:=c1.free 1;have f2:=c1.free 2;have f3:=c1.free 3;have f4:=c1.free 4;have f5:=c1.free 5;have f6:=c1.free 6;have f7:=c1.free 7;have f8:=c1.free 8;have f9:=c1.free 9;have f10:=c1.free 10;have P:=lH (zv (vs:=[.string x,.string ⟨#[]⟩,.int .i64 0,.slice (some ⟨w.heap.size+1,0,none⟩) 1 1,.slice none 0 0,.slice none 0 0,.slice none 0 0,.string ⟨#[]⟩,.int .i64 0,.string y,.bool false]) c1 rfl);clear c1 cc;go_enter Tryz.func21,Tryz.ntmps21;go_wp2;try rw[hW0]
 try rw[hW1]
 obtain⟨WE,hWE⟩:∃W,W1.setCells w.heap.size 0 [.string x,.string ⟨#[]⟩,.int .i64 0,.slice (some ⟨w.heap.size+1,0,none⟩) 1 1,.slice none 0 0,.slice none 0 0,.slice none 0 0,.string ⟨#[]⟩,.int .i64 0,.string y,.bool false]=W:=⟨_,rfl⟩
 have hWE2:(((((((((((W1.setCell ⟨w.heap.size,0,none⟩ (.string x)).setCell ⟨w.heap.size,1,none⟩ (.string ⟨#[]⟩)).setCell ⟨w.heap.size,2,none⟩ (.int .i64 0)).setCell ⟨w.heap.size,3,none⟩ (.slice (some ⟨w.heap.size+1,0,none⟩) 1 1)).setCell ⟨w.heap.size,4,none⟩ (.slice none 0 0)).setCell ⟨w.heap.size,5,none⟩ (.slice none 0 0)).setCell ⟨w.heap.size,6,none⟩ (.slice none 0 0)).setCell ⟨w.heap.size,7,none⟩ (.string ⟨#[]⟩)).setCell ⟨w.heap.size,8,none⟩ (.int .i64 0)).setCell ⟨w.heap.size,9,none⟩ (.string y)).setCell ⟨w.heap.size,10,none⟩ (.bool false))=WE:=hWE;rw[hWE] at P;try rw[hWE2]
 clear hWE hWE2;obtain⟨PC,hsz,hbl,hkp⟩:=P.out;refine bodyPost_ret (by simp[results,Tryz.results21,go_sem,PC.at_ 0 _ rfl,PC.at_ 1 _ rfl,PC.at_ 2 _ rfl,PC.at_ 3 _ rfl,PC.at_ 4 _ rfl,PC.at_ 5 _ rfl,PC.at_ 6 _ rfl,PC.at_ 7 _ rfl,PC.at_ 8 _ rfl,PC.at_ 9 _ rfl,PC.at_ 10 _ rfl];try rfl) rfl ?_;exact⟨_,_,_,rfl,⟨hx,(by decide:(0:Nat)≤maxLen),(by decide:(0:Nat)≤maxLen),hy,(by decide:(-9223372036854775808:Int)≤0∧(0:Int)≤9223372036854775807),(by decide:(-9223372036854775808:Int)≤0∧(0:Int)≤9223372036854775807),(HR.out.far hsz (fun b o s e=>hbl b (by cases e;omega))),Reads.nil _,Reads.nil _,Reads.nil _⟩,hkp _ _ (Nat.le_refl _) KW.out,fun b o z e=>by cases e;omega⟩
theorem jP {X:Type} {L:Lay X} {lx:List X} {q:Nat} {v:Value} {vs:List Value} {W:World} (hc:jf L lx=v::vs) (c:je q (v::vs) W) (hf:∀x ∈ lx,L.fine x) (hm:lx.length≤maxLen):jk L W (some ⟨q,0,none⟩) lx.length lx :=
 ⟨rfl,hm,hf,.inr ⟨q,0,rfl,c.lt,fun i x j u hi hj=>by
  have:=YC L lx i x j u hi hj;rw[hc] at this;rw[Nat.zero_add];exact c.at_ _ u this⟩⟩
theorem zV {w:World} {a:Option Addr} {len:Nat} {lx:List NX} (h:jk zl w a len lx) (hf:∀z ∈ lx,At3 w z):js w a len (lx.map fun z=>z.1):=by
 obtain⟨g0,g1,g2,g3⟩:=h;refine⟨by rw[List.length_map];exact g0,g1,g3.imp id ?_⟩;rintro ⟨b,off,rfl,hb,hc⟩;refine⟨b,off,rfl,hb,fun i n hi=>?_⟩;rw[List.getElem?_map] at hi;obtain⟨z,hz,rfl⟩:=Option.map_eq_some_iff.1 hi;exact⟨_,_,_,_,_,_,_,_,_,hc i z 0 _ hz rfl,hc i z 1 _ hz rfl,hc i z 2 _ hz rfl,hc i z 3 _ hz rfl,hc i z 4 _ hz rfl,hf z (List.mem_of_getElem? hz)⟩
theorem zP {w:World} {a:Option Addr} {len:Nat} {lx:List PX} (h:jk jO w a len lx) (hf:∀z ∈ lx,At4 w z):jC w a len (lx.map fun z=>z.1):=by
 obtain⟨g0,g1,g2,g3⟩:=h;refine⟨by rw[List.length_map];exact g0,g1,g3.imp id ?_⟩;rintro ⟨b,off,rfl,hb,hc⟩;refine⟨b,off,rfl,hb,fun i n hi=>?_⟩;rw[List.getElem?_map] at hi;obtain⟨z,hz,rfl⟩:=Option.map_eq_some_iff.1 hi;exact⟨_,_,_,_,hc i z 0 _ hz rfl,hc i z 1 _ hz rfl,hc i z 2 _ hz rfl,hc i z 3 _ hz rfl,hc i z 4 _ hz rfl,hc i z 5 _ hz rfl,hc i z 6 _ hz rfl,hc i z 7 _ hz rfl,hc i z 8 _ hz rfl,hc i z 9 _ hz rfl,hc i z 10 _ hz rfl,hf z (List.mem_of_getElem? hz)⟩
theorem zF (w:World):zI w none 0 []:=⟨rfl,by decide,.inl rfl⟩
theorem JT (x:ByteArray) (c:Int) (y:ByteArray) (hc:-9223372036854775808≤c∧c≤9223372036854775807) (hx:x.size≤maxLen) (hy:y.size≤maxLen) (w:World) :
 Calls Tryz.prog 21 #[.string x,.int .i64 c,.string y] w fun e w'=>∃b1 n1 d1,e=.returned (.agg #[.string x,.string ⟨#[]⟩,.int .i64 0,.slice b1 n1 d1,.slice none 0 0,.slice none 0 0,.slice none 0 0,.string ⟨#[]⟩,.int .i64 0,.string y,.bool false])∧jB w' (.slice b1 n1 d1) (.slice none 0 0) (.slice none 0 0) (.slice none 0 0) (XU x c y)∧Kept w w' :=
 (je2 x c y hc hx hy w).mono fun e w' ⟨b,n,d,h1,h2,h3,_⟩=>⟨b,n,d,h1,h2,h3⟩
def YI (W:World) (q:Nat):Prop:=∀i u,W.cell? ⟨q,i,none⟩=some u→∃a n c,u=.slice a n c
theorem Jj {W:World} {q:Nat} {a1 a2 a3:Option Addr} {m1 c1 m2 c2 m3 c3:Nat} {T:TypeId} {fr:Nat×Nat} (hh:W.heap[q]?=some (.cells #[.slice a1 m1 c1,.slice a2 m2 c2,.slice a3 m3 c3] T fr)):YI W q:=by
 intro i u h;rw[Lib.cell_of_heap hh] at h
 match i,h with
 | 0,h=>cases h;exact⟨_,_,_,rfl⟩
 | 1,h=>cases h;exact⟨_,_,_,rfl⟩
 | 2,h=>cases h;exact⟨_,_,_,rfl⟩
 | i+3,h=>simp at h
theorem YI.noRow {W:World} {q:Nat} (h:YI W q):X8 W q:=fun o x u h1 _=>by
 obtain⟨_,_,_,e⟩:=h _ _ h1
 cases e
theorem Y2 {α:Type} {L:Lay α} {w w':World} {a:Option Addr} {len:Nat} {l:List α} {N:Nat} (hL:∀x,∃u,(L.cs x)[0]?=some u∧∀a n c,u≠.slice a n c) (h:jk L w a len l) (hs:w'.heap.size=w.heap.size) (hb:∀b,b≠N→w'.heap[b]?=w.heap[b]?) (hn:YI w N):jk L w' a len l:=by
 obtain⟨h3,h4,h5,h6⟩:=h;refine⟨h3,h4,h5,?_⟩;rcases h6 with h6 | ⟨b,off,rfl,hlt,hc⟩
 · exact .inl h6
 · cases l with
   | nil=>exact .inl h3.symm
   | cons x t =>
    have hne:b≠N:=by
     rintro rfl;obtain⟨u,g0,g1⟩:=hL x;obtain⟨_,_,_,e⟩:=hn _ _ (hc 0 x 0 _ rfl g0);exact g1 _ _ _ e
    exact .inr ⟨b,off,rfl,by rw[hs];exact hlt,fun i x j u hi hj=>(World.cell?_of_block (a:=⟨b,off+i*L.m+j,none⟩) (hb b hne)).trans (hc i x j u hi hj)⟩
theorem ZO {α:Type} {L:Lay α} {w w':World} {v:Value} {l:List α} {N:Nat} (hL:∀x,∃u,(L.cs x)[0]?=some u∧∀a n c,u≠.slice a n c) (h:Reads L w v l) (hs:w'.heap.size=w.heap.size) (hb:∀b,b≠N→w'.heap[b]?=w.heap[b]?) (hn:YI w N):Reads L w' v l:=by
 obtain⟨a,cap,rfl,h1,h2,h3⟩:=h;exact⟨a,cap,rfl,h1,h2,Y2 hL h3 hs hb hn⟩
theorem jgS (x:ByteArray×ByteArray):∃u,(jx.cs x)[0]?=some u∧∀a n c,u≠.slice a n c:=⟨_,rfl,fun _ _ _ e=>by cases e⟩
theorem jgJ (x:NT):∃u,(ju.cs x)[0]?=some u∧∀a n c,u≠.slice a n c:=⟨_,rfl,fun _ _ _ e=>by cases e⟩
theorem jfH (x:Int×ByteArray×ByteArray):∃u,(jI.cs x)[0]?=some u∧∀a n c,u≠.slice a n c:=⟨_,rfl,fun _ _ _ e=>by cases e⟩
theorem jgY (x:NX):∃u,(zl.cs x)[0]?=some u∧∀a n c,u≠.slice a n c:=⟨_,rfl,fun _ _ _ e=>by cases e⟩
theorem jgx (x:PX):∃u,(jO.cs x)[0]?=some u∧∀a n c,u≠.slice a n c:=⟨_,rfl,fun _ _ _ e=>by cases e⟩
theorem jgP (x:BX):∃u,(za.cs x)[0]?=some u∧∀a n c,u≠.slice a n c:=⟨_,rfl,fun _ _ _ e=>by cases e⟩
theorem jfu {w:World} {a:Option Addr} {len:Nat} {lx:List BX} (h:jk za w a len lx) (hf:∀z ∈ lx,At1 w z):zI w a len (lx.map fun z=>z.1):=by
 obtain⟨g0,g1,g2,g3⟩:=h;refine⟨by rw[List.length_map];exact g0,g1,g3.imp id ?_⟩;rintro ⟨b,off,rfl,hb,hc⟩;refine⟨b,off,rfl,hb,fun i n hi=>?_⟩;rw[List.getElem?_map] at hi;obtain⟨z,hz,rfl⟩:=Option.map_eq_some_iff.1 hi;exact⟨_,hc i z 0 _ hz rfl,hc i z 1 _ hz rfl,hc i z 2 _ hz rfl,hf z (List.mem_of_getElem? hz)⟩
section
variable {w w':World} {N:Nat} (hs:w'.heap.size=w.heap.size) (hb:∀b,b≠N→w'.heap[b]?=w.heap[b]?) (hn:YI w N)
include hs hb hn
theorem XD {v:Value} {l:List Nod} (h:zM w v l):zM w' v l:=by
 obtain⟨a,cap,rfl,h1,h2,h3⟩:=h;obtain⟨lx,hm,hr,hat⟩:=jcF h3;exact⟨a,cap,rfl,h1,h2,by rw[←hm];exact zV (by rw[hm];exact Y2 jgY hr hs hb hn) fun z hz=>Xd (hat z hz) hs hb hn.noRow⟩
theorem qh {v:Value} {l:List Pd} (h:JB w v l):JB w' v l:=by
 obtain⟨a,cap,rfl,h1,h2,h3⟩:=h;obtain⟨lx,hm,hr,hat⟩:=jcK h3;exact⟨a,cap,rfl,h1,h2,by
  rw[←hm];exact zP (by rw[hm];exact Y2 jgx hr hs hb hn) fun z hz=>by
   have g:=hat z hz;exact⟨g.name,g.owner,g.key,g.node,g.prio,g.most,jby g.need hs hb hn.noRow,ZO jgS g.labels hs hb hn,ZO jfH g.sel hs hb hn,ZO jgJ g.tols hs hb hn⟩⟩
theorem qD {v:Value} {l:List Bd} (h:Ji w v l):Ji w' v l:=by
 obtain⟨a,cap,rfl,h1,h2,h3⟩:=h;obtain⟨lx,hm,hr,hat⟩:=jcs h3;exact⟨a,cap,rfl,h1,h2,by
  rw[←hm];exact jfu (by rw[hm];exact Y2 jgP hr hs hb hn) fun z hz=>by
   have g:=hat z hz;exact⟨g.name,g.floor,ZO jfH g.sel hs hb hn⟩⟩
theorem zx {v:Value} {s:Clu} (h:jN w v s):jN w' v s:=by
 obtain⟨v1,v2,v3,e,g⟩:=h;exact⟨v1,v2,v3,e,XD hs hb hn g.nodes,qh hs hb hn g.pods,qD hs hb hn g.buds⟩
end
end Go.Proofs.YtgfoenfaohhjcabGreat
namespace Go.Proofs.YtgfoenfaohhjcabGreat
open Go.RowKit
theorem jgV {v:Value} {s:Clu} {w:World} (h:jN w v s) (hl:zA s) (e1:s.nodes.length≤1000) (e2:s.pods.length≤1000) (e3:s.buds.length≤1000):Calls Tryz.prog 18 #[v] w fun e w'=>∃v,e=.returned v∧jN w' v s∧Kept w w':=by
 obtain⟨v1,v2,v3,rfl,⟨a,cap,rfl,l1,m1,h1⟩,⟨b,cp,rfl,l2,m2,h2⟩,⟨d,cb,rfl,l3,m3,h3⟩⟩:=h;obtain⟨nl,pl,bl⟩:=s;dsimp only at *;obtain⟨len,hlen⟩:∃q,nl.length=q:=⟨_,rfl⟩
 obtain⟨m,hm⟩:∃q,pl.length=q:=⟨_,rfl⟩
 obtain⟨n,hn⟩:∃q,bl.length=q:=⟨_,rfl⟩
 rw[hlen] at h1 l1;rw[hm] at h2 l2;rw[hn] at h3 l3;try rw[hlen]
 try rw[hm]
 try rw[hn]
 obtain⟨Z,hZ⟩:∃Z,(w.alloc (.cells #[.slice a len cap,.slice b m cp,.slice d n cb] 26)).alloc (.cells #[.slice none 0 0,.slice none 0 0,.slice none 0 0] 61)=Z:=⟨_,rfl⟩
 have hkz:Kept w Z:=by rw[←hZ];exact jr _ _ _
 have cc:=jc w (.slice a len cap) [.slice b m cp,.slice d n cb] 26 Z (by rw[←hZ];exact ja _ _);have HH:=lH (show je (w.heap.size+1) [.slice none 0 0,.slice none 0 0,.slice none 0 0] Z by
  have dd:=jc (w.alloc (.cells #[.slice a len cap,.slice b m cp,.slice d n cb] 26)) (.slice none 0 0) [.slice none 0 0,.slice none 0 0] 61 Z (by rw[hZ];exact Kept.refl _);rw[World.size_alloc] at dd;exact dd)
 have HN:=lH (fun W (k:Kept Z W)=>jgq (Y0 l1 m1 (h1.kept (hkz.trans k))) hl.nodes e1);have HP:=lH (fun W (k:Kept Z W)=>jfZ (jct l2 m2 (h2.kept (hkz.trans k))) hl.pods e2);have HB:=lH (fun W (k:Kept Z W)=>jfP (qL l3 m3 (h3.kept (hkz.trans k))) hl.buds e3);have HKZ:=lH hkz;have HSL:=lH (show ∀W,Kept Z W→YI W (w.heap.size+1) from fun W k=>by
  have hh:Z.heap[w.heap.size+1]?=some (.cells #[.slice none 0 0,.slice none 0 0,.slice none 0 0] 61):=by
   have:=(w.alloc (.cells #[.slice a len cap,.slice b m cp,.slice d n cb] 26)).alloc_heap_new (.cells #[.slice none 0 0,.slice none 0 0,.slice none 0 0] 61);rw[World.size_alloc,hZ] at this;exact this
  exact Jj ((k.block _ (Array.getElem?_eq_some_iff.1 hh).1).trans hh))
 have HS:=lH (show ∀W,Kept Z W→W.cell? ⟨w.heap.size,0,none⟩=some (.slice a len cap)∧W.cell? ⟨w.heap.size,1,none⟩=some (.slice b m cp)∧W.cell? ⟨w.heap.size,2,none⟩=some (.slice d n cb) from fun W k=>⟨(cc.kept k).at_ 0 _ rfl,(cc.kept k).at_ 1 _ rfl,(cc.kept k).at_ 2 _ rfl⟩);have HS2:=lH (show ∀U W:World,(∀b,b≠w.heap.size+1→U.heap[b]?=W.heap[b]?)→Kept Z W→U.cell? ⟨w.heap.size,0,none⟩=some (.slice a len cap)∧U.cell? ⟨w.heap.size,1,none⟩=some (.slice b m cp)∧U.cell? ⟨w.heap.size,2,none⟩=some (.slice d n cb) from fun U W e k=>by
  have c:=(cc.kept k).block (e _ (by omega));exact⟨c.at_ 0 _ rfl,c.at_ 1 _ rfl,c.at_ 2 _ rfl⟩)
 clear h1 h2 h3 l1 l2 l3 m1 m2 m3 hkz cc hl e1 e2 e3;go_enter Tryz.func18,Tryz.ntmps18;go_wp2_with fail
 try rw[hZ]
 clear hZ;refine wp_region_held_drew (S:=fun W=>W.cell? ⟨w.heap.size,0,none⟩=some (.slice a len cap)∧W.cell? ⟨w.heap.size,1,none⟩=some (.slice b m cp)∧W.cell? ⟨w.heap.size,2,none⟩=some (.slice d n cb)) (by kernel_rfl) (HS.out _ (Kept.drew _)) (fun hHeld=>?_);refine wpAnyH_take  (i:=0) (v:=?_) (by rw[List.getElem?_toArray];exact rfl) (by kernel_rfl) (by kernel_rfl) (by kernel_rfl) (by exact fun _ _ _ h=>h) (Or.inl ⟨by rfl,(by rintro W ⟨o0,o1,o2⟩;go_simp<;>with_reducible rfl)⟩) (by assumption) ?_;try simp only  [Act.put,List.setIfInBounds_toArray,List.set_cons_zero,List.set_cons_succ]
 refine wpAnyH_take  (i:=1) (v:=?_) (by rw[List.getElem?_toArray];exact rfl) (by kernel_rfl) (by kernel_rfl) (by kernel_rfl) (by exact fun _ _ _ h=>h) (Or.inl ⟨by rfl,(by rintro W ⟨o0,o1,o2⟩;go_simp<;>with_reducible rfl)⟩) (by assumption) ?_;try simp only  [Act.put,List.setIfInBounds_toArray,List.set_cons_zero,List.set_cons_succ]
 refine wpAnyH_take  (i:=3) (v:=?_) (by rw[List.getElem?_toArray];exact rfl) (by kernel_rfl) (by kernel_rfl) (by kernel_rfl) (by exact fun _ _ _ h=>h) (Or.inl ⟨by rfl,(by rintro W ⟨o0,o1,o2⟩;go_simp<;>with_reducible rfl)⟩) (by assumption) ?_;try simp only  [Act.put,List.setIfInBounds_toArray,List.set_cons_zero,List.set_cons_succ]
 refine wpAnyH_take  (i:=4) (v:=?_) (by rw[List.getElem?_toArray];exact rfl) (by kernel_rfl) (by kernel_rfl) (by kernel_rfl) (by exact fun _ _ _ h=>h) (Or.inl ⟨by rfl,(by rintro W ⟨o0,o1,o2⟩;go_simp<;>with_reducible rfl)⟩) (by assumption) ?_;try simp only  [Act.put,List.setIfInBounds_toArray,List.set_cons_zero,List.set_cons_succ]
 refine wpAnyH_take  (i:=6) (v:=?_) (by rw[List.getElem?_toArray];exact rfl) (by kernel_rfl) (by kernel_rfl) (by kernel_rfl) (by exact fun _ _ _ h=>h) (Or.inl ⟨by rfl,(by rintro W ⟨o0,o1,o2⟩;go_simp<;>with_reducible rfl)⟩) (by assumption) ?_;try simp only  [Act.put,List.setIfInBounds_toArray,List.set_cons_zero,List.set_cons_succ]
 refine wpAnyH_take  (i:=7) (v:=?_) (by rw[List.getElem?_toArray];exact rfl) (by kernel_rfl) (by kernel_rfl) (by kernel_rfl) (by exact fun _ _ _ h=>h) (Or.inl ⟨by rfl,(by rintro W ⟨o0,o1,o2⟩;go_simp<;>with_reducible rfl)⟩) (by assumption) ?_;try simp only  [Act.put,List.setIfInBounds_toArray,List.set_cons_zero,List.set_cons_succ]
 have J:=lH (Kept.drew Z);refine wpAnyH_ready  (rs:=[2]) (by kernel_rfl) (by simp) (AllReadyH.cons  (by rw[List.getElem?_toArray];exact rfl) (fun K9 hK9=>?_) AllReadyH.nil);go_simp;refine(HN.out _ J.out).mono ?_;rintro e1 w1 ⟨u1,rfl,hr,kk⟩;have J:=lH (J.out.trans kk);have hr2:=hr;obtain⟨x1,q1,rfl,-,-,-⟩:=hr2;rw[hlen] at hr;try rw[hlen]
 have RR1:=lH hr;clear hr kk;refine hK9.out _ _ (HS.out _ J.out) (fun hHeld1=>?_);clear hK9 K9;try simp only  [Act.put,List.setIfInBounds_toArray,List.set_cons_zero,List.set_cons_succ]
 refine wpAnyH_ready  (rs:=[5]) (by kernel_rfl) (by simp) (AllReadyH.cons  (by rw[List.getElem?_toArray];exact rfl) (fun K9 hK9=>?_) AllReadyH.nil);go_simp;refine(HP.out _ J.out).mono ?_;rintro e2 w2 ⟨u2,rfl,hr,kk⟩;have J:=lH (J.out.trans kk);have RR1:=lH (RR1.out.kept kk);have hr2:=hr;obtain⟨x2,q2,rfl,-,-,-⟩:=hr2;rw[hm] at hr;try rw[hm]
 have RR2:=lH hr;clear hr kk;refine hK9.out _ _ (HS.out _ J.out) (fun hHeld2=>?_);clear hK9 K9;try simp only  [Act.put,List.setIfInBounds_toArray,List.set_cons_zero,List.set_cons_succ]
 refine wpAnyH_ready  (rs:=[8]) (by kernel_rfl) (by simp) (AllReadyH.cons  (by rw[List.getElem?_toArray];exact rfl) (fun K9 hK9=>?_) AllReadyH.nil);go_simp;refine(HB.out _ J.out).mono ?_;rintro e3 w3 ⟨u3,rfl,hr,kk⟩;have J:=lH (J.out.trans kk);have RR1:=lH (RR1.out.kept kk);have RR2:=lH (RR2.out.kept kk);have hr2:=hr;obtain⟨x3,q3,rfl,-,-,-⟩:=hr2;rw[hn] at hr;try rw[hn]
 have RR3:=lH hr;clear hr kk;refine hK9.out _ _ (HS.out _ J.out) (fun hHeld3=>?_);clear hK9 K9;try simp only  [Act.put,List.setIfInBounds_toArray,List.set_cons_zero,List.set_cons_succ]
 refine wpAnyH_take  (i:=9) (v:=?_) (by rw[List.getElem?_toArray];exact rfl) (by kernel_rfl) (by kernel_rfl) (by kernel_rfl) (by exact fun _ _ _ h=>h) (Or.inl ⟨by rfl,(by rintro W ⟨o0,o1,o2⟩;go_simp<;>with_reducible rfl)⟩) (by assumption) ?_;try simp only  [Act.put,List.setIfInBounds_toArray,List.set_cons_zero,List.set_cons_succ]
 have H9:=lH (HH.out.kept J.out);have z0:=H9.out.at_ 0 _ rfl;have z1:=H9.out.at_ 1 _ rfl;have z2:=H9.out.at_ 2 _ rfl;have f0:=H9.out.free 0;have f1:=H9.out.free 1;have f2:=H9.out.free 2;have PP:=lH (zv (vs:=[.slice x1 len q1,.slice x2 m q2,.slice x3 n q3]) H9.out rfl);refine wpAnyH_ready  (rs:=[10]) (by kernel_rfl) (by simp) (AllReadyH.cons  (by rw[List.getElem?_toArray];exact rfl) (fun K9 hK9=>?_) AllReadyH.nil);go_simp;obtain⟨WE,hWE⟩:∃W,w3.setCells (w.heap.size+1) 0 [.slice x1 len q1,.slice x2 m q2,.slice x3 n q3]=W:=⟨_,rfl⟩
 have hWE2:(((w3.setCell ⟨(w.heap.size+1),0,none⟩ (.slice x1 len q1)).setCell ⟨(w.heap.size+1),1,none⟩ (.slice x2 m q2)).setCell ⟨(w.heap.size+1),2,none⟩ (.slice x3 n q3))=WE:=hWE;rw[hWE] at PP;try rw[hWE2]
 obtain⟨PC,hsz,hbl,hkp⟩:=PP.out;skip;refine hK9.out _ _ (HS2.out _ _ hbl J.out) (fun hHeldS=>?_);clear hK9 K9 z0 z1 z2 f0 f1 f2;try simp only  [Act.put,List.setIfInBounds_toArray,List.set_cons_zero,List.set_cons_succ]
 refine wpAnyH_done (by kernel_rfl) ?_ _;go_wp2;refine bodyPost_ret (by simp[results,Tryz.results18,go_sem,PC.at_ 0 _ rfl,PC.at_ 1 _ rfl,PC.at_ 2 _ rfl];try rfl) rfl ?_;have SL:=HSL.out _ J.out;exact⟨_,rfl,⟨_,_,_,rfl,XD hsz hbl SL RR1.out,qh hsz hbl SL RR2.out,qD hsz hbl SL RR3.out⟩,hkp _ _ (Nat.le_succ _) (HKZ.out.trans J.out)⟩
theorem jbo {n:Pd} (h:zK n=true):Yx n:=by
 obtain⟨-,-,-,-,h1,h2,h3,h4⟩:=jcc h;refine⟨?_,?_,?_,?_⟩
 · unfold Vec.Zw at h1;simp only[Bool.and_eq_true,decide_eq_true_eq] at h1;omega
 · have:=(jcW h2).1;omega
 · have:=(jdm h3).1;omega
 · have:=(jcB h4).1;omega
def J7 (s:Clu):Bool:=Yz s&&decide (Jy s=0)
theorem XT {s:Clu} (h:Yz s=true):zA s∧s.nodes.length≤34∧s.pods.length≤130∧s.buds.length≤20:=by
 unfold Yz JG at h;simp only[Bool.and_eq_true,decide_eq_true_eq,List.all_eq_true] at h;obtain⟨h1,h2,⟨h3,h4⟩,h5,h6⟩:=h;refine⟨⟨fun n hn=>jf7 (h5 n hn),fun p hp=>jbo (h6 p hp),fun n hn=>?_,by omega,by omega,by omega⟩,by omega,by omega,by omega⟩;have:=h4 n hn;unfold Z3 Zg at this;simp only[Bool.and_eq_true,decide_eq_true_eq] at this;omega
theorem jaX {s:Clu} (h:J7 s=true):Yz s=true:=by unfold J7 at h;exact(Bool.and_eq_true_iff.1 h).1
theorem jaZ {s:Clu} (h:J7 s=true):Jy s=0:=by unfold J7 at h;exact of_decide_eq_true (Bool.and_eq_true_iff.1 h).2
theorem jfQ {v:Value} {s:Clu} {c:Bool} {w:World} (h:jN w v s) (hc:J7 s=c):Calls Tryz.prog 8 #[v] w (Say (.bool c) w):=by
 subst hc;have h0:=h;obtain⟨v1,v2,v3,rfl,⟨a,cap,rfl,-,-,-⟩,⟨b,cp,rfl,-,-,-⟩,⟨d,cb,rfl,-,-,-⟩⟩:=h0;obtain⟨len,hl1⟩:∃q,s.nodes.length=q:=⟨_,rfl⟩
 obtain⟨m,hl2⟩:∃q,s.pods.length=q:=⟨_,rfl⟩
 obtain⟨n,hl3⟩:∃q,s.buds.length=q:=⟨_,rfl⟩
 rw[hl1,hl2,hl3] at h ⊢;clear hl1 hl2 hl3;obtain⟨Z,hZ⟩:∃Z,w.alloc (.cells #[.slice a len cap,.slice b m cp,.slice d n cb] 26)=Z:=⟨_,rfl⟩
 have hkz:Kept w Z:=by rw[←hZ];exact ja _ _
 have HC:=lH (show je w.heap.size [.slice a len cap,.slice b m cp,.slice d n cb] Z from jc w (.slice a len cap) [.slice b m cp,.slice d n cb] 26 Z (by rw[hZ];exact Kept.refl _));have HV:=lH (h.kept hkz);have HKZ:=lH hkz;obtain⟨e1,he1⟩:∃e,Yz s=e:=⟨_,rfl⟩
 have HE1:=lH he1;have HG:=lH (show J7 s=(e1&&decide (Jy s=0)) by unfold J7;rw[he1]);rw[HG.out];clear h hkz;have cq0:=(HC.out.kept (Kept.refl _)).at_ 0 _ rfl;have cq1:=(HC.out.kept (Kept.refl _)).at_ 1 _ rfl;have cq2:=(HC.out.kept (Kept.refl _)).at_ 2 _ rfl;go_enter Tryz.func8,Tryz.ntmps8;go_wp2_with fail
 try rw[hZ]
 clear hZ;refine(jgp HV.out he1).mono ?_;rintro e w1 ⟨rfl,kk⟩;have K:=lH kk;clear kk he1 cq0 cq1 cq2;have cq0:=(HC.out.kept K.out).at_ 0 _ rfl;have cq1:=(HC.out.kept K.out).at_ 1 _ rfl;have cq2:=(HC.out.kept K.out).at_ 2 _ rfl
 cases e1 with
 | false =>
  go_wp2;go_ret;exact⟨rfl,HKZ.out.trans K.out⟩
 | true =>
  obtain⟨L1,L2,L3,L4⟩:=XT HE1.out;have HL:=lH L1;clear L1;go_wp2_with fail
  refine(jgV (HV.out.kept K.out) HL.out (by omega) (by omega) (by omega)).mono ?_;rintro e w2 ⟨x9,rfl,hx,kk⟩;have K2:=lH (K.out.trans kk);have HX:=lH hx;clear hx kk cq0 cq1 cq2;go_wp2_with fail
  obtain⟨c,hc⟩:∃c,Jy s=c:=⟨_,rfl⟩
  refine(jeO HX.out hc).mono ?_;rintro e w3 ⟨rfl,kk⟩;have K3:=lH (K2.out.trans kk);have HCC:=lH hc;clear kk;rw[hc];clear hc;obtain⟨t,ht⟩:∃t,decide (c=0)=t:=⟨_,rfl⟩
  have ht':(c==0)=t:=ht;go_wp2;go_ret;exact⟨by rw[HCC.out,ht];rfl,HKZ.out.trans K3.out⟩
def Asc (l:List Pd):Prop:=l.Pairwise fun x y=>ltS x.name y.name=true
theorem jbr:∀{prev:Option ByteArray} {l:List Pd},zi prev l=0→(∀q,prev=some q→∀x ∈ l,ltS q x.name=true)∧Asc l
 | _,[],_=>⟨fun q _ x h=>absurd h (by simp),.nil⟩
 | prev,n::t,h=>by
  by_cases z:zX n=0
  · by_cases y:Vec.jz prev n.name=true
    · rw[YJ z y] at h;cases h
    · have y:Vec.jz prev n.name=false:=by simpa using y
      rw[Yt z y] at h;obtain⟨h2,h3⟩:=jbr h;refine⟨fun q hq x hx=>?_,List.pairwise_cons.2 ⟨fun x hx=>h2 _ rfl x hx,h3⟩⟩;subst hq;have hlt:ltS q n.name=true:=Vec.Xb y;rcases List.mem_cons.1 hx with rfl | hx
      · exact hlt
      · exact Vec.Jk hlt (h2 _ rfl x hx)
  · rw[XZ z] at h;exact absurd h z
theorem jfi {s:Clu} (h:J7 s=true):Asc s.pods:=by
 have hc:=jaZ h;have h0:or3 (jU s.nodes) (jQ s.pods) (jW s.buds)=0:=Decidable.byContradiction fun g=>g ((qu (nl:=s.nodes) (pl:=s.pods) (bl:=s.buds) rfl g).symm.trans hc);have ho:jQ s.pods=0:=by
  unfold or3 at h0;split at h0
  · rename_i h1;exact absurd h0 h1
  · split at h0
    · exact h0
    · rename_i h1;exact Decidable.of_not_not h1
 unfold jQ at ho;split at ho
 · cases ho
 · exact(jbr ho).2
theorem jd5 {l:List Pd} {x:ByteArray}:Jg l x=none↔∀q ∈ l,q.name≠x:=by
 unfold Jg;rw[List.find?_eq_none];exact⟨fun h q hq e=>h q hq (jR.2 e),fun h q hq e=>h q hq (jR.1 e)⟩
theorem jf4 {l:List Pd} {x:ByteArray} {p:Pd} (h:Jg l x=some p):p ∈ l∧p.name=x :=
 ⟨List.mem_of_find?_eq_some h,jR.1 (List.find?_some (p:=fun n:Pd=>eqS n.name x) h)⟩
theorem jaN {x:ByteArray}:∀{l:List Pd},(∀q ∈ l,q.name≠x)→jD x l=l
 | [],_=>rfl
 | p::t,h=>by
  have hp:=h p (List.mem_cons_self ..);rw[jD,if_neg (fun e=>hp (jR.1 e)),jaN fun q hq=>h q (List.mem_cons_of_mem _ hq)]
theorem YM {x:ByteArray}:∀{l:List Pd} {q:Pd},q ∈ jD x l→q ∈ l
 | p::t,q,h=>by
  rw[jD] at h;split at h
  · exact List.mem_cons_of_mem _ h
  · rcases List.mem_cons.1 h with rfl | h
    · exact List.mem_cons_self ..
    · exact List.mem_cons_of_mem _ (YM h)
theorem qb {x:ByteArray}:∀{l:List Pd},(jD x l).length+(if (Jg l x).isSome=true then 1 else 0)=l.length
 | []=>rfl
 | p::t=>by
  by_cases e:eqS p.name x=true
  · have hf:Jg (p::t) x=some p:=by unfold Jg;exact List.find?_cons_of_pos (p:=fun n:Pd=>eqS n.name x) e
    rw[jD,if_pos e,hf];simp
  · have hf:Jg (p::t) x=Jg t x:=by unfold Jg;exact List.find?_cons_of_neg (p:=fun n:Pd=>eqS n.name x) e
    rw[jD,if_neg e,hf];have:=qb (x:=x) (l:=t);simp only[List.length_cons];omega
theorem jeh (s:Clu) (x:ByteArray):(jY s x).pods.length+(if (Jg s.pods x).isSome=true then 1 else 0)=s.pods.length:=qb
def zu (l:Vec.V):Prop:=Vec.Gd l∧l.length≤8
theorem zu.nil:zu []:=⟨Vec.Gd.nil,by decide⟩
theorem qI {l:Vec.V} (h:Vec.jq l=0) (hf:Vec.zG l):zu l:=⟨Vec.Zr h hf,Vec.JS h⟩
theorem Z6 {f g:ByteArray→Int} {r:Vec.V} (h:∀n,f n=g n):Vec.Made f r↔Vec.Made g r:=by rw[funext h]
theorem add_step {v p:Vec.V} (hv:zu v) (hp:zu p) :
 (∃q,Vec.jg Vec.jv v p=(0,q)∧zu q∧∀n,Vec.jh q n=Vec.jh v n+Vec.jh p n) ∨
 (∃c,c≠0∧Vec.jg Vec.jv v p=(c,[])∧∀(r:Vec.V) (f:ByteArray→Int),(∀n,0≤f n)→Vec.Made (fun n=>Vec.jh v n+Vec.jh p n+f n) r→r.length≤8→False):=by
 rcases Vec.merged_spec Vec.jgj hv.1 hp.1 hv.2 hp.2 with ⟨⟨n,hn⟩,hb⟩ | ⟨hn,q,hm,⟨h8,hb⟩ | ⟨h8,hb⟩⟩
 · refine .inr ⟨5,by decide,hb,fun r f hf hr _=>hn ((Vec.Xo _ _).2 ?_)⟩;have h1:=(Vec.zS n hr.1).2;have h2:=hf n;rw[hr.2 n] at h1;dsimp only at h1;omega
 · refine .inr ⟨4,by decide,hb,fun r f hf hr h9=>?_⟩;have hl:q.length≤r.length:=Vec.Gd.len hm.1 hr.1 fun n hne e=>hne (by
    rw[hm.2 n];show (Vec.jv _ _).1=0;rw[Vec.jbn ((Vec.Xo _ _).1 (hn n))];have h1:=hf n;have h2:=Vec.zS n hv.1;have h3:=Vec.zS n hp.1;rw[hr.2 n] at e;dsimp only at e ⊢;omega)
   omega
 · exact .inl ⟨q,hb,⟨hm.1,h8⟩,fun n=>by rw[hm.2 n];show (Vec.jv _ _).1=_;rw[Vec.jbn ((Vec.Xo _ _).1 (hn n))]⟩
def ZI (x:ByteArray) (p:Pd) (n:ByteArray):Int:=if eqS p.node x=true then Vec.jh p.need n else 0
def zR (x:ByteArray):List Pd→ByteArray→Int
 | [],_=>0
 | p::t,n=>ZI x p n+zR x t n
theorem jbv {x:ByteArray} {p:Pd} (h:zu p.need) (n:ByteArray):0≤ZI x p n:=by
 unfold ZI;split
 · exact(Vec.zS n h.1).1
 · exact Int.le_refl _
theorem X3 {x:ByteArray}:∀{l:List Pd},(∀p ∈ l,zu p.need)→∀n,0≤zR x l n
 | [],_,n=>Int.le_refl _
 | p::t,h,n=>Int.add_nonneg (jbv (h p (List.mem_cons_self ..)) n) (X3 (fun q hq=>h q (List.mem_cons_of_mem _ hq)) n)
theorem XP {x:ByteArray}:∀{l:List Pd} {v r:Vec.V},(∀p ∈ l,zu p.need)→zu v→(jE x l v=(0,r)↔Vec.Made (fun n=>Vec.jh v n+zR x l n) r∧r.length≤8)
 | [],v,r,_,hv=>by
  constructor
  · intro e
    cases e
    exact⟨⟨hv.1,fun n=>by show _=_+(0:Int);rw[Int.add_zero]⟩,hv.2⟩
  · rintro ⟨hm,_⟩;have e:v=r:=Vec.Gd.ext hv.1 hm.1 fun n=>by rw[hm.2 n];show _=_+(0:Int);rw[Int.add_zero]
    rw[e];rfl
 | p::t,v,r,hl,hv=>by
  have ht:∀q ∈ t,zu q.need:=fun q hq=>hl q (List.mem_cons_of_mem _ hq);have hp:=hl p (List.mem_cons_self ..)
  cases e:eqS p.node x with
  | false =>
   rw[Xq e,XP ht hv];refine and_congr (Z6 fun n=>?_) Iff.rfl;show _=_+(ZI x p n+zR x t n);rw[ZI,if_neg (by rw[e];decide),Int.zero_add]
  | true =>
   have hone:∀n,ZI x p n=Vec.jh p.need n:=fun n=>by rw[ZI,if_pos e]
   rcases add_step hv hp with ⟨q,hq,fq,gq⟩ | ⟨c,hc,hq,no⟩
   · rw[XY e hq,XP ht fq];refine and_congr (Z6 fun n=>?_) Iff.rfl;show _=_+(ZI x p n+zR x t n);rw[hone,gq,Int.add_assoc]
   · rw[XX e hq hc];constructor
     · intro h;exact absurd (Prod.mk.inj h).1 hc
     · rintro ⟨hm,h8⟩;refine(no r (zR x t) (X3 ht) ((Z6 fun n=>?_).1 hm) h8).elim;show _+(ZI x p n+zR x t n)=_;rw[hone,Int.add_assoc]
theorem ja9 {x:ByteArray} {l:List Pd} {r:Vec.V} (hl:∀p ∈ l,zu p.need):jE x l []=(0,r)↔Vec.Made (zR x l) r∧r.length≤8:=by
 rw[XP hl zu.nil];exact and_congr (Z6 fun n=>by show (0:Int)+_=_;rw[Int.zero_add]) Iff.rfl
theorem jap {x y:ByteArray}:∀{l:List Pd} {p:Pd},Jg l y=some p→∀n,zR x (jD y l) n+ZI x p n=zR x l n
 | q::t,p,h,n=>by
  by_cases e:eqS q.name y=true
  · have hq:Jg (q::t) y=some q:=by unfold Jg;exact List.find?_cons_of_pos (p:=fun n:Pd=>eqS n.name y) e
    rw[hq] at h;obtain rfl:=Option.some.inj h;rw[jD,if_pos e];show _=ZI x q n+zR x t n;omega
  · have hq:Jg (q::t) y=Jg t y:=by unfold Jg;exact List.find?_cons_of_neg (p:=fun n:Pd=>eqS n.name y) e
    rw[hq] at h;have:=jap (x:=x) h n;rw[jD,if_neg e];show ZI x q n+zR x (jD y t) n+_=ZI x q n+zR x t n;omega
structure Yn (s:Clu):Prop where
 nodes:jU s.nodes=0
 pods:jQ s.pods=0
 places:jF s.nodes s.pods=0
 rooms:jT s.pods s.nodes=0
 tot:(Jw s.nodes []).1=0
theorem jfo {s:Clu} (h:Jy s=0):Yn s:=by
 have h0:or3 (jU s.nodes) (jQ s.pods) (jW s.buds)=0:=Decidable.byContradiction fun g=>g ((qu (nl:=s.nodes) (pl:=s.pods) (bl:=s.buds) rfl g).symm.trans h);have h1:jF s.nodes s.pods=0:=Decidable.byContradiction fun g=>g ((jac (nl:=s.nodes) (pl:=s.pods) (bl:=s.buds) h0 rfl g).symm.trans h);have h2:jT s.pods s.nodes=0:=Decidable.byContradiction fun g=>g ((X0 (nl:=s.nodes) (pl:=s.pods) (bl:=s.buds) h0 h1 rfl g).symm.trans h);have h3:(Jw s.nodes []).1=0:=(jaW (nl:=s.nodes) (pl:=s.pods) (bl:=s.buds) h0 h1 h2).symm.trans h;have ho:jU s.nodes=0∧jQ s.pods=0:=by
  unfold or3 at h0;split at h0
  · rename_i h1;exact absurd h0 h1
  · rename_i g1;split at h0
    · rename_i g2;exact absurd h0 g2
    · rename_i g2;exact⟨Decidable.of_not_not g1,Decidable.of_not_not g2⟩
 exact⟨ho.1,ho.2,h1,h2,h3⟩
def jgi (l:List Nod):Prop:=l.Pairwise fun x y=>ltS x.name y.name=true
theorem Xk:∀{prev:Option ByteArray} {l:List Nod},zn prev l=0→(∀q,prev=some q→∀x ∈ l,ltS q x.name=true)∧jgi l∧∀n ∈ l,zH n=0
 | _,[],_=>⟨fun q _ x h=>absurd h (by simp),.nil,fun n h=>absurd h (by simp)⟩
 | prev,n::t,h=>by
  by_cases z:zH n=0
  · by_cases y:Vec.jz prev n.name=true
    · rw[qE z y] at h;cases h
    · have y:Vec.jz prev n.name=false:=by simpa using y
      rw[Xm z y] at h;obtain⟨h2,h3,h4⟩:=Xk h;refine⟨fun q hq x hx=>?_,List.pairwise_cons.2 ⟨fun x hx=>h2 _ rfl x hx,h3⟩,fun m hm=>?_⟩
      · subst hq;have hlt:ltS q n.name=true:=Vec.Xb y;rcases List.mem_cons.1 hx with rfl | hx
        · exact hlt
        · exact Vec.Jk hlt (h2 _ rfl x hx)
      · rcases List.mem_cons.1 hm with rfl | hm
        · exact z
        · exact h4 m hm
  · rw[jaR z] at h;exact absurd h z
theorem jai:∀{l:List Nod} {p:Nod},jgi l→p ∈ l→jm l p.name=some p
 | [],_,_,h=>by cases h
 | x::t,p,h,hp=>by
  unfold jm;rcases List.mem_cons.1 hp with hp | hp
  · subst hp;exact List.find?_cons_of_pos (p:=fun n:Nod=>eqS n.name p.name) (YL _)
  · have hlt:=(List.pairwise_cons.1 h).1 p hp;exact(List.find?_cons_of_neg (p:=fun n:Nod=>eqS n.name p.name) (fun e=>Vec.Zs hlt (jR.1 e))).trans (jai (List.pairwise_cons.1 h).2 hp)
theorem Yn.jm {s:Clu} (h:Yn s) {n:Nod} (hn:n ∈ s.nodes):jm s.nodes n.name=some n:=by
 have ho:=h.nodes;unfold jU at ho;split at ho
 · cases ho
 · exact jai (Xk ho).2.1 hn
theorem Yn.cap0 {s:Clu} (h:Yn s) {n:Nod} (hn:n ∈ s.nodes):Vec.jq n.cap=0:=by
 have ho:=h.nodes;unfold jU at ho;split at ho
 · cases ho
 · have hc:=(Xk ho).2.2 n hn;unfold zH at hc;split at hc
   · cases hc
   · split at hc
     · rename_i g;exact absurd hc g
     · rename_i g;exact Decidable.of_not_not g
theorem jcw:∀{prev:Option ByteArray} {l:List Pd},zi prev l=0→∀n ∈ l,zX n=0
 | prev,m::t,h,n,hn=>by
  by_cases z:zX m=0
  · by_cases y:Vec.jz prev m.name=true
    · rw[YJ z y] at h;cases h
    · have y:Vec.jz prev m.name=false:=by simpa using y
      rw[Yt z y] at h;rcases List.mem_cons.1 hn with rfl | hn
      · exact z
      · exact jcw h n hn
  · rw[XZ z] at h;exact absurd h z
theorem XV:∀{l:List Int},orL l=0→∀c ∈ l,c=0
 | x::t,h,c,hc=>by
  unfold orL at h;split at h
  · rename_i g;exact absurd h g
  · rename_i g;rcases List.mem_cons.1 hc with rfl | hc
    · exact Decidable.of_not_not g
    · exact XV h c hc
theorem Yn.need0 {s:Clu} (h:Yn s) {n:Pd} (hn:n ∈ s.pods):Vec.jq n.need=0:=by
 have ho:=h.pods;unfold jQ at ho;split at ho
 · cases ho
 · exact XV (jcw ho n hn) _ (by simp[Xy])
structure Sound (s:Clu):Prop where
 parts:Yn s
 asc:Asc s.pods
 need:∀p ∈ s.pods,zu p.need
 cap:∀n ∈ s.nodes,zu n.cap
theorem jeU {s:Clu} {w:World} {v:Value} (h:J7 s=true) (hr:jN w v s):Sound s:=by
 have hp:=jfo (jaZ h);obtain⟨v1,v2,v3,rfl,⟨a,cap,rfl,-,-,h1⟩,⟨b,cp,rfl,-,-,h2⟩,-⟩:=hr;refine⟨hp,jfi h,fun p hm=>qI (hp.need0 hm) ?_,fun n hm=>qI (hp.cap0 hm) ?_⟩
 · obtain⟨k,hk,rfl⟩:=List.mem_iff_getElem.1 hm;rcases h2.2.2 with h0 | ⟨b,off,-,-,hc⟩
   · omega
   · obtain⟨v1,v2,v3,v4,-,-,-,-,-,-,-,-,-,-,-,hat⟩:=hc k _ (List.getElem?_eq_getElem hk);obtain⟨a9,c9,-,-,-,g⟩:=hat.need;exact g.2.2.1
 · obtain⟨k,hk,rfl⟩:=List.mem_iff_getElem.1 hm;rcases h1.2.2 with h0 | ⟨b,off,-,-,hc⟩
   · omega
   · obtain⟨a1,m1,c1,a2,m2,c2,a3,m3,c3,-,-,-,-,-,hat⟩:=hc k _ (List.getElem?_eq_getElem hk);obtain⟨a9,c9,-,-,-,g⟩:=hat.cap;exact g.2.2.1
def ZX (g:ByteArray→Int):Vec.V→Vec.V
 | []=>[]
 | x::t=>if g x.1=0 then ZX g t else (x.1,g x.1)::ZX g t
theorem Ya {g:ByteArray→Int}:∀{l:Vec.V} {y:ByteArray×Int},y ∈ ZX g l→∃x ∈ l,y=(x.1,g x.1)∧g x.1≠0
 | x::t,y,h=>by
  rw[ZX] at h;split at h
  · obtain⟨z,hz,e⟩:=Ya h;exact⟨z,by simp[hz],e⟩
  · rename_i hg;rcases List.mem_cons.1 h with rfl | h
    · exact⟨x,by simp,rfl,hg⟩
    · obtain⟨z,hz,e⟩:=Ya h;exact⟨z,by simp[hz],e⟩
theorem ja6 (g:ByteArray→Int):∀l:Vec.V,(ZX g l).length≤l.length
 | []=>Nat.le_refl _
 | x::t=>by
  have:=ja6 g t;rw[ZX];split<;>simp only[List.length_cons]<;>omega
theorem jcy {g:ByteArray→Int}:∀{l:Vec.V},Vec.Gd l→(∀x ∈ l,0≤g x.1∧g x.1≤9223372036854775807)→Vec.Gd (ZX g l)
 | [],_,_=>Vec.Gd.nil
 | x::t,h,hb=>by
  obtain⟨h1,h2,h3⟩:=Vec.Gd.cons.1 h;have ih:=jcy h3 fun y hy=>hb y (by simp[hy]);rw[ZX];split
  · exact ih
  · rename_i hg;have:=hb x (by simp);refine Vec.Gd.cons.2 ⟨⟨h1.1,by dsimp only;omega,this.2⟩,fun y hy=>?_,ih⟩;obtain⟨z,hz,rfl,_⟩:=Ya hy;exact h2 z hz
theorem X1 {g:ByteArray→Int} {n:ByteArray}:∀{l:Vec.V},Vec.Gd l→(∃x ∈ l,x.1=n)→Vec.jh (ZX g l) n=g n
 | [],_,h=>by obtain⟨x,hx,_⟩:=h;cases hx
 | y::t,h,he=>by
  obtain⟨h1,h2,h3⟩:=Vec.Gd.cons.1 h;by_cases e:y.1=n
  · rw[ZX];split
    · rename_i hg;rw[←e,hg];refine Vec.Yk fun z hz=>?_;obtain⟨q,hq,rfl,_⟩:=Ya hz;exact fun e2=>Vec.Zs (h2 q hq) e2.symm
    · rw[←e];exact Vec.zJ _ _
  · have ht:∃x ∈ t,x.1=n:=by
     obtain⟨x,hx,e2⟩:=he;rcases List.mem_cons.1 hx with rfl | hx
     · exact absurd e2 e
     · exact⟨x,hx,e2⟩
    rw[ZX];split
    · exact X1 h3 ht
    · rw[Vec.zL _ (by exact e)];exact X1 h3 ht
theorem jfd {g:ByteArray→Int} {u:Vec.V} (hu:zu u) (h0:∀n,0≤g n) (h1:∀n,g n≤Vec.jh u n):∃r,Vec.Made g r∧r.length≤8:=by
 refine⟨ZX g u,⟨jcy hu.1 fun x hx=>⟨h0 _,Int.le_trans (h1 _) (Vec.zS _ hu.1).2⟩,fun n=>?_⟩,Nat.le_trans (ja6 g u) hu.2⟩;by_cases e:∃x ∈ u,x.1=n
 · exact X1 hu.1 e
 · have hz:Vec.jh u n=0:=Vec.Yk fun y hy e2=>e ⟨y,hy,e2⟩;have h2:=h0 n;have h3:=h1 n;rw[show g n=0 by omega];refine Vec.Yk fun y hy e2=>?_;obtain⟨x,hx,rfl,_⟩:=Ya hy;exact e ⟨x,hx,e2⟩
theorem jgt {x:ByteArray} {cap:Vec.V} {l:List Pd} (hc:zu cap) (hp:∀p ∈ l,zu p.need) (hs:∀m,zR x l m≤Vec.jh cap m):∃u,jE x l []=(0,u)∧zu u∧(∀m,Vec.jh u m=zR x l m)∧Vec.jt cap u=true:=by
 obtain⟨u,hu,hu8⟩:=jfd hc (X3 hp) hs;exact⟨u,(ja9 hp).2 ⟨hu,hu8⟩,⟨hu.1,hu8⟩,hu.2,(Vec.Yf hu.1 hc.1).2 fun m=>by rw[hu.2 m];exact hs m⟩
theorem jcH {s:Clu} {n:Nod} (hf:jm s.nodes n.name=some n) (hc:zu n.cap) (hp:∀p ∈ s.pods,zu p.need) (hs:∀m,zR n.name s.pods m≤Vec.jh n.cap m):∃b,Zv s n.name=(0,b)∧zu b∧∀m,Vec.jh b m=Vec.jh n.cap m-zR n.name s.pods m:=by
 obtain⟨u,h1,h2,h3,h4⟩:=jgt hc hp hs;obtain⟨b,hb,hmb,hlb⟩:=Vec.jaY hc.1 h2.1 hc.2 h2.2 fun m=>by rw[h3 m];exact hs m
 refine⟨b,?_,⟨hmb.1,hlb⟩,fun m=>by
  have h9:Vec.jh b m=Vec.jh n.cap m-Vec.jh u m:=hmb.2 m;rw[h9,h3 m]⟩
 unfold Zv;rw[hf];dsimp only;rw[h1,if_pos rfl];exact hb
theorem jfE {s:Clu} {n:Nod} (hf:jm s.nodes n.name=some n) (hc:zu n.cap) (hp:∀p ∈ s.pods,zu p.need) (h:(Zv s n.name).1=0):∀m,zR n.name s.pods m≤Vec.jh n.cap m:=by
 unfold Zv at h;rw[hf] at h;dsimp only at h;obtain⟨c,u,hu⟩:∃c u,jE n.name s.pods []=(c,u):=⟨_,_,rfl⟩
 rw[hu] at h;by_cases hz:c=0
 · subst hz;rw[if_pos rfl] at h;obtain⟨hm,h8⟩:=(ja9 hp).1 hu;have:=(Vec.Yf hm.1 hc.1).1 ((Vec.je4 hc.1 hm.1 hc.2 h8).1 h);intro m;rw[←hm.2 m];exact this m
 · rw[if_neg hz] at h;exact absurd h hz
theorem jaL {s:Clu} {p:Pd} {n:Nod} (hf:jm s.nodes n.name=some n) (hc:zu n.cap) (hp:∀p ∈ s.pods,zu p.need) (hq:zu p.need):Zc s p n.name=true↔∀m,zR n.name s.pods m+Vec.jh p.need m≤Vec.jh n.cap m:=by
 unfold Zc;rw[Bool.and_eq_true,decide_eq_true_iff];constructor
 · rintro ⟨h1,h2⟩ m;have hs:=jfE hf hc hp h1;obtain⟨b,hb,fb,gb⟩:=jcH hf hc hp hs;rw[hb] at h2;have:=(Vec.Yf hq.1 fb.1).1 h2 m;rw[gb] at this;omega
 · intro h;obtain⟨b,hb,fb,gb⟩:=jcH hf hc hp fun m=>by have:=h m;have:=(Vec.zS m hq.1).1;omega
   rw[hb];refine⟨rfl,(Vec.Yf hq.1 fb.1).2 fun m=>?_⟩;rw[gb];have:=h m;omega
theorem jfr {x y:ByteArray} (l:List Pd) (hl:∀p ∈ l,zu p.need) (m:ByteArray):zR x (jD y l) m≤zR x l m:=by
 cases h:Jg l y with
 | none=>rw[jaN (jd5.1 h)];exact Int.le_refl _
 | some p =>
  have h1:=jap (x:=x) h m;have h2:=jbv (x:=x) (hl p (jf4 h).1) m;omega
theorem Xv {s:Clu} (h:∀p ∈ s.pods,zu p.need) (x:ByteArray):∀p ∈ (jY s x).pods,zu p.need:=fun p hp=>h p (YM hp)
theorem jaP {s:Clu} {p:Pd} {x:ByteArray} (h:Jr s p x=0) (hk:Jt p.key=true):Jr s { p with need:=[] } x=0:=by
 obtain⟨n,hf,hz⟩:=XI h;obtain⟨h1,h2,-,h4⟩:=Xt hz;refine(ZK (s:=jY s p.name) (p:={ p with need:=[] }) hf).trans (YQ h1 h2 (by unfold Jh;rw[if_pos hk]) ?_);unfold Zc at h4 ⊢;rw[Bool.and_eq_true] at h4 ⊢;exact⟨h4.1,rfl⟩
theorem jad (a b:ByteArray):∀l:List Pd,jD a (jD b l)=jD b (jD a l)
 | []=>rfl
 | q::t=>by
  by_cases h1:eqS q.name a=true
  · by_cases h2:eqS q.name b=true
    · obtain rfl:a=b:=(jR.1 h1).symm.trans (jR.1 h2);rfl
    · have e1:jD b (q::t)=q::jD b t:=by rw[jD,if_neg h2]
      have e2:jD a (q::t)=t:=by rw[jD,if_pos h1]
      rw[e1,e2,jD,if_pos h1]
  · have e2:jD a (q::t)=q::jD a t:=by rw[jD,if_neg h1]
    by_cases h2:eqS q.name b=true
    · have e1:jD b (q::t)=t:=by rw[jD,if_pos h2]
      rw[e1,e2,jD,if_pos h2]
    · have e1:jD b (q::t)=q::jD b t:=by rw[jD,if_neg h2]
      rw[e1,e2,jD,if_neg h1,jD,if_neg h2,jad a b t]
theorem jfb {s:Clu} {p:Pd} {x:ByteArray} (hs:Sound s) (hq:zu p.need) (h:Jr s p x=0) (hk:Jt p.key=true) (a:ByteArray):Jr (jY s a) p x=0:=by
 obtain⟨n,hf,hz⟩:=XI h;obtain⟨h1,h2,-,h4⟩:=Xt hz;obtain⟨hm,rfl⟩:=jeB hf;refine(ZK (s:=jY (jY s a) p.name) (p:=p) hf).trans (YQ h1 h2 (by unfold Jh;rw[if_pos hk]) ?_);have h5:=(jaL (s:=jY s p.name) hf (hs.cap n hm) (Xv hs.need p.name) hq).1 h4;refine(jaL (s:=jY (jY s a) p.name) hf (hs.cap n hm) (Xv (Xv hs.need a) p.name) hq).2 fun m=>?_;have h6:=h5 m;have h7:zR n.name (jD p.name (jD a s.pods)) m≤zR n.name (jD p.name s.pods) m:=by
  rw[jad];exact jfr _ (fun q hq=>hs.need q (YM hq)) m
 show zR n.name (jD p.name (jD a s.pods)) m+_≤_;have h8:zR n.name (jD p.name s.pods) m+Vec.jh p.need m≤Vec.jh n.cap m:=h6;omega
def jha (o:Option Nod) (w:World) (e:Ending) (w':World):Prop:=(∀n,o=some n→∃b1 k1 d1 b2 k2 d2 b3 k3 d3,e=.returned (zE n (.slice b1 k1 d1) (.slice b2 k2 d2) (.slice b3 k3 d3))∧zq w' (.slice b1 k1 d1) (.slice b2 k2 d2) (.slice b3 k3 d3) n)∧(o=none→e=.panicked [zk 3])∧Kept w w'
theorem Yw (c:Int) (w:World):Calls Tryz.prog 120 #[.bool false,.int .i64 c] w fun e w'=>e=.returned (.tuple #[])∧w=w':=by
 go_enter Tryz.func120,Tryz.ntmps120;go_wp2;refine⟨rfl,.tuple #[],by simp[results,Tryz.results120,go_sem],?_⟩;exact⟨rfl,rfl⟩
theorem Z0 (c:Int) (w:World):Calls Tryz.prog 120 #[.bool true,.int .i64 c] w fun e w'=>e=.panicked [zk c]∧w=w':=by
 go_enter Tryz.func120,Tryz.ntmps120;go_wp2;exact⟨rfl,rfl,rfl⟩
theorem jb8 (s1 s2 s3:Option Addr) (n1 e1 n2 e2 n3 e3:Nat) (nodes:List Nod) (name:ByteArray) (w:World) (hn:js w s1 n1 nodes) (hb1:n1≤100000) :
 Calls Tryz.prog 119 #[.agg #[.slice s1 n1 e1,.slice s2 n2 e2,.slice s3 n3 e3],.string name] w (jha (jm nodes name) w):=by
 obtain⟨Z,hZ⟩:∃Z,(w.alloc (.cells #[.slice s1 n1 e1,.slice s2 n2 e2,.slice s3 n3 e3] 26)).alloc (.cells #[.string ⟨#[]⟩,.slice none 0 0,.slice none 0 0,.slice none 0 0,.bool false] 65)=Z:=⟨_,rfl⟩
 have hkz:Kept w Z:=by rw[←hZ];exact jr _ _ _
 have HSB:=lH (jc w (.slice s1 n1 e1) [.slice s2 n2 e2,.slice s3 n3 e3] 26 Z (by rw[←hZ];exact ja _ _));have hyb:je (w.heap.size+1) [.string ⟨#[]⟩,.slice none 0 0,.slice none 0 0,.slice none 0 0,.bool false] Z:=by
  have dd:=jc (w.alloc (.cells #[.slice s1 n1 e1,.slice s2 n2 e2,.slice s3 n3 e3] 26)) (.string ⟨#[]⟩) [.slice none 0 0,.slice none 0 0,.slice none 0 0,.bool false] 65 Z (by rw[hZ];exact Kept.refl _);rw[World.size_alloc] at dd;exact dd
 have HYB:=lH hyb;have HN:=lH hn;have HNL:=lH hn.1;have HKZ:=lH hkz;clear hn hkz hyb;go_enter Tryz.func119,Tryz.ntmps119;have y0:=HSB.out.at_ 0 _ rfl;go_upto_region 1 with fail
 try rw[hZ]
 clear hZ;go_wp2;clear y0;go_loopw [10] (fun i wr=>∃k:Nat,k≤n1∧i=.int .i64 k∧jm (nodes.drop k) name=jm nodes name∧Kept Z wr) (fun i _=>n1-(intOf i).toNat)
 case atStart=>exact⟨0,Nat.zero_le _,rfl,rfl,Kept.refl _⟩
 case round =>
  obtain⟨k,hk,rfl,hR,hK⟩:=hrel;have HR:=lH hR;have HK:=lH (HKZ.out.trans hK);have HKR:=lH hK;by_cases hlt:k<n1
  · obtain⟨g,off,rfl⟩:=HN.out.form.resolve_left (by omega);obtain⟨n,b1,k1,d1,b2,k2,d2,b3,k3,d3,hn,hd,hb,u0,u1,u2,u3,u4,hat⟩:=HN.out.at_ hlt;have HAT:=lH hat;have HD:=lH hd;have u0:=cell_later HK.out u0;have u1:=cell_later HK.out u1;have u2:=cell_later HK.out u2;have u3:=cell_later HK.out u3;have u4:=cell_later HK.out u4;have hkk:(k:Int)<(n1:Int):=by omega
    have hk0:¬(k:Int)<0:=by omega
    obtain⟨wx,hwx⟩:∃W,wr.alloc (.cells #[.string n.name,.slice b1 k1 d1,.slice b2 k2 d2,.slice b3 k3 d3,.bool n.cordon] 65)=W:=⟨_,rfl⟩
    have hkx:Kept wr wx:=by rw[←hwx];exact ja _ _
    have HQB:=lH (jc wr (.string n.name) [.slice b1 k1 d1,.slice b2 k2 d2,.slice b3 k3 d3,.bool n.cordon] 65 wx (by rw[hwx];exact Kept.refl _));obtain⟨bq,hbq⟩:∃z,wr.heap.size=z:=⟨_,rfl⟩
    rw[hbq] at HQB;have KX:=lH hkx;go_upto_region 4 with fail
    try rw[hwx]
    try rw[hbq]
    clear hwx hbq hd hb hn hR hK hkx hk0 hkk hat u0 u1 u2 u3 u4;have t0:=HQB.out.at_ 0 _ rfl;have t1:=HQB.out.at_ 1 _ rfl;have t2:=HQB.out.at_ 2 _ rfl;have t3:=HQB.out.at_ 3 _ rfl;have t4:=HQB.out.at_ 4 _ rfl;obtain⟨t,ht⟩:∃t,(n.name.toList==name.toList)=t:=⟨_,rfl⟩
    have HT:=lH (show eqS n.name name=t from ht)
    cases t with
    | false =>
     have HX:=lH (show jm (nodes.drop (k+1)) name=jm nodes name by rw[←HR.out,HD.out];unfold jm;rw[List.find?_cons,HT.out]);go_wp2;go_roundw
     case rel=>exact⟨k+1,by omega,by go_num,HX.out,HKR.out.trans KX.out⟩
     case measure=>simp[intOf];omega
    | true =>
     have HX:=lH (show jm nodes name=some n by rw[←HR.out,HD.out];unfold jm;rw[List.find?_cons,HT.out]);have HYX:=lH (HYB.out.kept (HKR.out.trans KX.out));have z0:=HYX.out.at_ 0 _ rfl;have z1:=HYX.out.at_ 1 _ rfl;have z2:=HYX.out.at_ 2 _ rfl;have z3:=HYX.out.at_ 3 _ rfl;have z4:=HYX.out.at_ 4 _ rfl;have f0:=HYX.out.free 0;have f1:=HYX.out.free 1;have f2:=HYX.out.free 2;have f3:=HYX.out.free 3;have f4:=HYX.out.free 4;have P:=lH (Zp ⟨z0,z1,z2,z3,z4⟩ n.name b1 b2 b3 k1 d1 k2 d2 k3 d3 n.cordon);go_wp2;obtain⟨WE,hWE⟩:∃W,(((((wx.setCell ⟨w.heap.size+1,0,none⟩ (.string n.name)).setCell ⟨w.heap.size+1,1,none⟩ (.slice b1 k1 d1)).setCell ⟨w.heap.size+1,2,none⟩ (.slice b2 k2 d2)).setCell ⟨w.heap.size+1,3,none⟩ (.slice b3 k3 d3)).setCell ⟨w.heap.size+1,4,none⟩ (.bool n.cordon))=W:=⟨_,rfl⟩
     rw[hWE] at P ⊢;clear hWE z0 z1 z2 z3 z4 t0 t1 t2 t3 t4 f0 f1 f2 f3 f4;obtain⟨⟨d0,d1,d2,d3,d4⟩,hsz,hbl,hkp⟩:=P.out;refine bodyPost_ret (by simp[results,Tryz.results119,go_sem,d0,d1,d2,d3,d4];try rfl) rfl ?_;have KE:=hkp _ _ (Nat.le_succ _) (HK.out.trans KX.out);refine⟨fun m e=>?_,fun e=>?_,KE⟩
     · rw[HX.out] at e;cases e;exact⟨_,_,_,_,_,_,_,_,_,rfl,HAT.out.kept KE⟩
     · rw[HX.out] at e;cases e
  · have hge:¬(k:Int)<(n1:Int):=by omega
    have HO:=lH (show jm nodes name=none by rw[←HR.out,List.drop_of_length_le (by rw[HNL.out];omega)];rfl);clear hR hK;go_wp2;exact⟨rfl,(fun m e=>by rw[HO.out] at e;cases e),(fun _=>rfl),HK.out⟩
theorem jel {r:Int×Vec.V} {w w':World} {e:Ending} (h:Vec.Yd r w e w'):ZY r w e w':=by
 obtain⟨v,e,h,k⟩:=h;exact⟨v,e,h.at_,k⟩
theorem jgX {v:Value} {s:Clu} {w:World} (h:jN w v s) (x:ByteArray) (hl:zA s):Calls Tryz.prog 158 #[v,.string x] w (ZY (Zv s x) w):=by
 obtain⟨v1,v2,v3,rfl,⟨a,cap,rfl,l1,m1,h1⟩,⟨b,cp,rfl,l2,m2,h2⟩,⟨d,cb,rfl,l3,m3,h3⟩⟩:=h;exact(jez a b d _ cap _ cp _ cb s.nodes s.pods x w h1 h2 hl.nodes).mono fun _ _ h=>jel h
theorem jN.nAt {w:World} {v2 v3:Value} {b:Option Addr} {m cp:Nat} {s:Clu} (h:jN w (Zh (.slice b m cp) v2 v3) s):js w b m s.nodes∧m=s.nodes.length:=by
 obtain⟨_,_,_,e,g0⟩:=h
 cases e
 obtain⟨a',cap',e,_,_,h⟩:=g0.nodes
 cases e
 exact⟨h,rfl⟩
theorem jN.pAt {w:World} {v1 v3:Value} {b:Option Addr} {m cp:Nat} {s:Clu} (h:jN w (Zh v1 (.slice b m cp) v3) s):jC w b m s.pods∧m=s.pods.length:=by
 obtain⟨_,_,_,e,g0⟩:=h
 cases e
 obtain⟨a',cap',e,_,_,h⟩:=g0.pods
 cases e
 exact⟨h,rfl⟩
theorem jbB (p:Pd) (n:Nod) (a1 a2 a3 a4:Option Addr) (m1 c1 m2 c2 m3 c3 m4 c4:Nat) (b1 b2 b3:Option Addr) (k1 d1 k2 d2 k3 d3:Nat) (w:World) (hp:jB w (.slice a1 m1 c1) (.slice a2 m2 c2) (.slice a3 m3 c3) (.slice a4 m4 c4) p) (hn:zq w (.slice b1 k1 d1) (.slice b2 k2 d2) (.slice b3 k3 d3) n):Calls Tryz.prog 121 #[jG p (.slice a1 m1 c1) (.slice a2 m2 c2) (.slice a3 m3 c3) (.slice a4 m4 c4),zE n (.slice b1 k1 d1) (.slice b2 k2 d2) (.slice b3 k3 d3)] w (Say (.bool (Jd p n)) w):=by
 obtain⟨t,ht⟩:∃t,JR p.sel n.labels=t:=⟨_,rfl⟩
 have HM0:=lH (fun (W:World) (k:Kept w W)=>jgB (hp.sel.kept k) (hn.labels.kept k) ht);obtain⟨cd,hcd⟩:∃t,n.cordon=t:=⟨_,rfl⟩
 have HV:=lH (show Jd p n=(!cd&&t) by unfold Jd;rw[ht,hcd]);clear ht;obtain⟨Z,hZ⟩:∃Z,(w.alloc (.cells #[.string p.name,.string p.owner,.int .i64 p.prio,.slice a1 m1 c1,.slice a2 m2 c2,.slice a3 m3 c3,.slice a4 m4 c4,.string p.key,.int .i64 p.most,.string p.node,.bool p.hold] 35)).alloc (.cells #[.string n.name,.slice b1 k1 d1,.slice b2 k2 d2,.slice b3 k3 d3,.bool cd] 65)=Z:=⟨_,rfl⟩
 have hkz:Kept w Z:=by rw[←hZ];exact jr _ _ _
 have HB1:=lH (jc w (.string p.name) [.string p.owner,.int .i64 p.prio,.slice a1 m1 c1,.slice a2 m2 c2,.slice a3 m3 c3,.slice a4 m4 c4,.string p.key,.int .i64 p.most,.string p.node,.bool p.hold] 35 Z (by rw[←hZ];exact ja _ _));have HB2:=lH (show je (w.heap.size+1) [.string n.name,.slice b1 k1 d1,.slice b2 k2 d2,.slice b3 k3 d3,.bool cd] Z by
  have dd:=jc (w.alloc (.cells #[.string p.name,.string p.owner,.int .i64 p.prio,.slice a1 m1 c1,.slice a2 m2 c2,.slice a3 m3 c3,.slice a4 m4 c4,.string p.key,.int .i64 p.most,.string p.node,.bool p.hold] 35)) (.string n.name) [.slice b1 k1 d1,.slice b2 k2 d2,.slice b3 k3 d3,.bool cd] 65 Z (by rw[hZ];exact Kept.refl _);rw[World.size_alloc] at dd;exact dd)
 have K:=lH hkz;have HM:=lH (HM0.out Z hkz);clear HM0 hp hn hkz;have r5:=HB1.out.at_ 5 _ rfl;have q2:=HB2.out.at_ 2 _ rfl;have q4:=HB2.out.at_ 4 _ rfl;unfold jG zE;rw[hcd];clear hcd;go_enter Tryz.func121,Tryz.ntmps121
 cases cd with
 | true =>
  go_wp2;try rw[hZ]
  go_ret;exact⟨jd (by rw[HV.out];rfl),by first | exact K.out | (rw[hZ];exact K.out)⟩
 | false =>
  go_wp2_with fail
  try rw[hZ]
  refine HM.out.mono ?_;rintro e w1 ⟨rfl,kk⟩;have K:=lH (K.out.trans kk);clear kk hZ;go_wp2;go_ret;exact⟨jd (by rw[HV.out];rfl),K.out⟩
theorem jcd (p:Pd) (n:Nod) (a1 a2 a3 a4:Option Addr) (m1 c1 m2 c2 m3 c3 m4 c4:Nat) (b1 b2 b3:Option Addr) (k1 d1 k2 d2 k3 d3:Nat) (w:World) (hp:jB w (.slice a1 m1 c1) (.slice a2 m2 c2) (.slice a3 m3 c3) (.slice a4 m4 c4) p) (hn:zq w (.slice b1 k1 d1) (.slice b2 k2 d2) (.slice b3 k3 d3) n):Calls Tryz.prog 122 #[jG p (.slice a1 m1 c1) (.slice a2 m2 c2) (.slice a3 m3 c3) (.slice a4 m4 c4),zE n (.slice b1 k1 d1) (.slice b2 k2 d2) (.slice b3 k3 d3)] w (Say (.bool (JL p n)) w):=by
 obtain⟨t,ht⟩:∃t,(zD p.tols n.taints).isSome=t:=⟨_,rfl⟩
 obtain⟨⟨x,y,mm⟩,hx⟩:∃x,wT (zD p.tols n.taints)=x:=⟨_,rfl⟩
 have HM0:=lH (fun (W:World) (k:Kept w W)=>jgw (hp.tols.kept k) (hn.taints.kept k) hx ht);have HV:=lH (show JL p n=(!t) by unfold JL;rw[ht]);clear ht hx;obtain⟨Z,hZ⟩:∃Z,(w.alloc (.cells #[.string p.name,.string p.owner,.int .i64 p.prio,.slice a1 m1 c1,.slice a2 m2 c2,.slice a3 m3 c3,.slice a4 m4 c4,.string p.key,.int .i64 p.most,.string p.node,.bool p.hold] 35)).alloc (.cells #[.string n.name,.slice b1 k1 d1,.slice b2 k2 d2,.slice b3 k3 d3,.bool n.cordon] 65)=Z:=⟨_,rfl⟩
 have hkz:Kept w Z:=by rw[←hZ];exact jr _ _ _
 have HB1:=lH (jc w (.string p.name) [.string p.owner,.int .i64 p.prio,.slice a1 m1 c1,.slice a2 m2 c2,.slice a3 m3 c3,.slice a4 m4 c4,.string p.key,.int .i64 p.most,.string p.node,.bool p.hold] 35 Z (by rw[←hZ];exact ja _ _));have HB2:=lH (show je (w.heap.size+1) [.string n.name,.slice b1 k1 d1,.slice b2 k2 d2,.slice b3 k3 d3,.bool n.cordon] Z by
  have dd:=jc (w.alloc (.cells #[.string p.name,.string p.owner,.int .i64 p.prio,.slice a1 m1 c1,.slice a2 m2 c2,.slice a3 m3 c3,.slice a4 m4 c4,.string p.key,.int .i64 p.most,.string p.node,.bool p.hold] 35)) (.string n.name) [.slice b1 k1 d1,.slice b2 k2 d2,.slice b3 k3 d3,.bool n.cordon] 65 Z (by rw[hZ];exact Kept.refl _);rw[World.size_alloc] at dd;exact dd)
 have K:=lH hkz;have HM:=lH (HM0.out Z hkz);clear HM0 hp hn hkz;have r6:=HB1.out.at_ 6 _ rfl;have q3:=HB2.out.at_ 3 _ rfl;unfold jG zE;go_enter Tryz.func122,Tryz.ntmps122;go_wp2_with fail
 try rw[hZ]
 refine HM.out.mono ?_;rintro e w1 ⟨rfl,kk⟩;have K:=lH (K.out.trans kk);clear kk hZ;go_wp2;go_ret;exact⟨jd (by rw[HV.out]),K.out.trans (ja _ _)⟩
theorem jaJ (s1 s2 s3:Option Addr) (n1 e1 n2 e2 n3 e3:Nat) (a1 a2 a3 a4:Option Addr) (m1 c1 m2 c2 m3 c3 m4 c4:Nat) (p:Pd) (s:Clu) (name:ByteArray) (w:World) (hs:jN w (Zh (.slice s1 n1 e1) (.slice s2 n2 e2) (.slice s3 n3 e3)) s) (hl:zA s):Calls Tryz.prog 123 #[.agg #[.slice s1 n1 e1,.slice s2 n2 e2,.slice s3 n3 e3],jG p (.slice a1 m1 c1) (.slice a2 m2 c2) (.slice a3 m3 c3) (.slice a4 m4 c4),.string name] w (Say (.bool (Jh s p name)) w):=by
 have hn1:=hs.nAt.2;have hn2:=hs.pAt.2;have g1:=hl.nodesN;have g2:=hl.podsN;obtain⟨Z,hZ⟩:∃Z,(w.alloc (.cells #[.slice s1 n1 e1,.slice s2 n2 e2,.slice s3 n3 e3] 26)).alloc (.cells #[.string p.name,.string p.owner,.int .i64 p.prio,.slice a1 m1 c1,.slice a2 m2 c2,.slice a3 m3 c3,.slice a4 m4 c4,.string p.key,.int .i64 p.most,.string p.node,.bool p.hold] 35)=Z:=⟨_,rfl⟩
 have hkz:Kept w Z:=by rw[←hZ];exact jr _ _ _
 have HB1:=lH (jc w (.slice s1 n1 e1) [.slice s2 n2 e2,.slice s3 n3 e3] 26 Z (by rw[←hZ];exact ja _ _));have HB2:=lH (show je (w.heap.size+1) [.string p.name,.string p.owner,.int .i64 p.prio,.slice a1 m1 c1,.slice a2 m2 c2,.slice a3 m3 c3,.slice a4 m4 c4,.string p.key,.int .i64 p.most,.string p.node,.bool p.hold] Z by
  have dd:=jc (w.alloc (.cells #[.slice s1 n1 e1,.slice s2 n2 e2,.slice s3 n3 e3] 26)) (.string p.name) [.string p.owner,.int .i64 p.prio,.slice a1 m1 c1,.slice a2 m2 c2,.slice a3 m3 c3,.slice a4 m4 c4,.string p.key,.int .i64 p.most,.string p.node,.bool p.hold] 35 Z (by rw[hZ];exact Kept.refl _);rw[World.size_alloc] at dd;exact dd)
 have K:=lH hkz;have HS:=lH (jeX s1 s2 s3 a1 a2 a3 a4 n1 e1 n2 e2 n3 e3 m1 c1 m2 c2 m3 c3 m4 c4 p s name Z (hs.nAt.1.kept hkz) (hs.pAt.1.kept hkz) (by omega) (by omega));clear hs hkz hl hn1 hn2 g1 g2;obtain⟨t7,h7⟩:∃t,(p.key.toList==([]:List UInt8))=t:=⟨_,rfl⟩
 have H7:=lH (show Jt p.key=t7 by rw[J6,h7]);have y0:=HB1.out.at_ 0 _ rfl;have y1:=HB1.out.at_ 1 _ rfl;have y2:=HB1.out.at_ 2 _ rfl;have r0:=HB2.out.at_ 0 _ rfl;have r1:=HB2.out.at_ 1 _ rfl;have r2:=HB2.out.at_ 2 _ rfl;have r3:=HB2.out.at_ 3 _ rfl;have r4:=HB2.out.at_ 4 _ rfl;have r5:=HB2.out.at_ 5 _ rfl;have r6:=HB2.out.at_ 6 _ rfl;have r7:=HB2.out.at_ 7 _ rfl;have r8:=HB2.out.at_ 8 _ rfl;have r9:=HB2.out.at_ 9 _ rfl;have r10:=HB2.out.at_ 10 _ rfl;unfold jG at HS ⊢;go_enter Tryz.func123,Tryz.ntmps123
 cases t7 with
 | true =>
  have HV:=lH (show Jh s p name=false by unfold Jh;rw[if_pos H7.out]);go_wp2;try rw[hZ]
  go_ret;exact⟨jd HV.out.symm,by first | exact K.out | (rw[hZ];exact K.out)⟩
 | false =>
  have HV:=lH (show Jh s p name=(!(JC p s name).2||decide (p.most<(JC p s name).1)) by unfold Jh;rw[if_neg (by rw[H7.out];decide)]);obtain⟨z,hz⟩:∃z,(JC p s name).1=z:=⟨_,rfl⟩
  obtain⟨b,hb⟩:∃z,(JC p s name).2=z:=⟨_,rfl⟩
  rw[hz,hb] at HS HV;clear hz hb;go_upto_region 3 with fail
  try rw[hZ]
  clear hZ;go_wp2_with fail
  refine HS.out.mono ?_;rintro e w1 ⟨rfl,kk⟩;have K:=lH (K.out.trans kk);have r8:=(HB2.out.kept kk).at_ 8 _ rfl;clear kk y0 y1 y2 r0 r1 r2 r3 r4 r5 r6 r7 r9 r10
  cases b with
  | false =>
   go_wp2;go_ret;exact⟨jd (by rw[HV.out];rfl),K.out⟩
  | true =>
   by_cases hlt:p.most<z
   · have HLT:=lH hlt;go_wp2;go_ret;exact⟨jd (by rw[HV.out,decide_eq_true HLT.out];rfl),K.out⟩
   · have HLT:=lH hlt;have hle:z≤p.most:=by omega
     clear hlt;go_wp2;go_ret;exact⟨jd (by rw[HV.out,decide_eq_false (by have:=HLT.out;omega)];rfl),K.out⟩
theorem jci (s1 s2 s3:Option Addr) (n1 e1 n2 e2 n3 e3:Nat) (a1 a2 a3 a4:Option Addr) (m1 c1 m2 c2 m3 c3 m4 c4:Nat) (p:Pd) (s:Clu) (name:ByteArray) (w:World) (hs:jN w (Zh (.slice s1 n1 e1) (.slice s2 n2 e2) (.slice s3 n3 e3)) s) (hl:zA s) (hp:jB w (.slice a1 m1 c1) (.slice a2 m2 c2) (.slice a3 m3 c3) (.slice a4 m4 c4) p):Calls Tryz.prog 124 #[.agg #[.slice s1 n1 e1,.slice s2 n2 e2,.slice s3 n3 e3],jG p (.slice a1 m1 c1) (.slice a2 m2 c2) (.slice a3 m3 c3) (.slice a4 m4 c4),.string name] w (Say (.bool (Zc s p name)) w):=by
 obtain⟨Z,hZ⟩:∃Z,(w.alloc (.cells #[.slice s1 n1 e1,.slice s2 n2 e2,.slice s3 n3 e3] 26)).alloc (.cells #[.string p.name,.string p.owner,.int .i64 p.prio,.slice a1 m1 c1,.slice a2 m2 c2,.slice a3 m3 c3,.slice a4 m4 c4,.string p.key,.int .i64 p.most,.string p.node,.bool p.hold] 35)=Z:=⟨_,rfl⟩
 have hkz:Kept w Z:=by rw[←hZ];exact jr _ _ _
 have HB1:=lH (jc w (.slice s1 n1 e1) [.slice s2 n2 e2,.slice s3 n3 e3] 26 Z (by rw[←hZ];exact ja _ _));have HB2:=lH (show je (w.heap.size+1) [.string p.name,.string p.owner,.int .i64 p.prio,.slice a1 m1 c1,.slice a2 m2 c2,.slice a3 m3 c3,.slice a4 m4 c4,.string p.key,.int .i64 p.most,.string p.node,.bool p.hold] Z by
  have dd:=jc (w.alloc (.cells #[.slice s1 n1 e1,.slice s2 n2 e2,.slice s3 n3 e3] 26)) (.string p.name) [.string p.owner,.int .i64 p.prio,.slice a1 m1 c1,.slice a2 m2 c2,.slice a3 m3 c3,.slice a4 m4 c4,.string p.key,.int .i64 p.most,.string p.node,.bool p.hold] 35 Z (by rw[hZ];exact Kept.refl _);rw[World.size_alloc] at dd;exact dd)
 have K:=lH hkz;have HF:=lH (jgX (hs.kept hkz) name hl);unfold Zh at HF;have HP:=lH (hp.need.kept hkz);clear hs hkz hl hp;have y0:=HB1.out.at_ 0 _ rfl;have y1:=HB1.out.at_ 1 _ rfl;have y2:=HB1.out.at_ 2 _ rfl;unfold jG;obtain⟨c,hc⟩:∃c,(Zv s name).1=c:=⟨_,rfl⟩
 obtain⟨fl,hfl⟩:∃c,(Zv s name).2=c:=⟨_,rfl⟩
 obtain⟨q,hq⟩:∃q,Vec.jt fl p.need=q:=⟨_,rfl⟩
 have HV:=lH (show Zc s p name=(decide (c=0)&&q) by unfold Zc;rw[hc,hfl,hq]);have HQ:=lH hq;go_enter Tryz.func124,Tryz.ntmps124;go_wp2_with fail
 try rw[hZ]
 refine HF.out.mono ?_;rintro e w1 ⟨y,rfl,hy,kk⟩;rw[hc];rw[hfl] at hy;have HY:=lH hy;have K:=lH (K.out.trans kk);have HP:=lH (HP.out.kept kk);have r3:=(HB2.out.kept kk).at_ 3 _ rfl;clear kk hZ hc hfl hq hy HF y0 y1 y2;by_cases h0:c=0
 · subst h0;go_wp2_with fail
   refine(Vec.jgM HP.out HY.out HQ.out).mono ?_;rintro e w2 ⟨rfl,kk⟩;have K:=lH (K.out.trans kk);clear kk;go_wp2;go_ret;exact⟨jd (by rw[HV.out];rfl),K.out⟩
 · have h0b:(c==0)=false:=by simpa using h0
   have H0:=lH h0;clear h0;go_wp2;go_ret;exact⟨jd (by rw[HV.out,decide_eq_false H0.out];rfl),K.out⟩
def Yb (c:Int) (w:World) (e:Ending) (w':World):Prop:=(c=0→∃x i1 j1 l1 i2 j2 l2 i3 j3 l3 b,e=.returned (.agg #[.string x,.slice i1 j1 l1,.slice i2 j2 l2,.slice i3 j3 l3,.bool b]))∧(c≠0→e=.panicked [zk c])∧Kept w w'
theorem Yb.bad {c d:Int} {w w':World} (h:d=c) (hc:c≠0) (k:Kept w w'):Yb d w (.panicked [zk c]) w':=⟨fun g=>absurd (h.symm.trans g) hc,fun _=>by rw[h],k⟩
theorem jb4 (s1 s2 s3:Option Addr) (n1 e1 n2 e2 n3 e3:Nat) (a1 a2 a3 a4:Option Addr) (m1 c1 m2 c2 m3 c3 m4 c4:Nat) (p:Pd) (s:Clu) (name:ByteArray) (w:World) (hs:jN w (Zh (.slice s1 n1 e1) (.slice s2 n2 e2) (.slice s3 n3 e3)) s) (hl:zA s) (hp:jB w (.slice a1 m1 c1) (.slice a2 m2 c2) (.slice a3 m3 c3) (.slice a4 m4 c4) p):Calls Tryz.prog 89 #[.agg #[.slice s1 n1 e1,.slice s2 n2 e2,.slice s3 n3 e3],jG p (.slice a1 m1 c1) (.slice a2 m2 c2) (.slice a3 m3 c3) (.slice a4 m4 c4),.string name] w (Yb (zr s p name) w):=by
 obtain⟨Y,hY⟩:∃Y,(w.alloc (.cells #[.slice s1 n1 e1,.slice s2 n2 e2,.slice s3 n3 e3] 26)).alloc (.cells #[.string p.name,.string p.owner,.int .i64 p.prio,.slice a1 m1 c1,.slice a2 m2 c2,.slice a3 m3 c3,.slice a4 m4 c4,.string p.key,.int .i64 p.most,.string p.node,.bool p.hold] 35)=Y:=⟨_,rfl⟩
 have hky:Kept w Y:=by rw[←hY];exact jr _ _ _
 have hys:Y.heap.size=w.heap.size+2:=by rw[←hY];simp
 have hsb:=jc w (.slice s1 n1 e1) [.slice s2 n2 e2,.slice s3 n3 e3] 26 Y (by rw[←hY];exact ja _ _);have hpb:je (w.heap.size+1) [.string p.name,.string p.owner,.int .i64 p.prio,.slice a1 m1 c1,.slice a2 m2 c2,.slice a3 m3 c3,.slice a4 m4 c4,.string p.key,.int .i64 p.most,.string p.node,.bool p.hold] Y:=by
  have dd:=jc (w.alloc (.cells #[.slice s1 n1 e1,.slice s2 n2 e2,.slice s3 n3 e3] 26)) (.string p.name) [.string p.owner,.int .i64 p.prio,.slice a1 m1 c1,.slice a2 m2 c2,.slice a3 m3 c3,.slice a4 m4 c4,.string p.key,.int .i64 p.most,.string p.node,.bool p.hold] 35 Y (by rw[hY];exact Kept.refl _);rw[World.size_alloc] at dd;exact dd
 obtain⟨Z,hZ⟩:∃Z,Y.alloc (.cells #[.string ⟨#[]⟩,.slice none 0 0,.slice none 0 0,.slice none 0 0,.bool false] 65)=Z:=⟨_,rfl⟩
 have hkz:Kept Y Z:=by rw[←hZ];exact ja _ _
 have hnb:je (w.heap.size+2) [.string ⟨#[]⟩,.slice none 0 0,.slice none 0 0,.slice none 0 0,.bool false] Z:=by
  have dd:=jc Y (.string ⟨#[]⟩) [.slice none 0 0,.slice none 0 0,.slice none 0 0,.bool false] 65 Z (by rw[hZ];exact Kept.refl _);rw[hys] at dd;exact dd
 have hYZ:((w.alloc (.cells #[.slice s1 n1 e1,.slice s2 n2 e2,.slice s3 n3 e3] 26)).alloc (.cells #[.string p.name,.string p.owner,.int .i64 p.prio,.slice a1 m1 c1,.slice a2 m2 c2,.slice a3 m3 c3,.slice a4 m4 c4,.string p.key,.int .i64 p.most,.string p.node,.bool p.hold] 35)).alloc (.cells #[.string ⟨#[]⟩,.slice none 0 0,.slice none 0 0,.slice none 0 0,.bool false] 65)=Z:=by rw[hY];exact hZ
 have HSB:=lH (hsb.kept hkz);have HPB:=lH (hpb.kept hkz);have HNB:=lH hnb;have K:=lH (hky.trans hkz);have HSR:=lH (hs.kept (hky.trans hkz));have HPR:=lH (hp.kept (hky.trans hkz));have HL:=lH hl;have HNO:=lH (jb8 s1 s2 s3 n1 e1 n2 e2 n3 e3 s.nodes name Z ((hs.kept (hky.trans hkz)).nAt.1) (by have:=hl.nodesN;have:=hs.nAt.2;omega));clear hs hp hl hky hkz hys hsb hpb hnb hY hZ;unfold jG;have y0:=HSB.out.at_ 0 _ rfl;have y1:=HSB.out.at_ 1 _ rfl;have y2:=HSB.out.at_ 2 _ rfl;go_enter Tryz.func89,Tryz.ntmps89;go_wp2_with fail
 try rw[hYZ]
 clear hYZ;refine HNO.out.mono ?_;rintro e w1 ⟨h1,h2,kk⟩;have K:=lH (K.out.trans kk);have HSB:=lH (HSB.out.kept kk);have HPB:=lH (HPB.out.kept kk);have HNB:=lH (HNB.out.kept kk);have HSR:=lH (HSR.out.kept kk);have HPR:=lH (HPR.out.kept kk);clear HNO y0 y1 y2
 cases ho:jm s.nodes name with
 | none =>
  obtain rfl:=h2 ho;have HE:=lH (show zr s p name=3 from XJ ho);clear h1 h2 ho kk;go_wp2;exact⟨rfl,Yb.bad HE.out (by decide) K.out⟩
 | some n =>
  obtain⟨b1,k1,d1,b2,k2,d2,b3,k3,d3,rfl,hn⟩:=h1 n ho;have HE:=lH (show zr s p name=zt s p n name from ZK ho);clear h1 h2 ho;obtain⟨w2,hw2⟩:∃W,w1.alloc (.cells #[.string n.name,.slice b1 k1 d1,.slice b2 k2 d2,.slice b3 k3 d3,.bool n.cordon] 65)=W:=⟨_,rfl⟩
  have kx:Kept w1 w2:=by rw[←hw2];exact ja _ _
  have HND:=lH (jc w1 (.string n.name) [.slice b1 k1 d1,.slice b2 k2 d2,.slice b3 k3 d3,.bool n.cordon] 65 w2 (by rw[hw2];exact Kept.refl _));have HNR:=lH (hn.kept kx);have K:=lH (K.out.trans kx);have HSB:=lH (HSB.out.kept kx);have HPB:=lH (HPB.out.kept kx);have HNB:=lH (HNB.out.kept kx);have HSR:=lH (HSR.out.kept kx);have HPR:=lH (HPR.out.kept kx);obtain⟨gn,hgn⟩:∃g,w1.heap.size=g:=⟨_,rfl⟩
  rw[hgn] at HND;clear hn kk kx;unfold zE;go_upto_region 2 with fail
  try rw[hw2]
  try rw[hgn]
  clear hw2 hgn;have r0:=HPB.out.at_ 0 _ rfl;have r1:=HPB.out.at_ 1 _ rfl;have r2:=HPB.out.at_ 2 _ rfl;have r3:=HPB.out.at_ 3 _ rfl;have r4:=HPB.out.at_ 4 _ rfl;have r5:=HPB.out.at_ 5 _ rfl;have r6:=HPB.out.at_ 6 _ rfl;have r7:=HPB.out.at_ 7 _ rfl;have r8:=HPB.out.at_ 8 _ rfl;have r9:=HPB.out.at_ 9 _ rfl;have r10:=HPB.out.at_ 10 _ rfl;have t0:=HND.out.at_ 0 _ rfl;have t1:=HND.out.at_ 1 _ rfl;have t2:=HND.out.at_ 2 _ rfl;have t3:=HND.out.at_ 3 _ rfl;have t4:=HND.out.at_ 4 _ rfl;obtain⟨bb,hbb⟩:∃b,Jd p n=b:=⟨_,rfl⟩
  have HC:=lH (jbB p n a1 a2 a3 a4 m1 c1 m2 c2 m3 c3 m4 c4 b1 b2 b3 k1 d1 k2 d2 k3 d3 _ HPR.out HNR.out);unfold jG at HC;unfold zE at HC;rw[hbb] at HC;go_wp2_with fail
  refine HC.out.mono ?_;rintro e w3 ⟨rfl,kk⟩;have HBB:=lH hbb;have HSB:=lH (HSB.out.kept kk);have HPB:=lH (HPB.out.kept kk);have HNB:=lH (HNB.out.kept kk);have HSR:=lH (HSR.out.kept kk);have HPR:=lH (HPR.out.kept kk);have HND:=lH (HND.out.kept kk);have HNR:=lH (HNR.out.kept kk);have K:=lH (K.out.trans kk);clear kk;clear hbb HC r0 r1 r2 r3 r4 r5 r6 r7 r8 r9 r10 t0 t1 t2 t3 t4
  cases bb with
  | false =>
   go_wp2_with fail
   refine(Z0 8 _).mono ?_;rintro e w4 ⟨rfl,rfl⟩;go_wp2;exact⟨rfl,Yb.bad (HE.out.trans (XL HBB.out)) (by decide) K.out⟩
  | true =>
   have HB1:=HBB;clear HBB;go_wp2_with fail
   refine(Yw 8 _).mono ?_;rintro e w4 ⟨rfl,rfl⟩;have r0:=HPB.out.at_ 0 _ rfl;have r1:=HPB.out.at_ 1 _ rfl;have r2:=HPB.out.at_ 2 _ rfl;have r3:=HPB.out.at_ 3 _ rfl;have r4:=HPB.out.at_ 4 _ rfl;have r5:=HPB.out.at_ 5 _ rfl;have r6:=HPB.out.at_ 6 _ rfl;have r7:=HPB.out.at_ 7 _ rfl;have r8:=HPB.out.at_ 8 _ rfl;have r9:=HPB.out.at_ 9 _ rfl;have r10:=HPB.out.at_ 10 _ rfl;have t0:=HND.out.at_ 0 _ rfl;have t1:=HND.out.at_ 1 _ rfl;have t2:=HND.out.at_ 2 _ rfl;have t3:=HND.out.at_ 3 _ rfl;have t4:=HND.out.at_ 4 _ rfl;obtain⟨bb,hbb⟩:∃b,JL p n=b:=⟨_,rfl⟩
   have HC:=lH (jcd p n a1 a2 a3 a4 m1 c1 m2 c2 m3 c3 m4 c4 b1 b2 b3 k1 d1 k2 d2 k3 d3 _ HPR.out HNR.out);unfold jG at HC;unfold zE at HC;rw[hbb] at HC;go_wp2_with fail
   refine HC.out.mono ?_;rintro e w3 ⟨rfl,kk⟩;have HBB:=lH hbb;have HSB:=lH (HSB.out.kept kk);have HPB:=lH (HPB.out.kept kk);have HNB:=lH (HNB.out.kept kk);have HSR:=lH (HSR.out.kept kk);have HPR:=lH (HPR.out.kept kk);have HND:=lH (HND.out.kept kk);have HNR:=lH (HNR.out.kept kk);have K:=lH (K.out.trans kk);clear kk;clear hbb HC r0 r1 r2 r3 r4 r5 r6 r7 r8 r9 r10 t0 t1 t2 t3 t4
   cases bb with
   | false =>
    go_wp2_with fail
    refine(Z0 9 _).mono ?_;rintro e w4 ⟨rfl,rfl⟩;go_wp2;exact⟨rfl,Yb.bad (HE.out.trans (Y4 HB1.out HBB.out)) (by decide) K.out⟩
   | true =>
    have HB2:=HBB;clear HBB;go_wp2_with fail
    refine(Yw 9 _).mono ?_;rintro e w4 ⟨rfl,rfl⟩;have y0:=HSB.out.at_ 0 _ rfl;have y1:=HSB.out.at_ 1 _ rfl;have y2:=HSB.out.at_ 2 _ rfl;have r0:=HPB.out.at_ 0 _ rfl;have r1:=HPB.out.at_ 1 _ rfl;have r2:=HPB.out.at_ 2 _ rfl;have r3:=HPB.out.at_ 3 _ rfl;have r4:=HPB.out.at_ 4 _ rfl;have r5:=HPB.out.at_ 5 _ rfl;have r6:=HPB.out.at_ 6 _ rfl;have r7:=HPB.out.at_ 7 _ rfl;have r8:=HPB.out.at_ 8 _ rfl;have r9:=HPB.out.at_ 9 _ rfl;have r10:=HPB.out.at_ 10 _ rfl;obtain⟨bb,hbb⟩:∃b,Jh s p name=b:=⟨_,rfl⟩
    have HC:=lH (jaJ s1 s2 s3 n1 e1 n2 e2 n3 e3 a1 a2 a3 a4 m1 c1 m2 c2 m3 c3 m4 c4 p s name _ HSR.out HL.out);unfold jG at HC;rw[hbb] at HC;go_wp2_with fail
    refine HC.out.mono ?_;rintro e w3 ⟨rfl,kk⟩;have HBB:=lH hbb;have HSB:=lH (HSB.out.kept kk);have HPB:=lH (HPB.out.kept kk);have HNB:=lH (HNB.out.kept kk);have HSR:=lH (HSR.out.kept kk);have HPR:=lH (HPR.out.kept kk);have HND:=lH (HND.out.kept kk);have HNR:=lH (HNR.out.kept kk);have K:=lH (K.out.trans kk);clear kk;clear hbb HC y0 y1 y2 r0 r1 r2 r3 r4 r5 r6 r7 r8 r9 r10
    cases bb with
    | true =>
     go_wp2_with fail
     refine(Z0 10 _).mono ?_;rintro e w4 ⟨rfl,rfl⟩;go_wp2;exact⟨rfl,Yb.bad (HE.out.trans (Xs HB1.out HB2.out HBB.out)) (by decide) K.out⟩
    | false =>
     have HB3:=HBB;clear HBB;go_wp2_with fail
     refine(Yw 10 _).mono ?_;rintro e w4 ⟨rfl,rfl⟩;have y0:=HSB.out.at_ 0 _ rfl;have y1:=HSB.out.at_ 1 _ rfl;have y2:=HSB.out.at_ 2 _ rfl;have r0:=HPB.out.at_ 0 _ rfl;have r1:=HPB.out.at_ 1 _ rfl;have r2:=HPB.out.at_ 2 _ rfl;have r3:=HPB.out.at_ 3 _ rfl;have r4:=HPB.out.at_ 4 _ rfl;have r5:=HPB.out.at_ 5 _ rfl;have r6:=HPB.out.at_ 6 _ rfl;have r7:=HPB.out.at_ 7 _ rfl;have r8:=HPB.out.at_ 8 _ rfl;have r9:=HPB.out.at_ 9 _ rfl;have r10:=HPB.out.at_ 10 _ rfl;obtain⟨bb,hbb⟩:∃b,Zc s p name=b:=⟨_,rfl⟩
     have HC:=lH (jci s1 s2 s3 n1 e1 n2 e2 n3 e3 a1 a2 a3 a4 m1 c1 m2 c2 m3 c3 m4 c4 p s name _ HSR.out HL.out HPR.out);unfold jG at HC;rw[hbb] at HC;go_wp2_with fail
     refine HC.out.mono ?_;rintro e w3 ⟨rfl,kk⟩;have HBB:=lH hbb;have HSB:=lH (HSB.out.kept kk);have HPB:=lH (HPB.out.kept kk);have HNB:=lH (HNB.out.kept kk);have HSR:=lH (HSR.out.kept kk);have HPR:=lH (HPR.out.kept kk);have HND:=lH (HND.out.kept kk);have HNR:=lH (HNR.out.kept kk);have K:=lH (K.out.trans kk);clear kk;clear hbb HC y0 y1 y2 r0 r1 r2 r3 r4 r5 r6 r7 r8 r9 r10
     cases bb with
     | false =>
      go_wp2_with fail
      refine(Z0 7 _).mono ?_;rintro e w4 ⟨rfl,rfl⟩;go_wp2;exact⟨rfl,Yb.bad (HE.out.trans (Xe HB1.out HB2.out HB3.out HBB.out)) (by decide) K.out⟩
     | true =>
      go_wp2_with fail
      refine(Yw 7 _).mono ?_;rintro e w4 ⟨rfl,rfl⟩;have t0:=HND.out.at_ 0 _ rfl;have t1:=HND.out.at_ 1 _ rfl;have t2:=HND.out.at_ 2 _ rfl;have t3:=HND.out.at_ 3 _ rfl;have t4:=HND.out.at_ 4 _ rfl;have z0:=HNB.out.at_ 0 _ rfl;have z1:=HNB.out.at_ 1 _ rfl;have z2:=HNB.out.at_ 2 _ rfl;have z3:=HNB.out.at_ 3 _ rfl;have z4:=HNB.out.at_ 4 _ rfl;have f0:=HNB.out.free 0;have f1:=HNB.out.free 1;have f2:=HNB.out.free 2;have f3:=HNB.out.free 3;have f4:=HNB.out.free 4;have P:=lH (Zp ⟨z0,z1,z2,z3,z4⟩ n.name b1 b2 b3 k1 d1 k2 d2 k3 d3 n.cordon);obtain⟨x9,hx9⟩:∃x,n.name=x:=⟨_,rfl⟩
      obtain⟨c9,hc9⟩:∃x,n.cordon=x:=⟨_,rfl⟩
      rw[hx9] at t0;rw[hc9] at t4;rw[hx9,hc9] at P;have HRZ:=lH (HE.out.trans (YQ HB1.out HB2.out HB3.out HBB.out));clear hx9 hc9 HE HND HNR HSR HPR;go_wp2;obtain⟨WE,hWE⟩:∃W,(((((w3.setCell ⟨w.heap.size+2,0,none⟩ (.string x9)).setCell ⟨w.heap.size+2,1,none⟩ (.slice b1 k1 d1)).setCell ⟨w.heap.size+2,2,none⟩ (.slice b2 k2 d2)).setCell ⟨w.heap.size+2,3,none⟩ (.slice b3 k3 d3)).setCell ⟨w.heap.size+2,4,none⟩ (.bool c9))=W:=⟨_,rfl⟩
      rw[hWE] at P ⊢;clear hWE z0 z1 z2 z3 z4 t0 t1 t2 t3 t4 f0 f1 f2 f3 f4;obtain⟨⟨q0,q1,q2,q3,q4⟩,hsz,hbl,hkp⟩:=P.out;refine bodyPost_ret (by simp[results,Tryz.results89,go_sem,q0,q1,q2,q3,q4];try rfl) rfl ?_;have KE:=hkp _ _ (by omega) K.out;exact⟨fun _=>⟨_,_,_,_,_,_,_,_,_,_,_,rfl⟩,fun g=>absurd HRZ.out g,KE⟩
def jgl (s:Clu) (w:World) (e:Ending) (w':World):Prop:=∃y,e=.returned y∧jN w' y s∧Kept w w'
theorem qS {v:Value} {s:Clu} {w:World} (h:jN w v s) (x:ByteArray) (hl:zA s):Calls Tryz.prog 15 #[v,.string x] w (jgl (jY s x) w):=by
 obtain⟨v1,v2,v3,rfl,⟨a,cap,rfl,l1,m1,h1⟩,⟨b,cp,rfl,l2,m2,h2⟩,⟨d,cb,rfl,l3,m3,h3⟩⟩:=h;refine(jdt a b d _ cap _ cp _ cb s.nodes s.pods s.buds x w h1 h2 h3 l1 m1 l2 m2 l3 m3 hl).mono ?_;rintro e w' ⟨_,_,_,_,_,_,_,_,_,rfl,ho,kk⟩;exact⟨_,rfl,ho.toR,kk⟩
theorem YS {s:Clu} (h:zA s) (x:ByteArray):zA (jY s x) :=
 ⟨h.nodes,fun q hq=>h.pods q (YM hq),h.buds,h.nodesN,by
  have h2:=jeh s x;have:=h.podsN;omega,h.budsN⟩
def jfL (c:Int) (w:World) (e:Ending) (w':World):Prop:=(∃x i1 j1 l1 i2 j2 l2 i3 j3 l3 b,e=.returned (.tuple #[.agg #[.string x,.slice i1 j1 l1,.slice i2 j2 l2,.slice i3 j3 l3,.bool b],.int .i64 c]))∧Kept w w'
theorem jc5 (Q1 Q2 Q3:Nat) (s1 s2 s3:Option Addr) (n1 e1 n2 e2 n3 e3:Nat) (a1 a2 a3 a4:Option Addr) (m1 c1 m2 c2 m3 c3 m4 c4:Nat) (p:Pd) (s:Clu) (name:ByteArray) (w:World) (hq1:je Q1 [.slice s1 n1 e1,.slice s2 n2 e2,.slice s3 n3 e3] w) (hq2:je Q2 [.string p.name,.string p.owner,.int .i64 p.prio,.slice a1 m1 c1,.slice a2 m2 c2,.slice a3 m3 c3,.slice a4 m4 c4,.string p.key,.int .i64 p.most,.string p.node,.bool p.hold] w) (hq3:je Q3 [.string name] w) (hs:jN w (Zh (.slice s1 n1 e1) (.slice s2 n2 e2) (.slice s3 n3 e3)) s) (hl:zA s) (hp:jB w (.slice a1 m1 c1) (.slice a2 m2 c2) (.slice a3 m3 c3) (.slice a4 m4 c4) p) :
 Calls Tryz.prog 88 #[.pointer (some ⟨Q1,0,none⟩),.pointer (some ⟨Q2,0,none⟩),.pointer (some ⟨Q3,0,none⟩)] w (Yb (zr s p name) w):=by
 obtain⟨Z,hZ⟩:∃Z,w.alloc (.cells #[.string ⟨#[]⟩,.slice none 0 0,.slice none 0 0,.slice none 0 0,.bool false] 65)=Z:=⟨_,rfl⟩
 have hkz:Kept w Z:=by rw[←hZ];exact ja _ _
 have HNB:=lH (jc w (.string ⟨#[]⟩) [.slice none 0 0,.slice none 0 0,.slice none 0 0,.bool false] 65 Z (by rw[hZ];exact Kept.refl _));have HS:=lH (jb4 s1 s2 s3 n1 e1 n2 e2 n3 e3 a1 a2 a3 a4 m1 c1 m2 c2 m3 c3 m4 c4 p s name Z (hs.kept hkz) hl (hp.kept hkz));unfold jG at HS;have K:=lH hkz;have y0:=(hq1.kept hkz).at_ 0 _ rfl;have y1:=(hq1.kept hkz).at_ 1 _ rfl;have y2:=(hq1.kept hkz).at_ 2 _ rfl;have r0:=(hq2.kept hkz).at_ 0 _ rfl;have r1:=(hq2.kept hkz).at_ 1 _ rfl;have r2:=(hq2.kept hkz).at_ 2 _ rfl;have r3:=(hq2.kept hkz).at_ 3 _ rfl;have r4:=(hq2.kept hkz).at_ 4 _ rfl;have r5:=(hq2.kept hkz).at_ 5 _ rfl;have r6:=(hq2.kept hkz).at_ 6 _ rfl;have r7:=(hq2.kept hkz).at_ 7 _ rfl;have r8:=(hq2.kept hkz).at_ 8 _ rfl;have r9:=(hq2.kept hkz).at_ 9 _ rfl;have r10:=(hq2.kept hkz).at_ 10 _ rfl;have x0:=(hq3.kept hkz).at_ 0 _ rfl;clear hq1 hq2 hq3 hs hp hl hkz;obtain⟨c,hc⟩:∃c,zr s p name=c:=⟨_,rfl⟩
 rw[hc] at HS ⊢;clear hc;go_enter Tryz.func88,Tryz.ntmps88;go_wp2_with fail
 try rw[hZ]
 refine HS.out.mono ?_;rintro e w1 ⟨h1,h2,kk⟩;have K:=lH (K.out.trans kk);have HNB:=lH (HNB.out.kept kk);clear kk hZ HS y0 y1 y2 r0 r1 r2 r3 r4 r5 r6 r7 r8 r9 r10 x0;by_cases hc:c=0
 · obtain⟨x9,i1,j1,l1,i2,j2,l2,i3,j3,l3,b9,rfl⟩:=h1 hc;have HCC:=lH hc;clear h1 h2 hc;have z0:=HNB.out.at_ 0 _ rfl;have z1:=HNB.out.at_ 1 _ rfl;have z2:=HNB.out.at_ 2 _ rfl;have z3:=HNB.out.at_ 3 _ rfl;have z4:=HNB.out.at_ 4 _ rfl;have f0:=HNB.out.free 0;have f1:=HNB.out.free 1;have f2:=HNB.out.free 2;have f3:=HNB.out.free 3;have f4:=HNB.out.free 4;have g0:=Y1 (u0:=.string x9) (u1:=.slice i1 j1 l1) (u2:=.slice i2 j2 l2) (u3:=.slice i3 j3 l3) (u4:=.bool b9) z0 z1 z2 z3 z4;go_wp2;obtain⟨WE,hWE⟩:∃W,(((((w1.setCell ⟨w.heap.size,0,none⟩ (.string x9)).setCell ⟨w.heap.size,1,none⟩ (.slice i1 j1 l1)).setCell ⟨w.heap.size,2,none⟩ (.slice i2 j2 l2)).setCell ⟨w.heap.size,3,none⟩ (.slice i3 j3 l3)).setCell ⟨w.heap.size,4,none⟩ (.bool b9))=W:=⟨_,rfl⟩
   obtain⟨q0,q1,q2,q3,q4⟩:=g0 WE hWE;have KE:Kept w WE:=by rw[←hWE];exact((((K.out.setCell (p:=⟨w.heap.size,0,none⟩) (Nat.le_refl _) _).setCell (p:=⟨w.heap.size,1,none⟩) (Nat.le_refl _) _).setCell (p:=⟨w.heap.size,2,none⟩) (Nat.le_refl _) _).setCell (p:=⟨w.heap.size,3,none⟩) (Nat.le_refl _) _).setCell (p:=⟨w.heap.size,4,none⟩) (Nat.le_refl _) _
   rw[hWE];clear hWE z0 z1 z2 z3 z4 f0 f1 f2 f3 f4;refine bodyPost_ret (by simp[results,Tryz.results88,go_sem,q0,q1,q2,q3,q4];try rfl) rfl ?_;exact⟨fun _=>⟨_,_,_,_,_,_,_,_,_,_,_,rfl⟩,fun g=>absurd HCC.out g,KE⟩
 · obtain rfl:=h2 hc;have HCC:=lH hc;clear h1 h2 hc;go_wp2;exact⟨rfl,Yb.bad rfl HCC.out K.out⟩
theorem jbQ (Q1 Q2 Q3:Nat) (c:Int) (w:World) (hk:∀W,Kept w W→Calls Tryz.prog 88 #[.pointer (some ⟨Q1,0,none⟩),.pointer (some ⟨Q2,0,none⟩),.pointer (some ⟨Q3,0,none⟩)] W (Yb c W)) :
 Calls Tryz.prog 87 #[.func (.func 88) #[] #[.pointer (some ⟨Q1,0,none⟩),.pointer (some ⟨Q2,0,none⟩),.pointer (some ⟨Q3,0,none⟩)]] w (jfL c w):=by
 have hmf:=hmfL (P:=Tryz.prog);obtain⟨Z,hZ⟩:∃Z,(w.alloc (.cells #[.string ⟨#[]⟩,.slice none 0 0,.slice none 0 0,.slice none 0 0,.bool false] 65)).alloc (.cells #[.int .i64 0] 49)=Z:=⟨_,rfl⟩
 have hkz:Kept w Z:=by rw[←hZ];exact jr _ _ _
 have HNB:=lH (jc w (.string ⟨#[]⟩) [.slice none 0 0,.slice none 0 0,.slice none 0 0,.bool false] 65 Z (by rw[←hZ];exact ja _ _));have HEB:=lH (show je (w.heap.size+1) [.int .i64 0] Z by
  have dd:=jc (w.alloc (.cells #[.string ⟨#[]⟩,.slice none 0 0,.slice none 0 0,.slice none 0 0,.bool false] 65)) (.int .i64 0) [] 49 Z (by rw[hZ];exact Kept.refl _);rw[World.size_alloc] at dd;exact dd)
 have HK:=lH hkz;have HKC:=lH (hk Z hkz);clear hk hkz;go_enter_defers Tryz.func87,Tryz.ntmps87
 go_wp2_with fail
 try rw[hZ]
 refine HKC.out.mono ?_;rintro e1 w1 ⟨h0,h1,hb⟩;have KK:=lH (HK.out.trans hb);have HNB:=lH (HNB.out.kept hb);have HEB:=lH (HEB.out.kept hb);have z0:=HNB.out.at_ 0 _ rfl;have z1:=HNB.out.at_ 1 _ rfl;have z2:=HNB.out.at_ 2 _ rfl;have z3:=HNB.out.at_ 3 _ rfl;have z4:=HNB.out.at_ 4 _ rfl;have f0:=HNB.out.free 0;have f1:=HNB.out.free 1;have f2:=HNB.out.free 2;have f3:=HNB.out.free 3;have f4:=HNB.out.free 4;have ez:=HEB.out.at_ 0 _ rfl;have ef:=HEB.out.free 0;clear HKC;by_cases hx:c=0
 · obtain⟨x9,i1,j1,l1,i2,j2,l2,i3,j3,l3,b9,rfl⟩:=h0 hx;subst hx;clear h0 h1 hb hZ;have g0:=Y1 (u0:=.string x9) (u1:=.slice i1 j1 l1) (u2:=.slice i2 j2 l2) (u3:=.slice i3 j3 l3) (u4:=.bool b9) z0 z1 z2 z3 z4;have HG0:=lH g0;clear g0;go_wp2_with fail
   obtain⟨WE,hWE⟩:∃W,(((((w1.setCell ⟨w.heap.size,0,none⟩ (.string x9)).setCell ⟨w.heap.size,1,none⟩ (.slice i1 j1 l1)).setCell ⟨w.heap.size,2,none⟩ (.slice i2 j2 l2)).setCell ⟨w.heap.size,3,none⟩ (.slice i3 j3 l3)).setCell ⟨w.heap.size,4,none⟩ (.bool b9))=W:=⟨_,rfl⟩
   obtain⟨q0,q1,q2,q3,q4⟩:=HG0.out WE hWE;have KE:Kept w WE:=by rw[←hWE];exact((((KK.out.setCell (p:=⟨w.heap.size,0,none⟩) (Nat.le_refl _) _).setCell (p:=⟨w.heap.size,1,none⟩) (Nat.le_refl _) _).setCell (p:=⟨w.heap.size,2,none⟩) (Nat.le_refl _) _).setCell (p:=⟨w.heap.size,3,none⟩) (Nat.le_refl _) _).setCell (p:=⟨w.heap.size,4,none⟩) (Nat.le_refl _) _
   have ee:WE.cell? ⟨w.heap.size+1,0,none⟩=some (.int .i64 0):=by rw[←hWE];exact(((((HEB.out.other (by omega)).other (by omega)).other (by omega)).other (by omega)).other (by omega)).at_ 0 _ rfl
   rw[hWE];clear hWE z0 z1 z2 z3 z4 f0 f1 f2 f3 f4 HG0;have ff:∀j v,WE.cell? ⟨w.heap.size,j,none⟩=some v→(WE.setCell ⟨w.heap.size+1,0,none⟩ (.int .i64 0)).cell? ⟨w.heap.size,j,none⟩=some v:=fun j v h=>(World.cell?_of_block (a:=⟨w.heap.size,j,none⟩) (Below.heap_setCell WE ⟨w.heap.size+1,0,none⟩ _ w.heap.size (by show w.heap.size≠w.heap.size+1;omega))).trans h;have g0:=ff 0 _ q0;have g1:=ff 1 _ q1;have g2:=ff 2 _ q2;have g3:=ff 3 _ q3;have g4:=ff 4 _ q4;have fe:=World.cell?_setCell_same' WE ⟨w.heap.size+1,0,none⟩ (.int .i64 0) (by rw[ee];rfl);have KF:=lH (show Kept w (WE.setCell ⟨w.heap.size+1,0,none⟩ (.int .i64 0)) from KE.setCell (p:=⟨w.heap.size+1,0,none⟩) (Nat.le_succ _) _);obtain⟨WF,hWF⟩:∃W,WE.setCell ⟨w.heap.size+1,0,none⟩ (.int .i64 0)=W:=⟨_,rfl⟩
   rw[hWF] at fe g0 g1 g2 g3 g4 KF ⊢;clear hWF ff ee q0 q1 q2 q3 q4 ez ef;refine leaves_cons (f:=118) (args:=#[.pointer (some ⟨w.heap.size+1,0,none⟩)]) (by simp) (by simp[go_sem]) ?_;refine(jbm ⟨w.heap.size+1,0,none⟩ _).mono ?_;rintro e u' w'' ⟨rfl,rfl,rfl⟩;simp[Leaves,settle,results,Tryz.results87,go_sem,fe,g0,g1,g2,g3,g4];exact⟨⟨_,_,_,_,_,_,_,_,_,_,_,rfl⟩,KF.out⟩
 · obtain rfl:=h1 hx;have HX:=lH hx;clear h0 h1 hb hZ hx;go_wp2_with fail
   refine leaves_cons (f:=118) (args:=#[.pointer (some ⟨w.heap.size+1,0,none⟩)]) (by simp) (by simp[go_sem]) ?_;refine(XB w.heap.size (w.heap.size+1) c 0 _ ez ef (Nat.le_succ _)).mono ?_;rintro e u' w'' ⟨rfl,rfl,rfl,q2,q3⟩;have KF:=lH (show Kept w _ from Below.trans KK.out q3);have ff:∀j v,w1.cell? ⟨w.heap.size,j,none⟩=some v→(w1.setCell ⟨w.heap.size+1,0,none⟩ (.int .i64 c)).cell? ⟨w.heap.size,j,none⟩=some v:=fun j v h=>(World.cell?_of_block (a:=⟨w.heap.size,j,none⟩) (Below.heap_setCell w1 ⟨w.heap.size+1,0,none⟩ _ w.heap.size (by show w.heap.size≠w.heap.size+1;omega))).trans h;have g0:=ff 0 _ z0;have g1:=ff 1 _ z1;have g2:=ff 2 _ z2;have g3:=ff 3 _ z3;have g4:=ff 4 _ z4;obtain⟨WF,hWF⟩:∃W,w1.setCell ⟨w.heap.size+1,0,none⟩ (.int .i64 c)=W:=⟨_,rfl⟩
   rw[hWF] at q2 g0 g1 g2 g3 g4 KF ⊢;clear hWF ff q3 z0 z1 z2 z3 z4 ez ef f0 f1 f2 f3 f4;simp[Leaves,settle,results,Tryz.results87,go_sem,q2,g0,g1,g2,g3,g4];exact⟨⟨_,_,_,_,_,_,_,_,_,_,_,rfl⟩,KF.out⟩
theorem qd (s1 s2 s3:Option Addr) (n1 e1 n2 e2 n3 e3:Nat) (a1 a2 a3 a4:Option Addr) (m1 c1 m2 c2 m3 c3 m4 c4:Nat) (p:Pd) (s:Clu) (name:ByteArray) (w:World) (hs:jN w (Zh (.slice s1 n1 e1) (.slice s2 n2 e2) (.slice s3 n3 e3)) s) (hl:zA s) (hp:jB w (.slice a1 m1 c1) (.slice a2 m2 c2) (.slice a3 m3 c3) (.slice a4 m4 c4) p):Calls Tryz.prog 47 #[.agg #[.slice s1 n1 e1,.slice s2 n2 e2,.slice s3 n3 e3],jG p (.slice a1 m1 c1) (.slice a2 m2 c2) (.slice a3 m3 c3) (.slice a4 m4 c4),.string name] w (Say (.int .i64 (zr s p name)) w):=by
 have hmf:=hmfL (P:=Tryz.prog);obtain⟨Y,hY⟩:∃Y,(w.alloc (.cells #[.slice s1 n1 e1,.slice s2 n2 e2,.slice s3 n3 e3] 26)).alloc (.cells #[.string p.name,.string p.owner,.int .i64 p.prio,.slice a1 m1 c1,.slice a2 m2 c2,.slice a3 m3 c3,.slice a4 m4 c4,.string p.key,.int .i64 p.most,.string p.node,.bool p.hold] 35)=Y:=⟨_,rfl⟩
 have hky:Kept w Y:=by rw[←hY];exact jr _ _ _
 have hys:Y.heap.size=w.heap.size+2:=by rw[←hY];simp
 have hsb:=jc w (.slice s1 n1 e1) [.slice s2 n2 e2,.slice s3 n3 e3] 26 Y (by rw[←hY];exact ja _ _);have hpb:je (w.heap.size+1) [.string p.name,.string p.owner,.int .i64 p.prio,.slice a1 m1 c1,.slice a2 m2 c2,.slice a3 m3 c3,.slice a4 m4 c4,.string p.key,.int .i64 p.most,.string p.node,.bool p.hold] Y:=by
  have dd:=jc (w.alloc (.cells #[.slice s1 n1 e1,.slice s2 n2 e2,.slice s3 n3 e3] 26)) (.string p.name) [.string p.owner,.int .i64 p.prio,.slice a1 m1 c1,.slice a2 m2 c2,.slice a3 m3 c3,.slice a4 m4 c4,.string p.key,.int .i64 p.most,.string p.node,.bool p.hold] 35 Y (by rw[hY];exact Kept.refl _);rw[World.size_alloc] at dd;exact dd
 obtain⟨Z,hZ⟩:∃Z,Y.alloc (.cells #[.string name] 9)=Z:=⟨_,rfl⟩
 have hkz:Kept Y Z:=by rw[←hZ];exact ja _ _
 have hnb:je (w.heap.size+2) [.string name] Z:=by
  have dd:=jc Y (.string name) [] 9 Z (by rw[hZ];exact Kept.refl _);rw[hys] at dd;exact dd
 have hYZ:((w.alloc (.cells #[.slice s1 n1 e1,.slice s2 n2 e2,.slice s3 n3 e3] 26)).alloc (.cells #[.string p.name,.string p.owner,.int .i64 p.prio,.slice a1 m1 c1,.slice a2 m2 c2,.slice a3 m3 c3,.slice a4 m4 c4,.string p.key,.int .i64 p.most,.string p.node,.bool p.hold] 35)).alloc (.cells #[.string name] 9)=Z:=by rw[hY];exact hZ
 have HC:=lH (jbQ w.heap.size (w.heap.size+1) (w.heap.size+2) (zr s p name) Z fun W k=>jc5 w.heap.size (w.heap.size+1) (w.heap.size+2) s1 s2 s3 n1 e1 n2 e2 n3 e3 a1 a2 a3 a4 m1 c1 m2 c2 m3 c3 m4 c4 p s name W ((hsb.kept hkz).kept k) ((hpb.kept hkz).kept k) (hnb.kept k) (hs.kept ((hky.trans hkz).trans k)) hl (hp.kept ((hky.trans hkz).trans k)));have K:=lH (hky.trans hkz);clear hs hp hl hky hkz hys hsb hpb hnb hY hZ;obtain⟨c,hc⟩:∃c,zr s p name=c:=⟨_,rfl⟩
 rw[hc] at HC ⊢;clear hc;unfold jG;go_enter Tryz.func47,Tryz.ntmps47;go_wp2_with fail
 try rw[hYZ]
 clear hYZ;refine HC.out.mono ?_;rintro e w1 ⟨⟨x9,i1,j1,l1,i2,j2,l2,i3,j3,l3,b9,rfl⟩,kk⟩;have K:=lH (K.out.trans kk);clear kk;go_wp2;go_ret;exact⟨rfl,K.out.trans (ja _ _)⟩
end Go.Proofs.YtgfoenfaohhjcabGreat
