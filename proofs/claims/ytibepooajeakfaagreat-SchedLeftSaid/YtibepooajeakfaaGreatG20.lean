/- C. -/
import Derived.Test.YtibepooajeakfaaGreatG2
import Derived.Test.YtibepooajeakfaaGreatG3
import Derived.Test.YtibepooajeakfaaGreatG4
import Derived.Test.YtibepooajeakfaaGreatG6
import Derived.Test.YtibepooajeakfaaGreatG8
import Derived.Test.YtibepooajeakfaaGreatG11
import Derived.Test.YtibepooajeakfaaGreatG13
import Derived.Test.YtibepooajeakfaaGreatG15
import Derived.Test.YtibepooajeakfaaGreatG19
set_option linter.unusedVariables false
set_option maxRecDepth 100000
set_option maxHeartbeats 25600000
namespace Go.Proofs.YtibepooajeakfaaGreat
open Go.RowKit
def Z9 (x:ByteArray) (c:Int):Nod:=⟨x,[(⟨#[99,112,117]⟩,c)],[],[],false⟩
def jcF (x:ByteArray) (c:Int) (y:ByteArray):Pd:=⟨x,⟨#[]⟩,0,[(⟨#[99,112,117]⟩,c)],[],[],[],⟨#[]⟩,0,y,false⟩
theorem jca (w:World) (c:Int) (h:-9223372036854775808≤c∧c≤9223372036854775807) (W:World) (k:Kept (w.alloc (.cells #[.string ⟨#[99,112,117]⟩,.int .i64 c] 114)) W):Vec.Reads W (.slice (some ⟨w.heap.size,0,none⟩) 1 1) [(⟨#[99,112,117]⟩,c)]:=by
 have cc:=jb w (.string ⟨#[99,112,117]⟩) [.int .i64 c] 114 W k;refine⟨_,1,rfl,(by decide:(1:Nat)≤1),(by decide:(1:Nat)≤maxLen),rfl,(by decide:(1:Nat)≤maxLen),fun i hi=>?_,.inr ⟨w.heap.size,0,rfl,cc.lt,fun i hi=>?_⟩⟩
 · obtain rfl:i=0:=by simpa using hi
   exact⟨(by decide:(3:Nat)≤maxLen),h.1,h.2⟩
 · obtain rfl:i=0:=by simpa using hi
   exact⟨cc.at_ 0 _ rfl,cc.at_ 1 _ rfl⟩
theorem jjL (x:ByteArray) (c:Int) (hc:-9223372036854775808≤c∧c≤9223372036854775807) (hx:x.size≤maxLen) (w:World) :
 Calls Tryz.prog 23 #[.string x,.int .i64 c] w fun e w'=>∃b1 n1 d1,e=.returned (.agg #[.string x,.slice b1 n1 d1,.slice none 0 0,.slice none 0 0,.bool false])∧zl w' (.slice b1 n1 d1) (.slice none 0 0) (.slice none 0 0) (Z9 x c)∧Kept w w'∧∀b o z,b1=some ⟨b,o,z⟩→w.heap.size<b:=by
 have cc:=jb w (.string ⟨#[]⟩) [.slice none 0 0,.slice none 0 0,.slice none 0 0,.bool false] 78 _ (Kept.refl _);obtain⟨W0,hW0⟩:=eX (w.alloc (.cells #[.string ⟨#[]⟩,.slice none 0 0,.slice none 0 0,.slice none 0 0,.bool false] 78))
 have hs:W0.heap.size=w.heap.size+1:=by rw[←hW0];simp
 rw[hW0] at cc;obtain⟨W1,hW1⟩:=eX (W0.alloc (.cells #[.string ⟨#[99,112,117]⟩,.int .i64 c] 114))
 have HR:=lH (jca W0 c hc W1 (by rw[hW1];exact Kept.refl _));rw[hs] at HR;have c1:=cc.kept (W':=W1) (by rw[←hW1];exact ja _ _);have KW:=lH (show Kept w W1 by rw[←hW1,←hW0];exact jm _ _ _);have y0:=c1.at_ 0 _ rfl;have y1:=c1.at_ 1 _ rfl;have y2:=c1.at_ 2 _ rfl;have y3:=c1.at_ 3 _ rfl;have y4:=c1.at_ 4 _ rfl;have f0:=c1.free 0;have f1:=c1.free 1;have f2:=c1.free 2;have f3:=c1.free 3;have f4:=c1.free 4;have P:=lH (j4 (vs:=[.string x,.slice (some ⟨w.heap.size+1,0,none⟩) 1 1,.slice none 0 0,.slice none 0 0,.bool false]) c1 rfl);clear c1 cc;go_enter Tryz.func23,Tryz.ntmps23;go_wp2;try rw[hW0]
 try rw[hW1]
 obtain⟨WE,hWE⟩:=eX (W1.setCells w.heap.size 0 [.string x,.slice (some ⟨w.heap.size+1,0,none⟩) 1 1,.slice none 0 0,.slice none 0 0,.bool false])
 have hWE2:(((((W1.setCell ⟨w.heap.size,0,none⟩ (.string x)).setCell ⟨w.heap.size,1,none⟩ (.slice (some ⟨w.heap.size+1,0,none⟩) 1 1)).setCell ⟨w.heap.size,2,none⟩ (.slice none 0 0)).setCell ⟨w.heap.size,3,none⟩ (.slice none 0 0)).setCell ⟨w.heap.size,4,none⟩ (.bool false))=WE:=hWE;rw[hWE] at P;try rw[hWE2]
 clear hWE hWE2;obtain⟨PC,hsz,hbl,hkp⟩:=P.out;refine bodyPost_ret (by simp[results,Tryz.results23,go_sem,PC.at_ 0 _ rfl,PC.at_ 1 _ rfl,PC.at_ 2 _ rfl,PC.at_ 3 _ rfl,PC.at_ 4 _ rfl];try rfl) rfl ?_;exact⟨_,_,_,rfl,⟨hx,(HR.out.far hsz (fun b o s e=>hbl b (by cases e;omega))),Reads.nil _,Reads.nil _⟩,hkp _ _ (Nat.le_refl _) KW.out,fun b o z e=>by cases e;omega⟩
theorem Xb (x:ByteArray) (c:Int) (hc:-9223372036854775808≤c∧c≤9223372036854775807) (hx:x.size≤maxLen) (w:World) :
 Calls Tryz.prog 23 #[.string x,.int .i64 c] w fun e w'=>∃b1 n1 d1,e=.returned (.agg #[.string x,.slice b1 n1 d1,.slice none 0 0,.slice none 0 0,.bool false])∧zl w' (.slice b1 n1 d1) (.slice none 0 0) (.slice none 0 0) (Z9 x c)∧Kept w w' :=
 (jjL x c hc hx w).mono fun e w' ⟨b,n,d,h1,h2,h3,_⟩=>⟨b,n,d,h1,h2,h3⟩
theorem jkd (x:ByteArray) (c:Int) (y:ByteArray) (hc:-9223372036854775808≤c∧c≤9223372036854775807) (hx:x.size≤maxLen) (hy:y.size≤maxLen) (w:World) :
 Calls Tryz.prog 22 #[.string x,.int .i64 c,.string y] w fun e w'=>∃b1 n1 d1,e=.returned (.agg #[.string x,.string ⟨#[]⟩,.int .i64 0,.slice b1 n1 d1,.slice none 0 0,.slice none 0 0,.slice none 0 0,.string ⟨#[]⟩,.int .i64 0,.string y,.bool false])∧ji w' (.slice b1 n1 d1) (.slice none 0 0) (.slice none 0 0) (.slice none 0 0) (jcF x c y)∧Kept w w'∧∀b o z,b1=some ⟨b,o,z⟩→w.heap.size<b:=by
 have cc:=jb w (.string ⟨#[]⟩) [.string ⟨#[]⟩,.int .i64 0,.slice none 0 0,.slice none 0 0,.slice none 0 0,.slice none 0 0,.string ⟨#[]⟩,.int .i64 0,.string ⟨#[]⟩,.bool false] 52 _ (Kept.refl _);obtain⟨W0,hW0⟩:=eX (w.alloc (.cells #[.string ⟨#[]⟩,.string ⟨#[]⟩,.int .i64 0,.slice none 0 0,.slice none 0 0,.slice none 0 0,.slice none 0 0,.string ⟨#[]⟩,.int .i64 0,.string ⟨#[]⟩,.bool false] 52))
 have hs:W0.heap.size=w.heap.size+1:=by rw[←hW0];simp
 rw[hW0] at cc;obtain⟨W1,hW1⟩:=eX (W0.alloc (.cells #[.string ⟨#[99,112,117]⟩,.int .i64 c] 114))
 have HR:=lH (jca W0 c hc W1 (by rw[hW1];exact Kept.refl _));rw[hs] at HR;have c1:=cc.kept (W':=W1) (by rw[←hW1];exact ja _ _);have KW:=lH (show Kept w W1 by rw[←hW1,←hW0];exact jm _ _ _);have y0:=c1.at_ 0 _ rfl;have y1:=c1.at_ 1 _ rfl;have y2:=c1.at_ 2 _ rfl;have y3:=c1.at_ 3 _ rfl;have y4:=c1.at_ 4 _ rfl;have y5:=c1.at_ 5 _ rfl;have y6:=c1.at_ 6 _ rfl;have y7:=c1.at_ 7 _ rfl;have y8:=c1.at_ 8 _ rfl;have y9:=c1.at_ 9 _ rfl;have y10:=c1.at_ 10 _ rfl;have f0:=c1.free 0;have f1:=c1.free 1;have f2:=c1.free 2;have f3:=c1.free 3;have f4:=c1.free 4;have f5:=c1.free 5;have f6:=c1.free 6;have f7:=c1.free 7;have f8:=c1.free 8;have f9:=c1.free 9;have f10:=c1.free 10;have P:=lH (j4 (vs:=[.string x,.string ⟨#[]⟩,.int .i64 0,.slice (some ⟨w.heap.size+1,0,none⟩) 1 1,.slice none 0 0,.slice none 0 0,.slice none 0 0,.string ⟨#[]⟩,.int .i64 0,.string y,.bool false]) c1 rfl);clear c1 cc;go_enter Tryz.func22,Tryz.ntmps22;go_wp2;try rw[hW0]
 try rw[hW1]
 obtain⟨WE,hWE⟩:=eX (W1.setCells w.heap.size 0 [.string x,.string ⟨#[]⟩,.int .i64 0,.slice (some ⟨w.heap.size+1,0,none⟩) 1 1,.slice none 0 0,.slice none 0 0,.slice none 0 0,.string ⟨#[]⟩,.int .i64 0,.string y,.bool false])
 have hWE2:(((((((((((W1.setCell ⟨w.heap.size,0,none⟩ (.string x)).setCell ⟨w.heap.size,1,none⟩ (.string ⟨#[]⟩)).setCell ⟨w.heap.size,2,none⟩ (.int .i64 0)).setCell ⟨w.heap.size,3,none⟩ (.slice (some ⟨w.heap.size+1,0,none⟩) 1 1)).setCell ⟨w.heap.size,4,none⟩ (.slice none 0 0)).setCell ⟨w.heap.size,5,none⟩ (.slice none 0 0)).setCell ⟨w.heap.size,6,none⟩ (.slice none 0 0)).setCell ⟨w.heap.size,7,none⟩ (.string ⟨#[]⟩)).setCell ⟨w.heap.size,8,none⟩ (.int .i64 0)).setCell ⟨w.heap.size,9,none⟩ (.string y)).setCell ⟨w.heap.size,10,none⟩ (.bool false))=WE:=hWE;rw[hWE] at P;try rw[hWE2]
 clear hWE hWE2;obtain⟨PC,hsz,hbl,hkp⟩:=P.out;refine bodyPost_ret (by simp[results,Tryz.results22,go_sem,PC.at_ 0 _ rfl,PC.at_ 1 _ rfl,PC.at_ 2 _ rfl,PC.at_ 3 _ rfl,PC.at_ 4 _ rfl,PC.at_ 5 _ rfl,PC.at_ 6 _ rfl,PC.at_ 7 _ rfl,PC.at_ 8 _ rfl,PC.at_ 9 _ rfl,PC.at_ 10 _ rfl];try rfl) rfl ?_;exact⟨_,_,_,rfl,⟨hx,(by decide:(0:Nat)≤maxLen),(by decide:(0:Nat)≤maxLen),hy,(by decide:(-9223372036854775808:Int)≤0∧(0:Int)≤9223372036854775807),(by decide:(-9223372036854775808:Int)≤0∧(0:Int)≤9223372036854775807),(HR.out.far hsz (fun b o s e=>hbl b (by cases e;omega))),Reads.nil _,Reads.nil _,Reads.nil _⟩,hkp _ _ (Nat.le_refl _) KW.out,fun b o z e=>by cases e;omega⟩
theorem jT {X:Type} {L:Lay X} {lx:List X} {q:Nat} {v:Value} {vs:List Value} {W:World} (hc:jd L lx=v::vs) (c:je q (v::vs) W) (hf:∀x ∈ lx,L.fine x) (hm:lx.length≤maxLen):jn L W (some ⟨q,0,none⟩) lx.length lx :=
 ⟨rfl,hm,hf,.inr ⟨q,0,rfl,c.lt,fun i x j u hi hj=>by
  have:=ZL L lx i x j u hi hj;rw[hc] at this;rw[Nat.zero_add];exact c.at_ _ u this⟩⟩
theorem zH {w:World} {a:Option Addr} {len:Nat} {lx:List NX} (h:jn zp w a len lx) (hf:∀z ∈ lx,At3 w z):jt w a len (lx.map fun z=>z.1):=by
 obtain⟨g0,g1,g2,g3⟩:=h;refine⟨by rw[List.length_map];exact g0,g1,g3.imp id ?_⟩;rintro ⟨b,off,rfl,hb,hc⟩;refine⟨b,off,rfl,hb,fun i n hi=>?_⟩;rw[List.getElem?_map] at hi;obtain⟨z,hz,rfl⟩:=Option.map_eq_some_iff.1 hi;exact⟨_,_,_,_,_,_,_,_,_,hc i z 0 _ hz rfl,hc i z 1 _ hz rfl,hc i z 2 _ hz rfl,hc i z 3 _ hz rfl,hc i z 4 _ hz rfl,hf z (List.mem_of_getElem? hz)⟩
theorem JU {w:World} {a:Option Addr} {len:Nat} {lx:List PX} (h:jn PodLay0 w a len lx) (hf:∀z ∈ lx,At4 w z):jC w a len (lx.map fun z=>z.1):=by
 obtain⟨g0,g1,g2,g3⟩:=h;refine⟨by rw[List.length_map];exact g0,g1,g3.imp id ?_⟩;rintro ⟨b,off,rfl,hb,hc⟩;refine⟨b,off,rfl,hb,fun i n hi=>?_⟩;rw[List.getElem?_map] at hi;obtain⟨z,hz,rfl⟩:=Option.map_eq_some_iff.1 hi;exact⟨_,_,_,_,hc i z 0 _ hz rfl,hc i z 1 _ hz rfl,hc i z 2 _ hz rfl,hc i z 3 _ hz rfl,hc i z 4 _ hz rfl,hc i z 5 _ hz rfl,hc i z 6 _ hz rfl,hc i z 7 _ hz rfl,hc i z 8 _ hz rfl,hc i z 9 _ hz rfl,hc i z 10 _ hz rfl,hf z (List.mem_of_getElem? hz)⟩
theorem zG (w:World):zA w none 0 []:=⟨rfl,by decide,.inl rfl⟩
theorem jbo (x:ByteArray) (c:Int) (y:ByteArray) (hc:-9223372036854775808≤c∧c≤9223372036854775807) (hx:x.size≤maxLen) (hy:y.size≤maxLen) (w:World) :
 Calls Tryz.prog 22 #[.string x,.int .i64 c,.string y] w fun e w'=>∃b1 n1 d1,e=.returned (.agg #[.string x,.string ⟨#[]⟩,.int .i64 0,.slice b1 n1 d1,.slice none 0 0,.slice none 0 0,.slice none 0 0,.string ⟨#[]⟩,.int .i64 0,.string y,.bool false])∧ji w' (.slice b1 n1 d1) (.slice none 0 0) (.slice none 0 0) (.slice none 0 0) (jcF x c y)∧Kept w w' :=
 (jkd x c y hc hx hy w).mono fun e w' ⟨b,n,d,h1,h2,h3,_⟩=>⟨b,n,d,h1,h2,h3⟩
def qo (W:World) (q:Nat):Prop:=∀i u,W.cell? ⟨q,i,none⟩=some u→∃a n c,u=.slice a n c
theorem JB {W:World} {q:Nat} {a1 a2 a3:Option Addr} {m1 c1 m2 c2 m3 c3:Nat} {T:TypeId} {fr:Nat×Nat} (hh:W.heap[q]?=some (.cells #[.slice a1 m1 c1,.slice a2 m2 c2,.slice a3 m3 c3] T fr)):qo W q:=by
 intro i u h;rw[Lib.cell_of_heap hh] at h
 match i,h with
 | 0,h=>cases h;exact⟨_,_,_,rfl⟩
 | 1,h=>cases h;exact⟨_,_,_,rfl⟩
 | 2,h=>cases h;exact⟨_,_,_,rfl⟩
 | i+3,h=>simp at h
theorem qo.noRow {W:World} {q:Nat} (h:qo W q):jbD W q:=fun o x u h1 _=>by
 obtain⟨_,_,_,e⟩:=h _ _ h1
 cases e
theorem qB {α:Type} {L:Lay α} {w w':World} {a:Option Addr} {len:Nat} {l:List α} {N:Nat} (hL:∀x,∃u,(L.cs x)[0]?=some u∧∀a n c,u≠.slice a n c) (h:jn L w a len l) (hs:w'.heap.size=w.heap.size) (hb:∀b,b≠N→w'.heap[b]?=w.heap[b]?) (hn:qo w N):jn L w' a len l:=by
 obtain⟨h3,h4,h5,h6⟩:=h;refine⟨h3,h4,h5,?_⟩;rcases h6 with h6 | ⟨b,off,rfl,hlt,hc⟩
 · exact .inl h6
 · cases l with
   | nil=>exact .inl h3.symm
   | cons x t =>
    have hne:b≠N:=by
     rintro rfl;obtain⟨u,g0,g1⟩:=hL x;obtain⟨_,_,_,e⟩:=hn _ _ (hc 0 x 0 _ rfl g0);exact g1 _ _ _ e
    exact .inr ⟨b,off,rfl,by rw[hs];exact hlt,fun i x j u hi hj=>(World.cell?_of_block (a:=⟨b,off+i*L.m+j,none⟩) (hb b hne)).trans (hc i x j u hi hj)⟩
theorem YJ {α:Type} {L:Lay α} {w w':World} {v:Value} {l:List α} {N:Nat} (hL:∀x,∃u,(L.cs x)[0]?=some u∧∀a n c,u≠.slice a n c) (h:Reads L w v l) (hs:w'.heap.size=w.heap.size) (hb:∀b,b≠N→w'.heap[b]?=w.heap[b]?) (hn:qo w N):Reads L w' v l:=by
 obtain⟨a,cap,rfl,h1,h2,h3⟩:=h;exact⟨a,cap,rfl,h1,h2,qB hL h3 hs hb hn⟩
theorem jmx (x:ByteArray×ByteArray):∃u,(jy.cs x)[0]?=some u∧∀a n c,u≠.slice a n c:=⟨_,rfl,fun _ _ _ e=>by cases e⟩
theorem jmI (x:NT):∃u,(jz.cs x)[0]?=some u∧∀a n c,u≠.slice a n c:=⟨_,rfl,fun _ _ _ e=>by cases e⟩
theorem jkX (x:Int×ByteArray×ByteArray):∃u,(jS.cs x)[0]?=some u∧∀a n c,u≠.slice a n c:=⟨_,rfl,fun _ _ _ e=>by cases e⟩
theorem jmz (x:NX):∃u,(zp.cs x)[0]?=some u∧∀a n c,u≠.slice a n c:=⟨_,rfl,fun _ _ _ e=>by cases e⟩
theorem jlQ (x:PX):∃u,(PodLay0.cs x)[0]?=some u∧∀a n c,u≠.slice a n c:=⟨_,rfl,fun _ _ _ e=>by cases e⟩
theorem jmO (x:BX):∃u,(j9.cs x)[0]?=some u∧∀a n c,u≠.slice a n c:=⟨_,rfl,fun _ _ _ e=>by cases e⟩
theorem jj1 {w:World} {a:Option Addr} {len:Nat} {lx:List BX} (h:jn j9 w a len lx) (hf:∀z ∈ lx,At1 w z):zA w a len (lx.map fun z=>z.1):=by
 obtain⟨g0,g1,g2,g3⟩:=h;refine⟨by rw[List.length_map];exact g0,g1,g3.imp id ?_⟩;rintro ⟨b,off,rfl,hb,hc⟩;refine⟨b,off,rfl,hb,fun i n hi=>?_⟩;rw[List.getElem?_map] at hi;obtain⟨z,hz,rfl⟩:=Option.map_eq_some_iff.1 hi;exact⟨_,hc i z 0 _ hz rfl,hc i z 1 _ hz rfl,hc i z 2 _ hz rfl,hf z (List.mem_of_getElem? hz)⟩
section
variable {w w':World} {N:Nat} (hs:w'.heap.size=w.heap.size) (hb:∀b,b≠N→w'.heap[b]?=w.heap[b]?) (hn:qo w N)
include hs hb hn
theorem jaX {v:Value} {l:List Nod} (h:Jg w v l):Jg w' v l:=by
 obtain⟨a,cap,rfl,h1,h2,h3⟩:=h;obtain⟨lx,hm,hr,hat⟩:=jga h3;exact⟨a,cap,rfl,h1,h2,by rw[←hm];exact zH (by rw[hm];exact qB jmz hr hs hb hn) fun z hz=>jax (hat z hz) hs hb hn.noRow⟩
theorem jby {v:Value} {l:List Pd} (h:zU w v l):zU w' v l:=by
 obtain⟨a,cap,rfl,h1,h2,h3⟩:=h;obtain⟨lx,hm,hr,hat⟩:=jgI h3;exact⟨a,cap,rfl,h1,h2,by
  rw[←hm];exact JU (by rw[hm];exact qB jlQ hr hs hb hn) fun z hz=>by
   have g:=hat z hz;exact⟨g.name,g.owner,g.key,g.node,g.prio,g.most,jee g.need hs hb hn.noRow,YJ jmx g.labels hs hb hn,YJ jkX g.sel hs hb hn,YJ jmI g.tols hs hb hn⟩⟩
theorem jbC {v:Value} {l:List Bd} (h:JK w v l):JK w' v l:=by
 obtain⟨a,cap,rfl,h1,h2,h3⟩:=h;obtain⟨lx,hm,hr,hat⟩:=jgy h3;exact⟨a,cap,rfl,h1,h2,by
  rw[←hm];exact jj1 (by rw[hm];exact qB jmO hr hs hb hn) fun z hz=>by
   have g:=hat z hz;exact⟨g.name,g.floor,YJ jkX g.sel hs hb hn⟩⟩
theorem zI {v:Value} {s:Clu} (h:jB w v s):jB w' v s:=by
 obtain⟨v1,v2,v3,e,g⟩:=h;exact⟨v1,v2,v3,e,jaX hs hb hn g.nodes,jby hs hb hn g.pods,jbC hs hb hn g.buds⟩
end
end Go.Proofs.YtibepooajeakfaaGreat
namespace Go.Proofs.YtibepooajeakfaaGreat
open Go.RowKit
theorem jmJ {v:Value} {s:Clu} {w:World} (h:jB w v s) (hl:jA s) (e1:s.nodes.length≤1000) (e2:s.pods.length≤1000) (e3:s.buds.length≤1000):Calls Tryz.prog 8 #[v] w fun e w'=>∃v,e=.returned v∧jB w' v s∧Kept w w':=by
 obtain⟨v1,v2,v3,rfl,⟨a,cap,rfl,l1,m1,h1⟩,⟨b,cp,rfl,l2,m2,h2⟩,⟨d,cb,rfl,l3,m3,h3⟩⟩:=h;obtain⟨nl,pl,bl⟩:=s;dsimp only at *;obtain⟨len,hlen⟩:=eX (nl.length)
 obtain⟨m,hm⟩:=eX (pl.length)
 obtain⟨n,hn⟩:=eX (bl.length)
 rw[hlen] at h1 l1;rw[hm] at h2 l2;rw[hn] at h3 l3;try rw[hlen]
 try rw[hm]
 try rw[hn]
 obtain⟨Z,hZ⟩:=eX ((w.alloc (.cells #[.slice a len cap,.slice b m cp,.slice d n cb] 26)).alloc (.cells #[.slice none 0 0,.slice none 0 0,.slice none 0 0] 33))
 have hkz:Kept w Z:=by rw[←hZ];exact jm _ _ _
 have cc:=jb w (.slice a len cap) [.slice b m cp,.slice d n cb] 26 Z (by rw[←hZ];exact ja _ _);have HH:=lH (show je (w.heap.size+1) [.slice none 0 0,.slice none 0 0,.slice none 0 0] Z by
  have dd:=jb (w.alloc (.cells #[.slice a len cap,.slice b m cp,.slice d n cb] 26)) (.slice none 0 0) [.slice none 0 0,.slice none 0 0] 33 Z (by rw[hZ];exact Kept.refl _);rw[World.size_alloc] at dd;exact dd)
 obtain⟨HN,HP,HB,Vc⟩:=lH4 (fun W (k:Kept Z W)=>jmk (qe l1 m1 (h1.kept (hkz.trans k))) hl.nodes e1) (fun W (k:Kept Z W)=>jln (jgE l2 m2 (h2.kept (hkz.trans k))) hl.pods e2) (fun W (k:Kept Z W)=>jlw (jcp l3 m3 (h3.kept (hkz.trans k))) hl.buds e3) hkz;have Nz:=lH (show ∀W,Kept Z W→qo W (w.heap.size+1) from fun W k=>by
  have hh:Z.heap[w.heap.size+1]?=some (.cells #[.slice none 0 0,.slice none 0 0,.slice none 0 0] 33):=by
   have:=(w.alloc (.cells #[.slice a len cap,.slice b m cp,.slice d n cb] 26)).alloc_heap_new (.cells #[.slice none 0 0,.slice none 0 0,.slice none 0 0] 33);rw[World.size_alloc,hZ] at this;exact this
  exact JB ((k.block _ (Array.getElem?_eq_some_iff.1 hh).1).trans hh))
 have HS:=lH (show ∀W,Kept Z W→W.cell? ⟨w.heap.size,0,none⟩=some (.slice a len cap)∧W.cell? ⟨w.heap.size,1,none⟩=some (.slice b m cp)∧W.cell? ⟨w.heap.size,2,none⟩=some (.slice d n cb) from fun W k=>⟨(cc.kept k).at_ 0 _ rfl,(cc.kept k).at_ 1 _ rfl,(cc.kept k).at_ 2 _ rfl⟩);have U3:=lH (show ∀U W:World,(∀b,b≠w.heap.size+1→U.heap[b]?=W.heap[b]?)→Kept Z W→U.cell? ⟨w.heap.size,0,none⟩=some (.slice a len cap)∧U.cell? ⟨w.heap.size,1,none⟩=some (.slice b m cp)∧U.cell? ⟨w.heap.size,2,none⟩=some (.slice d n cb) from fun U W e k=>by
  have c:=(cc.kept k).block (e _ (by omega));exact⟨c.at_ 0 _ rfl,c.at_ 1 _ rfl,c.at_ 2 _ rfl⟩)
 clear h1 h2 h3 l1 l2 l3 m1 m2 m3 hkz cc hl e1 e2 e3;go_enter Tryz.func8,Tryz.ntmps8;go_wp2_with fail
 try rw[hZ]
 clear hZ;refine wp_region_held_drew (S:=fun W=>W.cell? ⟨w.heap.size,0,none⟩=some (.slice a len cap)∧W.cell? ⟨w.heap.size,1,none⟩=some (.slice b m cp)∧W.cell? ⟨w.heap.size,2,none⟩=some (.slice d n cb)) (by kernel_rfl) (HS.out _ (Kept.drew _)) (fun hHeld=>?_);refine wpAnyH_take  (i:=0) (v:=?_) (by rw[List.getElem?_toArray];exact rfl) (by kernel_rfl) (by kernel_rfl) (by kernel_rfl) (by exact fun _ _ _ h=>h) (Or.inl ⟨by rfl,(by rintro W ⟨o0,o1,o2⟩;go_simp<;>with_reducible rfl)⟩) (by assumption) ?_;try simp only  [Act.put,List.setIfInBounds_toArray,List.set_cons_zero,List.set_cons_succ]
 refine wpAnyH_take  (i:=1) (v:=?_) (by rw[List.getElem?_toArray];exact rfl) (by kernel_rfl) (by kernel_rfl) (by kernel_rfl) (by exact fun _ _ _ h=>h) (Or.inl ⟨by rfl,(by rintro W ⟨o0,o1,o2⟩;go_simp<;>with_reducible rfl)⟩) (by assumption) ?_;try simp only  [Act.put,List.setIfInBounds_toArray,List.set_cons_zero,List.set_cons_succ]
 refine wpAnyH_take  (i:=3) (v:=?_) (by rw[List.getElem?_toArray];exact rfl) (by kernel_rfl) (by kernel_rfl) (by kernel_rfl) (by exact fun _ _ _ h=>h) (Or.inl ⟨by rfl,(by rintro W ⟨o0,o1,o2⟩;go_simp<;>with_reducible rfl)⟩) (by assumption) ?_;try simp only  [Act.put,List.setIfInBounds_toArray,List.set_cons_zero,List.set_cons_succ]
 refine wpAnyH_take  (i:=4) (v:=?_) (by rw[List.getElem?_toArray];exact rfl) (by kernel_rfl) (by kernel_rfl) (by kernel_rfl) (by exact fun _ _ _ h=>h) (Or.inl ⟨by rfl,(by rintro W ⟨o0,o1,o2⟩;go_simp<;>with_reducible rfl)⟩) (by assumption) ?_;try simp only  [Act.put,List.setIfInBounds_toArray,List.set_cons_zero,List.set_cons_succ]
 refine wpAnyH_take  (i:=6) (v:=?_) (by rw[List.getElem?_toArray];exact rfl) (by kernel_rfl) (by kernel_rfl) (by kernel_rfl) (by exact fun _ _ _ h=>h) (Or.inl ⟨by rfl,(by rintro W ⟨o0,o1,o2⟩;go_simp<;>with_reducible rfl)⟩) (by assumption) ?_;try simp only  [Act.put,List.setIfInBounds_toArray,List.set_cons_zero,List.set_cons_succ]
 refine wpAnyH_take  (i:=7) (v:=?_) (by rw[List.getElem?_toArray];exact rfl) (by kernel_rfl) (by kernel_rfl) (by kernel_rfl) (by exact fun _ _ _ h=>h) (Or.inl ⟨by rfl,(by rintro W ⟨o0,o1,o2⟩;go_simp<;>with_reducible rfl)⟩) (by assumption) ?_;try simp only  [Act.put,List.setIfInBounds_toArray,List.set_cons_zero,List.set_cons_succ]
 have J:=lH (Kept.drew Z);refine wpAnyH_ready  (rs:=[2]) (by kernel_rfl) (by simp) (AllReadyH.cons  (by rw[List.getElem?_toArray];exact rfl) (fun K9 Ky=>?_) AllReadyH.nil);go_simp;refine(HN.out _ J.out).mono ?_;rintro e1 w1 ⟨u1,rfl,hr,kk⟩;have J:=lH (J.out.trans kk);have hr2:=hr;obtain⟨x1,q1,rfl,-,-,-⟩:=hr2;rw[hlen] at hr;try rw[hlen]
 have RR1:=lH hr;clear hr kk;refine Ky.out _ _ (HS.out _ J.out) (fun _=>?_);clear Ky K9;try simp only  [Act.put,List.setIfInBounds_toArray,List.set_cons_zero,List.set_cons_succ]
 refine wpAnyH_ready  (rs:=[5]) (by kernel_rfl) (by simp) (AllReadyH.cons  (by rw[List.getElem?_toArray];exact rfl) (fun K9 Ky=>?_) AllReadyH.nil);go_simp;refine(HP.out _ J.out).mono ?_;rintro e2 w2 ⟨u2,rfl,hr,kk⟩;have J:=lH (J.out.trans kk);have RR1:=lH (RR1.out.kept kk);have hr2:=hr;obtain⟨x2,q2,rfl,-,-,-⟩:=hr2;rw[hm] at hr;try rw[hm]
 have RR2:=lH hr;clear hr kk;refine Ky.out _ _ (HS.out _ J.out) (fun _=>?_);clear Ky K9;try simp only  [Act.put,List.setIfInBounds_toArray,List.set_cons_zero,List.set_cons_succ]
 refine wpAnyH_ready  (rs:=[8]) (by kernel_rfl) (by simp) (AllReadyH.cons  (by rw[List.getElem?_toArray];exact rfl) (fun K9 Ky=>?_) AllReadyH.nil);go_simp;refine(HB.out _ J.out).mono ?_;rintro e3 w3 ⟨u3,rfl,hr,kk⟩;obtain⟨J,RR1,RR2⟩:=lH3 (J.out.trans kk) (RR1.out.kept kk) (RR2.out.kept kk);have hr2:=hr;obtain⟨x3,q3,rfl,-,-,-⟩:=hr2;rw[hn] at hr;try rw[hn]
 have RR3:=lH hr;clear hr kk;refine Ky.out _ _ (HS.out _ J.out) (fun _=>?_);clear Ky K9;try simp only  [Act.put,List.setIfInBounds_toArray,List.set_cons_zero,List.set_cons_succ]
 refine wpAnyH_take  (i:=9) (v:=?_) (by rw[List.getElem?_toArray];exact rfl) (by kernel_rfl) (by kernel_rfl) (by kernel_rfl) (by exact fun _ _ _ h=>h) (Or.inl ⟨by rfl,(by rintro W ⟨o0,o1,o2⟩;go_simp<;>with_reducible rfl)⟩) (by assumption) ?_;try simp only  [Act.put,List.setIfInBounds_toArray,List.set_cons_zero,List.set_cons_succ]
 have H9:=lH (HH.out.kept J.out);obtain⟨z0,z1,z2⟩:=H9.out.at3;have f0:=H9.out.free 0;have f1:=H9.out.free 1;have f2:=H9.out.free 2;have PP:=lH (j4 (vs:=[.slice x1 len q1,.slice x2 m q2,.slice x3 n q3]) H9.out rfl);refine wpAnyH_ready  (rs:=[10]) (by kernel_rfl) (by simp) (AllReadyH.cons  (by rw[List.getElem?_toArray];exact rfl) (fun K9 Ky=>?_) AllReadyH.nil);go_simp;obtain⟨WE,hWE⟩:=eX (w3.setCells (w.heap.size+1) 0 [.slice x1 len q1,.slice x2 m q2,.slice x3 n q3])
 have hWE2:(((w3.setCell ⟨(w.heap.size+1),0,none⟩ (.slice x1 len q1)).setCell ⟨(w.heap.size+1),1,none⟩ (.slice x2 m q2)).setCell ⟨(w.heap.size+1),2,none⟩ (.slice x3 n q3))=WE:=hWE;rw[hWE] at PP;try rw[hWE2]
 obtain⟨PC,hsz,hbl,hkp⟩:=PP.out;skip;refine Ky.out _ _ (U3.out _ _ hbl J.out) (fun _=>?_);clear Ky K9 z0 z1 z2 f0 f1 f2;try simp only  [Act.put,List.setIfInBounds_toArray,List.set_cons_zero,List.set_cons_succ]
 refine wpAnyH_done (by kernel_rfl) ?_ _;go_wp2;refine bodyPost_ret (by simp[results,Tryz.results8,go_sem,PC.at_ 0 _ rfl,PC.at_ 1 _ rfl,PC.at_ 2 _ rfl];try rfl) rfl ?_;have SL:=Nz.out _ J.out;exact⟨_,rfl,⟨_,_,_,rfl,jaX hsz hbl SL RR1.out,jby hsz hbl SL RR2.out,jbC hsz hbl SL RR3.out⟩,hkp _ _ (Nat.le_succ _) (Vc.out.trans J.out)⟩
theorem jjS {n:Pd} (h:Jk n=true):Jq n:=by
 obtain⟨-,-,-,-,h1,h2,h3,h4⟩:=jfv h;refine⟨?_,?_,?_,?_⟩
 · unfold Vec.Yf at h1;simp only[Bool.and_eq_true,decide_eq_true_eq] at h1;omega
 · have:=(jgW h2).1;omega
 · have:=(jhf h3).1;omega
 · have:=(jgc h4).1;omega
def Zw (s:Clu):Bool:=XH s&&decide (Jr s=0)
theorem jec {s:Clu} (h:XH s=true):jA s∧s.nodes.length≤34∧s.pods.length≤130∧s.buds.length≤20:=by
 unfold XH Zi at h;simp only[Bool.and_eq_true,decide_eq_true_eq,List.all_eq_true] at h;obtain⟨h1,h2,⟨h3,h4⟩,h5,h6⟩:=h;refine⟨⟨fun n hn=>jlq (h5 n hn),fun p hp=>jjS (h6 p hp),fun n hn=>?_,by omega,by omega,by omega⟩,by omega,by omega,by omega⟩;have:=h4 n hn;unfold Y5 ZY at this;simp only[Bool.and_eq_true,decide_eq_true_eq] at this;omega
theorem jkp {s:Clu} (h:Zw s=true):XH s=true:=by unfold Zw at h;exact(Bool.and_eq_true_iff.1 h).1
theorem Xh {s:Clu} (h:Zw s=true):Jr s=0:=by unfold Zw at h;exact of_decide_eq_true (Bool.and_eq_true_iff.1 h).2
theorem jk2 {v:Value} {s:Clu} {c:Bool} {w:World} (h:jB w v s) (hc:Zw s=c):Calls Tryz.prog 7 #[v] w (Say (.bool c) w):=by
 subst hc;have h0:=h;obtain⟨v1,v2,v3,rfl,⟨a,cap,rfl,-,-,-⟩,⟨b,cp,rfl,-,-,-⟩,⟨d,cb,rfl,-,-,-⟩⟩:=h0;obtain⟨len,hl1⟩:=eX (s.nodes.length)
 obtain⟨m,hl2⟩:=eX (s.pods.length)
 obtain⟨n,hl3⟩:=eX (s.buds.length)
 rw[hl1,hl2,hl3] at h ⊢;clear hl1 hl2 hl3;obtain⟨Z,hZ⟩:=eX (w.alloc (.cells #[.slice a len cap,.slice b m cp,.slice d n cb] 26))
 have hkz:Kept w Z:=by rw[←hZ];exact ja _ _
 obtain⟨HC,HV,Vc⟩:=lH3 (show je w.heap.size [.slice a len cap,.slice b m cp,.slice d n cb] Z from jb w (.slice a len cap) [.slice b m cp,.slice d n cb] 26 Z (by rw[hZ];exact Kept.refl _)) (h.kept hkz) hkz;obtain⟨e1,he1⟩:=eX (XH s)
 have Uy:=lH he1;have HG:=lH (show Zw s=(e1&&decide (Jr s=0)) by unfold Zw;rw[he1]);rw[HG.out];clear h hkz;have cq0:=(HC.out.kept (Kept.refl _)).at_ 0 _ rfl;have cq1:=(HC.out.kept (Kept.refl _)).at_ 1 _ rfl;have cq2:=(HC.out.kept (Kept.refl _)).at_ 2 _ rfl;go_enter Tryz.func7,Tryz.ntmps7;go_wp2_with fail
 try rw[hZ]
 clear hZ;refine(jl5 HV.out he1).mono ?_;rintro e w1 ⟨rfl,kk⟩;have K:=lH kk;clear kk he1 cq0 cq1 cq2;have cq0:=(HC.out.kept K.out).at_ 0 _ rfl;have cq1:=(HC.out.kept K.out).at_ 1 _ rfl;have cq2:=(HC.out.kept K.out).at_ 2 _ rfl
 cases e1 with
 | false =>
  go_wp2;go_ret;exact⟨rfl,Vc.out.trans K.out⟩
 | true =>
  obtain⟨L1,L2,L3,L4⟩:=jec Uy.out;have HL:=lH L1;clear L1;go_wp2_with fail
  refine(jmJ (HV.out.kept K.out) HL.out (by omega) (by omega) (by omega)).mono ?_;rintro e w2 ⟨x9,rfl,hx,kk⟩;have K2:=lH (K.out.trans kk);have HX:=lH hx;clear hx kk cq0 cq1 cq2;go_wp2_with fail
  obtain⟨c,hc⟩:=eX (Jr s)
  refine(jjd HX.out hc).mono ?_;rintro e w3 ⟨rfl,kk⟩;have K3:=lH (K2.out.trans kk);have Ub:=lH hc;clear kk;rw[hc];clear hc;obtain⟨t,ht⟩:=eX (decide (c=0))
  have ht':(c==0)=t:=ht;go_wp2;go_ret;exact⟨by rw[Ub.out,ht];rfl,Vc.out.trans K3.out⟩
def Asc (l:List Pd):Prop:=l.Pairwise fun x y=>ltS x.name y.name=true
theorem jdZ:∀{prev:Option ByteArray} {l:List Pd},zg prev l=0→(∀q,prev=some q→∀x ∈ l,ltS q x.name=true)∧Asc l
 | _,[],_=>⟨fun q _ x h=>absurd h (by simp),.nil⟩
 | prev,n::t,h=>by
  by_cases z:zN n=0
  · by_cases y:Vec.jG prev n.name=true
    · rw[X9 z y] at h;cases h
    · have y:Vec.jG prev n.name=false:=by simpa using y
      rw[YP z y] at h;obtain⟨h2,h3⟩:=jdZ h;refine⟨fun q hq x hx=>?_,List.pairwise_cons.2 ⟨fun x hx=>h2 _ rfl x hx,h3⟩⟩;subst hq;have hlt:ltS q n.name=true:=Vec.XF y;rcases List.mem_cons.1 hx with rfl | hx
      · exact hlt
      · exact Vec.zM hlt (h2 _ rfl x hx)
  · rw[jbg z] at h;exact absurd h z
theorem jfa {s:Clu} (h:Zw s=true):Asc s.pods:=by
 have hc:=Xh h;have h0:or3 (jV s.nodes) (jK s.pods) (jZ s.buds)=0:=Decidable.byContradiction fun g=>g ((jaI (nl:=s.nodes) (pl:=s.pods) (bl:=s.buds) rfl g).symm.trans hc);have ho:jK s.pods=0:=by
  unfold or3 at h0;split at h0
  · rename_i h1;exact absurd h0 h1
  · split at h0
    · exact h0
    · rename_i h1;exact Decidable.of_not_not h1
 unfold jK at ho;split at ho
 · cases ho
 · exact(jdZ ho).2
theorem qq:∀{l:List Pd} {p:Pd},Asc l→p ∈ l→Jt l p.name=some p
 | [],_,_,h=>by cases h
 | x::t,p,h,hp=>by
  unfold Jt;rcases List.mem_cons.1 hp with hp | hp
  · subst hp;exact List.find?_cons_of_pos (p:=fun n:Pd=>eqS n.name p.name) (J7 _)
  · have hlt:=(List.pairwise_cons.1 h).1 p hp;exact(List.find?_cons_of_neg (p:=fun n:Pd=>eqS n.name p.name) (fun e=>Vec.ZE hlt (jM.1 e))).trans (qq (List.pairwise_cons.1 h).2 hp)
theorem jin {l:List Pd} {x:ByteArray}:Jt l x=none↔∀q ∈ l,q.name≠x:=by
 unfold Jt;rw[List.find?_eq_none];exact⟨fun h q hq e=>h q hq (jM.2 e),fun h q hq e=>h q hq (jM.1 e)⟩
theorem jla {l:List Pd} {x:ByteArray} {p:Pd} (h:Jt l x=some p):p ∈ l∧p.name=x :=
 ⟨List.mem_of_find?_eq_some h,jM.1 (List.find?_some (p:=fun n:Pd=>eqS n.name x) h)⟩
theorem jeq {x:ByteArray}:∀{l:List Pd},(∀q ∈ l,q.name≠x)→j0 x l=l
 | [],_=>rfl
 | p::t,h=>by
  have hp:=h p (List.mem_cons_self ..);rw[j0,if_neg (fun e=>hp (jM.1 e)),jeq fun q hq=>h q (List.mem_cons_of_mem _ hq)]
theorem JQ {x:ByteArray}:∀{l:List Pd} {q:Pd},q ∈ j0 x l→q ∈ l
 | p::t,q,h=>by
  rw[j0] at h;split at h
  · exact List.mem_cons_of_mem _ h
  · rcases List.mem_cons.1 h with rfl | h
    · exact List.mem_cons_self ..
    · exact List.mem_cons_of_mem _ (JQ h)
theorem jdr {x:ByteArray}:∀{l:List Pd},Asc l→∀q ∈ j0 x l,q.name≠x
 | p::t,h,q,hq=>by
  obtain⟨h1,h2⟩:=List.pairwise_cons.1 h;rw[j0] at hq;split at hq
  · rename_i e;have e:=jM.1 e;have:=Vec.ZE (h1 q hq);rw[e] at this;exact fun e=>this e.symm
  · rename_i e;rcases List.mem_cons.1 hq with rfl | hq
    · exact fun e'=>e (jM.2 e')
    · exact jdr h2 q hq
theorem jeD {x:ByteArray}:∀{l:List Pd},Asc l→Asc (j0 x l)
 | [],h=>h
 | p::t,h=>by
  obtain⟨h1,h2⟩:=List.pairwise_cons.1 h;rw[j0];split
  · exact h2
  · exact List.pairwise_cons.2 ⟨fun q hq=>h1 q (JQ hq),jeD h2⟩
theorem jbS {x:ByteArray}:∀{l:List Pd},(j0 x l).length+(if (Jt l x).isSome=true then 1 else 0)=l.length
 | []=>rfl
 | p::t=>by
  by_cases e:eqS p.name x=true
  · have hf:Jt (p::t) x=some p:=by unfold Jt;exact List.find?_cons_of_pos (p:=fun n:Pd=>eqS n.name x) e
    rw[j0,if_pos e,hf];simp
  · have hf:Jt (p::t) x=Jt t x:=by unfold Jt;exact List.find?_cons_of_neg (p:=fun n:Pd=>eqS n.name x) e
    rw[j0,if_neg e,hf];have:=jbS (x:=x) (l:=t);simp only[List.length_cons];omega
theorem ins_mem {p:Pd}:∀{l:List Pd} {q:Pd},q ∈ Jw p l→q=p∨q ∈ l
 | [],q,h=>by
  have:=List.mem_singleton.1 (show q ∈ [p] from h);exact .inl this
 | r::t,q,h=>by
  rw[Jw] at h;split at h
  · rcases List.mem_cons.1 h with rfl | h
    · exact .inl rfl
    · exact .inr h
  · rcases List.mem_cons.1 h with rfl | h
    · exact .inr (List.mem_cons_self ..)
    · exact(ins_mem h).imp id (List.mem_cons_of_mem _)
theorem jcn (p:Pd):∀l:List Pd,(Jw p l).length=l.length+1
 | []=>rfl
 | r::t=>by
  rw[Jw];split
  · rfl
  · rw[List.length_cons,jcn p t,List.length_cons]
theorem jf6 {p:Pd}:∀{l:List Pd},Asc l→(∀q ∈ l,q.name≠p.name)→Asc (Jw p l)
 | [],_,_=>List.pairwise_singleton ..
 | r::t,h,hn=>by
  obtain⟨h1,h2⟩:=List.pairwise_cons.1 h;rw[Jw];split
  · rename_i e;refine List.pairwise_cons.2 ⟨fun q hq=>?_,h⟩;rcases List.mem_cons.1 hq with rfl | hq
    · exact e
    · exact Vec.zM e (h1 q hq)
  · rename_i e;have e:ltS p.name r.name=false:=by simpa using e
    refine List.pairwise_cons.2 ⟨fun q hq=>?_,jf6 h2 fun q hq=>hn q (List.mem_cons_of_mem _ hq)⟩;rcases ins_mem hq with rfl | hq
    · cases g:ltS r.name q.name with
      | true=>rfl
      | false=>exact absurd (Vec.YE g e) (hn r (List.mem_cons_self ..))
    · exact h1 q hq
theorem jgs {s:Clu} (h:Asc s.pods) (p:Pd):Asc (Jb s p).pods:=jf6 (jeD h) (jdr h)
theorem jcI {s:Clu} (p:Pd):(Jb s p).pods.length=(j7 s p.name).pods.length+1:=jcn p _
theorem XE (s:Clu) (x:ByteArray):(j7 s x).pods.length+(if (Jt s.pods x).isSome=true then 1 else 0)=s.pods.length:=jbS
def zx (l:Vec.V):Prop:=Vec.Gd l∧l.length≤8
theorem zx.nil:zx []:=⟨Vec.Gd.nil,by decide⟩
theorem jgL {l:Vec.V} (h:Vec.jv l=0) (hf:Vec.zY l):zx l:=⟨Vec.Yg h hf,Vec.Zz h⟩
theorem Y8 {f g:ByteArray→Int} {r:Vec.V} (h:∀n,f n=g n):Vec.Made f r↔Vec.Made g r:=by rw[funext h]
theorem add_step {v p:Vec.V} (hv:zx v) (hp:zx p) :
 (∃q,Vec.jj Vec.jD v p=(0,q)∧zx q∧∀n,Vec.jh q n=Vec.jh v n+Vec.jh p n) ∨
 (∃c,c≠0∧Vec.jj Vec.jD v p=(c,[])∧∀(r:Vec.V) (f:ByteArray→Int),(∀n,0≤f n)→Vec.Made (fun n=>Vec.jh v n+Vec.jh p n+f n) r→r.length≤8→False):=by
 rcases Vec.merged_spec Vec.jhY hv.1 hp.1 hv.2 hp.2 with ⟨⟨n,hn⟩,hb⟩ | ⟨hn,q,hm,⟨h8,hb⟩ | ⟨h8,hb⟩⟩
 · refine .inr ⟨5,by decide,hb,fun r f hf hr _=>hn ((Vec.Xy _ _).2 ?_)⟩;have h1:=(Vec.Je n hr.1).2;have h2:=hf n;rw[hr.2 n] at h1;dsimp only at h1;omega
 · refine .inr ⟨4,by decide,hb,fun r f hf hr h9=>?_⟩;have hl:q.length≤r.length:=Vec.Gd.len hm.1 hr.1 fun n hne e=>hne (by
    rw[hm.2 n];show (Vec.jD _ _).1=0;rw[Vec.jbd ((Vec.Xy _ _).1 (hn n))];have h1:=hf n;have h2:=Vec.Je n hv.1;have h3:=Vec.Je n hp.1;rw[hr.2 n] at e;dsimp only at e ⊢;omega)
   omega
 · exact .inl ⟨q,hb,⟨hm.1,h8⟩,fun n=>by rw[hm.2 n];show (Vec.jD _ _).1=_;rw[Vec.jbd ((Vec.Xy _ _).1 (hn n))]⟩
def JP (x:ByteArray) (p:Pd) (n:ByteArray):Int:=if eqS p.node x=true then Vec.jh p.need n else 0
def zS (x:ByteArray):List Pd→ByteArray→Int
 | [],_=>0
 | p::t,n=>JP x p n+zS x t n
theorem jem {x:ByteArray} {p:Pd} (h:zx p.need) (n:ByteArray):0≤JP x p n:=by
 unfold JP;split
 · exact(Vec.Je n h.1).1
 · exact Int.le_refl _
theorem jbj {x:ByteArray}:∀{l:List Pd},(∀p ∈ l,zx p.need)→∀n,0≤zS x l n
 | [],_,n=>Int.le_refl _
 | p::t,h,n=>Int.add_nonneg (jem (h p (List.mem_cons_self ..)) n) (jbj (fun q hq=>h q (List.mem_cons_of_mem _ hq)) n)
theorem jbl {x:ByteArray}:∀{l:List Pd} {v r:Vec.V},(∀p ∈ l,zx p.need)→zx v→(jF x l v=(0,r)↔Vec.Made (fun n=>Vec.jh v n+zS x l n) r∧r.length≤8)
 | [],v,r,_,hv=>by
  constructor
  · intro e
    cases e
    exact⟨⟨hv.1,fun n=>by show _=_+(0:Int);rw[Int.add_zero]⟩,hv.2⟩
  · rintro ⟨hm,_⟩;have e:v=r:=Vec.Gd.ext hv.1 hm.1 fun n=>by rw[hm.2 n];show _=_+(0:Int);rw[Int.add_zero]
    rw[e];rfl
 | p::t,v,r,hl,hv=>by
  have ht:∀q ∈ t,zx q.need:=fun q hq=>hl q (List.mem_cons_of_mem _ hq);have hp:=hl p (List.mem_cons_self ..)
  cases e:eqS p.node x with
  | false =>
   rw[jai e,jbl ht hv];refine and_congr (Y8 fun n=>?_) Iff.rfl;show _=_+(JP x p n+zS x t n);rw[JP,if_neg (by rw[e];decide),Int.zero_add]
  | true =>
   have hone:∀n,JP x p n=Vec.jh p.need n:=fun n=>by rw[JP,if_pos e]
   rcases add_step hv hp with ⟨q,hq,fq,gq⟩ | ⟨c,hc,hq,no⟩
   · rw[ja7 e hq,jbl ht fq];refine and_congr (Y8 fun n=>?_) Iff.rfl;show _=_+(JP x p n+zS x t n);rw[hone,gq,Int.add_assoc]
   · rw[jba e hq hc];constructor
     · intro h;exact absurd (Prod.mk.inj h).1 hc
     · rintro ⟨hm,h8⟩;refine(no r (zS x t) (jbj ht) ((Y8 fun n=>?_).1 hm) h8).elim;show _+(JP x p n+zS x t n)=_;rw[hone,Int.add_assoc]
theorem jbw {x:ByteArray} {l:List Pd} {r:Vec.V} (hl:∀p ∈ l,zx p.need):jF x l []=(0,r)↔Vec.Made (zS x l) r∧r.length≤8:=by
 rw[jbl hl zx.nil];exact and_congr (Y8 fun n=>by show (0:Int)+_=_;rw[Int.zero_add]) Iff.rfl
theorem jcP {x y:ByteArray}:∀{l:List Pd} {p:Pd},Jt l y=some p→∀n,zS x (j0 y l) n+JP x p n=zS x l n
 | q::t,p,h,n=>by
  by_cases e:eqS q.name y=true
  · have hq:Jt (q::t) y=some q:=by unfold Jt;exact List.find?_cons_of_pos (p:=fun n:Pd=>eqS n.name y) e
    rw[hq] at h;obtain rfl:=Option.some.inj h;rw[j0,if_pos e];show _=JP x q n+zS x t n;omega
  · have hq:Jt (q::t) y=Jt t y:=by unfold Jt;exact List.find?_cons_of_neg (p:=fun n:Pd=>eqS n.name y) e
    rw[hq] at h;have:=jcP (x:=x) h n;rw[j0,if_neg e];show JP x q n+zS x (j0 y t) n+_=JP x q n+zS x t n;omega
structure XO (s:Clu):Prop where
 nodes:jV s.nodes=0
 pods:jK s.pods=0
 places:jE s.nodes s.pods=0
 rooms:jX s.pods s.nodes=0
 tot:(Zf s.nodes []).1=0
theorem ja6 {s:Clu} (h:Jr s=0):XO s:=by
 have h0:or3 (jV s.nodes) (jK s.pods) (jZ s.buds)=0:=Decidable.byContradiction fun g=>g ((jaI (nl:=s.nodes) (pl:=s.pods) (bl:=s.buds) rfl g).symm.trans h);have h1:jE s.nodes s.pods=0:=Decidable.byContradiction fun g=>g ((jdn (nl:=s.nodes) (pl:=s.pods) (bl:=s.buds) h0 rfl g).symm.trans h);have h2:jX s.pods s.nodes=0:=Decidable.byContradiction fun g=>g ((ja3 (nl:=s.nodes) (pl:=s.pods) (bl:=s.buds) h0 h1 rfl g).symm.trans h);have h3:(Zf s.nodes []).1=0:=(ja9 (nl:=s.nodes) (pl:=s.pods) (bl:=s.buds) h0 h1 h2).symm.trans h;have ho:jV s.nodes=0∧jK s.pods=0:=by
  unfold or3 at h0;split at h0
  · rename_i h1;exact absurd h0 h1
  · rename_i g1;split at h0
    · rename_i g2;exact absurd h0 g2
    · rename_i g2;exact⟨Decidable.of_not_not g1,Decidable.of_not_not g2⟩
 exact⟨ho.1,ho.2,h1,h2,h3⟩
theorem jb1 {pods:List Pd}:∀{l:List Nod},jX pods l=0→∀n ∈ l,∃u,jF n.name pods []=(0,u)∧Vec.jx n.cap u=true
 | m::t,h,n,hn=>by
  obtain⟨c,u,hu⟩:∃c u,jF m.name pods []=(c,u):=⟨_,_,rfl⟩
  by_cases hc:c=0
  · subst hc
    cases hf:Vec.jx m.cap u with
    | false=>rw[jce hu hf] at h;cases h
    | true =>
     rw[qF hu hf] at h;rcases List.mem_cons.1 hn with rfl | hn
     · exact⟨u,hu,hf⟩
     · exact jb1 h n hn
  · rw[jdb hu hc] at h;exact absurd h hc
def jl8 (l:List Nod):Prop:=l.Pairwise fun x y=>ltS x.name y.name=true
theorem YT:∀{prev:Option ByteArray} {l:List Nod},zt prev l=0→(∀q,prev=some q→∀x ∈ l,ltS q x.name=true)∧jl8 l∧∀n ∈ l,zy n=0
 | _,[],_=>⟨fun q _ x h=>absurd h (by simp),.nil,fun n h=>absurd h (by simp)⟩
 | prev,n::t,h=>by
  by_cases z:zy n=0
  · by_cases y:Vec.jG prev n.name=true
    · rw[jbO z y] at h;cases h
    · have y:Vec.jG prev n.name=false:=by simpa using y
      rw[jaz z y] at h;obtain⟨h2,h3,h4⟩:=YT h;refine⟨fun q hq x hx=>?_,List.pairwise_cons.2 ⟨fun x hx=>h2 _ rfl x hx,h3⟩,fun m hm=>?_⟩
      · subst hq;have hlt:ltS q n.name=true:=Vec.XF y;rcases List.mem_cons.1 hx with rfl | hx
        · exact hlt
        · exact Vec.zM hlt (h2 _ rfl x hx)
      · rcases List.mem_cons.1 hm with rfl | hm
        · exact z
        · exact h4 m hm
  · rw[jd0 z] at h;exact absurd h z
theorem jcS:∀{l:List Nod} {p:Nod},jl8 l→p ∈ l→jk l p.name=some p
 | [],_,_,h=>by cases h
 | x::t,p,h,hp=>by
  unfold jk;rcases List.mem_cons.1 hp with hp | hp
  · subst hp;exact List.find?_cons_of_pos (p:=fun n:Nod=>eqS n.name p.name) (J7 _)
  · have hlt:=(List.pairwise_cons.1 h).1 p hp;exact(List.find?_cons_of_neg (p:=fun n:Nod=>eqS n.name p.name) (fun e=>Vec.ZE hlt (jM.1 e))).trans (jcS (List.pairwise_cons.1 h).2 hp)
theorem XO.jk {s:Clu} (h:XO s) {n:Nod} (hn:n ∈ s.nodes):jk s.nodes n.name=some n:=by
 have ho:=h.nodes;unfold jV at ho;split at ho
 · cases ho
 · exact jcS (YT ho).2.1 hn
theorem XO.cap0 {s:Clu} (h:XO s) {n:Nod} (hn:n ∈ s.nodes):Vec.jv n.cap=0:=by
 have ho:=h.nodes;unfold jV at ho;split at ho
 · cases ho
 · have hc:=(YT ho).2.2 n hn;unfold zy at hc;split at hc
   · cases hc
   · split at hc
     · rename_i g;exact absurd hc g
     · rename_i g;exact Decidable.of_not_not g
theorem jaB:∀{prev:Option ByteArray} {l:List Pd},zg prev l=0→∀n ∈ l,zN n=0
 | prev,m::t,h,n,hn=>by
  by_cases z:zN m=0
  · by_cases y:Vec.jG prev m.name=true
    · rw[X9 z y] at h;cases h
    · have y:Vec.jG prev m.name=false:=by simpa using y
      rw[YP z y] at h;rcases List.mem_cons.1 hn with rfl | hn
      · exact z
      · exact jaB h n hn
  · rw[jbg z] at h;exact absurd h z
theorem jbv:∀{l:List Int},orL l=0→∀c ∈ l,c=0
 | x::t,h,c,hc=>by
  unfold orL at h;split at h
  · rename_i g;exact absurd h g
  · rename_i g;rcases List.mem_cons.1 hc with rfl | hc
    · exact Decidable.of_not_not g
    · exact jbv h c hc
theorem XO.need0 {s:Clu} (h:XO s) {n:Pd} (hn:n ∈ s.pods):Vec.jv n.need=0:=by
 have ho:=h.pods;unfold jK at ho;split at ho
 · cases ho
 · exact jbv (jaB ho n hn) _ (by simp[jaD])
structure Sound (s:Clu):Prop where
 parts:XO s
 asc:Asc s.pods
 need:∀p ∈ s.pods,zx p.need
 cap:∀n ∈ s.nodes,zx n.cap
theorem jea {s:Clu} {w:World} {v:Value} (h:Zw s=true) (hr:jB w v s):Sound s:=by
 have hp:=ja6 (Xh h);obtain⟨v1,v2,v3,rfl,⟨a,cap,rfl,-,-,h1⟩,⟨b,cp,rfl,-,-,h2⟩,-⟩:=hr;refine⟨hp,jfa h,fun p hm=>jgL (hp.need0 hm) ?_,fun n hm=>jgL (hp.cap0 hm) ?_⟩
 · obtain⟨k,hk,rfl⟩:=List.mem_iff_getElem.1 hm;rcases h2.2.2 with h0 | ⟨b,off,-,-,hc⟩
   · omega
   · obtain⟨v1,v2,v3,v4,-,-,-,-,-,-,-,-,-,-,-,hat⟩:=hc k _ (List.getElem?_eq_getElem hk);obtain⟨a9,c9,-,-,-,g⟩:=hat.need;exact g.2.2.1
 · obtain⟨k,hk,rfl⟩:=List.mem_iff_getElem.1 hm;rcases h1.2.2 with h0 | ⟨b,off,-,-,hc⟩
   · omega
   · obtain⟨a1,m1,c1,a2,m2,c2,a3,m3,c3,-,-,-,-,-,hat⟩:=hc k _ (List.getElem?_eq_getElem hk);obtain⟨a9,c9,-,-,-,g⟩:=hat.cap;exact g.2.2.1
theorem jk8 {s:Clu} (h:Sound s) {n:Nod} (hn:n ∈ s.nodes):JA s n.name=jF n.name s.pods []:=qW (h.parts.jk hn)
theorem jk6 {s:Clu} (h:Sound s) {n:Nod} (hn:n ∈ s.nodes):∃u f,JA s n.name=(0,u)∧Zx s n.name=(0,f)∧Vec.jj Vec.jD u f=(0,n.cap)∧zx u∧zx f∧Vec.Made (zS n.name s.pods) u∧(∀m,Vec.jh f m=Vec.jh n.cap m-Vec.jh u m)∧∀m,Vec.jh u m≤Vec.jh n.cap m:=by
 obtain⟨u,hu,hf⟩:=jb1 h.parts.rooms n hn;obtain⟨hm,hl⟩:=(jbw h.need).1 hu;have hc:=h.cap n hn;have hle:=(Vec.Yt hm.1 hc.1).1 hf;obtain⟨f,hs,hmf,hlf⟩:=Vec.jbi hc.1 hm.1 hc.2 hl hle;have hget:∀m,Vec.jh f m=Vec.jh n.cap m-Vec.jh u m:=fun m=>hmf.2 m;refine⟨u,f,(jk8 h hn).trans hu,?_,?_,⟨hm.1,hl⟩,⟨hmf.1,hlf⟩,hm,hget,hle⟩
 · unfold Zx;rw[h.parts.jk hn];dsimp only;rw[hu,if_pos rfl];exact hs
 · refine Vec.jkH hm.1 hmf.1 hl hlf (fun m=>?_) ⟨hc.1,fun m=>?_⟩ hc.2
   · have:=(Vec.Je m hc.1).2;rw[hget];omega
   · show _=Vec.jh u m+Vec.jh f m;rw[hget];omega
def YW (g:ByteArray→Int):Vec.V→Vec.V
 | []=>[]
 | x::t=>if g x.1=0 then YW g t else (x.1,g x.1)::YW g t
theorem Xe {g:ByteArray→Int}:∀{l:Vec.V} {y:ByteArray×Int},y ∈ YW g l→∃x ∈ l,y=(x.1,g x.1)∧g x.1≠0
 | x::t,y,h=>by
  rw[YW] at h;split at h
  · obtain⟨z,hz,e⟩:=Xe h;exact⟨z,by simp[hz],e⟩
  · rename_i hg;rcases List.mem_cons.1 h with rfl | h
    · exact⟨x,by simp,rfl,hg⟩
    · obtain⟨z,hz,e⟩:=Xe h;exact⟨z,by simp[hz],e⟩
theorem jdR (g:ByteArray→Int):∀l:Vec.V,(YW g l).length≤l.length
 | []=>Nat.le_refl _
 | x::t=>by
  have:=jdR g t;rw[YW];split<;>simp only[List.length_cons]<;>omega
theorem jgi {g:ByteArray→Int}:∀{l:Vec.V},Vec.Gd l→(∀x ∈ l,0≤g x.1∧g x.1≤9223372036854775807)→Vec.Gd (YW g l)
 | [],_,_=>Vec.Gd.nil
 | x::t,h,hb=>by
  obtain⟨h1,h2,h3⟩:=Vec.Gd.cons.1 h;have ih:=jgi h3 fun y hy=>hb y (by simp[hy]);rw[YW];split
  · exact ih
  · rename_i hg;have:=hb x (by simp);refine Vec.Gd.cons.2 ⟨⟨h1.1,by dsimp only;omega,this.2⟩,fun y hy=>?_,ih⟩;obtain⟨z,hz,rfl,_⟩:=Xe hy;exact h2 z hz
theorem jbc {g:ByteArray→Int} {n:ByteArray}:∀{l:Vec.V},Vec.Gd l→(∃x ∈ l,x.1=n)→Vec.jh (YW g l) n=g n
 | [],_,h=>by obtain⟨x,hx,_⟩:=h;cases hx
 | y::t,h,he=>by
  obtain⟨h1,h2,h3⟩:=Vec.Gd.cons.1 h;by_cases e:y.1=n
  · rw[YW];split
    · rename_i hg;rw[←e,hg];refine Vec.Xm fun z hz=>?_;obtain⟨q,hq,rfl,_⟩:=Xe hz;exact fun e2=>Vec.ZE (h2 q hq) e2.symm
    · rw[←e];exact Vec.Ja _ _
  · have ht:∃x ∈ t,x.1=n:=by
     obtain⟨x,hx,e2⟩:=he;rcases List.mem_cons.1 hx with rfl | hx
     · exact absurd e2 e
     · exact⟨x,hx,e2⟩
    rw[YW];split
    · exact jbc h3 ht
    · rw[Vec.Jh _ (by exact e)];exact jbc h3 ht
theorem jjT {g:ByteArray→Int} {u:Vec.V} (hu:zx u) (h0:∀n,0≤g n) (h1:∀n,g n≤Vec.jh u n):∃r,Vec.Made g r∧r.length≤8:=by
 refine⟨YW g u,⟨jgi hu.1 fun x hx=>⟨h0 _,Int.le_trans (h1 _) (Vec.Je _ hu.1).2⟩,fun n=>?_⟩,Nat.le_trans (jdR g u) hu.2⟩;by_cases e:∃x ∈ u,x.1=n
 · exact jbc hu.1 e
 · have hz:Vec.jh u n=0:=Vec.Xm fun y hy e2=>e ⟨y,hy,e2⟩;have h2:=h0 n;have h3:=h1 n;rw[show g n=0 by omega];refine Vec.Xm fun y hy e2=>?_;obtain⟨x,hx,rfl,_⟩:=Xe hy;exact e ⟨x,hx,e2⟩
theorem jiS {x:ByteArray} {cap:Vec.V} {l:List Pd} (hc:zx cap) (hp:∀p ∈ l,zx p.need) (hs:∀m,zS x l m≤Vec.jh cap m):∃u,jF x l []=(0,u)∧zx u∧(∀m,Vec.jh u m=zS x l m)∧Vec.jx cap u=true:=by
 obtain⟨u,hu,hu8⟩:=jjT hc (jbj hp) hs;exact⟨u,(jbw hp).2 ⟨hu,hu8⟩,⟨hu.1,hu8⟩,hu.2,(Vec.Yt hu.1 hc.1).2 fun m=>by rw[hu.2 m];exact hs m⟩
theorem jgu {s:Clu} {n:Nod} (hf:jk s.nodes n.name=some n) (hc:zx n.cap) (hp:∀p ∈ s.pods,zx p.need) (hs:∀m,zS n.name s.pods m≤Vec.jh n.cap m):∃b,Zx s n.name=(0,b)∧zx b∧∀m,Vec.jh b m=Vec.jh n.cap m-zS n.name s.pods m:=by
 obtain⟨u,h1,h2,h3,h4⟩:=jiS hc hp hs;obtain⟨b,hb,hmb,hlb⟩:=Vec.jbi hc.1 h2.1 hc.2 h2.2 fun m=>by rw[h3 m];exact hs m
 refine⟨b,?_,⟨hmb.1,hlb⟩,fun m=>by
  have h9:Vec.jh b m=Vec.jh n.cap m-Vec.jh u m:=hmb.2 m;rw[h9,h3 m]⟩
 unfold Zx;rw[hf];dsimp only;rw[h1,if_pos rfl];exact hb
theorem jkn {s:Clu} {n:Nod} (hf:jk s.nodes n.name=some n) (hc:zx n.cap) (hp:∀p ∈ s.pods,zx p.need) (h:(Zx s n.name).1=0):∀m,zS n.name s.pods m≤Vec.jh n.cap m:=by
 unfold Zx at h;rw[hf] at h;dsimp only at h;obtain⟨c,u,hu⟩:∃c u,jF n.name s.pods []=(c,u):=⟨_,_,rfl⟩
 rw[hu] at h;by_cases hz:c=0
 · subst hz;rw[if_pos rfl] at h;obtain⟨hm,h8⟩:=(jbw hp).1 hu;have:=(Vec.Yt hm.1 hc.1).1 ((Vec.jjW hc.1 hm.1 hc.2 h8).1 h);intro m;rw[←hm.2 m];exact this m
 · rw[if_neg hz] at h;exact absurd h hz
theorem jjU {s:Clu} {p:Pd} {n:Nod} (hf:jk s.nodes n.name=some n) (hc:zx n.cap) (hp:∀p ∈ s.pods,zx p.need) (hq:zx p.need):Yd s p n.name=true↔∀m,zS n.name s.pods m+Vec.jh p.need m≤Vec.jh n.cap m:=by
 unfold Yd;rw[Bool.and_eq_true,decide_eq_true_iff];constructor
 · rintro ⟨h1,h2⟩ m;have hs:=jkn hf hc hp h1;obtain⟨b,hb,fb,gb⟩:=jgu hf hc hp hs;rw[hb] at h2;have:=(Vec.Yt hq.1 fb.1).1 h2 m;rw[gb] at this;omega
 · intro h;obtain⟨b,hb,fb,gb⟩:=jgu hf hc hp fun m=>by have:=h m;have:=(Vec.Je m hq.1).1;omega
   rw[hb];refine⟨rfl,(Vec.Yt hq.1 fb.1).2 fun m=>?_⟩;rw[gb];have:=h m;omega
theorem jkG {x y:ByteArray} (l:List Pd) (hl:∀p ∈ l,zx p.need) (m:ByteArray):zS x (j0 y l) m≤zS x l m:=by
 cases h:Jt l y with
 | none=>rw[jeq (jin.1 h)];exact Int.le_refl _
 | some p =>
  have h1:=jcP (x:=x) h m;have h2:=jem (x:=x) (hl p (jla h).1) m;omega
theorem Sound.sum {s:Clu} (h:Sound s) {n:Nod} (hn:n ∈ s.nodes) (m:ByteArray):zS n.name s.pods m≤Vec.jh n.cap m:=by
 obtain⟨u,f,-,-,-,-,-,hm,-,hle⟩:=jk6 h hn;rw[←hm.2 m];exact hle m
theorem jiL {s:Clu} (h:∀p ∈ s.pods,zx p.need) (x:ByteArray):∀p ∈ (j7 s x).pods,zx p.need:=fun p hp=>h p (JQ hp)
theorem jdc {nodes:List Nod}:∀{l:List Pd},jE nodes l=0→∀p ∈ l,zD p.node=false→(jk nodes p.node).isSome=true
 | q::t,h,p,hp,hn=>by
  by_cases g:zD q.node=false∧(jk nodes q.node).isSome=false
  · rw[jbM g.1 g.2] at h;cases h
  · have h2:jE nodes t=0:=by rw[jE,if_neg g] at h;exact h
    rcases List.mem_cons.1 hp with rfl | hp
    · cases e:(jk nodes p.node).isSome with
      | false=>exact absurd ⟨hn,e⟩ g
      | true=>rfl
    · exact jdc h2 p hp hn
end Go.Proofs.YtibepooajeakfaaGreat
