/- C. -/
import Derived.Test.YtnfojaidmnccoaaGreatDoorG0
import Derived.Test.YtnfojaidmnccoaaGreatDoorG1
import Derived.Test.YtnfojaidmnccoaaGreatDoorG2
import Derived.Handy
import Derived.Shelf.SlSortCmp.QuietGrown
import Derived.Deep.AppendSrc
import Derived.Deep.DeepAppendWide
set_option linter.unusedVariables false
set_option maxRecDepth 100000
set_option maxHeartbeats 25600000
namespace Go.Proofs.YtnfojaidmnccoaaGreatDoor
open Go.RowKit Go.Shelf
attribute [local go_sem] Oper.semAt_some
structure StR (lo hi:Nat) (W W':World):Prop where
 os:W'.os=W.os
 tape:W'.tape=W.tape
 output:W'.output=W.output
 size:W.heap.size≤W'.heap.size
 block:∀b,b<lo∨hi≤b→W'.heap[b]?=W.heap[b]?
theorem StR.of {b2 D lo hi:Nat} {W W':World} (h:St b2 D W W') (h2:lo≤b2∧b2<hi) (hD:lo≤D∧D+1<hi):StR lo hi W W' :=
 ⟨h.os,h.tape,h.output,h.size,fun b hb=>h.block b (by omega) (by omega) (by omega)⟩
theorem StR.wider {lo hi lo' hi':Nat} {W W':World} (h:StR lo hi W W') (hl:lo'≤lo) (hh:hi≤hi'):StR lo' hi' W W':=⟨h.os,h.tape,h.output,h.size,fun b hb=>h.block b (by omega)⟩
theorem StR.put {lo hi D:Nat} (W:World) (o:Obj) (h:lo≤D∧D<hi):StR lo hi W (W.putObj D o):=⟨rfl,rfl,rfl,by simp,fun b hb=>World.putObj_heap_other (by omega)⟩
theorem StR.kept {lo hi:Nat} {W W':World} (h:Kept W W') (hl:lo≤W.heap.size) (hn:W'.heap.size≤hi):StR lo hi W W' :=
 ⟨h.os,h.tape,h.output,h.size,fun b hb=>by
  by_cases hlt:b<W.heap.size
  · exact h.block b hlt
  · have:=h.size;rw[Array.getElem?_eq_none (by omega),Array.getElem?_eq_none (by omega)]⟩
theorem StR.trans {lo hi:Nat} {A B C:World} (h:StR lo hi A B) (k:StR lo hi B C):StR lo hi A C:=⟨k.os.trans h.os,k.tape.trans h.tape,k.output.trans h.output,Nat.le_trans h.size k.size,fun b hb=>(k.block b hb).trans (h.block b hb)⟩
def Yj (lo hi:Nat) (W W':World):Prop:=∀b,lo≤b→b<hi→W'.heap[b]?=W.heap[b]?
def jh:Option (List UInt8)→List (List UInt8)
 | none=>[]
 | some r=>jb 32 r
def zt (W:World) (bw bc:Nat):Option (List UInt8)→Prop
 | none=>W.cell? ⟨bc,0,none⟩=some (.int .i64 3)∧∃g cap,W.cell? ⟨bw,0,none⟩=some (.slice (some ⟨g,0,none⟩) 3 cap)∧3≤cap∧cap≤4
 | some r=>W.cell? ⟨bc,0,none⟩=some (.int .i64 3)∧∃g,W.cell? ⟨bw,0,none⟩=some (.slice (some ⟨g,0,none⟩) 4 4)∧W.cell? ⟨g,3,none⟩=some (.string (bytes r))
theorem zt.kept {W W':World} {bw bc:Nat} {r:Option (List UInt8)} (h:zt W bw bc r) (k:Kept W W'):zt W' bw bc r:=by
 cases r with
 | none=>obtain⟨h1,g,cap,h2,h3,h4⟩:=h;exact⟨cell_later k h1,g,cap,cell_later k h2,h3,h4⟩
 | some r=>obtain⟨h1,g,h2,h3⟩:=h;exact⟨cell_later k h1,g,cell_later k h2,cell_later k h3⟩
structure jaV (l B:Nat) (ps:List (List UInt8)) (J:Nat→World→Prop) (Jp:List PanicEntry→World→Prop):Prop where
 yields:∀(k:Nat) (p:List UInt8) (W:World),ps[k]?=some p→J k W→B+6≤W.heap.size→YieldAt Fence.wide 4 Tryz.prog l #[.string (bytes p)] W fun e W' =>
  (e=.returned (.bool true)∧J (k+1) W'∧Yj B (B+6) W W')∨(∃c,e=.panicked c∧Jp c W'∧Yj B (B+6) W W')
 stable:∀(k:Nat) (W W':World),J k W→StR B (B+6) W W'→J k W'
 stableP:∀(c:List PanicEntry) (W W':World),Jp c W→StR B (B+6) W W'→Jp c W'
 env:∀(k:Nat) (W:World),J k W→Env W
def zj (w:World) (s:List UInt8):World:=((w.alloc (.cells #[.string (bytes s)] 9)).alloc (.cells #[.string ⟨#[32]⟩] 9)).alloc (.cells #[.int .i64 0] 3)
theorem Yc (s:List UInt8) (w:World) :
 Calls Tryz.prog 93 #[.string (bytes s),.string ⟨#[32]⟩] w fun e w' =>
  e=.returned (.func (.func 128) #[] #[.pointer (some ⟨w.heap.size+1,0,none⟩),.pointer (some ⟨w.heap.size,0,none⟩),.pointer (some ⟨w.heap.size+2,0,none⟩)])∧w'=zj w s:=by
 have hmf:=hmfL (P:=Tryz.prog);go_enter Tryz.func93,Tryz.ntmps93;go_wp2;go_ret;exact⟨rfl,rfl⟩
theorem Xg (w:World) (s:List UInt8):(zj w s).heap.size=w.heap.size+3:=by simp[zj]
theorem Xi (w:World) (s:List UInt8):Kept w (zj w s):=((ja w _).trans (ja _ _)).trans (ja _ _)
theorem YP (w:World) (s:List UInt8):(zj w s).cell? ⟨w.heap.size+1,0,none⟩=some (.string ⟨#[32]⟩)∧(zj w s).cell? ⟨w.heap.size,0,none⟩=some (.string (bytes s))∧(zj w s).cell? ⟨w.heap.size+2,0,none⟩=some (.int .i64 0)∧(zj w s).frozen? ⟨w.heap.size,0,none⟩=false:=by
 unfold zj;refine⟨?_,?_,?_,?_⟩<;>go_simp
theorem qu (l bw bc:Nat) (r:Option (List UInt8)) (W:World) (J:Nat→World→Prop) (Jp:List PanicEntry→World→Prop) (hr:zt W bw bc r) (hs:∀s,r=some s→s.length≤1000000)
 (hY:jaV l W.heap.size (jh r) J Jp) (h0:J 0 W) :
 Calls Tryz.prog 92 #[.func (.yield l) #[] #[],.pointer (some ⟨bw,0,none⟩),.pointer (some ⟨bc,0,none⟩)] W (Zo (jh r).length J Jp):=by
 obtain⟨B,hB⟩:=eX (W.heap.size)
 rw[hB] at hY;obtain⟨HY,H0,HB⟩:=lH3 hY h0 hB;obtain⟨w1,hw1⟩:=eX (W.alloc (.cells #[.func (.yield l) #[] #[]] 60))
 have hk1:Kept W w1:=by rw[←hw1];exact ja _ _
 have hz1:w1.heap.size=B+1:=by rw[←hw1,World.size_alloc,hB]
 have hyb:w1.cell? ⟨B,0,none⟩=some (.func (.yield l) #[] #[]):=by rw[←hw1,←hB];exact(zR W _ _).1
 obtain⟨VE,VB,TI⟩:=lH3 hk1 hz1 hyb;have hr1:=hr.kept hk1;clear hY h0 hr hz1 hyb hk1;refine zl (n:=6) Tryz.func92 rfl ?_;simp only[Tryz.ntmps92,List.size_toArray,List.length_cons,List.length_nil,Nat.reduceAdd,Nat.reduceSub,Array.replicate_succ,Array.replicate_zero,List.push_toArray,List.append_toArray,List.nil_append,List.cons_append];refine jq (ju (n:=6) ?_);gi_wp2
 try rw[hw1]
 try rw[hB]
 clear hB hw1
 cases r with
 | none =>
  obtain⟨hc,g,cap,hw,h3,h4⟩:=hr1;have HJ:=lH (HY.out.stable 0 W w1 H0.out (StR.kept VE.out (by rw[HB.out];exact Nat.le_refl _) (by rw[VB.out];omega)));obtain rfl | rfl:cap=3∨cap=4:=by omega
  all_goals
   refine jq (ju (n:=6) ?_);gi_wp2
   refine zG (Z9 1 ?_);unfold zD;refine jq (ju (n:=6) ?_);gi_wp2
   refine jq (ju (n:=6) ?_);gi_wp2
   exact⟨.tuple #[],(by simp[results,Tryz.results92,go_sem]),.inl ⟨⟨_,rfl⟩,HJ.out⟩⟩
 | some s =>
  obtain⟨hc,g,hw,hcell⟩:=hr1;have hs6:=hs s rfl;refine jq (ju (n:=6) ?_);gi_wp2
  refine zG (Z9 2 ?_);unfold zD;refine jq (ju (n:=6) ?_);gi_wp2
  refine jq (ju (n:=6) ?_);gi_wp2
  refine jq (zG (jq (ju (n:=6) ?_)));gi_wp2
  refine jq (ju (n:=6) ?_);gi_wp2_with (refine⟨trivial,?_⟩;gi_at_call 93;refine(callsIn_wide.2 (Yc s _)).mono ?_;rintro e w2 ⟨rfl,rfl⟩)
  refine zG ?_;have bcl:=YP w1 s;have bsz:=Xg w1 s;have bk:=Xi w1 s;rw[VB.out] at bcl bsz ⊢;obtain⟨w2,hw2⟩:=eX (zj w1 s)
  rw[hw2] at bcl bsz bk ⊢;have hyb:=cell_later bk TI.out;obtain⟨HJ,Rc,Tk,VQ⟩:=lH4 (HY.out.stable 0 W w2 H0.out (StR.kept (VE.out.trans bk) (by rw[HB.out];exact Nat.le_refl _) (by omega))) bk (show w2.heap.size=B+4 from bsz) (show jh (some s)=jb 32 s from rfl);have bsz2:w2.heap.size=B+4:=bsz;clear hw hcell hc hs hw2 bk bsz
  refine Xd 32 (n:=6) Tryz.func92 (by decide) (B+1+1) (B+1) (B+1+2) rfl s hs6 (by omega) (by omega) (by omega) (by omega) (by omega) bcl.1 bcl.2.1 bcl.2.2.1 bcl.2.2.2
   (fun k W'=>J k W'∧W'.cell? ⟨B,0,none⟩=some (.func (.yield l) #[] #[]))
   (fun c W'=>Jp c W')
   (fun k W1 W2 h st=>⟨HY.out.stable k W1 W2 h.1 (StR.of st (by omega) (by omega)),(World.cell?_of_block (a:=⟨B,0,none⟩) (st.block B (by omega) (by omega) (by omega))).trans h.2⟩) (fun k W' h=>HY.out.env k W' h.1) ⟨HJ.out,hyb⟩
   (fun x=>{ tmps:=#[.func (.yield l) #[] #[],.pointer (some ⟨bw,0,none⟩),.pointer (some ⟨bc,0,none⟩),.pointer (some ⟨B,0,none⟩),undef,.string (bytes s),.string x,.slice (some ⟨g,0,none⟩) 4 4,.int .i64 3,.slice (some ⟨g,3,none⟩) 1 1,.int .i64 1,.int .i64 0,.bool true,.pointer (some ⟨g,3,none⟩),.string (bytes s),.string (bytes s),
     .func (.func 128) #[] #[.pointer (some ⟨B+1+1,0,none⟩),.pointer (some ⟨B+1,0,none⟩),.pointer (some ⟨B+1+2,0,none⟩)],.string x,undef,undef,undef,undef,undef],defers:=[] }) ?assign ?body ?done ?panic
  case assign =>
   intro l2 x W' K hK;gi_wp2
   exact hK
  case body =>
   rintro l2 k p W' hp ⟨hJ,hyb'⟩ hlt;rw[bsz2] at hlt;obtain⟨fn,tmps,assign,body,hy,hR⟩:=HY.out.yields k p W' (by rw[VQ.out];exact hp) hJ (by omega);have HR:=lH hR;clear hR bcl hJ;gi_wp2
   refine RoundIn.inner (HR.out.mono ?_);rintro e W3 (⟨rfl,hJ3,hk3⟩ | ⟨c,rfl,hp3,hk3⟩)
   · obtain⟨TJ,Vo,UP⟩:=lH3 hJ3 hk3 ((World.cell?_of_block (a:=⟨B,0,none⟩) (hk3 B (Nat.le_refl _) (by omega))).trans hyb');clear hJ3 hk3;gi_wp2
     refine⟨fun b hb=>Vo.out b ?_ ?_,TJ.out,UP.out⟩<;>(rcases hb with h | h | h | h | h<;>omega)
   · have TK:=lH hp3;have Vo:=lH hk3;clear hp3 hk3;gi_wp2
     refine⟨rfl,fun b hb=>Vo.out b ?_ ?_,TK.out⟩<;>(rcases hb with h | h | h | h | h<;>omega)
  case panic =>
   rintro c W' hJp hk;rw[bsz2] at hk ⊢;refine⟨by simp,.inl ⟨_,_,rfl,run_takeDeferred hk,?_⟩⟩;exact .inr ⟨c,rfl,HY.out.stableP c _ _ hJp (StR.put _ _ (by omega))⟩
  case done =>
   rintro W' ⟨hJ,-⟩ hk;rw[bsz2] at hk ⊢;have TL:=lH (show J (jh (some s)).length W' from hJ);have Uh:=lH hk;clear hJ hk bcl;refine ju (n:=6) ?_;gi_wp2
   unfold zD;refine jq (ju (n:=6) ?_);gi_wp2
   refine jq (ju (n:=6) ?_);gi_wp2
   refine⟨by simp,.inl ⟨_,_,rfl,run_takeDeferred Uh.out,?_⟩⟩;exact⟨.tuple #[],by simp[results,Tryz.results92,go_sem],.inl ⟨⟨_,rfl⟩,HY.out.stable _ _ _ TL.out (StR.put _ _ (by omega))⟩⟩
end Go.Proofs.YtnfojaidmnccoaaGreatDoor
namespace Go.Proofs.YtnfojaidmnccoaaGreatDoor
open Go.RowKit Go.Shelf
attribute [local go_sem] Oper.semAt_some
def jbl (D k:Nat) (I:Nat→World→Prop) (JP:List PanicEntry→World→Prop) (W:World):Exit→Act→World→Prop
 | .normal,_,W'=>Yj D (D+8) W W'∧I (k+1) W'
 | .panic c,a,W'=>a.defers=[]∧Yj D (D+8) W W'∧JP c W'
 | _,_,_=>False
theorem Z2 {g:Operand} {t:Tmp} {assign body:Code} {Q:Exit→Act→World→Prop} {a:Act} {w:World} {fid:Nat} {fn:Func} (hfn:Tryz.prog.funcs[fid]?=some fn)
 (bw bc:Nat) (hg:a.eval g=.func (.func 92) #[] #[.pointer (some ⟨bw,0,none⟩),.pointer (some ⟨bc,0,none⟩)])
 (r:Option (List UInt8)) (hs:∀s,r=some s→s.length≤1000000) (hr:zt w bw bc r)
 (I:Nat→World→Prop) (JP:List PanicEntry→World→Prop) (hI:∀k W W',I k W→StR w.heap.size (w.heap.size+8) W W'→I k W') (hJP:∀c W W',JP c W→StR w.heap.size (w.heap.size+8) W W'→JP c W')
 (hE:∀k W,I k W→Env W) (h0:I 0 w) (a₁:ByteArray→Act)
 (hassign:∀(l:Nat) (x:ByteArray) (W:World) (K:Act→World→Prop),K (a₁ x) W →
   assign.wpIn (Fence.wide.inRound l) 4 Tryz.prog (Exit.then K (fun _ _ _=>False)) { tmps:=(#[t].zip #[Value.string x]).foldl (fun tt (p,v)=>tt.setIfInBounds p v) a.tmps,defers:=[] } W)
 (hbody:∀(l k:Nat) (p:List UInt8) (W:World),(jh r)[k]?=some p→I k W→w.heap.size+8≤W.heap.size→body.wpIn (Fence.wide.inRound l) 4 Tryz.prog (jbl w.heap.size k I JP W) (a₁ (bytes p)) W)
 (hdone:∀(W:World),I (jh r).length W→W.heap[w.heap.size]?=some (.deferred (some []))→Q .normal { a with defers:={ target:=.collected w.heap.size,args:=#[] }::a.defers } W)
 (hpanic:∀(c:List PanicEntry) (W:World),JP c W→W.heap[w.heap.size]?=some (.deferred (some []))→Q (.panic c) { a with defers:={ target:=.collected w.heap.size,args:=#[] }::a.defers } W) :
 zn fid Tryz.prog (Code.rangeFunc g #[t] assign body) Q a w:=by
 obtain⟨rec,hrec⟩:∃rec:LoopState→Option Code→Loop,rec=fun st pe=>{ state:=st,pending:=pe,fn:=fid,tmps:=a.tmps,params:=#[t],assign,body,defers:=w.heap.size }:=⟨_,rfl⟩
 obtain⟨W1,hW1⟩:=eX ((w.alloc (.deferred (some []))).alloc (.loop (rec .ready none)))
 have hL1:W1.heap[w.heap.size+1]?=some (.loop (rec .ready none)):=by
  rw[←hW1];have:=World.alloc_heap_new (w.alloc (.deferred (some []))) (.loop (rec .ready none));rwa [World.size_alloc] at this
 have hK1:W1.heap[w.heap.size]?=some (.deferred (some [])):=by
  rw[←hW1];exact(Below.heap_alloc _ _ _ (by simp)).trans (World.alloc_heap_new w _)
 have hB1:Kept w W1:=by rw[←hW1];exact(ja w _).trans (ja _ _)
 have hz1:W1.heap.size=w.heap.size+2:=by rw[←hW1];simp
 have hS1:StR w.heap.size (w.heap.size+8) w W1:=StR.kept hB1 (Nat.le_refl _) (by omega)
 refine zB (n:=4) (l:=w.heap.size+1) (mark:=[{ target:=.collected w.heap.size,args:=#[] }]) (w₁:=W1) (d:={ target:=.fn (.func 92) #[.pointer (some ⟨bw,0,none⟩),.pointer (some ⟨bc,0,none⟩)],args:=#[.func (.yield (w.heap.size+1)) #[] #[]] })
  (f:=92) (args:=#[.func (.yield (w.heap.size+1)) #[] #[],.pointer (some ⟨bw,0,none⟩),.pointer (some ⟨bc,0,none⟩)]) ?_ ?_ ?_ ?_
 · rw[←hW1,hrec];exact run_enterLoop_outer _ _ _ _ _
 · simp only[resolve,hg];simp[go_sem]
 · have eg:=enters_of (P:=Tryz.prog) Tryz.func92 (by kernel_rfl) rfl;simp[invoke,go_sem,eg]
 · refine(callsIn_wide.2 (qu (w.heap.size+1) bw bc r W1
    (fun k W=>I k W∧W.heap[w.heap.size+1]?=some (.loop (rec .ready none))∧W.heap[w.heap.size]?=some (.deferred (some [])))
    (fun c W=>JP c W∧W.heap[w.heap.size]?=some (.deferred (some [])))
    (hr.kept hB1) hs ?hY ⟨hI 0 w W1 h0 hS1,hL1,hK1⟩)).mono ?post
   case hY =>
    rw[hz1];refine⟨?_,?_,?_,?_⟩
    · rintro k p W hp ⟨hi,hl,hk⟩ hsz;have hlt:w.heap.size+1<W.heap.size:=(Array.getElem?_eq_some_iff.1 hl).1;have hy:=run_yield (P:=Tryz.prog) (args:=#[.string (bytes p)]) hl (by rw[hrec];rfl);rw[hrec] at hy;refine⟨fid,_,assign,body,hy,jY trivial hfn ?_⟩;refine hassign _ (bytes p) W _ ?_;refine⟨_,run_beginRound hl (by rw[hrec]),?_⟩;have hl2:(W.putObj (w.heap.size+1) (.loop { rec .ready none with state:=.busy })).heap[w.heap.size+1]?=some (.loop { rec .ready none with state:=.busy }):=World.putObj_heap_same hlt;have hk2:(W.putObj (w.heap.size+1) (.loop { rec .ready none with state:=.busy })).heap[w.heap.size]?=some (.deferred (some [])):=(World.putObj_heap_other (by omega)).trans hk;refine wpIn_mono (hbody _ k p _ hp (hI k _ _ hi (StR.put W _ (by omega))) (by simp;omega)) ?_;rintro e a3 W3 hp3
      cases e with
      | normal =>
       obtain⟨hk3,hi3⟩:=hp3;have hl3:=(hk3 (w.heap.size+1) (by omega) (by omega)).trans hl2;have hr:=run_endRound (P:=Tryz.prog) none hl3;refine⟨_,_,hr,.inl ⟨rfl,⟨hI _ _ _ hi3 (StR.put W3 _ (by omega)),?_,?_⟩,?_⟩⟩
       · rw[World.putObj_heap_same (Array.getElem?_eq_some_iff.1 hl3).1,hrec];rfl
       · exact((World.putObj_heap_other (by omega)).trans (hk3 w.heap.size (by omega) (by omega))).trans hk2
       · intro b hb1 hb2;exact((World.putObj_heap_other (by omega)).trans (hk3 b (by omega) (by omega))).trans (World.putObj_heap_other (by omega))
      | panic c =>
       obtain⟨hd,hk3,hj⟩:=hp3;exact⟨hd,.inr ⟨c,rfl,⟨hj,(hk3 w.heap.size (by omega) (by omega)).trans hk2⟩,fun b hb1 hb2=>(hk3 b (by omega) (by omega)).trans (World.putObj_heap_other (by omega))⟩⟩
      | ret=>exact hp3.elim
      | exit id=>exact hp3.elim
      | goto t=>exact hp3.elim
      | outgrown=>exact hp3.elim
    · rintro k W W' ⟨hi,hl,hk⟩ hst;exact⟨hI _ _ _ hi (hst.wider (by omega) (by omega)),(hst.block _ (by omega)).trans hl,(hst.block _ (by omega)).trans hk⟩
    · rintro c W W' ⟨hj,hk⟩ hst;exact⟨hJP _ _ _ hj (hst.wider (by omega) (by omega)),(hst.block _ (by omega)).trans hk⟩
    · rintro k W ⟨hi,_,_⟩;exact hE k W hi
   case post =>
    rintro e W2 (⟨⟨v,rfl⟩,hi,hl,hk⟩ | ⟨c,rfl,hj,hk⟩)
    · exact⟨_,run_endLoop (P:=Tryz.prog) hl (by rw[hrec];simp) |>.trans (by rw[hrec]),hdone _ (hI _ _ _ hi (StR.put W2 _ (by omega))) ((World.putObj_heap_other (by omega)).trans hk)⟩
    · exact hpanic c W2 hj hk
end Go.Proofs.YtnfojaidmnccoaaGreatDoor
namespace Go.Proofs.YtnfojaidmnccoaaGreatDoor
open Go.RowKit
theorem J4 (c:UInt8):∀(k:Nat) (s:List UInt8),k+1≤(jb c s).length→∃r,Lib.splitK [c] 0 k s=(jb c s).take k++[r]∧jb c r=(jb c s).drop k∧r.length≤s.length
 | 0,s,_=>⟨s,by rw[Lib.splitK];rfl,rfl,Nat.le_refl _⟩
 | k+1,s,h=>by
  rw[Lib.splitK];obtain⟨h1,h2⟩:=Xw c s
  cases hf:(Lib.cut s [c]).2.2 with
  | false=>rw[Jd c s hf] at h;simp at h
  | true =>
   obtain⟨e0,e1,e2⟩:=h2 hf;rw[Jz c s hf] at h ⊢;obtain⟨r,i1,i2,i3⟩:=J4 c k (Lib.cut s [c]).2.1 (by simpa using h);rw[if_neg (fun e=>e0 (beq_iff_eq.1 e)),e1,e2,i1];exact⟨r,rfl,i2,Nat.le_trans i3 (jbm s [c]).2⟩
theorem zX (c:UInt8) (k:Nat) (s:List UInt8) (L:List ByteArray) (q:List (List UInt8)) (h:Lib.splitB ⟨#[c]⟩ 0 k (bytes s)=L) (hq:Lib.splitK [c] 0 k s=q):L=q.map bytes:=by
 have hd:=Lib.splitB_data ⟨#[c]⟩ 0 k (bytes s);have hb:(bytes s).data.toList=s:=by simp[bytes]
 rw[hb,h] at hd;have hd':L.map (·.data.toList)=q:=hd.trans hq;rw[←hd',List.map_map];have:(bytes ∘ fun x:ByteArray=>x.data.toList)=id:=by
  funext x;cases x;simp[bytes]
 rw[this,List.map_id]
def YZ (s:List UInt8) (w:World) (e:Ending) (w':World):Prop :=
 ((jb 32 s).length<3→e=.panicked [jt 2]) ∧
 (3≤(jb 32 s).length→∃g cap bw bc r,e=.returned (.tuple #[.slice (some ⟨g,0,none⟩) 3 cap,.func (.func 92) #[] #[.pointer (some ⟨bw,0,none⟩),.pointer (some ⟨bc,0,none⟩)]]) ∧
   (∀j p,j<3→(jb 32 s)[j]?=some p→w'.cell? ⟨g,j,none⟩=some (.string (bytes p)))∧zt w' bw bc r∧jh r=(jb 32 s).drop 3∧∀q,r=some q→q.length≤s.length)∧Kept w w'
theorem ZQ (L:List ByteArray) (n:Nat) (w W:World) (T:TypeId) (q:List (List UInt8)) (hL:L=q.map bytes) (k:Kept (w.alloc (.cells (Lib.cellsOf L n) T)) W):∀j p,q[j]?=some p→W.cell? ⟨w.heap.size,j,none⟩=some (.string (bytes p)):=by
 intro j p hj;have hh:=w.alloc_heap_new (.cells (Lib.cellsOf L n) T);have hLj:L[j]?=some (bytes p):=by rw[hL,List.getElem?_map,hj];rfl
 have hj5:j<L.length:=(List.getElem?_eq_some_iff.1 hLj).1;refine cell_later k ?_;rw[Lib.cell_of_heap hh];show (Lib.cellsOf L n)[j]?=some (.string (bytes p));unfold Lib.cellsOf;rw[List.getElem?_toArray,List.getElem?_append_left (by rw[List.length_map];exact hj5),List.getElem?_map,hLj];rfl
theorem jam (s:List UInt8) (w:World) (hE:Env w) (hs:s.length≤1000000) :
 Calls Tryz.prog 69 #[.string (bytes s),.int .i64 3] w (YZ s w):=by
 obtain⟨w1,hw1⟩:=eX (w.alloc (.cells #[.int .i64 3] 3))
 have hk1:Kept w w1:=by rw[←hw1];exact ja _ _
 have hz1:w1.heap.size=w.heap.size+1:=by rw[←hw1,World.size_alloc]
 have hc1:w1.cell? ⟨w.heap.size,0,none⟩=some (.int .i64 3):=by rw[←hw1];exact(zR w _ _).1
 obtain⟨m,hm⟩:=(hE.kept hk1).most;have hmf:=hmfL (P:=Tryz.prog);have Vd:=lH (Tryz.strings_SplitN (bytes s) ⟨#[32]⟩ 4 m w1 (by rw[jk];omega) hm (by decide) (by decide) (by decide));obtain⟨n,hn⟩:=eX (min 4 ((bytes s).size+1))
 rw[hn] at Vd;obtain⟨L,hL⟩:=eX (Lib.splitB ⟨#[32]⟩ 0 (n-1) (bytes s))
 rw[hL] at Vd;have hsz:(bytes s).size=s.length:=jk s;have hpl:=YH 32 s;have hcap:L.length≤n:=by
  rw[←hL];have:=Lib.splitB_length_le ⟨#[32]⟩ 0 (n-1) (bytes s);omega
 obtain⟨VE,VB,Tl⟩:=lH3 hk1 hz1 hc1;by_cases h3:(jb 32 s).length<3
 · have hq:=(zs 32 (n-1) s).1 (by omega);have hLq:=zX 32 (n-1) s L _ hL hq;obtain⟨k,hk⟩:=eX (L.length)
   have hk3:k<3:=by rw[←hk,hLq,List.length_map];exact h3
   rw[hk] at Vd;have H3:=lH h3;have hlt:(k:Int)<3:=by omega
   clear h3 hq hLq hk hk3 hcap hL hm hE hz1;go_enter Tryz.func69,Tryz.ntmps69;go_wp2_with fail
   refine Vd.out.mono ?_;rintro e w2 ⟨rfl,rfl⟩;have hc3:((w1.alloc (.cells (Lib.cellsOf L n) 9)).alloc (.cells #[.slice (some ⟨w1.heap.size,0,none⟩) k n] 87)).cell? ⟨w.heap.size,0,none⟩=some (.int .i64 3):=cell_later (jG _ _ _) Tl.out;go_wp2;exact⟨rfl,⟨fun _=>rfl,fun h=>absurd H3.out (by omega),VE.out.trans (jG _ _ _)⟩⟩
 · obtain⟨k,r,q,hk,hLq,hqt,hr,hrp,hrs⟩:∃(k:Nat) (r:Option (List UInt8)) (q:List (List UInt8)),L.length=k∧L=q.map bytes∧(∀j p,j<3→(jb 32 s)[j]?=some p→q[j]?=some p)∧(match r with | none=>k=3∧3≤n∧n≤4 | some x=>k=4∧n=4∧q[3]?=some x)∧jh r=(jb 32 s).drop 3∧∀x,r=some x→x.length≤s.length:=by
    by_cases h4:(jb 32 s).length=3
    · have hq:=(zs 32 (n-1) s).1 (by omega);have hLq:=zX 32 (n-1) s L _ hL hq;refine⟨3,none,jb 32 s,by rw[hLq,List.length_map,h4],hLq,fun j p _ h=>h,⟨rfl,by omega,by omega⟩,?_,fun x h=>by cases h⟩;rw[List.drop_of_length_le (by omega)];rfl
    · have hn4:n=4:=by omega
      subst hn4;obtain⟨x,e1,e2,e3⟩:=J4 32 3 s (by omega);have hLq:=zX 32 3 s L _ hL e1;have ht:((jb 32 s).take 3).length=3:=by rw[List.length_take];omega
      refine⟨4,some x,(jb 32 s).take 3++[x],by rw[hLq,List.length_map,List.length_append,ht];rfl,hLq,fun j p hj h=>?_,⟨rfl,rfl,?_⟩,e2,fun y h=>by cases h;exact e3⟩
      · rw[List.getElem?_append_left (by omega),List.getElem?_take_of_lt hj];exact h
      · rw[List.getElem?_append_right (by omega),ht];rfl
   rw[hk] at Vd
   have hcap3:3≤n:=by cases r with
    | none=>exact hr.2.1
    | some x=>obtain⟨_,h,_⟩:=hr;omega
   have hk3:¬(k:Int)<3:=by cases r with
    | none=>obtain⟨h,_⟩:=hr;omega
    | some x=>obtain⟨h,_⟩:=hr;omega
   have hkn:k≤n:=by rw[←hk];exact hcap
   have hn4:n≤4:=by omega
   obtain⟨H3,TM,HR,VQ,Uu,TN⟩:=lH6 h3 hqt hr hrp hrs hLq;clear h3 hqt hr hrp hrs hLq hk hcap hL hm hE hn hz1;go_enter Tryz.func69,Tryz.ntmps69;go_wp2_with fail
   refine Vd.out.mono ?_;rintro e w2 ⟨rfl,rfl⟩;have hc3:((w1.alloc (.cells (Lib.cellsOf L n) 9)).alloc (.cells #[.slice (some ⟨w1.heap.size,0,none⟩) k n] 87)).cell? ⟨w.heap.size,0,none⟩=some (.int .i64 3):=cell_later (jG _ _ _) Tl.out;have Tm:=lH hc3;have Tn:=lH (ZQ L n w1 ((w1.alloc (.cells (Lib.cellsOf L n) 9)).alloc (.cells #[.slice (some ⟨w1.heap.size,0,none⟩) k n] 87)) 9 q TN.out (ja _ _));have To:=lH (show ((w1.alloc (.cells (Lib.cellsOf L n) 9)).alloc (.cells #[.slice (some ⟨w1.heap.size,0,none⟩) k n] 87)).cell? ⟨w1.heap.size+1,0,none⟩=some (.slice (some ⟨w1.heap.size,0,none⟩) k n) by
    have:=(zR (w1.alloc (.cells (Lib.cellsOf L n) 9)) (.slice (some ⟨w1.heap.size,0,none⟩) k n) 87).1;rwa [World.size_alloc] at this)
   go_wp2;go_ret2
   refine⟨fun h=>absurd h H3.out,fun _=>⟨w1.heap.size,n,w1.heap.size+1,w.heap.size,r,rfl,fun j p hj hp=>Tn.out j p (TM.out j p hj hp),?_,VQ.out,Uu.out⟩,VE.out.trans (jG _ _ _)⟩;have hr:=HR.out
   cases r with
   | none =>
    obtain⟨rfl,h1,h2⟩:=hr;exact⟨Tm.out,_,_,To.out,h1,h2⟩
   | some x =>
    obtain⟨rfl,rfl,h2⟩:=hr;exact⟨Tm.out,_,To.out,Tn.out 3 x h2⟩
open Go.RowKit Go.Shelf
attribute [local go_sem] Oper.semAt_some
theorem Below.stR {B lo hi:Nat} {w W W':World} (h:Below B w W) (k:StR lo hi W W') (hl:B≤lo):Below B w W' :=
 ⟨k.os.trans h.os,k.tape.trans h.tape,k.output.trans h.output,Nat.le_trans h.size k.size,fun b hb=>(k.block b (by omega)).trans (h.block b hb)⟩
def j3 (ps:List (List UInt8)):Bool:=ps.all (jL 58 3)
def qC (ps:List (List UInt8)) (w:World) (e:Ending) (w':World):Prop:=(j3 ps=true→∃v,e=.returned v)∧(j3 ps=false→e=.panicked [jt 2])∧Kept w w'
theorem Zk {ps:List (List UInt8)} {k:Nat} {p:List UInt8} {f:List UInt8→Bool} (h:∀q ∈ ps.take k,f q=true) (hp:ps[k]?=some p) (hf:f p=true):∀q ∈ ps.take (k+1),f q=true:=by
 intro q hq;rw[List.take_add_one,hp] at hq;rcases List.mem_append.1 hq with g | g
 · exact h q g
 · have:q=p:=by simpa using g
   rw[this];exact hf
theorem Yx {r:Option (List UInt8)} (hs:∀s,r=some s→s.length≤1000000):∀p ∈ jh r,p.length≤1000000:=by
 intro p hp
 cases r with
 | none=>cases hp
 | some s=>exact Nat.le_trans (jH 32 s p hp) (hs s rfl)
theorem ZH (bw bc:Nat) (r:Option (List UInt8)) (w:World) (hE:Env w) (hr:zt w bw bc r) (hs:∀s,r=some s→s.length≤1000000) :
 Calls Tryz.prog 71 #[.func (.func 92) #[] #[.pointer (some ⟨bw,0,none⟩),.pointer (some ⟨bc,0,none⟩)]] w (qC (jh r) w):=by
 have HE:=lH hE;have VA:=lH (Yx hs);refine zl (n:=6) Tryz.func71 rfl ?_;simp only[Tryz.ntmps71,List.size_toArray,List.length_cons,List.length_nil,Nat.reduceAdd,Nat.reduceSub,Array.replicate_succ,Array.replicate_zero,List.push_toArray,List.append_toArray,List.nil_append,List.cons_append];refine jq (ju (n:=6) ?_);gi_wp2
 refine zN ?_;refine Z2 Tryz.func71 bw bc rfl r hs hr
  (fun k W=>Below w.heap.size w W∧∀p ∈ (jh r).take k,jL 58 3 p=true)
  (fun c W=>c=[jt 2]∧Below w.heap.size w W∧j3 (jh r)=false)
  (fun k W W' h st=>⟨Below.stR h.1 st (Nat.le_refl _),h.2⟩) (fun c W W' h st=>⟨h.1,Below.stR h.2.1 st (Nat.le_refl _),h.2.2⟩) (fun k W h=>HE.out.kept h.1) ⟨Below.refl _ _,by simp⟩
  (fun x=>{ tmps:=#[.func (.func 92) #[] #[.pointer (some ⟨bw,0,none⟩),.pointer (some ⟨bc,0,none⟩)],undef,.string x,.func (.func 92) #[] #[.pointer (some ⟨bw,0,none⟩),.pointer (some ⟨bc,0,none⟩)],.string x,undef,undef],defers:=[] }) ?assign ?body ?done ?panic
 case assign =>
  intro l x W K hK;gi_wp2
  exact hK
 case body =>
  rintro l k p W hp ⟨hB,hd⟩ hsz;obtain⟨HB,HD,HP,HM,HR⟩:=lH5 hB hd hp (List.mem_of_getElem? hp) (zZ p W (HE.out.kept hB) (VA.out p (List.mem_of_getElem? hp)));unfold Zp at HR;have Vn:=lH hsz;obtain⟨q,hq⟩:=eX (jL 58 3 p)
  have HQ:=lH hq;clear hB hd hp hsz hE hr hq
  cases q with
  | true =>
   gi_wp2_with (refine⟨trivial,?_⟩;gi_at_call 96;refine(CallsIn.inRound l (callsIn_wide.2 HR.out)).mono ?_;rintro e W1 ⟨ha,-,hk⟩;obtain⟨g,cap,rfl,-⟩:=ha HQ.out;have HK:=lH hk;clear ha hk)
   exact⟨fun b h1 h2=>HK.out.block b (by have:=Vn.out;omega),HB.out.trans (Below.mono HK.out HB.out.size),Zk HD.out HP.out HQ.out⟩
  | false =>
   gi_wp2_with (refine⟨trivial,?_⟩;gi_at_call 96;refine(CallsIn.inRound l (callsIn_wide.2 HR.out)).mono ?_;rintro e W1 ⟨-,hb,hk⟩;obtain rfl:=hb HQ.out;have HK:=lH hk;clear hb hk)
   refine⟨rfl,fun b h1 h2=>HK.out.block b (by have:=Vn.out;omega),rfl,HB.out.trans (Below.mono HK.out HB.out.size),?_⟩;unfold j3;rw[List.all_eq_false];exact⟨p,HM.out,by rw[HQ.out];decide⟩
 case panic =>
  rintro c W ⟨rfl,hB,hbad⟩ hk;refine⟨by simp,.inl ⟨_,_,rfl,run_takeDeferred hk,?_⟩⟩;exact⟨fun h=>(by rw[hbad] at h;cases h),fun _=>rfl,jP hB (Nat.le_refl _)⟩
 case done =>
  rintro W ⟨hB,hd⟩ hk;have hT:j3 (jh r)=true:=by
   unfold j3;rw[List.all_eq_true];rw[List.take_length] at hd;exact hd
  refine⟨by simp,.inl ⟨_,_,rfl,run_takeDeferred hk,?_⟩⟩;exact⟨.tuple #[],by simp[results,Tryz.results71,go_sem],fun _=>⟨_,rfl⟩,fun h=>(by rw[hT] at h;cases h),jP hB (Nat.le_refl _)⟩
theorem jax:(Tryz.prog.info? 46).map (fun i=>(i.zero,i.size,i.bytes))=some (some (.agg #[.int .i64 0,.int .i64 0,.int .i64 0]),3,24):=by kernel_rfl
theorem Own.stR {α:Type} {L:Lay α} {e:TypeId} {lo hi:Nat} {W W':World} {v:Value} {l:List α} (h:Own L e W hi v l) (k:StR lo hi W W'):Own L e W' hi v l:=by
 obtain⟨⟨h0,h1⟩,hf⟩:=h;refine⟨⟨h0,h1.imp id ?_⟩,hf⟩;rintro ⟨g,cap,cur,rfl,hbg,hg,hn,hm,hs,ht⟩;exact⟨g,cap,cur,rfl,hbg,(k.block g (.inr hbg)).trans hg,hn,hm,hs,ht⟩
theorem zM.stR {α:Type} {L:Lay α} {e:TypeId} {lo hi vb:Nat} {W W':World} {l:List α} (h:zM L e hi vb l W) (k:StR lo hi W W') (hv:vb<lo):zM L e hi vb l W':=by
 obtain⟨v,h1,h3,h4⟩:=h;have hb:=k.block vb (.inl hv);exact⟨v,(World.cell?_of_block (a:=⟨vb,0,none⟩) hb).trans h1,(World.frozen?_of_block (a:=⟨vb,0,none⟩) hb).trans h3,h4.stR k⟩
def j9 (ps:List (List UInt8)) (k:Nat):RL:=((ps.take k).map jI).take 9
theorem Zi {ps:List (List UInt8)} {k:Nat} (h:k≤ps.length):(j9 ps k).length=min 9 k:=by
 unfold j9;rw[List.length_take,List.length_map,List.length_take];omega
theorem JK {ps:List (List UInt8)} {k:Nat} {p:List UInt8} (hp:ps[k]?=some p) (h:(j9 ps k).length≤8):j9 ps (k+1)=j9 ps k++[jI p]:=by
 have hk:k<ps.length:=(List.getElem?_eq_some_iff.1 hp).1;rw[Zi (by omega)] at h;unfold j9;have e:ps.take (k+1)=ps.take k++[p]:=by rw[List.take_add_one,hp];rfl
 rw[e,List.map_append,List.take_of_length_le (l:=(ps.take k).map jI) (by simp;omega),List.take_of_length_le (by simp;omega)];rfl
theorem qQ {ps:List (List UInt8)} {k:Nat} {p:List UInt8} (hp:ps[k]?=some p) (h:¬(j9 ps k).length≤8):j9 ps (k+1)=j9 ps k:=by
 have hk:k<ps.length:=(List.getElem?_eq_some_iff.1 hp).1;rw[Zi (by omega)] at h;unfold j9;have e:ps.take (k+1)=ps.take k++[p]:=by rw[List.take_add_one,hp];rfl
 rw[e,List.map_append,List.take_append_of_le_length (by simp;omega)]
def zh (ps:List (List UInt8)):Bool:=ps.all zI
def qH (ps:List (List UInt8)) (w:World) (e:Ending) (w':World):Prop:=(zh ps=true→∃v,e=.returned v∧Own jr 46 w' w.heap.size v ((ps.map jI).take 9))∧(zh ps=false→e=.panicked [jt 5])∧Kept w w'
theorem q5 (w:World) (o:Obj) (a b c:Int) (T:TypeId):∀j u,[Value.int .i64 a,.int .i64 b,.int .i64 c][j]?=some u→((w.alloc o).alloc (.cells #[.int .i64 a,.int .i64 b,.int .i64 c] T)).cell? ((⟨w.heap.size+1,0,none⟩:Addr).add j)=some u:=jby w o _ _ _ T
theorem Xs (bw bc:Nat) (r:Option (List UInt8)) (w:World) (hE:Vec.Env w) (hr:zt w bw bc r) (hs:∀s,r=some s→s.length≤1000000) (hf:j3 (jh r)=true) :
 Calls Tryz.prog 73 #[.func (.func 92) #[] #[.pointer (some ⟨bw,0,none⟩),.pointer (some ⟨bc,0,none⟩)]] w (qH (jh r) w):=by
 obtain⟨HE,VA,TO⟩:=lH3 hE (Yx hs) (List.all_eq_true.1 (show (jh r).all (jL 58 3)=true from hf));obtain⟨w1,hw1⟩:=eX (w.alloc (.cells #[.slice none 0 0] 24))
 have k1:Kept w w1:=by rw[←hw1];exact ja _ _
 have hz1:w1.heap.size=w.heap.size+1:=by rw[←hw1,World.size_alloc]
 obtain⟨bx1,bx2⟩:=zR w (.slice none 0 0) 24;rw[hw1] at bx1 bx2;obtain⟨vb,hvb⟩:=eX (w.heap.size)
 rw[hvb] at bx1 bx2 hz1;have hr1:=hr.kept k1;obtain⟨VE,VL,VB⟩:=lH3 k1 hvb hz1;clear hE hr hf k1;refine zl (n:=6) Tryz.func73 rfl ?_;simp only[Tryz.ntmps73,List.size_toArray,List.length_cons,List.length_nil,Nat.reduceAdd,Nat.reduceSub,Array.replicate_succ,Array.replicate_zero,List.push_toArray,List.append_toArray,List.nil_append,List.cons_append];refine jq (ju (n:=6) ?_);gi_wp2
 refine jq (ju (n:=6) ?_);gi_wp2
 try rw[hw1]
 try rw[hvb]
 clear hw1 hvb hz1;refine jq (jq (ju (n:=6) ?_));gi_wp2
 refine zN ?_;refine Z2 Tryz.func73 bw bc rfl r hs hr1
  (fun k W=>Below w.heap.size w W∧(∀p ∈ (jh r).take k,zI p=true)∧zM jr 46 (w1.heap.size+8) vb (j9 (jh r) k) W)
  (fun c W=>c=[jt 5]∧Below w.heap.size w W∧zh (jh r)=false)
  (fun k W W' h st=>⟨Below.stR h.1 st (by have:=VL.out;have:=VB.out;omega),h.2.1,h.2.2.stR st (by have:=VB.out;omega)⟩) (fun c W W' h st=>⟨h.1,Below.stR h.2.1 st (by have:=VL.out;have:=VB.out;omega),h.2.2⟩) (fun k W h=>(HE.out.kept h.1).base) ⟨VE.out,by simp,⟨.slice none 0 0,bx1,bx2,Own.nil _ _ _⟩⟩
  (fun x=>{ tmps:=#[.func (.func 92) #[] #[.pointer (some ⟨bw,0,none⟩),.pointer (some ⟨bc,0,none⟩)],undef,.slice none 0 0,.pointer (some ⟨vb,0,none⟩),.string x,undef,.func (.func 92) #[] #[.pointer (some ⟨bw,0,none⟩),.pointer (some ⟨bc,0,none⟩)],.string x,undef,undef,undef,undef,undef,undef,undef,undef,undef,undef],defers:=[] }) ?assign ?body ?done ?panic
 case assign =>
  intro l x W K hK;gi_wp2
  exact hK
 case body =>
  rintro l k p W hp ⟨hB,hd,v,hvc,hvf,hvo⟩ hlt;obtain⟨HB,HD,HP,HM,Vz⟩:=lH5 hB hd hp (List.mem_of_getElem? hp) (XR p W (HE.out.kept hB) (VA.out p (List.mem_of_getElem? hp)) (TO.out p (List.mem_of_getElem? hp)));unfold XC at Vz;have Vq:=lH hlt;have hvW:vb<W.heap.size:=by have:=VB.out;omega
  obtain⟨q,hq⟩:=eX (zI p)
  have HQ:=lH hq;have VM:=lH (fun h=>Xm p h);obtain⟨⟨u,c,d⟩,hru⟩:∃x,jI p=x:=⟨_,rfl⟩
  have Tp:=lH hru;rw[hru] at Vz VM;dsimp only at Vz VM;clear hB hd hq hru bx1 bx2 hr1 hlt
  cases q with
  | true =>
   obtain⟨av,cv,rfl,q1,q2,q3⟩:=hvo.at_;obtain⟨n,hn⟩:=eX ((j9 (jh r) k).length)
   have hn9:n≤9:=by
    have:=Zi (show k≤(jh r).length from Nat.le_of_lt (List.getElem?_eq_some_iff.1 hp).1);omega
   rw[hn] at hvo hvc;have Vs:=lH hvo;have HN:=lH hn;clear hvo hn q1 q2 q3 hp;gi_wp2_with (refine⟨trivial,?_⟩;gi_at_call 98;refine(CallsIn.inRound l (callsIn_wide.2 Vz.out)).mono ?_;rintro e W1 ⟨ha,-,k1⟩;obtain rfl:=ha HQ.out;have K1:=lH k1;have hvc1:=cell_later k1 hvc;have hvf1:=(k1.frozen (p:=⟨vb,0,none⟩) hvW).trans hvf;have hm1:vb<W1.heap.size:=Nat.lt_of_lt_of_le hvW k1.size;clear ha k1 hvc hvf;refine Hid.out ?_)
   refine lH ?_;by_cases h8:n≤8
   · obtain⟨i0,hi,hz0,hz1,hz2⟩:=info_parts jax;gi_wp2_with (gi_at_builtin;go_must (refine wpListIn_append_own _ rfl (.tmp 13) (.tmp 15) _ rfl (w1.heap.size+8) 46 i0 _ 3 24 Tryz.underlying24 hi hz0 hz1 hz2 rfl (by decide) _ n (jy jr (j9 (jh r) k)) rfl (((Vs.out.kept K1.out).kept (jG W1 (.cells #[.int .i64 u,.int .i64 c,.int .i64 d] 46) (.cells #[.int .i64 u,.int .i64 c,.int .i64 d] 46))).row HN.out) ⟨W1.heap.size+1,0,none⟩ 1 1 [.int .i64 u,.int .i64 c,.int .i64 d] rfl rfl (q5 _ _ _ _ _ _) (zU jr [(u,c,d)]) (by unfold maxLen;omega) (by omega) (by rw[World.size_alloc,World.size_alloc];have:=Vq.out;have:=K1.out.size;omega) ?_);intro v' w2 hown' hgrow _;refine Hid.out ?_)
     refine lH ?_;obtain⟨g',cap',rfl⟩:=ownsRow_succ hown';have KA:=lH (show Kept W ((W1.alloc (.cells #[.int .i64 u,.int .i64 c,.int .i64 d] 46)).alloc (.cells #[.int .i64 u,.int .i64 c,.int .i64 d] 46)) from K1.out.trans (jG W1 _ _));have hrow:∀r,(Value.slice av n cv).ownBlock=some r→w1.heap.size+8≤r:=fun r hr=>(Vs.out.1.lt r hr).1;have Ud:=lH (show ∀b,b<w1.heap.size+8→w2.heap[b]?=W.heap[b]? from fun b hb=>(hgrow.block b (Nat.lt_of_lt_of_le hb (Nat.le_trans Vq.out KA.out.size)) (fun e=>by have:=hrow b e.symm;omega)).trans (KA.out.block b (Nat.lt_of_lt_of_le hb Vq.out)));have hv8:vb<w1.heap.size:=by have:=VB.out;omega
     have hvc2:w2.cell? ⟨vb,0,none⟩=some (.slice av n cv):=(World.cell?_of_block (a:=⟨vb,0,none⟩) (hgrow.block vb (by simp;omega) (fun e=>by have:=hrow vb e.symm;omega))).trans (cell_later (jG W1 _ _) hvc1);have hvf2:w2.frozen? ⟨vb,0,none⟩=false:=(World.frozen?_of_block (a:=⟨vb,0,none⟩) (hgrow.block vb (by simp;omega) (fun e=>by have:=hrow vb e.symm;omega))).trans (((jG W1 _ _).frozen (p:=⟨vb,0,none⟩) hm1).trans hvf1);have Vu:=lH hown';have UK:=lH (show Below w.heap.size w w2 from⟨hgrow.os.trans (KA.out.os.trans HB.out.os),hgrow.tape.trans (KA.out.tape.trans HB.out.tape),hgrow.output.trans (KA.out.output.trans HB.out.output),Nat.le_trans HB.out.size (Nat.le_trans KA.out.size hgrow.size),fun b hb=>(Ud.out b (by have:=VL.out;omega)).trans (HB.out.block b hb)⟩);clear hvc1 hvf1 hown' hgrow hrow hi hz0 hz1 hz2;gi_wp2
     refine⟨fun b h1 h2=>(Below.heap_setCell w2 ⟨vb,0,none⟩ _ b (by show b≠vb;omega)).trans (Ud.out b (by omega)),UK.out.setCell (p:=⟨vb,0,none⟩) (by have:=VL.out;show w.heap.size≤vb;omega) _,Zk HD.out HP.out HQ.out,⟨_,World.cell?_setCell_same' _ _ _ (by rw[hvc2];rfl),by rw[World.frozen?_setCell];exact hvf2,?_⟩⟩;have hl:(j9 (jh r) (k+1)).length=n+1:=by rw[JK HP.out (by rw[HN.out];exact h8),List.length_append,HN.out];rfl
     have ho:Own jr 46 w2 (w1.heap.size+8) (.slice (some ⟨g',0,none⟩) (n+1) cap') (j9 (jh r) (k+1)):=by
      refine⟨?_,?_⟩
      · rw[hl,JK HP.out (by rw[HN.out];exact h8),Tp.out,z8];exact Vu.out
      · rw[JK HP.out (by rw[HN.out];exact h8),Tp.out];intro x hx;rcases List.mem_append.1 hx with h | h
        · exact Vs.out.2 x h
        · obtain rfl:x=(u,c,d):=by simpa using h
          exact VM.out HQ.out
     exact ho.setCell_below (a:=⟨vb,0,none⟩) (by show vb<w1.heap.size+8;omega) _
   · have VF:=lH (qQ HP.out (by rw[HN.out];exact h8));have h9:8<n:=by omega
     clear h8;gi_wp2
     refine⟨fun b h1 h2=>(Kept.trans K1.out (ja W1 _)).block b (by have:=Vq.out;omega),HB.out.trans (Below.mono (Kept.trans K1.out (ja W1 _)) HB.out.size),Zk HD.out HP.out HQ.out,⟨.slice av n cv,cell_later (ja W1 _) hvc1,((ja W1 _).frozen (p:=⟨vb,0,none⟩) hm1).trans hvf1,?_⟩⟩;rw[VF.out];exact Vs.out.kept (Kept.trans K1.out (ja W1 _))
  | false =>
   clear hp hvo hvc hvf;gi_wp2_with (refine⟨trivial,?_⟩;gi_at_call 98;refine(CallsIn.inRound l (callsIn_wide.2 Vz.out)).mono ?_;rintro e W1 ⟨-,hb,k1⟩;obtain rfl:=hb HQ.out;have K1:=lH k1;clear hb k1)
   refine⟨rfl,fun b h1 h2=>K1.out.block b (by have:=Vq.out;omega),rfl,HB.out.trans (Below.mono K1.out HB.out.size),?_⟩;unfold zh;rw[List.all_eq_false];exact⟨p,HM.out,by rw[HQ.out];decide⟩
 case panic =>
  rintro c W ⟨rfl,hB,hbad⟩ hk;refine⟨by simp,.inl ⟨_,_,rfl,run_takeDeferred hk,?_⟩⟩;exact⟨fun h=>(by rw[hbad] at h;cases h),fun _=>rfl,jP hB (by have:=VL.out;have:=VB.out;omega)⟩
 case done =>
  rintro W ⟨hB,hd,v,hvc,hvf,hvo⟩ hk;have HT:=lH (show zh (jh r)=true by
   unfold zh;rw[List.all_eq_true];rw[List.take_length] at hd;exact hd)
  obtain⟨Vs,HB,TP⟩:=lH3 hvo hB hk;obtain⟨av,cv,rfl,q1,q2,q3⟩:=hvo.at_;have TQ:=lH (show j9 (jh r) (jh r).length=((jh r).map jI).take 9 by unfold j9;rw[List.take_length]);clear hd hk hvo hB q1 q2 q3 bx1 bx2 hr1;refine ju (n:=6) ?_;gi_wp2
  refine⟨by simp,.inl ⟨_,_,rfl,run_takeDeferred TP.out,?_⟩⟩;refine⟨_,results_tmp rfl _ _ _,?_⟩;refine⟨fun _=>⟨_,rfl,?_⟩,fun h=>(by rw[HT.out] at h;cases h),jP HB.out (by have:=VL.out;have:=VB.out;omega)⟩;rw[←TQ.out];exact(Vs.out.put (by omega) _).base_le (by have:=VL.out;have:=VB.out;omega)
end Go.Proofs.YtnfojaidmnccoaaGreatDoor
namespace Go.Proofs.YtnfojaidmnccoaaGreatDoor
open Go.RowKit
theorem JU:∀(l:Vec.V) (b:Bool),(∀x ∈ l,x.1.size≤50∧-9223372036854775808≤x.2∧x.2≤9223372036854775807)→(Vec.jD b l).length≤80*l.length
 | [],b,_=>by rw[Vec.jD];simp
 | x::t,b,h=>by
  have ih:=JU t false (fun y hy=>h y (List.mem_cons_of_mem _ hy));obtain⟨h1,h2,h3⟩:=h x (List.mem_cons_self ..);have hi:=Lib.itoa_length_le x.2 h2 h3;have hx:x.1.data.toList.length=x.1.size:=by rw[Array.length_toList,ByteArray.size_data]
  rw[Vec.jD];simp only[List.length_append,List.length_cons,List.length_nil,hx]
  cases b<;>simp<;>omega
theorem jad {l:Vec.V} (h:Vec.j8 l=true) (hf:Vec.jQ l):(Vec.j1 l).length≤2000:=by
 unfold Vec.j8 at h;simp only[Bool.and_eq_true,decide_eq_true_eq] at h;unfold Vec.j1;split
 · decide
 · have:=JU l true (fun x hx=>by
    obtain⟨k,hk,rfl⟩:=List.getElem_of_mem hx;have e:l.getD k (ByteArray.empty,0)=l[k]:=by simp[List.getD,hk]
    have h1:=Vec.Js h.2 hk;have h2:=(hf k hk).2;unfold Vec.nm at h1;unfold Vec.qn at h2;rw[e] at h1 h2;exact⟨h1,h2⟩)
   omega
abbrev PL:=List (ByteArray×ByteArray)
abbrev NT:=ByteArray×ByteArray×Bool
abbrev NL:=List NT
theorem jaT (x y:ByteArray) (b:Bool) (u:Value) (h:u ∈ [Value.string x,Value.string y,Value.bool b]):u.oneCell'=true:=by
 have e:u=Value.string x∨u=Value.string y∨u=Value.bool b:=by simpa using h
 rcases e with e | e | e<;>rw[e]<;>rfl
def jaJ:Lay NT:={ m:=3,cs:=fun x=>[.string x.1,.string x.2.1,.bool x.2.2],fine:=fun x=>x.1.size≤maxLen∧x.2.1.size≤maxLen,len:=fun _=>rfl,one:=fun x=>jaT x.1 x.2.1 x.2.2,pos:=by decide }
theorem qT (v:Value) (w:World):Calls Tryz.prog 75 #[v,.int .i64 0] w fun e w'=>e=.returned v∧w=w':=by
 go_enter Tryz.func75,Tryz.ntmps75;go_wp2;go_ret;exact⟨rfl,rfl⟩
theorem XK (v:Value) (x:Int) (w:World) (h:x≠0):Calls Tryz.prog 75 #[v,.int .i64 x] w fun e w'=>e=.panicked [jt x]∧w=w':=by
 have h3:(x != 0)=true:=by simpa using h
 clear h;go_enter Tryz.func75,Tryz.ntmps75;go_wp2;exact⟨rfl,rfl,rfl⟩
open Go.RowKit Go.Shelf
attribute [local go_sem] Oper.semAt_some
end Go.Proofs.YtnfojaidmnccoaaGreatDoor
namespace Go.Proofs.YtnfojaidmnccoaaGreatDoor
open Go.RowKit Go.Shelf
attribute [local go_sem] Oper.semAt_some
end Go.Proofs.YtnfojaidmnccoaaGreatDoor
namespace Go.Proofs.YtnfojaidmnccoaaGreatDoor
open Go.RowKit Go.Sort
def Grw (w w':World):Prop:=∃q os,w'=grow (w.drewN q) os
theorem Grw.refl (w:World):Grw w w:=⟨0,#[],by rw[grow_empty];rfl⟩
theorem Grw.grown {w W:World} (h:Grw w W) (n:Nat) (os:Array Obj):Grw w (grow (W.drewN n) os):=by
 obtain⟨q,os0,rfl⟩:=h;exact⟨q+n,os0++os,by show grow (grow ((w.drewN q).drewN n) os0) os=_;rw[grow_grow,World.drewN_drewN]⟩
theorem Grw.trans {a b c:World} (h:Grw a b) (k:Grw b c):Grw a c:=by
 obtain⟨q,os,rfl⟩:=k;exact h.grown q os
theorem Grw.alloc (w:World) (o:Obj):Grw w (w.alloc o):=⟨0,#[o],alloc_eq_grow _ _⟩
theorem Grw.drewN (w:World) (n:Nat):Grw w (w.drewN n):=⟨n,#[],by rw[grow_empty]⟩
theorem qG (w:World) (n:Nat) (os:Array Obj):Kept w (grow (w.drewN n) os):=Go.Lib.below_grow w.heap.size w (Nat.le_refl _) n os
theorem Grw.kept {w w':World} (h:Grw w w'):Kept w w':=by
 obtain⟨q,os,rfl⟩:=h;exact qG w q os
def Zu (w:World) (c:Nat) (t:NT):Prop:=w.cell? ⟨c,0,none⟩=some (.string t.1)∧w.cell? ⟨c,1,none⟩=some (.string t.2.1)∧w.cell? ⟨c,2,none⟩=some (.bool t.2.2)
theorem Zu.kept {w w':World} {c:Nat} {t:NT} (h:Zu w c t) (k:Kept w w'):Zu w' c t:=⟨cell_later k h.1,cell_later k h.2.1,cell_later k h.2.2⟩
theorem Zu.new (w:World) (x y:ByteArray) (m:Bool) (T:TypeId):Zu (w.alloc (.cells #[.string x,.string y,.bool m] T)) w.heap.size (x,y,m):=by
 have hh:=w.alloc_heap_new (.cells #[.string x,.string y,.bool m] T);exact⟨by rw[Lib.cell_of_heap hh];rfl,by rw[Lib.cell_of_heap hh];rfl,by rw[Lib.cell_of_heap hh];rfl⟩
open Go.RowKit Go.Shelf
attribute [local go_sem] Oper.semAt_some
end Go.Proofs.YtnfojaidmnccoaaGreatDoor
namespace Go.Proofs.YtnfojaidmnccoaaGreatDoor
open Go.RowKit Go.Shelf
attribute [local go_sem] Oper.semAt_some
end Go.Proofs.YtnfojaidmnccoaaGreatDoor
namespace Go.Proofs.YtnfojaidmnccoaaGreatDoor.Vec
open Go.RowKit Go.Proofs.YtnfojaidmnccoaaGreatDoor
def z7 (w:World) (v:Value) (vs:List (Nat×Nat)) (ps:List (List UInt8)):Prop :=
 ∀(i:Nat) (x:Nat×Nat) (p:List UInt8),vs[i]?=some x→ps[i]?=some p→x.1<w.heap.size∧v.ownBlock≠some x.1 ∧
  w.cell? ⟨x.1,0,none⟩=some (.string (bytes (nameOf p)))∧w.cell? ⟨x.1,1,none⟩=some (.string (bytes (jn p)))
theorem z7.nil (w:World) (v:Value) (ps:List (List UInt8)):z7 w v [] ps:=fun i x p h=>by simp at h
theorem z7.kept {w w':World} {v:Value} {vs:List (Nat×Nat)} {ps:List (List UInt8)} (h:z7 w v vs ps) (k:Kept w w'):z7 w' v vs ps:=fun i x p hx hp=>by
 obtain⟨h1,h2,h3,h4⟩:=h i x p hx hp;exact⟨Nat.lt_of_lt_of_le h1 k.size,h2,cell_later k h3,cell_later k h4⟩
theorem z7.snoc {w w':World} {v:Value} {vs:List (Nat×Nat)} {ps:List (List UInt8)} {g n cap b c:Nat} {p:List UInt8} (h:z7 w v vs ps) (hg:w.grownBy w' v.ownBlock) (hgo:v.ownBlock=some g∨g=w.heap.size)
 (hp:ps[vs.length]?=some p) (hb:b<w.heap.size) (hne:v.ownBlock≠some b)
 (c0:w.cell? ⟨b,0,none⟩=some (.string (bytes (nameOf p)))) (c1:w.cell? ⟨b,1,none⟩=some (.string (bytes (jn p)))) :
 z7 w' (.slice (some ⟨g,0,none⟩) n cap) (vs++[(b,c)]) ps:=by
 have far:∀d,d<w.heap.size→v.ownBlock≠some d→d<w'.heap.size∧(Value.slice (some ⟨g,0,none⟩) n cap).ownBlock≠some d∧∀j,w'.cell? ⟨d,j,none⟩=w.cell? ⟨d,j,none⟩:=fun d hd hn=>by
  refine⟨Nat.lt_of_lt_of_le hd hg.size,?_,fun j=>hg.cell_far ⟨d,j,none⟩ hd (fun e=>hn e.symm)⟩;show some g≠some d;intro e;have e':g=d:=Option.some.inj e;rcases hgo with h1 | h1
  · exact hn (by rw[h1,e'])
  · omega
 intro i x q hx hq;by_cases hi:i<vs.length
 · rw[List.getElem?_append_left hi] at hx;obtain⟨h1,h2,h3,h4⟩:=h i x q hx hq;obtain⟨f1,f2,f3⟩:=far x.1 h1 h2;exact⟨f1,f2,(f3 0).trans h3,(f3 1).trans h4⟩
 · have hi2:i=vs.length:=by
    have:=(List.getElem?_eq_some_iff.1 hx).1;simp at this;omega
   subst hi2;have hxx:(b,c)=x:=by simpa using hx
   have hqq:q=p:=Option.some.inj (hq.symm.trans hp);subst hxx;subst hqq;obtain⟨f1,f2,f3⟩:=far b hb hne;exact⟨f1,f2,(f3 0).trans c0,(f3 1).trans c1⟩
end Go.Proofs.YtnfojaidmnccoaaGreatDoor.Vec
namespace Go.Proofs.YtnfojaidmnccoaaGreatDoor.Vec
open Go.RowKit
def Told (c:Int) (m:V) (w:World) (e:Ending) (w':World):Prop:=∃x,e=.returned (.tuple #[x,.int .i64 c])∧jm 74 w' w.heap.size x m∧Kept w w'
theorem Told.none {c:Int} {w w':World} (k:Kept w w'):Told c [] w (.returned (.tuple #[.slice none 0 0,.int .i64 c])) w':=⟨_,rfl,jm.nil _ _ _,k⟩
open Go.RowKit Go.Proofs.YtnfojaidmnccoaaGreatDoor
theorem jm.reads {e:TypeId} {w:World} {B:Nat} {v:Value} {l:V} (h:jm e w B v l):Reads w v l:=h.at_
theorem jbj {n:ByteArray} {c:Bool} {w:World} (h:n.size≤maxLen) (e:isName n=c) :
 Calls Tryz.prog 32 #[.string n] w fun x w'=>x=.returned (.bool c)∧w=w':=by
 subst e;exact j4 n w h
end Go.Proofs.YtnfojaidmnccoaaGreatDoor.Vec
namespace Go.Proofs.YtnfojaidmnccoaaGreatDoor
open Go.RowKit
structure Nod where
 name:ByteArray
 cap:Vec.V
 labels:PL
 taints:NL
 cordon:Bool
def Nod.zero:Nod:=⟨ByteArray.empty,[],[],[],false⟩
abbrev jbO (n:Nod) (v1 v2 v3:Value):Value:=.agg #[.string n.name,v1,v2,v3,.bool n.cordon]
structure Ym (w:World) (v1 v2 v3:Value) (n:Nod):Prop where
 size:n.name.size≤maxLen
 cap:Vec.Reads w v1 n.cap
 labels:Reads XJ w v2 n.labels
 taints:Reads jaJ w v3 n.taints
theorem Ym.kept {w w':World} {v1 v2 v3:Value} {n:Nod} (h:Ym w v1 v2 v3 n) (k:Kept w w'):Ym w' v1 v2 v3 n:=⟨h.size,h.cap.kept k,h.labels.kept k,h.taints.kept k⟩
def XN (w:World) (v:Value) (n:Nod):Prop:=∃v1 v2 v3,v=jbO n v1 v2 v3∧Ym w v1 v2 v3 n
theorem XN.kept {w w':World} {v:Value} {n:Nod} (h:XN w v n) (k:Kept w w'):XN w' v n:=by
 obtain⟨v1,v2,v3,e,h⟩:=h;exact⟨v1,v2,v3,e,h.kept k⟩
def Yi (B:Nat) (w:World) (v:Value) (n:Nod):Prop:=∃a1 m1 c1 a2 m2 c2 a3 m3 c3,v=.agg #[.string n.name,.slice a1 m1 c1,.slice a2 m2 c2,.slice a3 m3 c3,.bool n.cordon]∧n.name.size≤maxLen∧Vec.Reads w (.slice a1 m1 c1) n.cap∧Reads XJ w (.slice a2 m2 c2) n.labels∧Reads jaJ w (.slice a3 m3 c3) n.taints ∧
 (∀b off sp,a1=some ⟨b,off,sp⟩→B≤b)∧(∀b off sp,a2=some ⟨b,off,sp⟩→B≤b)∧(∀b off sp,a3=some ⟨b,off,sp⟩→B≤b)
theorem Yi.toR {B:Nat} {w:World} {v:Value} {n:Nod} (h:Yi B w v n):XN w v n:=by
 obtain⟨a1,m1,c1,a2,m2,c2,a3,m3,c3,e,h0,h1,h2,h3,_⟩:=h;exact⟨_,_,_,e,h0,h1,h2,h3⟩
def Zt (r:Int×Nod) (w:World) (e:Ending) (w':World):Prop:=(r.1=0→∃v,e=.returned v∧Yi w.heap.size w' v r.2)∧(r.1≠0→e=.panicked [jt r.1])∧Kept w w'
theorem Zt.good {r:Int×Nod} {w w':World} {v:Value} (h:r.1=0) (ho:Yi w.heap.size w' v r.2) (hb:Kept w w'):Zt r w (.returned v) w':=⟨fun _=>⟨v,rfl,ho⟩,fun g=>absurd h g,hb⟩
theorem Zt.bad {r:Int×Nod} {w w':World} {c:Int} (h:r.1=c) (hc:c≠0) (hb:Kept w w'):Zt r w (.panicked [jt c]) w':=⟨fun g=>absurd (h.symm.trans g) hc,fun _=>by rw[h],hb⟩
theorem Vec.Je.spelt {r:Int×Vec.V} {w w':World} {e:Ending} (h:Vec.Je r w e w'):∃a m cap,e=.returned (.tuple #[.slice a m cap,.int .i64 r.1])∧Vec.Reads w' (.slice a m cap) r.2∧(∀b off sp,a=some ⟨b,off,sp⟩→w.heap.size≤b∧b<w'.heap.size)∧Kept w w':=by
 obtain⟨v,rfl,ho,k⟩:=h;obtain⟨a,cap,rfl,h⟩:=ho.at_;exact⟨a,_,cap,rfl,⟨a,cap,rfl,h⟩,fun b off sp e=>ho.1.lt b (by subst e;rfl),k⟩
theorem YG (w:World) (v0 v1 v2 v3 v4:Value) (T:TypeId) (W:World) (k:Kept (w.alloc (.cells #[v0,v1,v2,v3,v4] T)) W) :
 (W.cell? ⟨w.heap.size,0,none⟩=some v0∧W.cell? ⟨w.heap.size,1,none⟩=some v1∧W.cell? ⟨w.heap.size,2,none⟩=some v2∧W.cell? ⟨w.heap.size,3,none⟩=some v3∧W.cell? ⟨w.heap.size,4,none⟩=some v4) ∧
 W.frozen? ⟨w.heap.size,0,none⟩=false∧W.frozen? ⟨w.heap.size,1,none⟩=false∧W.frozen? ⟨w.heap.size,2,none⟩=false∧W.frozen? ⟨w.heap.size,3,none⟩=false∧W.frozen? ⟨w.heap.size,4,none⟩=false:=by
 have hh:=w.alloc_heap_new (.cells #[v0,v1,v2,v3,v4] T);have hf:∀j,W.frozen? ⟨w.heap.size,j,none⟩=false:=fun j=>by
  have:=k.frozen (p:=⟨w.heap.size,j,none⟩) (by simp);rw[this];unfold World.frozen?;rw[show (w.alloc (.cells #[v0,v1,v2,v3,v4] T)).heap[(⟨w.heap.size,j,none⟩:Addr).block]?=some (.cells #[v0,v1,v2,v3,v4] T) from hh];simp
 exact⟨⟨cell_later k (by rw[Lib.cell_of_heap hh];rfl),cell_later k (by rw[Lib.cell_of_heap hh];rfl),cell_later k (by rw[Lib.cell_of_heap hh];rfl),cell_later k (by rw[Lib.cell_of_heap hh];rfl),cell_later k (by rw[Lib.cell_of_heap hh];rfl)⟩,hf 0,hf 1,hf 2,hf 3,hf 4⟩
theorem X6 (W:World) (q:Nat) (u0 u1 u2 u3 u4:Value) (b:Nat) (h:b≠q) :
 (((((W.setCell ⟨q,0,none⟩ u0).setCell ⟨q,1,none⟩ u1).setCell ⟨q,2,none⟩ u2).setCell ⟨q,3,none⟩ u3).setCell ⟨q,4,none⟩ u4).heap[b]?=W.heap[b]? :=
 (Below.heap_setCell _ ⟨q,4,none⟩ _ b h).trans ((Below.heap_setCell _ ⟨q,3,none⟩ _ b h).trans ((Below.heap_setCell _ ⟨q,2,none⟩ _ b h).trans ((Below.heap_setCell _ ⟨q,1,none⟩ _ b h).trans (Below.heap_setCell _ ⟨q,0,none⟩ _ b h))))
theorem qj (W:World) (q:Nat) (u0 u1 u2 u3 u4:Value) :
 (((((W.setCell ⟨q,0,none⟩ u0).setCell ⟨q,1,none⟩ u1).setCell ⟨q,2,none⟩ u2).setCell ⟨q,3,none⟩ u3).setCell ⟨q,4,none⟩ u4).heap.size=W.heap.size:=by simp[World.setCell]
theorem Reads.far {α:Type} {L:Lay α} {w w':World} {a:Option Addr} {m cap:Nat} {l:List α} (h:Reads L w (.slice a m cap) l) (hs:w'.heap.size=w.heap.size) (hb:∀b off sp,a=some ⟨b,off,sp⟩→w'.heap[b]?=w.heap[b]?):Reads L w' (.slice a m cap) l:=by
 obtain⟨a',cap',e,h1,h2,h3,h4,h5,h6⟩:=h
 cases e
 refine⟨a,cap,rfl,h1,h2,h3,h4,h5,h6.imp id ?_⟩;rintro ⟨b,off,rfl,hlt,hc⟩;exact⟨b,off,rfl,by rw[hs];exact hlt,fun i x j u hi hj=>(World.cell?_of_block (a:=⟨b,off+i*L.m+j,none⟩) (hb b off none rfl)).trans (hc i x j u hi hj)⟩
theorem Vec.Reads.far {w w':World} {a:Option Addr} {m cap:Nat} {l:Vec.V} (h:Vec.Reads w (.slice a m cap) l) (hs:w'.heap.size=w.heap.size) (hb:∀b off sp,a=some ⟨b,off,sp⟩→w'.heap[b]?=w.heap[b]?):Vec.Reads w' (.slice a m cap) l:=by
 obtain⟨a',cap',e,h1,h2,h3,h4,h5,h6⟩:=h
 cases e
 refine⟨a,cap,rfl,h1,h2,h3,h4,h5,h6.imp id ?_⟩;rintro ⟨b,off,rfl,hlt,hc⟩;exact⟨b,off,rfl,by rw[hs];exact hlt,fun i hi=>⟨(World.cell?_of_block (a:=⟨b,off+i*2,none⟩) (hb b off none rfl)).trans (hc i hi).1,(World.cell?_of_block (a:=⟨b,off+i*2+1,none⟩) (hb b off none rfl)).trans (hc i hi).2⟩⟩
theorem XW {W:World} {q:Nat} {v0 v1 v2 v3 v4 u0 u1 u2 u3 u4:Value} (y0:W.cell? ⟨q,0,none⟩=some v0) (y1:W.cell? ⟨q,1,none⟩=some v1) (y2:W.cell? ⟨q,2,none⟩=some v2) (y3:W.cell? ⟨q,3,none⟩=some v3) (y4:W.cell? ⟨q,4,none⟩=some v4) (W':World)
 (hW:(((((W.setCell ⟨q,0,none⟩ u0).setCell ⟨q,1,none⟩ u1).setCell ⟨q,2,none⟩ u2).setCell ⟨q,3,none⟩ u3).setCell ⟨q,4,none⟩ u4)=W') :
 W'.cell? ⟨q,0,none⟩=some u0∧W'.cell? ⟨q,1,none⟩=some u1∧W'.cell? ⟨q,2,none⟩=some u2∧W'.cell? ⟨q,3,none⟩=some u3∧W'.cell? ⟨q,4,none⟩=some u4:=by
 subst hW;refine⟨?_,?_,?_,?_,?_⟩<;>go_simp
theorem ja1 (b len:Nat) (l:List Int) (w:World) (hl:l.length=len) (hm:len≤1000) (hc:∀(i:Nat) (x:Int),l[i]?=some x→w.cell? ⟨b,i,none⟩=some (.int .i64 x)) :
 Calls Tryz.prog 35 #[.slice (some ⟨b,0,none⟩) len len] w fun e w'=>e=.returned (.int .i64 (orL l))∧w=w':=by
 have HC:=lH hc;have HL:=lH hl;clear hc hl;go_enter Tryz.func35,Tryz.ntmps35;go_wp2;go_loopw [8] (fun i wr=>∃k:Nat,k≤len∧i=.int .i64 k∧orL (l.drop k)=orL l∧w=wr) (fun i _=>len-(intOf i).toNat)
 case atStart=>exact⟨0,Nat.zero_le _,rfl,rfl,rfl⟩
 case round =>
  obtain⟨k,hk,rfl,hrest,rfl⟩:=hrel;have HS:=lH hrest;by_cases hlt:k<len
  · have hkl:k<l.length:=by rw[HL.out];exact hlt
    obtain⟨x,hx⟩:=eX (l[k])
    have hx':l[k]?=some x:=by rw[List.getElem?_eq_getElem hkl,hx]
    have c0:=HC.out k x hx';have HD:=lH (show l.drop k=x::l.drop (k+1) by rw[List.drop_eq_getElem_cons hkl,hx]);clear hrest hx hx' hkl;by_cases z:x=0
    · subst z;have HE:=lH (show orL (l.drop k)=orL (l.drop (k+1)) by rw[HD.out];rfl);go_wp2;go_roundw
      case rel=>exact⟨k+1,by omega,by go_num,HE.out.symm.trans HS.out,trivial⟩
      case measure=>simp[intOf];omega
    · have HE:=lH (show orL l=x by rw[←HS.out,HD.out];show (if x≠0 then x else _)=x;rw[if_pos z]);have z':(x != 0)=true:=by simpa using z
      clear z;go_wp2;go_ret;exact⟨jd HE.out.symm,rfl⟩
  · have HE:=lH (show orL l=0 by rw[←hrest,List.drop_of_length_le (by rw[HL.out];omega)];rfl);clear hrest;go_wp2;go_ret;exact⟨jd HE.out.symm,rfl⟩
theorem Ya (x:ByteArray) (w:World) (hx:x.size≤maxLen) :
 Calls Tryz.prog 36 #[.string x] w fun e w'=>e=.returned (.int .i64 (zz x))∧w=w':=by
 obtain⟨q,hq⟩:=eX (isName x)
 have HN:=lH (fun W=>Vec.jbB (w:=W) hx hq);have HV:=lH (show zz x=if q=true then 0 else 3 by unfold zz;rw[hq]);clear hq hx
 cases q <;>
 (go_enter Tryz.func36,Tryz.ntmps36
  go_wp2_with (go_at_call 65;refine(HN.out _).mono ?_;rintro e w' ⟨rfl,rfl⟩)
  go_ret;exact⟨jd HV.out.symm,rfl⟩)
theorem YN (a b:Int) (w:World) :
 Calls Tryz.prog 37 #[.int .i64 a,.int .i64 b] w fun e w'=>e=.returned (.int .i64 (jz a b))∧w=w':=by
 by_cases h1:a<0
 · have HV:=lH (show jz a b=1 by unfold jz;rw[if_pos (.inl h1)]);go_enter Tryz.func37,Tryz.ntmps37;go_wp2;go_ret;exact⟨jd HV.out.symm,rfl⟩
 · by_cases h2:b<a
   · have HV:=lH (show jz a b=1 by unfold jz;rw[if_pos (.inr (.inl h2))]);go_enter Tryz.func37,Tryz.ntmps37;go_wp2;go_ret;exact⟨jd HV.out.symm,rfl⟩
   · by_cases h3:128<b
     · have HV:=lH (show jz a b=1 by unfold jz;rw[if_pos (.inr (.inr h3))]);go_enter Tryz.func37,Tryz.ntmps37;go_wp2;go_ret;exact⟨jd HV.out.symm,rfl⟩
     · have HV:=lH (show jz a b=0 by unfold jz;rw[if_neg (by omega)]);go_enter Tryz.func37,Tryz.ntmps37;go_wp2;go_ret;exact⟨jd HV.out.symm,rfl⟩
theorem Y1 (u c p:Int) (w:World):Calls Tryz.prog 39 #[.agg #[.int .i64 u,.int .i64 c,.int .i64 p]] w fun e w'=>e=.returned (.int .i64 u)∧Kept w w':=by
 go_enter Tryz.func39,Tryz.ntmps39;go_wp2;go_ret;exact⟨rfl,ja _ _⟩
theorem Yg (u c p:Int) (w:World):Calls Tryz.prog 40 #[.agg #[.int .i64 u,.int .i64 c,.int .i64 p]] w fun e w'=>e=.returned (.int .i64 (jg u c p))∧Kept w w':=by
 by_cases h0:u<0
 · have HV:=lH (show jg u c p=1 by unfold jg;rw[if_pos (by omega)]);go_enter Tryz.func40,Tryz.ntmps40;go_wp2;go_ret;exact⟨jd HV.out.symm,ja _ _⟩
 · skip;by_cases h1:p<0
   · have HV:=lH (show jg u c p=1 by unfold jg;rw[if_pos (by omega)]);go_enter Tryz.func40,Tryz.ntmps40;go_wp2;go_ret;exact⟨jd HV.out.symm,ja _ _⟩
   · skip;by_cases h2:1000000<p
     · have HV:=lH (show jg u c p=1 by unfold jg;rw[if_pos (by omega)]);go_enter Tryz.func40,Tryz.ntmps40;go_wp2;go_ret;exact⟨jd HV.out.symm,ja _ _⟩
     · skip;by_cases h3:c<0
       · have HV:=lH (show jg u c p=1 by unfold jg;rw[if_pos (by omega)]);go_enter Tryz.func40,Tryz.ntmps40;go_wp2;go_ret;exact⟨jd HV.out.symm,ja _ _⟩
       · skip;by_cases h4:128<c
         · have HV:=lH (show jg u c p=1 by unfold jg;rw[if_pos (by omega)]);go_enter Tryz.func40,Tryz.ntmps40;go_wp2;go_ret;exact⟨jd HV.out.symm,ja _ _⟩
         · have HV:=lH (show jg u c p=0 by unfold jg;rw[if_neg (by omega)]);go_enter Tryz.func40,Tryz.ntmps40;go_wp2;go_ret;exact⟨jd HV.out.symm,ja _ _⟩
theorem ZT (a:Option Addr) (len cap:Nat) (l:RL) (w:World) (hr:jU jr w a len l) :
 Calls Tryz.prog 38 #[.slice a len cap,.int .i64 8,.func (.func 39) #[] #[],.func (.func 40) #[] #[]] w (Say (.int .i64 (jF l)) w):=by
 have hl:=hr.1;have hm:=hr.2.1;unfold maxLen at hm;by_cases h8:8<len
 · have HV:=lH (show jF l=4 by unfold jF;rw[if_pos (by omega)]);clear hr hl;go_enter Tryz.func38,Tryz.ntmps38;go_wp2;go_ret;exact⟨jd HV.out.symm,Kept.refl _⟩
 · have HV:=lH (show jF l=je none l by unfold jF;rw[if_neg (by omega)]);have h8':len≤8:=by omega
   by_cases h0:len=0
   · subst h0;have HE:=lH (show jF l=0 by rw[HV.out,List.eq_nil_of_length_eq_zero hl];rfl);clear hr hl h8;go_enter Tryz.func38,Tryz.ntmps38;go_wp2;refine wp_loop_rounds 1 ?_;rw[rounds_succ];go_wp2;go_ret;exact⟨jd HE.out.symm,Kept.refl _⟩
   · obtain⟨b,off,rfl⟩:=hr.form.resolve_left h0;have HR:=lH hr;have HL:=lH hl;clear hr hl h0 h8;go_enter Tryz.func38,Tryz.ntmps38;go_wp2;go_loopw [18] (fun i wr=>∃k:Nat,k≤len∧i=.int .i64 k∧je (jR l k) (l.drop k)=je none l∧Kept w wr) (fun i _=>len-(intOf i).toNat)
     case atStart=>exact⟨0,Nat.zero_le _,rfl,rfl,Kept.refl _⟩
     case round =>
      obtain⟨k,hk,rfl,hrest,hK⟩:=hrel;obtain⟨HS,HT,HK⟩:=lH3 (HV.out.trans hrest.symm) hrest hK;by_cases hlt:k<len
      · obtain⟨u,c,p,hn,hd,hb,hfine,p0,p1,p2⟩:=(HR.out.kept hK).rung hlt;obtain⟨HD,Ui,VC,TR⟩:=lH4 hd (Zx hn) (fun W=>Yg u c p W) (fun W=>Y1 u c p W);obtain⟨ck,hck⟩:=eX (jg u c p)
        have VZ:=lH hck;rw[hck] at VC;have hkk:(k:Int)<(len:Int):=by omega
        clear hrest hK hd hck hn hfine;by_cases z1:ck=0
        · subst z1;by_cases h0:k=0
          · have hd0:decide (0<k)=false:=by subst h0;decide
            have HP:=lH (ZE (l:=l) (n:=(u,c,p)) (t:=l.drop (k+1)) h0 VZ.out);clear h0;go_wp2_with fail
            refine(VC.out _).mono ?_;rintro e w1 ⟨rfl,kk⟩;have KW:=lH (Kept.trans (ja _ _) kk);have Uv:=lH (fun W k=>jl wr (.int .i64 u) [.int .i64 c,.int .i64 p] 46 W (Kept.trans kk k));obtain⟨y0,y1,y2⟩:=(Uv.out w1 (Kept.refl _)).at3;clear kk;go_wp2;go_quiet (fail)
            go_wp2;go_roundw
            case rel=>exact⟨k+1,by omega,by go_num,(show je (jR l (k+1)) (l.drop (k+1))=je none l by rw[←HT.out,HD.out,HP.out,Ui.out]),HK.out.trans (KW.out.trans (Kept.drewN _ _))⟩
            case measure=>simp[intOf];omega
          · have hd0:decide (0<k)=true:=by simp;omega
            obtain⟨q,hqk⟩:∃q,k=q+1:=⟨k-1,by omega⟩
            have g1:(k:Int)-1=(q:Int):=by omega
            have gw:IntKind.i64.wrap (q:Int)=(q:Int):=by rw[IntKind.wrap_i64];omega
            have g2:(q:Int)<(len:Int):=by omega
            obtain⟨u9,c9,p9,hn9,-,hb9,-,q0,q1,q2⟩:=(HR.out.kept HK.out).rung (show q<len by omega);have Rd:=lH hqk;have hqk1:k-1=q:=by omega
            have HP:=lH (Z5 (l:=l) (n:=(u,c,p)) (q:=(u9,c9,p9)) (t:=l.drop (k+1)) h0 (by rw[hqk1];exact hn9) VZ.out);dsimp only at HP;clear hqk hqk1;have TS:=lH (fun W=>Y1 u9 c9 p9 W);clear h0 hn9;obtain⟨le,hle⟩:=eX (decide (u≤u9))
            have Tq:=lH hle;go_wp2_with fail
            refine(VC.out _).mono ?_;rintro e w1 ⟨rfl,kk⟩;have KW:=lH (Kept.trans (ja _ _) kk);have Uv:=lH (fun W k=>jl wr (.int .i64 u) [.int .i64 c,.int .i64 p] 46 W (Kept.trans kk k));obtain⟨y0,y1,y2⟩:=(Uv.out w1 (Kept.refl _)).at3;have HO:=lH (show ∀W,Kept w1 W→(W.cell? ⟨wr.heap.size,0,none⟩=some (.int .i64 u)∧W.cell? ⟨wr.heap.size,1,none⟩=some (.int .i64 c)∧W.cell? ⟨wr.heap.size,2,none⟩=some (.int .i64 p))∧(W.cell? ⟨b,off+q*3,none⟩=some (.int .i64 u9)∧W.cell? ⟨b,off+q*3+1,none⟩=some (.int .i64 c9)∧W.cell? ⟨b,off+q*3+2,none⟩=some (.int .i64 p9)) from fun W k=>⟨(Uv.out W k).at3,cell_later (KW.out.trans k) q0,cell_later (KW.out.trans k) q1,cell_later (KW.out.trans k) q2⟩);clear kk q0 q1 q2;go_wp2
            go_region_held3 (fun W=>(W.cell? ⟨wr.heap.size,0,none⟩=some (.int .i64 u)∧W.cell? ⟨wr.heap.size,1,none⟩=some (.int .i64 c)∧W.cell? ⟨wr.heap.size,2,none⟩=some (.int .i64 p))∧(W.cell? ⟨b,off+q*3,none⟩=some (.int .i64 u9)∧W.cell? ⟨b,off+q*3+1,none⟩=some (.int .i64 c9)∧W.cell? ⟨b,off+q*3+2,none⟩=some (.int .i64 p9)))
             (first | exact HO.out _ (Kept.drew _) | exact HO.out _ J1.out | exact HO.out _ J2.out)
             (first | (go_at_call 39;refine(TR.out _).mono ?_;rintro e1 w2 ⟨rfl,k1⟩;have J1:=lH ((Kept.drew _).trans k1);clear k1)
                    | (go_at_call 39;refine(TS.out _).mono ?_;rintro e2 w3 ⟨rfl,k1⟩;have J2:=lH (J1.out.trans k1);clear k1))
            cases le with
            | true =>
             have HLE':=lH (of_decide_eq_true Tq.out);go_wp2;go_ret;exact⟨jd (show (13:Int)=jF l by rw[HS.out,HD.out,HP.out,if_pos HLE'.out]),HK.out.trans (KW.out.trans J2.out)⟩
            | false =>
             have HLE':=lH (of_decide_eq_false Tq.out);go_wp2;go_roundw
             case rel=>exact⟨k+1,by omega,by go_num,(show je (jR l (k+1)) (l.drop (k+1))=je none l by rw[←HT.out,HD.out,HP.out,if_neg HLE'.out,Ui.out]),HK.out.trans (KW.out.trans J2.out)⟩
             case measure=>simp[intOf];omega
        · have HB:=lH (show je (jR l k) (l.drop k)=ck by rw[HD.out,zC (n:=(u,c,p)) (by dsimp only;rw[VZ.out];exact z1)];exact VZ.out);have z1':(ck != 0)=true:=by simpa using z1
          clear z1;go_wp2_with fail
          refine(VC.out _).mono ?_;rintro e w1 ⟨rfl,kk⟩;have KW:=lH (Kept.trans (ja _ _) kk);clear kk;go_wp2;go_ret;exact⟨jd (HS.out.trans HB.out).symm,HK.out.trans KW.out⟩
      · have HE:=lH (show je (jR l k) (l.drop k)=0 by rw[List.drop_of_length_le (by rw[HL.out];omega)];rfl);have hkk:¬(k:Int)<(len:Int):=by omega
        clear hrest hK;go_wp2;go_ret;exact⟨jd (HS.out.trans HE.out).symm,HK.out⟩
theorem Xn {v:Value} {l:RL} {c:Int} {w:World} (h:Reads jr w v l) (hc:jF l=c) :
 Calls Tryz.prog 38 #[v,.int .i64 8,.func (.func 39) #[] #[],.func (.func 40) #[] #[]] w (Say (.int .i64 c) w):=by
 subst hc;obtain⟨a,cap,rfl,_,_,hr⟩:=h;exact ZT a _ cap l w hr
theorem qf (W:World) (x1 x2 x3 x4:Int) (T:TypeId) (i:Nat) (x:Int) (hi:([x1,x2,x3,x4]:List Int)[i]?=some x) :
 (W.alloc (.cells #[.int .i64 x1,.int .i64 x2,.int .i64 x3,.int .i64 x4] T)).cell? ⟨W.heap.size,i,none⟩=some (.int .i64 x):=by
 refine(jl W (.int .i64 x1) [.int .i64 x2,.int .i64 x3,.int .i64 x4] T _ (Kept.refl _)).at_ i _ ?_
 match i,hi with
 | 0,h=>simpa using h
 | 1,h=>simpa using h
 | 2,h=>simpa using h
 | 3,h=>simpa using h
 | j+4,h=>simp at h
theorem Jq (n:Lad) (v1 v2:Value) (w:World) (h:jW w v1 v2 n) :
 Calls Tryz.prog 18 #[JO n v1 v2] w (Say (.int .i64 (jK n)) w):=by
 obtain⟨W0,hW0⟩:=eX (w.alloc (.cells #[.string n.what,v1,v2,.int .i64 n.lo,.int .i64 n.hi] 26))
 have hk0:Kept w W0:=by rw[←hW0];exact ja _ _
 have HC:=lH (show ∀W,Kept W0 W→W.cell? ⟨w.heap.size,0,none⟩=some (.string n.what)∧W.cell? ⟨w.heap.size,1,none⟩=some (v1)∧W.cell? ⟨w.heap.size,2,none⟩=some (v2)∧W.cell? ⟨w.heap.size,3,none⟩=some (.int .i64 n.lo)∧W.cell? ⟨w.heap.size,4,none⟩=some (.int .i64 n.hi) from fun W k =>
  (jl w (.string n.what) [v1,v2,.int .i64 n.lo,.int .i64 n.hi] 26 W (by rw[hW0];exact k)).at5)
 obtain⟨H1,H2,H3,H4,Uj,HV⟩:=lH6 (fun W=>Ya n.what W h.size) (fun W (k:Kept W0 W)=>Vec.jbd (h.unit.kept (hk0.trans k)) rfl) (fun W=>YN n.lo n.hi W) (fun W (k:Kept W0 W)=>Xn (h.rungs.kept (hk0.trans k)) rfl) hk0 (show jK n=orL [zz n.what,Vec.jf n.unit,jz n.lo n.hi,jF n.rungs] from rfl);obtain⟨x1,hx1⟩:=eX (zz n.what)
 obtain⟨x2,hx2⟩:=eX (Vec.jf n.unit)
 obtain⟨x3,hx3⟩:=eX (jz n.lo n.hi)
 obtain⟨x4,hx4⟩:=eX (jF n.rungs)
 rw[hx1,hx2,hx3,hx4] at HV;rw[hx1] at H1;rw[hx2] at H2;rw[hx3] at H3;rw[hx4] at H4;clear hx1 hx2 hx3 hx4 h hk0;unfold JO;go_enter Tryz.func18,Tryz.ntmps18;go_wp2_with fail
 try rw[hW0]
 clear hW0;have ORC:=lH (fun (W:World)=>qf W x1 x2 x3 x4 38)
 go_region_held3 (fun W=>W.cell? ⟨w.heap.size,0,none⟩=some (.string n.what)∧W.cell? ⟨w.heap.size,1,none⟩=some (v1)∧W.cell? ⟨w.heap.size,2,none⟩=some (v2)∧W.cell? ⟨w.heap.size,3,none⟩=some (.int .i64 n.lo)∧W.cell? ⟨w.heap.size,4,none⟩=some (.int .i64 n.hi))
  (first | exact HC.out _ (Kept.drew _) | exact HC.out _ K2.out | exact HC.out _ K4.out | exact HC.out _ (K4.out.trans (ja _ _)))
  (first | (go_at_call 36;refine(H1.out _).mono ?_;rintro e1 w1 ⟨rfl,rfl⟩)
         | (go_at_call 27;refine(H2.out _ (Kept.drew _)).mono ?_;rintro e2 w2 ⟨rfl,k2⟩;have K2:=lH ((Kept.drew _).trans k2);clear k2)
         | (go_at_call 37;refine(H3.out _).mono ?_;rintro e3 w3 ⟨rfl,rfl⟩)
         | (go_at_call 38;refine(H4.out _ K2.out).mono ?_;rintro e4 w4 ⟨rfl,k4⟩;have K4:=lH (K2.out.trans k4);clear k4)
         | (go_at_call 35;refine(ja1 _ 4 [x1,x2,x3,x4] _ rfl (by decide) (ORC.out _)).mono ?_;rintro e9 w9 ⟨rfl,rfl⟩))
 go_wp2;go_ret;exact⟨jd HV.out.symm,Uj.out.trans (K4.out.trans (ja _ _))⟩
theorem ja5 {v:Value} {n:Lad} {c:Int} {w:World} (h:Jc w v n) (hc:jK n=c):Calls Tryz.prog 18 #[v] w (Say (.int .i64 c) w):=by
 subst hc;obtain⟨v1,v2,rfl,h⟩:=h;exact Jq n v1 v2 w h
def jJ (l:RL) (g:Int):Option (Int×Int×Int):=match l.find? (fun r=>decide (g≤r.1)) with
 | some r=>some r
 | none=>l.getLast?
def atL (n:Lad) (t:Vec.V):Option (Int×Int×Int):=jJ n.rungs (Vec.jC t n.what)
theorem XM {l:RL} {g:Int} {k:Nat} {r:Int×Int×Int} (h:l.find? (fun r=>decide (g≤r.1))=(l.drop k).find? (fun r=>decide (g≤r.1))) (hd:l.drop k=r::l.drop (k+1)) (hg:g≤r.1):jJ l g=some r:=by
 unfold jJ;rw[h,hd,List.find?_cons_of_pos (by simpa using hg)]
theorem Xj {l:RL} {g:Int} {k:Nat} {r:Int×Int×Int} (h:l.find? (fun r=>decide (g≤r.1))=(l.drop k).find? (fun r=>decide (g≤r.1))) (hd:l.drop k=r::l.drop (k+1)) (hg:¬g≤r.1):l.find? (fun r=>decide (g≤r.1))=(l.drop (k+1)).find? (fun r=>decide (g≤r.1)):=by
 rw[h,hd,List.find?_cons_of_neg (by simpa using hg)]
theorem Xq {l:RL} {g:Int} {k:Nat} {r:Int×Int×Int} (h:l.find? (fun r=>decide (g≤r.1))=(l.drop k).find? (fun r=>decide (g≤r.1))) (hk:l.length≤k) (hr:l[l.length-1]?=some r):jJ l g=some r:=by
 unfold jJ;rw[h,List.drop_of_length_le hk];show l.getLast?=_;rw[List.getLast?_eq_getElem?,hr]
abbrev Yl (r:Int×Int×Int):Value:=.agg #[.int .i64 r.1,.int .i64 r.2.1,.int .i64 r.2.2]
def AtR (o:Option (Int×Int×Int)) (w:World) (e:Ending) (w':World):Prop:=e=.returned (.tuple #[Yl (o.getD (0,0,0)),.bool o.isSome])∧Kept w w'
theorem ZC (n:Lad) (a1 a2:Option Addr) (l1 c1 l2 c2:Nat) (tv:Value) (t:Vec.V) (w:World) (h:jW w (.slice a1 l1 c1) (.slice a2 l2 c2) n) (ht:Vec.Reads w tv t) :
 Calls Tryz.prog 20 #[.agg #[.string n.what,.slice a1 l1 c1,.slice a2 l2 c2,.int .i64 n.lo,.int .i64 n.hi],tv] w (AtR (atL n t) w):=by
 obtain⟨W1,hW1⟩:=eX (w.alloc (.cells #[.string n.what,.slice a1 l1 c1,.slice a2 l2 c2,.int .i64 n.lo,.int .i64 n.hi] 26))
 have k1:Kept w W1:=by rw[←hW1];exact ja _ _
 obtain⟨W2,hW2⟩:=eX (W1.alloc (.cells #[.int .i64 0,.int .i64 0,.int .i64 0] 46))
 have k2:Kept W1 W2:=by rw[←hW2];exact ja _ _
 obtain⟨HL,HZ,HK,Tr⟩:=lH4 ((jl w (.string n.what) [.slice a1 l1 c1,.slice a2 l2 c2,.int .i64 n.lo,.int .i64 n.hi] 26 W1 (by rw[hW1];exact Kept.refl _)).kept k2) (jl W1 (.int .i64 0) [.int .i64 0,.int .i64 0] 46 W2 (by rw[hW2];exact Kept.refl _)) (k1.trans k2) k1.size;obtain⟨zb,hzb⟩:=eX (W1.heap.size)
 obtain⟨lb,hlb⟩:=eX (w.heap.size)
 rw[hzb] at HZ;rw[hlb] at HL;have Uw:=lH (show lb<zb by have:=(jl w (.string n.what) [.slice a1 l1 c1,.slice a2 l2 c2,.int .i64 n.lo,.int .i64 n.hi] 26 W1 (by rw[hW1];exact Kept.refl _)).lt;omega);have UQ:=lH hlb;obtain⟨g,hg⟩:=eX (Vec.jC t n.what)
 obtain⟨HG,HV,Ts⟩:=lH3 (fun W (k:Kept w W)=>Vec.jbW (ht.kept k) hg) (show atL n t=jJ n.rungs g by unfold atL;rw[hg]) hg;have hr:=h.rungs;obtain⟨a9,c9,e9,hcl,hcm,hrow⟩:=hr;obtain⟨rfl,rfl,rfl⟩:a2=a9∧l2=n.rungs.length∧c2=c9:=by cases e9;exact⟨rfl,rfl,rfl⟩
 obtain⟨len,hlen⟩:=eX (n.rungs.length)
 have Vg:=lH hlen;have HR:=lH hrow;have hm:=hrow.2.1;unfold maxLen at hm;rw[hlen] at HL HR hm;have hsz:=h.size;clear h ht hg e9 hcl hcm hrow k1 k2;by_cases h0:len=0
 · subst h0;have HN:=lH (show jJ n.rungs g=none by rw[List.eq_nil_of_length_eq_zero Vg.out];rfl);obtain⟨y0,y1,y2,y3,y4⟩:=HL.out.at5;obtain⟨z0,z1,z2⟩:=HZ.out.at3;have f0:=HZ.out.free 0;have f1:=HZ.out.free 1;have f2:=HZ.out.free 2;go_enter Tryz.func20,Tryz.ntmps20;have TT:=lH (HV.out.trans HN.out);clear hlen;go_wp2;have P:=lH (zL (vs:=[.int .i64 0,.int .i64 0,.int .i64 0]) HZ.out rfl);obtain⟨WE,hWE⟩:=eX (W2.setCells zb 0 [.int .i64 0,.int .i64 0,.int .i64 0])
   have hWE2:(((W2.setCell ⟨zb,0,none⟩ (.int .i64 0)).setCell ⟨zb,1,none⟩ (.int .i64 0)).setCell ⟨zb,2,none⟩ (.int .i64 0))=WE:=hWE;rw[hWE] at P;try rw[hWE2]
   clear hWE hWE2;have PC:=P.out.cells;refine bodyPost_ret (by simp[results,Tryz.results20,go_sem,PC.at_ 0 _ rfl,PC.at_ 1 _ rfl,PC.at_ 2 _ rfl];try rfl) rfl ?_;exact⟨by rw[TT.out];rfl,P.out.below _ _ (by have:=Uw.out;have:=UQ.out;omega) HK.out⟩
 · have UR:=Uw.out;have hlp:0<len:=by omega
   have hne:((len:Int)==0)=false:=by simpa using h0
   clear UR h0;rw[hlen] at hW1 ⊢;clear hlen;obtain⟨y0,y1,y2,y3,y4⟩:=HL.out.at5;obtain⟨z0,z1,z2⟩:=HZ.out.at3;have f0:=HZ.out.free 0;have f1:=HZ.out.free 1;have f2:=HZ.out.free 2;go_enter Tryz.func20,Tryz.ntmps20;go_wp2_with fail
   refine(HG.out _ HK.out).mono ?_;rintro e w3 ⟨rfl,kk⟩;obtain⟨HL,HZ,HK⟩:=lH3 (HL.out.kept kk) (HZ.out.kept kk) (HK.out.trans kk);have HR:=lH (HR.out.kept HK.out);clear kk HG y0 y1 y2 y3 y4 z0 z1 z2 f0 f1 f2 hW1 hW2 hzb hlb;obtain⟨y0,y1,y2,y3,y4⟩:=HL.out.at5;go_wp2;go_loopw [21] (fun iv wr=>∃k:Nat,k≤len∧iv=.int .i64 k∧n.rungs.find? (fun r=>decide (g≤r.1))=(n.rungs.drop k).find? (fun r=>decide (g≤r.1))∧Kept w3 wr) (fun iv _=>len-(intOf iv).toNat)
   case atStart=>exact⟨0,Nat.zero_le _,rfl,rfl,Kept.refl _⟩
   case round =>
    obtain⟨k,hk,rfl,hfd,hK3⟩:=hrel;have US:=lH hfd;have Vo:=lH hK3;clear hfd hK3 y0 y1 y2 y3 y4;obtain⟨b,off,rfl⟩:=HR.out.form.resolve_left (by omega);by_cases hlt:k<len
    · skip;obtain⟨u,c,p,hn,hd,hb,hfine,p0,p1,p2⟩:=(HR.out.kept Vo.out).rung hlt;have HD:=lH hd;have hkk:(k:Int)<(len:Int):=by omega
      obtain⟨w4,hw4⟩:=eX (wr.alloc (.cells #[.int .i64 u,.int .i64 c,.int .i64 p] 46))
      have k4:Kept wr w4:=by rw[←hw4];exact ja _ _
      obtain⟨r0,r1,r2⟩:=(jl wr (.int .i64 u) [.int .i64 c,.int .i64 p] 46 w4 (by rw[hw4];exact Kept.refl _)).at3;have HZ:=lH (HZ.out.kept (Vo.out.trans k4));have Uh:=lH (HK.out.trans (Vo.out.trans k4));obtain⟨z0,z1,z2⟩:=HZ.out.at3;have f0:=HZ.out.free 0;have f1:=HZ.out.free 1;have f2:=HZ.out.free 2;obtain⟨rb,hrb⟩:=eX (wr.heap.size)
      rw[hrb] at r0 r1 r2;have Ux:=lH (Vo.out.trans k4);clear hn hd hfine k4;by_cases hg:g≤u
      · skip;have HW:=lH (show atL n t=some (u,c,p) by rw[HV.out];exact XM US.out HD.out hg);go_wp2;have P:=lH (zL (vs:=[.int .i64 u,.int .i64 c,.int .i64 p]) HZ.out rfl);obtain⟨WE,hWE⟩:=eX (w4.setCells zb 0 [.int .i64 u,.int .i64 c,.int .i64 p])
        have hWE2:(((w4.setCell ⟨zb,0,none⟩ (.int .i64 u)).setCell ⟨zb,1,none⟩ (.int .i64 c)).setCell ⟨zb,2,none⟩ (.int .i64 p))=WE:=hWE;rw[hWE] at P;try rw[hWE2]
        clear hWE hWE2;have PC:=P.out.cells;refine bodyPost_ret (by simp[results,Tryz.results20,go_sem,PC.at_ 0 _ rfl,PC.at_ 1 _ rfl,PC.at_ 2 _ rfl];try rfl) rfl ?_;exact⟨by rw[HW.out];rfl,P.out.below _ _ (by have:=Uw.out;have:=UQ.out;omega) Uh.out⟩
      · skip;have HW:=lH (Xj US.out HD.out hg);go_wp2;go_roundw
        case rel=>exact⟨k+1,by omega,by go_num,HW.out,Ux.out⟩
        case measure=>simp[intOf];omega
    · skip;obtain⟨q,hq⟩:∃q,len=q+1:=⟨len-1,by omega⟩
      have g1:(len:Int)-1=(q:Int):=by omega
      have gw:IntKind.i64.wrap (q:Int)=(q:Int):=by rw[IntKind.wrap_i64];omega
      have g2:(q:Int)<(len:Int):=by omega
      obtain⟨u,c,p,hn,hd,hb,hfine,p0,p1,p2⟩:=(HR.out.kept Vo.out).rung (show q<len by omega);have hkk:¬(k:Int)<(len:Int):=by omega
      have HL:=lH (HL.out.kept Vo.out);have HZ:=lH (HZ.out.kept Vo.out);obtain⟨y0,y1,y2,y3,y4⟩:=HL.out.at5;obtain⟨z0,z1,z2⟩:=HZ.out.at3;have f0:=HZ.out.free 0;have f1:=HZ.out.free 1;have f2:=HZ.out.free 2;have HW:=lH (show atL n t=some (u,c,p) by rw[HV.out];exact Xq US.out (by rw[Vg.out];omega) (by rw[Vg.out,show len-1=q by omega];exact hn));have Uh:=lH (HK.out.trans Vo.out);clear hq hn hd hfine;go_wp2;have P:=lH (zL (vs:=[.int .i64 u,.int .i64 c,.int .i64 p]) HZ.out rfl);obtain⟨WE,hWE⟩:=eX (wr.setCells zb 0 [.int .i64 u,.int .i64 c,.int .i64 p])
      have hWE2:(((wr.setCell ⟨zb,0,none⟩ (.int .i64 u)).setCell ⟨zb,1,none⟩ (.int .i64 c)).setCell ⟨zb,2,none⟩ (.int .i64 p))=WE:=hWE;rw[hWE] at P;try rw[hWE2]
      clear hWE hWE2;have PC:=P.out.cells;refine bodyPost_ret (by simp[results,Tryz.results20,go_sem,PC.at_ 0 _ rfl,PC.at_ 1 _ rfl,PC.at_ 2 _ rfl];try rfl) rfl ?_;exact⟨by rw[HW.out];rfl,P.out.below _ _ (by have:=Uw.out;have:=UQ.out;omega) Uh.out⟩
def Kind (t e:TypeId) (size bytes:Nat):Prop:=∃i z,Tryz.prog.underlying t=some (.slice e)∧Tryz.prog.info? e=some i∧i.zero=some z∧i.size=size∧i.bytes=bytes∧z.cells.size=size∧0<size
def JM (w:World) (y:Value) (m:Nat) (news:List Value):Prop :=
 (∃ad c,y=.slice (some ad) m c∧∀j u,news[j]?=some u→w.cell? (ad.add j)=some u)∨(∃c,y=.slice none 0 c∧m=0)
theorem Xc {t e:TypeId} {size bytes:Nat} (K:Kind t e size bytes) (w:World) (B:Nat) (hB:B≤w.heap.size) (g n cap:Nat) (xs:List Value) (hown:w.ownsRow B e size (.slice (some ⟨g,0,none⟩) n cap) n xs) (y:Value) (m:Nat) (news:List Value) (hl:news.length=m*size) (hone:∀u ∈ news,u.oneCell'=true) (hy:JM w y m news)
 (h63:n+m≤maxLen) (hb:((n+m)+(n+m) / 4+192)*bytes≤281474976710656) (ty:TypeId) :
 ∃g' cap' w',(Builtin.append_ #[t,t] ty #[.slice (some ⟨g,0,none⟩) n cap,y]).run Tryz.prog w=.ok (.slice (some ⟨g',0,none⟩) (n+m) cap') w'∧w'.ownsRow B e size (.slice (some ⟨g',0,none⟩) (n+m) cap') (n+m) (xs++news)∧Below B w w'∧w.grownBy w' (some g):=by
 obtain⟨i,z,ht,hi,hz,h1,h8,hzs,hsz⟩:=K;have hbg:B≤g:=by
  rcases hown.2 with ⟨h0,_⟩ | ⟨g2,cap2,cur,h0,hbg,_⟩
  · cases h0
  · cases h0;exact hbg
 rcases hy with ⟨ad,c,rfl,hc⟩ | ⟨c,rfl,rfl⟩
 · obtain⟨v',w',hr,ho,hg,hnil⟩:=run_append_own_wide w B t ty e i z size bytes ht hi hz h1 h8 hzs hsz _ n xs hown ad m c news hl hc hone h63 hb hB;have hb:=(Below.refl B w).grown hg hB (by intro k hk;cases hk;exact hbg);rcases ho.2 with ⟨h0,_⟩ | ⟨g2,cap2,cur,rfl,_⟩
   · have:=(hnil.1 h0).1
     cases this
   · exact⟨g2,cap2,w',hr,ho,hb,hg⟩
 · have:news=[]:=List.eq_nil_of_length_eq_zero (by rw[hl,Nat.zero_mul]);subst this;rcases hown.2 with ⟨h0,_⟩ | ⟨g2,cap2,cur,h0,_,hg,hnc,_⟩
   · cases h0
   · cases h0
     have hr:=run_append_room_src w t t ty e i ht hi g 0 n cap (.slice none 0 c) 0 [] (Src.ofNil w ht c) (by omega) (by intro j hj;simp at hj) (by intro j hj;simp at hj);exact⟨_,_,_,hr,by simpa [World.setCells] using hown,Below.refl B w,World.grownBy.refl _ _⟩
theorem XY {t e:TypeId} {size bytes:Nat} (Kd:Kind t e size bytes) {o:Oper} {a:Act} {K:Act→World→Prop} {Q:Exit→Act→World→Prop} (s x:Operand) (w:World)
 (ho:o.op=.call { callee:=.builtin .append,args:=#[s,x],argTypes:=#[t,t] })
 (B:Nat) (hB:B≤w.heap.size) (g n cap:Nat) (xs:List Value) (hs:a.eval s=.slice (some ⟨g,0,none⟩) n cap) (hown:w.ownsRow B e size (.slice (some ⟨g,0,none⟩) n cap) n xs) (y:Value) (m:Nat) (news:List Value) (hx:a.eval x=y) (hl:news.length=m*size) (hone:∀u ∈ news,u.oneCell'=true) (hy:JM w y m news)
 (h63:n+m≤maxLen) (hb:((n+m)+(n+m) / 4+192)*bytes≤281474976710656)
 (h:∀g' cap' w',w'.ownsRow B e size (.slice (some ⟨g',0,none⟩) (n+m) cap') (n+m) (xs++news)→Below B w w'→w.grownBy w' (some g)→K (a.put o.dst (.slice (some ⟨g',0,none⟩) (n+m) cap')) w'):o.wp Tryz.prog a w K Q:=by
 obtain⟨g',cap',w',hr,h2,h3,h4⟩:=Xc Kd w B hB g n cap xs hown y m news hl hone hy h63 hb o.type;unfold Oper.wp execOp;simp only[ho,resolve,invoke,builtin,Sem.run_bind,Sem.run_pure,Result.andThen_ok,List.map_toArray,List.map_cons,List.map_nil,hs,hx,hr];exact h g' cap' w' h2 h3 h4
theorem Jk {t e:TypeId} {size bytes:Nat} (Kd:Kind t e size bytes) {ops:Array Oper} {rest:List Oper} {o:Oper} {a:Act} {Q:Exit→Act→World→Prop} (w:World) (hgd:o.guard=none) (s x:Operand)
 (ho:o.op=.call { callee:=.builtin .append,args:=#[s,x],argTypes:=#[t,t] })
 (B:Nat) (hB:B≤w.heap.size) (g n cap:Nat) (xs:List Value) (hs:a.eval s=.slice (some ⟨g,0,none⟩) n cap) (hown:w.ownsRow B e size (.slice (some ⟨g,0,none⟩) n cap) n xs) (y:Value) (m:Nat) (news:List Value) (hx:a.eval x=y) (hl:news.length=m*size) (hone:∀u ∈ news,u.oneCell'=true) (hy:JM w y m news)
 (h63:n+m≤maxLen) (hb:((n+m)+(n+m) / 4+192)*bytes≤281474976710656)
 (h:∀g' cap' w',w'.ownsRow B e size (.slice (some ⟨g',0,none⟩) (n+m) cap') (n+m) (xs++news)→Below B w w'→w.grownBy w' (some g)→wpList Tryz.prog ops Q rest (a.put o.dst (.slice (some ⟨g',0,none⟩) (n+m) cap')) w'):wpList Tryz.prog ops Q (o::rest) a w :=
 wpList_plain hgd fun _ hK=>XY Kd s x w ho B hB g n cap xs hs hown y m news hx hl hone hy h63 hb fun g' cap' w' h2 h3 h4=>hK _ _ (h g' cap' w' h2 h3 h4)
theorem qo (w:World) (B size:Nat) (e:TypeId) (hB:B≤w.heap.size):(w.alloc (.cells #[] e)).ownsRow B e size (.slice (some ⟨w.heap.size,0,none⟩) 0 0) 0 [] :=
 ⟨by simp,.inr ⟨w.heap.size,0,#[],rfl,hB,World.alloc_heap_new w _,by omega,by unfold maxLen;omega,by simp,by simp⟩⟩
theorem jai {w:World} {B g n cap size:Nat} {e:TypeId} {xs:List Value} (h:w.ownsRow B e size (.slice (some ⟨g,0,none⟩) n cap) n xs) (o:Obj):(w.alloc o).ownsRow B e size (.slice (some ⟨g,0,none⟩) n cap) n xs:=by
 refine⟨h.1,?_⟩;rcases h.2 with ⟨h0,_⟩ | ⟨g2,cap2,cur,h0,hb,hg,hr⟩
 · cases h0
 · cases h0
   exact .inr ⟨g,cap,cur,rfl,hb,(Below.heap_alloc w o g (Array.getElem?_eq_some_iff.1 hg).1).trans hg,hr⟩
theorem jaP {W:World} {B:Nat} {e:TypeId} {cs:Array Value} {vals:List Value} (hv:cs=vals.toArray) (h:W.heap[B]?=some (.cells cs e (0,0))):JM W (.slice (some ⟨B,0,none⟩) 1 1) 1 vals:=by
 subst hv;exact .inl ⟨_,1,rfl,by have:=World.news_of_block (cs:=vals.toArray) (t:=e) (fr:=(0,0)) h;simpa using this⟩
theorem jbw:Kind 23 63 2 24:=by
 obtain⟨i,hi,hz,h1,h2⟩:=info_parts (show (Tryz.prog.info? 63).map (fun i=>(i.zero,i.size,i.bytes))=some (some (.agg #[.string ByteArray.empty,.int .i64 0]),2,24) by kernel_rfl);exact⟨i,_,Tryz.underlying23,hi,hz,h1,h2,rfl,by decide⟩
theorem ZP:∀(l:Vec.V) (j:Nat) (u:Value),(Vec.cellsOf l)[j]?=some u→∃i,i<l.length∧((j=i*2∧u=.string (Vec.nm l i))∨(j=i*2+1∧u=.int .i64 (Vec.qn l i))):=by
 intro l j u h;have hlt:j<l.length*2:=by have:=(List.getElem?_eq_some_iff.1 h).1;rw[Vec.zx] at this;exact this
 have hi:j / 2<l.length:=by omega
 obtain⟨h1,h2⟩:=Vec.zQ l (j / 2) hi;refine⟨j / 2,hi,?_⟩;by_cases he:j % 2=0
 · have e:j=j / 2*2:=by omega
   rw[←e] at h1;rw[h1] at h;exact .inl ⟨e,by cases h;rfl⟩
 · have e:j=j / 2*2+1:=by omega
   rw[←e] at h2;rw[h2] at h;exact .inr ⟨e,by cases h;rfl⟩
theorem jaR {w:World} {a:Option Addr} {len cap:Nat} {l:Vec.V} (h:Vec.jw w a len l):JM w (.slice a len cap) len (Vec.cellsOf l):=by
 obtain⟨h0,h1,h2,h3⟩:=h;rcases h3 with h3 | ⟨b,off,rfl,hb,hc⟩
 · have hl:l=[]:=List.eq_nil_of_length_eq_zero (by omega);subst hl;subst h3
   cases a with
   | none=>exact .inr ⟨cap,rfl,rfl⟩
   | some ad=>exact .inl ⟨ad,cap,rfl,fun j u hu=>by simp[Vec.cellsOf] at hu⟩
 · refine .inl ⟨_,cap,rfl,fun j u hu=>?_⟩;obtain⟨i,hi,hj⟩:=ZP l j u hu;obtain⟨c1,c2⟩:=hc i (by omega);have e:(⟨b,off,none⟩:Addr).add j=⟨b,off+j,none⟩:=by
    unfold Addr.add;split<;>simp_all
   rw[e];rcases hj with ⟨rfl,rfl⟩ | ⟨rfl,rfl⟩
   · exact c1
   · rw[←Nat.add_assoc];exact c2
theorem XV (a:Option Addr) (len cap:Nat) (l:Vec.V) (w:World) (hr:Vec.jw w a len l) (hc:len≤cap) (hm:cap≤maxLen) (hn:len≤1000000) :
 Calls Tryz.prog 33 #[.slice a len cap] w fun e w'=>∃a' m' c',e=.returned (.slice a' m' c')∧Vec.Reads w' (.slice a' m' c') l∧(∀b off sp,a'=some ⟨b,off,sp⟩→w.heap.size≤b)∧Kept w w':=by
 have hl:=hr.1;have q22:∀(w:World) (a:Option Addr) (n c n' c':Nat),(binOp .eql 23 (.slice a n c) (.slice none n' c')).run Tryz.prog w=.ok (.bool a.isNone) w:=fun w a n c n' c'=>Lib.run_eql_slice_nil w _ _ a n c n' c' Tryz.underlying23
 cases a with
 | none =>
  have h0:len=0:=by
   rcases hr.form with h | ⟨b,off,h⟩
   · exact h
   · cases h
  subst h0;have hl0:l=[]:=List.eq_nil_of_length_eq_zero hl;subst hl0;clear hr hl;go_enter Tryz.func33,Tryz.ntmps33;go_wp2;go_ret;exact⟨none,0,0,rfl,Vec.Reads.nil _,(fun b o s e=>by cases e),Kept.refl _⟩
 | some ad =>
  have HR:=lH hr;have HL:=lH hl;have hrl:(Vec.cellsOf l).length=len*2:=by rw[Vec.zx,hl]
  have hb1:0+len≤maxLen:=by unfold maxLen;omega
  have hb2:((0+len)+(0+len) / 4+192)*24≤281474976710656:=by omega
  clear hr hl;go_enter Tryz.func33,Tryz.ntmps33;go_wp2_with (at_builtin;refine Jk jbw _ rfl (.tmp 5) (.tmp 6) rfl w.heap.size (by simp) w.heap.size 0 0 [] rfl (qo w w.heap.size 2 _ (Nat.le_refl _)) _ len (Vec.cellsOf l) rfl hrl (Vec.zi _) (jaR (HR.out.kept (ja _ _))) hb1 hb2 ?_;intro g1 k1 W1 ho hd hg;have HO:=lH ho;have HD:=lH hd;clear ho hd hg;refine Hid.out ?_)
  refine lH ?_;simp only[Nat.zero_add,List.nil_append] at HO ⊢;go_wp2;go_ret;exact⟨_,_,_,rfl,Vec.jm.reads (⟨by rw[HL.out];exact HO.out,HR.out.2.2.1⟩:Vec.jm 63 W1 w.heap.size (.slice (some ⟨g1,0,none⟩) len k1) l),(fun b o s e=>by cases e;exact(HO.out.lt g1 rfl).1),Below.trans (ja w _) HD.out⟩
def zY (c lo hi:Int):Int:=min (max c lo) hi
def jV (n:Lad) (t:Vec.V):Int×Vec.V×Int :=
 if jK n≠0 then (0,[],jK n) else match atL n t with
 | none=>(n.lo,n.unit,0)
 | some r=>if (Vec.jB Vec.jj r.2.2 n.unit).1≠0 then (0,[],(Vec.jB Vec.jj r.2.2 n.unit).1) else (zY r.2.1 n.lo n.hi,(Vec.jB Vec.jj r.2.2 n.unit).2,0)
def qa (x:Int×Vec.V×Int) (w:World) (e:Ending) (w':World):Prop:=∃v,e=.returned (.tuple #[.int .i64 x.1,v,.int .i64 x.2.2])∧Vec.Reads w' v x.2.1∧Kept w w'
theorem jaj {n:Lad} {t:Vec.V} {r:Int×Int×Int} (hf:∀x ∈ n.rungs,I64 x.1∧I64 x.2.1∧I64 x.2.2) (h:atL n t=some r):I64 r.1∧I64 r.2.1∧I64 r.2.2:=by
 refine hf r ?_;unfold atL jJ at h;split at h
 · rename_i r' hr;obtain rfl:=Option.some.inj h;exact List.mem_of_find?_eq_some hr
 · exact List.mem_of_getLast? h
theorem Yz {a b c d:Int} (h:orL [a,b,c,d]=0):a=0∧b=0∧c=0∧d=0:=by
 simp only[orL] at h;split at h
 · rename_i h1;exact absurd h h1
 · split at h
   · rename_i h1;exact absurd h h1
   · split at h
     · rename_i h1;exact absurd h h1
     · split at h
       · rename_i h1;exact absurd h h1
       · omega
theorem Y0 {n:Lad} (h:jK n=0):n.unit.length≤8:=by
 have:=(Yz h).2.1;unfold Vec.jf at this;split at this
 · cases this
 · omega
theorem Yt (n:Lad) (a1 a2:Option Addr) (l1 c1 l2 c2:Nat) (tv:Value) (t:Vec.V) (w:World) (h:jW w (.slice a1 l1 c1) (.slice a2 l2 c2) n) (ht:Vec.Reads w tv t) :
 Calls Tryz.prog 16 #[.agg #[.string n.what,.slice a1 l1 c1,.slice a2 l2 c2,.int .i64 n.lo,.int .i64 n.hi],tv] w (qa (jV n t) w):=by
 obtain⟨W1,hW1⟩:=eX (w.alloc (.cells #[.string n.what,.slice a1 l1 c1,.slice a2 l2 c2,.int .i64 n.lo,.int .i64 n.hi] 26))
 have k1:Kept w W1:=by rw[←hW1];exact ja _ _
 have HL:=lH (jl w (.string n.what) [.slice a1 l1 c1,.slice a2 l2 c2,.int .i64 n.lo,.int .i64 n.hi] 26 W1 (by rw[hW1];exact Kept.refl _));obtain⟨lb,hlb⟩:=eX (w.heap.size)
 rw[hlb] at HL;obtain⟨HK,HA,HT,HF⟩:=lH4 k1 h ht (h.rungs.fine);clear h ht k1;obtain⟨e1,he1⟩:=eX (jK n)
 have VK:=lH he1;have HC:=lH (fun W (k:Kept w W)=>Jq n (.slice a1 l1 c1) (.slice a2 l2 c2) W (HA.out.kept k));unfold JO at HC;rw[he1] at HC;clear he1;obtain⟨y0,y1,y2,y3,y4⟩:=HL.out.at5;go_enter Tryz.func16,Tryz.ntmps16;go_wp2_with fail
 try rw[hW1]
 try rw[hlb]
 clear hW1 hlb;refine(HC.out _ HK.out).mono ?_;rintro e w2 ⟨rfl,kk⟩;have HL:=lH (HL.out.kept kk);have HK:=lH (HK.out.trans kk);clear kk HC y0 y1 y2 y3 y4;by_cases hz:e1=0
 · subst hz;obtain⟨o,ho⟩:=eX (atL n t)
   have HO:=lH ho;have Va:=lH (fun W (k:Kept w W)=>ZC n a1 a2 l1 c1 l2 c2 tv t W (HA.out.kept k) (HT.out.kept k));rw[ho] at Va;unfold AtR Yl at Va;obtain⟨⟨u,c,p⟩,hr⟩:∃r,o.getD (0,0,0)=r:=⟨_,rfl⟩
   rw[hr] at Va;have VX:=lH hr;obtain⟨ok,hok⟩:=eX (o.isSome)
   rw[hok] at Va;have Vy:=lH hok;dsimp only at Va;clear ho hr hok;obtain⟨y0,y1,y2,y3,y4⟩:=HL.out.at5;go_wp2_with fail
   refine(Va.out _ HK.out).mono ?_;rintro e w3 ⟨rfl,kk⟩;have HL:=lH (HL.out.kept kk);have HK:=lH (HK.out.trans kk);clear kk Va y0 y1 y2 y3 y4;obtain⟨w4,hw4⟩:=eX (w3.alloc (.cells #[.int .i64 u,.int .i64 c,.int .i64 p] 46))
   have k4:Kept w3 w4:=by rw[←hw4];exact ja _ _
   have HB:=lH (jl w3 (.int .i64 u) [.int .i64 c,.int .i64 p] 46 w4 (by rw[hw4];exact Kept.refl _));obtain⟨rb,hrb⟩:=eX (w3.heap.size)
   rw[hrb] at HB;have HL:=lH (HL.out.kept k4);have HK:=lH (HK.out.trans k4);clear k4;obtain⟨y0,y1,y2,y3,y4⟩:=HL.out.at5;obtain⟨r0,r1,r2⟩:=HB.out.at3
   cases ok with
   | false =>
    have HW:=lH (show jV n t=(n.lo,n.unit,0) by
     have e:o=none:=by cases o with
      | none=>rfl
      | some x=>exact absurd Vy.out (by simp)
     unfold jV;rw[if_neg (by rw[VK.out];decide),HO.out,e])
    clear r0 r1 r2;go_upto_region 6 with fail
    try rw[hw4]
    try rw[hrb]
    clear hw4 hrb y0 y1 y2 y3 y4;have HS:=lH (show ∀W,Kept w4 W→W.cell? ⟨lb,0,none⟩=some (.string n.what)∧W.cell? ⟨lb,1,none⟩=some (.slice a1 l1 c1)∧W.cell? ⟨lb,2,none⟩=some (.slice a2 l2 c2)∧W.cell? ⟨lb,3,none⟩=some (.int .i64 n.lo)∧W.cell? ⟨lb,4,none⟩=some (.int .i64 n.hi) from fun W k=>(HL.out.kept k).at5);have J:=lH (Kept.drew w4);refine wp_region_held_drew (S:=fun W=>W.cell? ⟨lb,0,none⟩=some (.string n.what)∧W.cell? ⟨lb,1,none⟩=some (.slice a1 l1 c1)∧W.cell? ⟨lb,2,none⟩=some (.slice a2 l2 c2)∧W.cell? ⟨lb,3,none⟩=some (.int .i64 n.lo)∧W.cell? ⟨lb,4,none⟩=some (.int .i64 n.hi)) (by kernel_rfl) (HS.out _ J.out) (fun hHeld=>?_);obtain⟨wd,hwd⟩:=eX (w4.drew)
    rw[hwd] at J hHeld;try rw[hwd]
    clear hwd;refine tR 0 rfl (by kernel_rfl) (fun _ _ _=>id) (Or.inl ⟨by rfl,by rintro W ⟨o0,o1,o2,o3,o4⟩;go_simp<;>with_reducible rfl⟩) ‹_› ?_;try simp only[nA,nB,nC,nD,nE]
    refine tR 1 rfl (by kernel_rfl) (fun _ _ _=>id) (Or.inl ⟨by rfl,by rintro W ⟨o0,o1,o2,o3,o4⟩;go_simp<;>with_reducible rfl⟩) ‹_› ?_;try simp only[nA,nB,nC,nD,nE]
    refine tR 2 rfl (by kernel_rfl) (fun _ _ _=>id) (Or.inl ⟨by rfl,by rintro W ⟨o0,o1,o2,o3,o4⟩;go_simp<;>with_reducible rfl⟩) ‹_› ?_;try simp only[nA,nB,nC,nD,nE]
    refine tR 3 rfl (by kernel_rfl) (fun _ _ _=>id) (Or.inl ⟨by rfl,by rintro W ⟨o0,o1,o2,o3,o4⟩;go_simp<;>with_reducible rfl⟩) ‹_› ?_;try simp only[nA,nB,nC,nD,nE]
    refine rd1 4 fun K9 Ky=>?_;go_simp;obtain⟨a9,c9,e9,q1,q2,q3⟩:=(HA.out.kept (HK.out.trans J.out)).unit;obtain⟨rfl,rfl,rfl⟩:a1=a9∧l1=n.unit.length∧c1=c9:=by cases e9;exact⟨rfl,rfl,rfl⟩
    refine(XV a1 _ c1 n.unit wd q3 q1 q2 (by have:=Y0 VK.out;omega)).mono ?_;rintro e w5 ⟨a5,m5,c5,rfl,hrd,-,kk⟩;have J:=lH (J.out.trans kk);have UT:=lH hrd;clear kk hrd e9 q1 q2 q3;refine Ky.out _ _ (HS.out _ J.out) (fun _=>?_);clear Ky K9;try simp only[nA,nB,nC,nD,nE]
    refine tR 5 rfl (by kernel_rfl) (fun _ _ _=>id) (Or.inl ⟨by rfl,by rintro W ⟨o0,o1,o2,o3,o4⟩;go_simp<;>with_reducible rfl⟩) ‹_› ?_;try simp only[nA,nB,nC,nD,nE]
    refine tR 6 rfl (by kernel_rfl) (fun _ _ _=>id) (Or.inl ⟨by rfl,by rintro W ⟨o0,o1,o2,o3,o4⟩;go_simp<;>with_reducible rfl⟩) ‹_› ?_;try simp only[nA,nB,nC,nD,nE]
    refine tR 7 rfl (by kernel_rfl) (fun _ _ _=>id) (Or.inl ⟨by rfl,by rintro W ⟨o0,o1,o2,o3,o4⟩;go_simp<;>with_reducible rfl⟩) ‹_› ?_;try simp only[nA,nB,nC,nD,nE]
    refine wpAnyH_done (by kernel_rfl) ?_ _;go_wp2;go_ret3
    exact⟨.slice a5 m5 c5,by rw[HW.out];rfl,by rw[HW.out];exact UT.out,HK.out.trans J.out⟩
   | true =>
    have Tt:=lH (show o=some (u,c,p) by
     cases o with
     | none=>exact absurd Vy.out (by simp)
     | some x=>have:=VX.out;simp at this;rw[this])
    have VM:=lH (jaj HF.out (HO.out.trans Tt.out));obtain⟨⟨e2,m2⟩,hem⟩:∃x,Vec.jB Vec.jj p n.unit=x:=⟨_,rfl⟩
    have HW:=lH (show jV n t=if e2≠0 then (0,[],e2) else (zY c n.lo n.hi,m2,0) by
     unfold jV;rw[if_neg (by rw[VK.out];decide),HO.out,Tt.out];dsimp only;rw[hem])
    have HP:=lH (fun W (k:Kept w W)=>Vec.jbA (n:=p) (HA.out.unit.kept k) VM.out.2.2.1 VM.out.2.2.2 hem);clear hem;go_wp2_with fail
    try rw[hw4]
    try rw[hrb]
    clear hw4 hrb;refine(HP.out _ HK.out).mono ?_;rintro e w5 ⟨x,rfl,hrd,kk⟩;obtain⟨UT,HL,HB,HK⟩:=lH4 hrd (HL.out.kept kk) (HB.out.kept kk) (HK.out.trans kk);clear hrd kk HP y0 y1 y2 y3 y4 r0 r1 r2;by_cases hz2:e2=0
    · subst hz2;obtain⟨y0,y1,y2,y3,y4⟩:=HL.out.at5;obtain⟨r0,r1,r2⟩:=HB.out.at3;go_wp2;go_ret3
      exact⟨x,by rw[HW.out];rfl,by rw[HW.out];exact UT.out,HK.out⟩
    · have hz3:(e2 != 0)=true:=by simpa using hz2
      have HN:=lH hz2;clear hz2;go_wp2;go_ret3
      exact⟨.slice none 0 0,by rw[HW.out,if_pos HN.out];rfl,by rw[HW.out,if_pos HN.out];exact Vec.Reads.nil _,HK.out⟩
 · have hz3:(e1 != 0)=true:=by simpa using hz
   have HW:=lH (show jV n t=(0,[],e1) by unfold jV;rw[VK.out,if_pos hz]);clear hz;go_wp2;go_ret3
   exact⟨.slice none 0 0,by rw[HW.out];rfl,by rw[HW.out];exact Vec.Reads.nil _,HK.out⟩
theorem Yr {n:Lad} {v tv:Value} {t:Vec.V} {w:World} {x:Int×Vec.V×Int} (h:Jc w v n) (ht:Vec.Reads w tv t) (e:jV n t=x):Calls Tryz.prog 16 #[v,tv] w (qa x w):=by
 subst e;obtain⟨v1,v2,rfl,h⟩:=h;obtain⟨a1,c1,rfl,-⟩:=id h.unit;obtain⟨a2,c2,rfl,-⟩:=id h.rungs;exact Yt n a1 a2 _ c1 _ c2 tv t w h ht
theorem jbr {n:Lad} {v tv:Value} {t:Vec.V} {w:World} {o:Option (Int×Int×Int)} (h:Jc w v n) (ht:Vec.Reads w tv t) (e:atL n t=o):Calls Tryz.prog 20 #[v,tv] w (AtR o w):=by
 subst e;obtain⟨v1,v2,rfl,h⟩:=h;obtain⟨a1,c1,rfl,-⟩:=id h.unit;obtain⟨a2,c2,rfl,-⟩:=id h.rungs;exact ZC n a1 a2 _ c1 _ c2 tv t w h ht
end Go.Proofs.YtnfojaidmnccoaaGreatDoor
