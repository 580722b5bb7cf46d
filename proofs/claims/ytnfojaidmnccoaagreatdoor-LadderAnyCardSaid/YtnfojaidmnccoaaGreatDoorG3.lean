/- C. -/
import Derived.Test.YtnfojaidmnccoaaGreatDoorG0
import Derived.Test.YtnfojaidmnccoaaGreatDoorG1
import Derived.Test.YtnfojaidmnccoaaGreatDoorG2
import Derived.Handy
import Derived.Shelf.SlSortCmp.QuietGrown
set_option linter.unusedVariables false
set_option maxRecDepth 100000
set_option maxHeartbeats 25600000
namespace Go.Proofs.YtnfojaidmnccoaaGreatDoor
open Go.RowKit Go.Shelf
attribute [local go_sem] Oper.semAt_some
structure StR (lo hi:Nat) (W W':World):Prop where
 os:W'.os=W.os
 tape:W'.tape=W.tape
 output:W'.output=W.output
 size:W.heap.size≤W'.heap.size
 block:∀b,b<lo∨hi≤b→W'.heap[b]?=W.heap[b]?
theorem StR.of {b2 D lo hi:Nat} {W W':World} (h:St b2 D W W') (h2:lo≤b2∧b2<hi) (hD:lo≤D∧D+1<hi):StR lo hi W W' :=
 ⟨h.os,h.tape,h.output,h.size,fun b hb=>h.block b (by omega) (by omega) (by omega)⟩
theorem StR.wider {lo hi lo' hi':Nat} {W W':World} (h:StR lo hi W W') (hl:lo'≤lo) (hh:hi≤hi'):StR lo' hi' W W':=⟨h.os,h.tape,h.output,h.size,fun b hb=>h.block b (by omega)⟩
theorem StR.put {lo hi D:Nat} (W:World) (o:Obj) (h:lo≤D∧D<hi):StR lo hi W (W.putObj D o):=⟨rfl,rfl,rfl,by simp,fun b hb=>World.putObj_heap_other (by omega)⟩
theorem StR.kept {lo hi:Nat} {W W':World} (h:Kept W W') (hl:lo≤W.heap.size) (hn:W'.heap.size≤hi):StR lo hi W W' :=
 ⟨h.os,h.tape,h.output,h.size,fun b hb=>by
  by_cases hlt:b<W.heap.size
  · exact h.block b hlt
  · have:=h.size;rw[Array.getElem?_eq_none (by omega),Array.getElem?_eq_none (by omega)]⟩
theorem StR.trans {lo hi:Nat} {A B C:World} (h:StR lo hi A B) (k:StR lo hi B C):StR lo hi A C:=⟨k.os.trans h.os,k.tape.trans h.tape,k.output.trans h.output,Nat.le_trans h.size k.size,fun b hb=>(k.block b hb).trans (h.block b hb)⟩
def Xa (lo hi:Nat) (W W':World):Prop:=∀b,lo≤b→b<hi→W'.heap[b]?=W.heap[b]?
def jl:Option (List UInt8)→List (List UInt8)
 | none=>[]
 | some r=>jb 32 r
def zK (W:World) (bw bc:Nat):Option (List UInt8)→Prop
 | none=>W.cell? ⟨bc,0,none⟩=some (.int .i64 3)∧∃g cap,W.cell? ⟨bw,0,none⟩=some (.slice (some ⟨g,0,none⟩) 3 cap)∧3≤cap∧cap≤4
 | some r=>W.cell? ⟨bc,0,none⟩=some (.int .i64 3)∧∃g,W.cell? ⟨bw,0,none⟩=some (.slice (some ⟨g,0,none⟩) 4 4)∧W.cell? ⟨g,3,none⟩=some (.string (bytes r))
theorem zK.kept {W W':World} {bw bc:Nat} {r:Option (List UInt8)} (h:zK W bw bc r) (k:Kept W W'):zK W' bw bc r:=by
 cases r with
 | none=>obtain⟨h1,g,cap,h2,h3,h4⟩:=h;exact⟨cell_later k h1,g,cap,cell_later k h2,h3,h4⟩
 | some r=>obtain⟨h1,g,h2,h3⟩:=h;exact⟨cell_later k h1,g,cell_later k h2,cell_later k h3⟩
structure jcw (l B:Nat) (ps:List (List UInt8)) (J:Nat→World→Prop) (Jp:List PanicEntry→World→Prop):Prop where
 yields:∀(k:Nat) (p:List UInt8) (W:World),ps[k]?=some p→J k W→B+6≤W.heap.size→YieldAt Fence.wide 4 Tryz.prog l #[.string (bytes p)] W fun e W' =>
  (e=.returned (.bool true)∧J (k+1) W'∧Xa B (B+6) W W')∨(∃c,e=.panicked c∧Jp c W'∧Xa B (B+6) W W')
 stable:∀(k:Nat) (W W':World),J k W→StR B (B+6) W W'→J k W'
 stableP:∀(c:List PanicEntry) (W W':World),Jp c W→StR B (B+6) W W'→Jp c W'
 env:∀(k:Nat) (W:World),J k W→Env W
def zA (w:World) (s:List UInt8):World:=((w.alloc (.cells #[.string (bytes s)] 9)).alloc (.cells #[.string ⟨#[32]⟩] 9)).alloc (.cells #[.int .i64 0] 3)
theorem Y3 (s:List UInt8) (w:World) :
 Calls Tryz.prog 93 #[.string (bytes s),.string ⟨#[32]⟩] w fun e w' =>
  e=.returned (.func (.func 128) #[] #[.pointer (some ⟨w.heap.size+1,0,none⟩),.pointer (some ⟨w.heap.size,0,none⟩),.pointer (some ⟨w.heap.size+2,0,none⟩)])∧w'=zA w s:=by
 have hmf:=hmfL (P:=Tryz.prog);go_enter Tryz.func93,Tryz.ntmps93;go_wp2;go_ret;exact⟨rfl,rfl⟩
theorem qq (w:World) (s:List UInt8):(zA w s).heap.size=w.heap.size+3:=by simp[zA]
theorem qB (w:World) (s:List UInt8):Kept w (zA w s):=((ja w _).trans (ja _ _)).trans (ja _ _)
theorem XN (w:World) (s:List UInt8):(zA w s).cell? ⟨w.heap.size+1,0,none⟩=some (.string ⟨#[32]⟩)∧(zA w s).cell? ⟨w.heap.size,0,none⟩=some (.string (bytes s))∧(zA w s).cell? ⟨w.heap.size+2,0,none⟩=some (.int .i64 0)∧(zA w s).frozen? ⟨w.heap.size,0,none⟩=false:=by
 unfold zA;refine⟨?_,?_,?_,?_⟩<;>go_simp
theorem ja7 (l bw bc:Nat) (r:Option (List UInt8)) (W:World) (J:Nat→World→Prop) (Jp:List PanicEntry→World→Prop) (hr:zK W bw bc r) (hs:∀s,r=some s→s.length≤1000000)
 (hY:jcw l W.heap.size (jl r) J Jp) (h0:J 0 W) :
 Calls Tryz.prog 92 #[.func (.yield l) #[] #[],.pointer (some ⟨bw,0,none⟩),.pointer (some ⟨bc,0,none⟩)] W (ZX (jl r).length J Jp):=by
 obtain⟨B,hB⟩:=eX (W.heap.size)
 rw[hB] at hY;obtain⟨HY,H0,HB⟩:=lH3 hY h0 hB;obtain⟨w1,hw1⟩:=eX (W.alloc (.cells #[.func (.yield l) #[] #[]] 60))
 have hk1:Kept W w1:=by rw[←hw1];exact ja _ _
 have hz1:w1.heap.size=B+1:=by rw[←hw1,World.size_alloc,hB]
 have hyb:w1.cell? ⟨B,0,none⟩=some (.func (.yield l) #[] #[]):=by rw[←hw1,←hB];exact(Jm W _ _).1
 obtain⟨VL,VJ,TO⟩:=lH3 hk1 hz1 hyb;have hr1:=hr.kept hk1;clear hY h0 hr hz1 hyb hk1;refine zB (n:=6) Tryz.func92 rfl ?_;simp only[Tryz.ntmps92,List.size_toArray,List.length_cons,List.length_nil,Nat.reduceAdd,Nat.reduceSub,Array.replicate_succ,Array.replicate_zero,List.push_toArray,List.append_toArray,List.nil_append,List.cons_append];refine jv (jE (n:=6) ?_);gi_wp2
 try rw[hw1]
 try rw[hB]
 clear hB hw1
 cases r with
 | none =>
  obtain⟨hc,g,cap,hw,h3,h4⟩:=hr1;have HJ:=lH (HY.out.stable 0 W w1 H0.out (StR.kept VL.out (by rw[HB.out];exact Nat.le_refl _) (by rw[VJ.out];omega)));obtain rfl | rfl:cap=3∨cap=4:=by omega
  all_goals
   refine jv (jE (n:=6) ?_);gi_wp2
   refine z8 (YN 1 ?_);unfold zT;refine jv (jE (n:=6) ?_);gi_wp2
   refine jv (jE (n:=6) ?_);gi_wp2
   exact⟨.tuple #[],(by simp[results,Tryz.results92,go_sem]),.inl ⟨⟨_,rfl⟩,HJ.out⟩⟩
 | some s =>
  obtain⟨hc,g,hw,hcell⟩:=hr1;have hs6:=hs s rfl;refine jv (jE (n:=6) ?_);gi_wp2
  refine z8 (YN 2 ?_);unfold zT;refine jv (jE (n:=6) ?_);gi_wp2
  refine jv (jE (n:=6) ?_);gi_wp2
  refine jv (z8 (jv (jE (n:=6) ?_)));gi_wp2
  refine jv (jE (n:=6) ?_);gi_wp2_with (refine⟨trivial,?_⟩;gi_at_call 93;refine(callsIn_wide.2 (Y3 s _)).mono ?_;rintro e w2 ⟨rfl,rfl⟩)
  refine z8 ?_;have bcl:=XN w1 s;have bsz:=qq w1 s;have bk:=qB w1 s;rw[VJ.out] at bcl bsz ⊢;obtain⟨w2,hw2⟩:=eX (zA w1 s)
  rw[hw2] at bcl bsz bk ⊢;have hyb:=cell_later bk TO.out;obtain⟨HJ,Rr,To,V1⟩:=lH4 (HY.out.stable 0 W w2 H0.out (StR.kept (VL.out.trans bk) (by rw[HB.out];exact Nat.le_refl _) (by omega))) bk (show w2.heap.size=B+4 from bsz) (show jl (some s)=jb 32 s from rfl);have bsz2:w2.heap.size=B+4:=bsz;clear hw hcell hc hs hw2 bk bsz
  refine qG 32 (n:=6) Tryz.func92 (by decide) (B+1+1) (B+1) (B+1+2) rfl s hs6 (by omega) (by omega) (by omega) (by omega) (by omega) bcl.1 bcl.2.1 bcl.2.2.1 bcl.2.2.2
   (fun k W'=>J k W'∧W'.cell? ⟨B,0,none⟩=some (.func (.yield l) #[] #[]))
   (fun c W'=>Jp c W')
   (fun k W1 W2 h st=>⟨HY.out.stable k W1 W2 h.1 (StR.of st (by omega) (by omega)),(World.cell?_of_block (a:=⟨B,0,none⟩) (st.block B (by omega) (by omega) (by omega))).trans h.2⟩) (fun k W' h=>HY.out.env k W' h.1) ⟨HJ.out,hyb⟩
   (fun x=>{ tmps:=#[.func (.yield l) #[] #[],.pointer (some ⟨bw,0,none⟩),.pointer (some ⟨bc,0,none⟩),.pointer (some ⟨B,0,none⟩),undef,.string (bytes s),.string x,.slice (some ⟨g,0,none⟩) 4 4,.int .i64 3,.slice (some ⟨g,3,none⟩) 1 1,.int .i64 1,.int .i64 0,.bool true,.pointer (some ⟨g,3,none⟩),.string (bytes s),.string (bytes s),
     .func (.func 128) #[] #[.pointer (some ⟨B+1+1,0,none⟩),.pointer (some ⟨B+1,0,none⟩),.pointer (some ⟨B+1+2,0,none⟩)],.string x,undef,undef,undef,undef,undef],defers:=[] }) ?assign ?body ?done ?panic
  case assign =>
   intro l2 x W' K hK;gi_wp2
   exact hK
  case body =>
   rintro l2 k p W' hp ⟨hJ,hyb'⟩ hlt;rw[bsz2] at hlt;obtain⟨fn,tmps,assign,body,hy,hR⟩:=HY.out.yields k p W' (by rw[V1.out];exact hp) hJ (by omega);have HR:=lH hR;clear hR bcl hJ;gi_wp2
   refine RoundIn.inner (HR.out.mono ?_);rintro e W3 (⟨rfl,hJ3,hk3⟩ | ⟨c,rfl,hp3,hk3⟩)
   · obtain⟨TP,Vn,U6⟩:=lH3 hJ3 hk3 ((World.cell?_of_block (a:=⟨B,0,none⟩) (hk3 B (Nat.le_refl _) (by omega))).trans hyb');clear hJ3 hk3;gi_wp2
     refine⟨fun b hb=>Vn.out b ?_ ?_,TP.out,U6.out⟩<;>(rcases hb with h | h | h | h | h<;>omega)
   · have TQ:=lH hp3;have Vn:=lH hk3;clear hp3 hk3;gi_wp2
     refine⟨rfl,fun b hb=>Vn.out b ?_ ?_,TQ.out⟩<;>(rcases hb with h | h | h | h | h<;>omega)
  case panic =>
   rintro c W' hJp hk;rw[bsz2] at hk ⊢;refine⟨by simp,.inl ⟨_,_,rfl,run_takeDeferred hk,?_⟩⟩;exact .inr ⟨c,rfl,HY.out.stableP c _ _ hJp (StR.put _ _ (by omega))⟩
  case done =>
   rintro W' ⟨hJ,-⟩ hk;rw[bsz2] at hk ⊢;have TR:=lH (show J (jl (some s)).length W' from hJ);have VU:=lH hk;clear hJ hk bcl;refine jE (n:=6) ?_;gi_wp2
   unfold zT;refine jv (jE (n:=6) ?_);gi_wp2
   refine jv (jE (n:=6) ?_);gi_wp2
   refine⟨by simp,.inl ⟨_,_,rfl,run_takeDeferred VU.out,?_⟩⟩;exact⟨.tuple #[],by simp[results,Tryz.results92,go_sem],.inl ⟨⟨_,rfl⟩,HY.out.stable _ _ _ TR.out (StR.put _ _ (by omega))⟩⟩
end Go.Proofs.YtnfojaidmnccoaaGreatDoor
namespace Go.Proofs.YtnfojaidmnccoaaGreatDoor
open Go.RowKit Go.Shelf
attribute [local go_sem] Oper.semAt_some
def jcY (D k:Nat) (I:Nat→World→Prop) (JP:List PanicEntry→World→Prop) (W:World):Exit→Act→World→Prop
 | .normal,_,W'=>Xa D (D+8) W W'∧I (k+1) W'
 | .panic c,a,W'=>a.defers=[]∧Xa D (D+8) W W'∧JP c W'
 | _,_,_=>False
theorem YR {g:Operand} {t:Tmp} {assign body:Code} {Q:Exit→Act→World→Prop} {a:Act} {w:World} {fid:Nat} {fn:Func} (hfn:Tryz.prog.funcs[fid]?=some fn)
 (bw bc:Nat) (hg:a.eval g=.func (.func 92) #[] #[.pointer (some ⟨bw,0,none⟩),.pointer (some ⟨bc,0,none⟩)])
 (r:Option (List UInt8)) (hs:∀s,r=some s→s.length≤1000000) (hr:zK w bw bc r)
 (I:Nat→World→Prop) (JP:List PanicEntry→World→Prop) (hI:∀k W W',I k W→StR w.heap.size (w.heap.size+8) W W'→I k W') (hJP:∀c W W',JP c W→StR w.heap.size (w.heap.size+8) W W'→JP c W')
 (hE:∀k W,I k W→Env W) (h0:I 0 w) (a₁:ByteArray→Act)
 (hassign:∀(l:Nat) (x:ByteArray) (W:World) (K:Act→World→Prop),K (a₁ x) W →
   assign.wpIn (Fence.wide.inRound l) 4 Tryz.prog (Exit.then K (fun _ _ _=>False)) { tmps:=(#[t].zip #[Value.string x]).foldl (fun tt (p,v)=>tt.setIfInBounds p v) a.tmps,defers:=[] } W)
 (hbody:∀(l k:Nat) (p:List UInt8) (W:World),(jl r)[k]?=some p→I k W→w.heap.size+8≤W.heap.size→body.wpIn (Fence.wide.inRound l) 4 Tryz.prog (jcY w.heap.size k I JP W) (a₁ (bytes p)) W)
 (hdone:∀(W:World),I (jl r).length W→W.heap[w.heap.size]?=some (.deferred (some []))→Q .normal { a with defers:={ target:=.collected w.heap.size,args:=#[] }::a.defers } W)
 (hpanic:∀(c:List PanicEntry) (W:World),JP c W→W.heap[w.heap.size]?=some (.deferred (some []))→Q (.panic c) { a with defers:={ target:=.collected w.heap.size,args:=#[] }::a.defers } W) :
 zD fid Tryz.prog (Code.rangeFunc g #[t] assign body) Q a w:=by
 obtain⟨rec,hrec⟩:∃rec:LoopState→Option Code→Loop,rec=fun st pe=>{ state:=st,pending:=pe,fn:=fid,tmps:=a.tmps,params:=#[t],assign,body,defers:=w.heap.size }:=⟨_,rfl⟩
 obtain⟨W1,hW1⟩:=eX ((w.alloc (.deferred (some []))).alloc (.loop (rec .ready none)))
 have hL1:W1.heap[w.heap.size+1]?=some (.loop (rec .ready none)):=by
  rw[←hW1];have:=World.alloc_heap_new (w.alloc (.deferred (some []))) (.loop (rec .ready none));rwa [World.size_alloc] at this
 have hK1:W1.heap[w.heap.size]?=some (.deferred (some [])):=by
  rw[←hW1];exact(Below.heap_alloc _ _ _ (by simp)).trans (World.alloc_heap_new w _)
 have hB1:Kept w W1:=by rw[←hW1];exact(ja w _).trans (ja _ _)
 have hz1:W1.heap.size=w.heap.size+2:=by rw[←hW1];simp
 have hS1:StR w.heap.size (w.heap.size+8) w W1:=StR.kept hB1 (Nat.le_refl _) (by omega)
 refine zU (n:=4) (l:=w.heap.size+1) (mark:=[{ target:=.collected w.heap.size,args:=#[] }]) (w₁:=W1) (d:={ target:=.fn (.func 92) #[.pointer (some ⟨bw,0,none⟩),.pointer (some ⟨bc,0,none⟩)],args:=#[.func (.yield (w.heap.size+1)) #[] #[]] })
  (f:=92) (args:=#[.func (.yield (w.heap.size+1)) #[] #[],.pointer (some ⟨bw,0,none⟩),.pointer (some ⟨bc,0,none⟩)]) ?_ ?_ ?_ ?_
 · rw[←hW1,hrec];exact run_enterLoop_outer _ _ _ _ _
 · simp only[resolve,hg];simp[go_sem]
 · have eg:=enters_of (P:=Tryz.prog) Tryz.func92 (by kernel_rfl) rfl;simp[invoke,go_sem,eg]
 · refine(callsIn_wide.2 (ja7 (w.heap.size+1) bw bc r W1
    (fun k W=>I k W∧W.heap[w.heap.size+1]?=some (.loop (rec .ready none))∧W.heap[w.heap.size]?=some (.deferred (some [])))
    (fun c W=>JP c W∧W.heap[w.heap.size]?=some (.deferred (some [])))
    (hr.kept hB1) hs ?hY ⟨hI 0 w W1 h0 hS1,hL1,hK1⟩)).mono ?post
   case hY =>
    rw[hz1];refine⟨?_,?_,?_,?_⟩
    · rintro k p W hp ⟨hi,hl,hk⟩ hsz;have hlt:w.heap.size+1<W.heap.size:=(Array.getElem?_eq_some_iff.1 hl).1;have hy:=run_yield (P:=Tryz.prog) (args:=#[.string (bytes p)]) hl (by rw[hrec];rfl);rw[hrec] at hy;refine⟨fid,_,assign,body,hy,zc trivial hfn ?_⟩;refine hassign _ (bytes p) W _ ?_;refine⟨_,run_beginRound hl (by rw[hrec]),?_⟩;have hl2:(W.putObj (w.heap.size+1) (.loop { rec .ready none with state:=.busy })).heap[w.heap.size+1]?=some (.loop { rec .ready none with state:=.busy }):=World.putObj_heap_same hlt;have hk2:(W.putObj (w.heap.size+1) (.loop { rec .ready none with state:=.busy })).heap[w.heap.size]?=some (.deferred (some [])):=(World.putObj_heap_other (by omega)).trans hk;refine wpIn_mono (hbody _ k p _ hp (hI k _ _ hi (StR.put W _ (by omega))) (by simp;omega)) ?_;rintro e a3 W3 hp3
      cases e with
      | normal =>
       obtain⟨hk3,hi3⟩:=hp3;have hl3:=(hk3 (w.heap.size+1) (by omega) (by omega)).trans hl2;have hr:=run_endRound (P:=Tryz.prog) none hl3;refine⟨_,_,hr,.inl ⟨rfl,⟨hI _ _ _ hi3 (StR.put W3 _ (by omega)),?_,?_⟩,?_⟩⟩
       · rw[World.putObj_heap_same (Array.getElem?_eq_some_iff.1 hl3).1,hrec];rfl
       · exact((World.putObj_heap_other (by omega)).trans (hk3 w.heap.size (by omega) (by omega))).trans hk2
       · intro b hb1 hb2;exact((World.putObj_heap_other (by omega)).trans (hk3 b (by omega) (by omega))).trans (World.putObj_heap_other (by omega))
      | panic c =>
       obtain⟨hd,hk3,hj⟩:=hp3;exact⟨hd,.inr ⟨c,rfl,⟨hj,(hk3 w.heap.size (by omega) (by omega)).trans hk2⟩,fun b hb1 hb2=>(hk3 b (by omega) (by omega)).trans (World.putObj_heap_other (by omega))⟩⟩
      | ret=>exact hp3.elim
      | exit id=>exact hp3.elim
      | goto t=>exact hp3.elim
      | outgrown=>exact hp3.elim
    · rintro k W W' ⟨hi,hl,hk⟩ hst;exact⟨hI _ _ _ hi (hst.wider (by omega) (by omega)),(hst.block _ (by omega)).trans hl,(hst.block _ (by omega)).trans hk⟩
    · rintro c W W' ⟨hj,hk⟩ hst;exact⟨hJP _ _ _ hj (hst.wider (by omega) (by omega)),(hst.block _ (by omega)).trans hk⟩
    · rintro k W ⟨hi,_,_⟩;exact hE k W hi
   case post =>
    rintro e W2 (⟨⟨v,rfl⟩,hi,hl,hk⟩ | ⟨c,rfl,hj,hk⟩)
    · exact⟨_,run_endLoop (P:=Tryz.prog) hl (by rw[hrec];simp) |>.trans (by rw[hrec]),hdone _ (hI _ _ _ hi (StR.put W2 _ (by omega))) ((World.putObj_heap_other (by omega)).trans hk)⟩
    · exact hpanic c W2 hj hk
end Go.Proofs.YtnfojaidmnccoaaGreatDoor
namespace Go.Proofs.YtnfojaidmnccoaaGreatDoor
open Go.RowKit
theorem ZE (c:UInt8):∀(k:Nat) (s:List UInt8),k+1≤(jb c s).length→∃r,Lib.splitK [c] 0 k s=(jb c s).take k++[r]∧jb c r=(jb c s).drop k∧r.length≤s.length
 | 0,s,_=>⟨s,by rw[Lib.splitK];rfl,rfl,Nat.le_refl _⟩
 | k+1,s,h=>by
  rw[Lib.splitK];obtain⟨h1,h2⟩:=qP c s
  cases hf:(Lib.cut s [c]).2.2 with
  | false=>rw[JD c s hf] at h;simp at h
  | true =>
   obtain⟨e0,e1,e2⟩:=h2 hf;rw[JY c s hf] at h ⊢;obtain⟨r,i1,i2,i3⟩:=ZE c k (Lib.cut s [c]).2.1 (by simpa using h);rw[if_neg (fun e=>e0 (beq_iff_eq.1 e)),e1,e2,i1];exact⟨r,rfl,i2,Nat.le_trans i3 (jcI s [c]).2⟩
theorem Jo (c:UInt8) (k:Nat) (s:List UInt8) (L:List ByteArray) (q:List (List UInt8)) (h:Lib.splitB ⟨#[c]⟩ 0 k (bytes s)=L) (hq:Lib.splitK [c] 0 k s=q):L=q.map bytes:=by
 have hd:=Lib.splitB_data ⟨#[c]⟩ 0 k (bytes s);have hb:(bytes s).data.toList=s:=by simp[bytes]
 rw[hb,h] at hd;have hd':L.map (·.data.toList)=q:=hd.trans hq;rw[←hd',List.map_map];have:(bytes ∘ fun x:ByteArray=>x.data.toList)=id:=by
  funext x;cases x;simp[bytes]
 rw[this,List.map_id]
def XF (s:List UInt8) (w:World) (e:Ending) (w':World):Prop :=
 ((jb 32 s).length<3→e=.panicked [jC 2]) ∧
 (3≤(jb 32 s).length→∃g cap bw bc r,e=.returned (.tuple #[.slice (some ⟨g,0,none⟩) 3 cap,.func (.func 92) #[] #[.pointer (some ⟨bw,0,none⟩),.pointer (some ⟨bc,0,none⟩)]]) ∧
   (∀j p,j<3→(jb 32 s)[j]?=some p→w'.cell? ⟨g,j,none⟩=some (.string (bytes p)))∧zK w' bw bc r∧jl r=(jb 32 s).drop 3∧∀q,r=some q→q.length≤s.length)∧Kept w w'
theorem YD (L:List ByteArray) (n:Nat) (w W:World) (T:TypeId) (q:List (List UInt8)) (hL:L=q.map bytes) (k:Kept (w.alloc (.cells (Lib.cellsOf L n) T)) W):∀j p,q[j]?=some p→W.cell? ⟨w.heap.size,j,none⟩=some (.string (bytes p)):=by
 intro j p hj;have hh:=w.alloc_heap_new (.cells (Lib.cellsOf L n) T);have hLj:L[j]?=some (bytes p):=by rw[hL,List.getElem?_map,hj];rfl
 have hj5:j<L.length:=(List.getElem?_eq_some_iff.1 hLj).1;refine cell_later k ?_;rw[Lib.cell_of_heap hh];show (Lib.cellsOf L n)[j]?=some (.string (bytes p));unfold Lib.cellsOf;rw[List.getElem?_toArray,List.getElem?_append_left (by rw[List.length_map];exact hj5),List.getElem?_map,hLj];rfl
theorem jbN (s:List UInt8) (w:World) (hE:Env w) (hs:s.length≤1000000) :
 Calls Tryz.prog 69 #[.string (bytes s),.int .i64 3] w (XF s w):=by
 obtain⟨w1,hw1⟩:=eX (w.alloc (.cells #[.int .i64 3] 3))
 have hk1:Kept w w1:=by rw[←hw1];exact ja _ _
 have hz1:w1.heap.size=w.heap.size+1:=by rw[←hw1,World.size_alloc]
 have hc1:w1.cell? ⟨w.heap.size,0,none⟩=some (.int .i64 3):=by rw[←hw1];exact(Jm w _ _).1
 obtain⟨m,hm⟩:=(hE.kept hk1).most;have hmf:=hmfL (P:=Tryz.prog);have Vg:=lH (Tryz.strings_SplitN (bytes s) ⟨#[32]⟩ 4 m w1 (by rw[jn];omega) hm (by decide) (by decide) (by decide));obtain⟨n,hn⟩:=eX (min 4 ((bytes s).size+1))
 rw[hn] at Vg;obtain⟨L,hL⟩:=eX (Lib.splitB ⟨#[32]⟩ 0 (n-1) (bytes s))
 rw[hL] at Vg;have hsz:(bytes s).size=s.length:=jn s;have hpl:=Xs 32 s;have hcap:L.length≤n:=by
  rw[←hL];have:=Lib.splitB_length_le ⟨#[32]⟩ 0 (n-1) (bytes s);omega
 obtain⟨VL,VJ,Tp⟩:=lH3 hk1 hz1 hc1;by_cases h3:(jb 32 s).length<3
 · have hq:=(zQ 32 (n-1) s).1 (by omega);have hLq:=Jo 32 (n-1) s L _ hL hq;obtain⟨k,hk⟩:=eX (L.length)
   have hk3:k<3:=by rw[←hk,hLq,List.length_map];exact h3
   rw[hk] at Vg;have H3:=lH h3;have hlt:(k:Int)<3:=by omega
   clear h3 hq hLq hk hk3 hcap hL hm hE hz1;go_enter Tryz.func69,Tryz.ntmps69;go_wp2_with fail
   refine Vg.out.mono ?_;rintro e w2 ⟨rfl,rfl⟩;have hc3:((w1.alloc (.cells (Lib.cellsOf L n) 9)).alloc (.cells #[.slice (some ⟨w1.heap.size,0,none⟩) k n] 87)).cell? ⟨w.heap.size,0,none⟩=some (.int .i64 3):=cell_later (jN _ _ _) Tp.out;go_wp2;exact⟨rfl,⟨fun _=>rfl,fun h=>absurd H3.out (by omega),VL.out.trans (jN _ _ _)⟩⟩
 · obtain⟨k,r,q,hk,hLq,hqt,hr,hrp,hrs⟩:∃(k:Nat) (r:Option (List UInt8)) (q:List (List UInt8)),L.length=k∧L=q.map bytes∧(∀j p,j<3→(jb 32 s)[j]?=some p→q[j]?=some p)∧(match r with | none=>k=3∧3≤n∧n≤4 | some x=>k=4∧n=4∧q[3]?=some x)∧jl r=(jb 32 s).drop 3∧∀x,r=some x→x.length≤s.length:=by
    by_cases h4:(jb 32 s).length=3
    · have hq:=(zQ 32 (n-1) s).1 (by omega);have hLq:=Jo 32 (n-1) s L _ hL hq;refine⟨3,none,jb 32 s,by rw[hLq,List.length_map,h4],hLq,fun j p _ h=>h,⟨rfl,by omega,by omega⟩,?_,fun x h=>by cases h⟩;rw[List.drop_of_length_le (by omega)];rfl
    · have hn4:n=4:=by omega
      subst hn4;obtain⟨x,e1,e2,e3⟩:=ZE 32 3 s (by omega);have hLq:=Jo 32 3 s L _ hL e1;have ht:((jb 32 s).take 3).length=3:=by rw[List.length_take];omega
      refine⟨4,some x,(jb 32 s).take 3++[x],by rw[hLq,List.length_map,List.length_append,ht];rfl,hLq,fun j p hj h=>?_,⟨rfl,rfl,?_⟩,e2,fun y h=>by cases h;exact e3⟩
      · rw[List.getElem?_append_left (by omega),List.getElem?_take_of_lt hj];exact h
      · rw[List.getElem?_append_right (by omega),ht];rfl
   rw[hk] at Vg
   have hcap3:3≤n:=by cases r with
    | none=>exact hr.2.1
    | some x=>obtain⟨_,h,_⟩:=hr;omega
   have hk3:¬(k:Int)<3:=by cases r with
    | none=>obtain⟨h,_⟩:=hr;omega
    | some x=>obtain⟨h,_⟩:=hr;omega
   have hkn:k≤n:=by rw[←hk];exact hcap
   have hn4:n≤4:=by omega
   obtain⟨H3,TS,HR,V1,UL,TT⟩:=lH6 h3 hqt hr hrp hrs hLq;clear h3 hqt hr hrp hrs hLq hk hcap hL hm hE hn hz1;go_enter Tryz.func69,Tryz.ntmps69;go_wp2_with fail
   refine Vg.out.mono ?_;rintro e w2 ⟨rfl,rfl⟩;have hc3:((w1.alloc (.cells (Lib.cellsOf L n) 9)).alloc (.cells #[.slice (some ⟨w1.heap.size,0,none⟩) k n] 87)).cell? ⟨w.heap.size,0,none⟩=some (.int .i64 3):=cell_later (jN _ _ _) Tp.out;have Tq:=lH hc3;have Tr:=lH (YD L n w1 ((w1.alloc (.cells (Lib.cellsOf L n) 9)).alloc (.cells #[.slice (some ⟨w1.heap.size,0,none⟩) k n] 87)) 9 q TT.out (ja _ _));have Ts:=lH (show ((w1.alloc (.cells (Lib.cellsOf L n) 9)).alloc (.cells #[.slice (some ⟨w1.heap.size,0,none⟩) k n] 87)).cell? ⟨w1.heap.size+1,0,none⟩=some (.slice (some ⟨w1.heap.size,0,none⟩) k n) by
    have:=(Jm (w1.alloc (.cells (Lib.cellsOf L n) 9)) (.slice (some ⟨w1.heap.size,0,none⟩) k n) 87).1;rwa [World.size_alloc] at this)
   go_wp2;go_ret2
   refine⟨fun h=>absurd h H3.out,fun _=>⟨w1.heap.size,n,w1.heap.size+1,w.heap.size,r,rfl,fun j p hj hp=>Tr.out j p (TS.out j p hj hp),?_,V1.out,UL.out⟩,VL.out.trans (jN _ _ _)⟩;have hr:=HR.out
   cases r with
   | none =>
    obtain⟨rfl,h1,h2⟩:=hr;exact⟨Tq.out,_,_,Ts.out,h1,h2⟩
   | some x =>
    obtain⟨rfl,rfl,h2⟩:=hr;exact⟨Tq.out,_,Ts.out,Tr.out 3 x h2⟩
open Go.RowKit Go.Shelf
attribute [local go_sem] Oper.semAt_some
theorem Below.stR {B lo hi:Nat} {w W W':World} (h:Below B w W) (k:StR lo hi W W') (hl:B≤lo):Below B w W' :=
 ⟨k.os.trans h.os,k.tape.trans h.tape,k.output.trans h.output,Nat.le_trans h.size k.size,fun b hb=>(k.block b (by omega)).trans (h.block b hb)⟩
def j9 (ps:List (List UInt8)):Bool:=ps.all (jK 58 3)
def jbF (ps:List (List UInt8)) (w:World) (e:Ending) (w':World):Prop:=(j9 ps=true→∃v,e=.returned v)∧(j9 ps=false→e=.panicked [jC 2])∧Kept w w'
theorem ZV {ps:List (List UInt8)} {k:Nat} {p:List UInt8} {f:List UInt8→Bool} (h:∀q ∈ ps.take k,f q=true) (hp:ps[k]?=some p) (hf:f p=true):∀q ∈ ps.take (k+1),f q=true:=by
 intro q hq;rw[List.take_add_one,hp] at hq;rcases List.mem_append.1 hq with g | g
 · exact h q g
 · have:q=p:=by simpa using g
   rw[this];exact hf
theorem Xi {r:Option (List UInt8)} (hs:∀s,r=some s→s.length≤1000000):∀p ∈ jl r,p.length≤1000000:=by
 intro p hp
 cases r with
 | none=>cases hp
 | some s=>exact Nat.le_trans (jO 32 s p hp) (hs s rfl)
theorem Ym (bw bc:Nat) (r:Option (List UInt8)) (w:World) (hE:Env w) (hr:zK w bw bc r) (hs:∀s,r=some s→s.length≤1000000) :
 Calls Tryz.prog 71 #[.func (.func 92) #[] #[.pointer (some ⟨bw,0,none⟩),.pointer (some ⟨bc,0,none⟩)]] w (jbF (jl r) w):=by
 have HE:=lH hE;have Vr:=lH (Xi hs);refine zB (n:=6) Tryz.func71 rfl ?_;simp only[Tryz.ntmps71,List.size_toArray,List.length_cons,List.length_nil,Nat.reduceAdd,Nat.reduceSub,Array.replicate_succ,Array.replicate_zero,List.push_toArray,List.append_toArray,List.nil_append,List.cons_append];refine jv (jE (n:=6) ?_);gi_wp2
 refine Jk ?_;refine YR Tryz.func71 bw bc rfl r hs hr
  (fun k W=>Below w.heap.size w W∧∀p ∈ (jl r).take k,jK 58 3 p=true)
  (fun c W=>c=[jC 2]∧Below w.heap.size w W∧j9 (jl r)=false)
  (fun k W W' h st=>⟨Below.stR h.1 st (Nat.le_refl _),h.2⟩) (fun c W W' h st=>⟨h.1,Below.stR h.2.1 st (Nat.le_refl _),h.2.2⟩) (fun k W h=>HE.out.kept h.1) ⟨Below.refl _ _,by simp⟩
  (fun x=>{ tmps:=#[.func (.func 92) #[] #[.pointer (some ⟨bw,0,none⟩),.pointer (some ⟨bc,0,none⟩)],undef,.string x,.func (.func 92) #[] #[.pointer (some ⟨bw,0,none⟩),.pointer (some ⟨bc,0,none⟩)],.string x,undef,undef],defers:=[] }) ?assign ?body ?done ?panic
 case assign =>
  intro l x W K hK;gi_wp2
  exact hK
 case body =>
  rintro l k p W hp ⟨hB,hd⟩ hsz;obtain⟨HB,HD,HP,HM,HR⟩:=lH5 hB hd hp (List.mem_of_getElem? hp) (JB p W (HE.out.kept hB) (Vr.out p (List.mem_of_getElem? hp)));unfold ZT at HR;have Vq:=lH hsz;obtain⟨q,hq⟩:=eX (jK 58 3 p)
  have HQ:=lH hq;clear hB hd hp hsz hE hr hq
  cases q with
  | true =>
   gi_wp2_with (refine⟨trivial,?_⟩;gi_at_call 96;refine(CallsIn.inRound l (callsIn_wide.2 HR.out)).mono ?_;rintro e W1 ⟨ha,-,hk⟩;obtain⟨g,cap,rfl,-⟩:=ha HQ.out;have HK:=lH hk;clear ha hk)
   exact⟨fun b h1 h2=>HK.out.block b (by have:=Vq.out;omega),HB.out.trans (Below.mono HK.out HB.out.size),ZV HD.out HP.out HQ.out⟩
  | false =>
   gi_wp2_with (refine⟨trivial,?_⟩;gi_at_call 96;refine(CallsIn.inRound l (callsIn_wide.2 HR.out)).mono ?_;rintro e W1 ⟨-,hb,hk⟩;obtain rfl:=hb HQ.out;have HK:=lH hk;clear hb hk)
   refine⟨rfl,fun b h1 h2=>HK.out.block b (by have:=Vq.out;omega),rfl,HB.out.trans (Below.mono HK.out HB.out.size),?_⟩;unfold j9;rw[List.all_eq_false];exact⟨p,HM.out,by rw[HQ.out];decide⟩
 case panic =>
  rintro c W ⟨rfl,hB,hbad⟩ hk;refine⟨by simp,.inl ⟨_,_,rfl,run_takeDeferred hk,?_⟩⟩;exact⟨fun h=>(by rw[hbad] at h;cases h),fun _=>rfl,jY hB (Nat.le_refl _)⟩
 case done =>
  rintro W ⟨hB,hd⟩ hk;have hT:j9 (jl r)=true:=by
   unfold j9;rw[List.all_eq_true];rw[List.take_length] at hd;exact hd
  refine⟨by simp,.inl ⟨_,_,rfl,run_takeDeferred hk,?_⟩⟩;exact⟨.tuple #[],by simp[results,Tryz.results71,go_sem],fun _=>⟨_,rfl⟩,fun h=>(by rw[hT] at h;cases h),jY hB (Nat.le_refl _)⟩
theorem jbK:(Tryz.prog.info? 46).map (fun i=>(i.zero,i.size,i.bytes))=some (some (.agg #[.int .i64 0,.int .i64 0,.int .i64 0]),3,24):=by kernel_rfl
theorem Own.stR {α:Type} {L:Lay α} {e:TypeId} {lo hi:Nat} {W W':World} {v:Value} {l:List α} (h:Own L e W hi v l) (k:StR lo hi W W'):Own L e W' hi v l:=by
 obtain⟨⟨h0,h1⟩,hf⟩:=h;refine⟨⟨h0,h1.imp id ?_⟩,hf⟩;rintro ⟨g,cap,cur,rfl,hbg,hg,hn,hm,hs,ht⟩;exact⟨g,cap,cur,rfl,hbg,(k.block g (.inr hbg)).trans hg,hn,hm,hs,ht⟩
theorem Jd.stR {α:Type} {L:Lay α} {e:TypeId} {lo hi vb:Nat} {W W':World} {l:List α} (h:Jd L e hi vb l W) (k:StR lo hi W W') (hv:vb<lo):Jd L e hi vb l W':=by
 obtain⟨v,h1,h3,h4⟩:=h;have hb:=k.block vb (.inl hv);exact⟨v,(World.cell?_of_block (a:=⟨vb,0,none⟩) hb).trans h1,(World.frozen?_of_block (a:=⟨vb,0,none⟩) hb).trans h3,h4.stR k⟩
def zu (ps:List (List UInt8)) (k:Nat):RL:=((ps.take k).map jF).take 9
theorem ZS {ps:List (List UInt8)} {k:Nat} (h:k≤ps.length):(zu ps k).length=min 9 k:=by
 unfold zu;rw[List.length_take,List.length_map,List.length_take];omega
theorem Zj {ps:List (List UInt8)} {k:Nat} {p:List UInt8} (hp:ps[k]?=some p) (h:(zu ps k).length≤8):zu ps (k+1)=zu ps k++[jF p]:=by
 have hk:k<ps.length:=(List.getElem?_eq_some_iff.1 hp).1;rw[ZS (by omega)] at h;unfold zu;have e:ps.take (k+1)=ps.take k++[p]:=by rw[List.take_add_one,hp];rfl
 rw[e,List.map_append,List.take_of_length_le (l:=(ps.take k).map jF) (by simp;omega),List.take_of_length_le (by simp;omega)];rfl
theorem jbp {ps:List (List UInt8)} {k:Nat} {p:List UInt8} (hp:ps[k]?=some p) (h:¬(zu ps k).length≤8):zu ps (k+1)=zu ps k:=by
 have hk:k<ps.length:=(List.getElem?_eq_some_iff.1 hp).1;rw[ZS (by omega)] at h;unfold zu;have e:ps.take (k+1)=ps.take k++[p]:=by rw[List.take_add_one,hp];rfl
 rw[e,List.map_append,List.take_append_of_le_length (by simp;omega)]
def za (ps:List (List UInt8)):Bool:=ps.all zr
def jbC (ps:List (List UInt8)) (w:World) (e:Ending) (w':World):Prop:=(za ps=true→∃v,e=.returned v∧Own jt 46 w' w.heap.size v ((ps.map jF).take 9))∧(za ps=false→e=.panicked [jC 5])∧Kept w w'
theorem jbo (w:World) (o:Obj) (a b c:Int) (T:TypeId):∀j u,[Value.int .i64 a,.int .i64 b,.int .i64 c][j]?=some u→((w.alloc o).alloc (.cells #[.int .i64 a,.int .i64 b,.int .i64 c] T)).cell? ((⟨w.heap.size+1,0,none⟩:Addr).add j)=some u:=jc6 w o _ _ _ T
theorem qp (bw bc:Nat) (r:Option (List UInt8)) (w:World) (hE:Vec.Env w) (hr:zK w bw bc r) (hs:∀s,r=some s→s.length≤1000000) (hf:j9 (jl r)=true) :
 Calls Tryz.prog 73 #[.func (.func 92) #[] #[.pointer (some ⟨bw,0,none⟩),.pointer (some ⟨bc,0,none⟩)]] w (jbC (jl r) w):=by
 obtain⟨HE,Vr,TU⟩:=lH3 hE (Xi hs) (List.all_eq_true.1 (show (jl r).all (jK 58 3)=true from hf));obtain⟨w1,hw1⟩:=eX (w.alloc (.cells #[.slice none 0 0] 24))
 have k1:Kept w w1:=by rw[←hw1];exact ja _ _
 have hz1:w1.heap.size=w.heap.size+1:=by rw[←hw1,World.size_alloc]
 obtain⟨bx1,bx2⟩:=Jm w (.slice none 0 0) 24;rw[hw1] at bx1 bx2;obtain⟨vb,hvb⟩:=eX (w.heap.size)
 rw[hvb] at bx1 bx2 hz1;have hr1:=hr.kept k1;obtain⟨VL,VS,VJ⟩:=lH3 k1 hvb hz1;clear hE hr hf k1;refine zB (n:=6) Tryz.func73 rfl ?_;simp only[Tryz.ntmps73,List.size_toArray,List.length_cons,List.length_nil,Nat.reduceAdd,Nat.reduceSub,Array.replicate_succ,Array.replicate_zero,List.push_toArray,List.append_toArray,List.nil_append,List.cons_append];refine jv (jE (n:=6) ?_);gi_wp2
 refine jv (jE (n:=6) ?_);gi_wp2
 try rw[hw1]
 try rw[hvb]
 clear hw1 hvb hz1;refine jv (jv (jE (n:=6) ?_));gi_wp2
 refine Jk ?_;refine YR Tryz.func73 bw bc rfl r hs hr1
  (fun k W=>Below w.heap.size w W∧(∀p ∈ (jl r).take k,zr p=true)∧Jd jt 46 (w1.heap.size+8) vb (zu (jl r) k) W)
  (fun c W=>c=[jC 5]∧Below w.heap.size w W∧za (jl r)=false)
  (fun k W W' h st=>⟨Below.stR h.1 st (by have:=VS.out;have:=VJ.out;omega),h.2.1,h.2.2.stR st (by have:=VJ.out;omega)⟩) (fun c W W' h st=>⟨h.1,Below.stR h.2.1 st (by have:=VS.out;have:=VJ.out;omega),h.2.2⟩) (fun k W h=>(HE.out.kept h.1).base) ⟨VL.out,by simp,⟨.slice none 0 0,bx1,bx2,Own.nil _ _ _⟩⟩
  (fun x=>{ tmps:=#[.func (.func 92) #[] #[.pointer (some ⟨bw,0,none⟩),.pointer (some ⟨bc,0,none⟩)],undef,.slice none 0 0,.pointer (some ⟨vb,0,none⟩),.string x,undef,.func (.func 92) #[] #[.pointer (some ⟨bw,0,none⟩),.pointer (some ⟨bc,0,none⟩)],.string x,undef,undef,undef,undef,undef,undef,undef,undef,undef,undef],defers:=[] }) ?assign ?body ?done ?panic
 case assign =>
  intro l x W K hK;gi_wp2
  exact hK
 case body =>
  rintro l k p W hp ⟨hB,hd,v,hvc,hvf,hvo⟩ hlt;obtain⟨HB,HD,HP,HM,VH⟩:=lH5 hB hd hp (List.mem_of_getElem? hp) (jaz p W (HE.out.kept hB) (Vr.out p (List.mem_of_getElem? hp)) (TU.out p (List.mem_of_getElem? hp)));unfold qI at VH;have Vu:=lH hlt;have hvW:vb<W.heap.size:=by have:=VJ.out;omega
  obtain⟨q,hq⟩:=eX (zr p)
  have HQ:=lH hq;have VK:=lH (fun h=>qw p h);obtain⟨⟨u,c,d⟩,hru⟩:∃x,jF p=x:=⟨_,rfl⟩
  have Tt:=lH hru;rw[hru] at VH VK;dsimp only at VH VK;clear hB hd hq hru bx1 bx2 hr1 hlt
  cases q with
  | true =>
   obtain⟨av,cv,rfl,q1,q2,q3⟩:=hvo.at_;obtain⟨n,hn⟩:=eX ((zu (jl r) k).length)
   have hn9:n≤9:=by
    have:=ZS (show k≤(jl r).length from Nat.le_of_lt (List.getElem?_eq_some_iff.1 hp).1);omega
   rw[hn] at hvo hvc;have Vx:=lH hvo;have HN:=lH hn;clear hvo hn q1 q2 q3 hp;gi_wp2_with (refine⟨trivial,?_⟩;gi_at_call 98;refine(CallsIn.inRound l (callsIn_wide.2 VH.out)).mono ?_;rintro e W1 ⟨ha,-,k1⟩;obtain rfl:=ha HQ.out;have K1:=lH k1;have hvc1:=cell_later k1 hvc;have hvf1:=(k1.frozen (p:=⟨vb,0,none⟩) hvW).trans hvf;have hm1:vb<W1.heap.size:=Nat.lt_of_lt_of_le hvW k1.size;clear ha k1 hvc hvf;refine Hid.out ?_)
   refine lH ?_;by_cases h8:n≤8
   · obtain⟨i0,hi,hz0,hz1,hz2⟩:=info_parts jbK;gi_wp2_with (gi_at_builtin;go_must (refine wpListIn_append_own _ rfl (.tmp 13) (.tmp 15) _ rfl (w1.heap.size+8) 46 i0 _ 3 24 Tryz.underlying24 hi hz0 hz1 hz2 rfl (by decide) _ n (jG jt (zu (jl r) k)) rfl (((Vx.out.kept K1.out).kept (jN W1 (.cells #[.int .i64 u,.int .i64 c,.int .i64 d] 46) (.cells #[.int .i64 u,.int .i64 c,.int .i64 d] 46))).row HN.out) ⟨W1.heap.size+1,0,none⟩ 1 1 [.int .i64 u,.int .i64 c,.int .i64 d] rfl rfl (jbo _ _ _ _ _ _) (Jn jt [(u,c,d)]) (by unfold maxLen;omega) (by omega) (by rw[World.size_alloc,World.size_alloc];have:=Vu.out;have:=K1.out.size;omega) ?_);intro v' w2 hown' hgrow _;refine Hid.out ?_)
     refine lH ?_;obtain⟨g',cap',rfl⟩:=ownsRow_succ hown';have KA:=lH (show Kept W ((W1.alloc (.cells #[.int .i64 u,.int .i64 c,.int .i64 d] 46)).alloc (.cells #[.int .i64 u,.int .i64 c,.int .i64 d] 46)) from K1.out.trans (jN W1 _ _));have hrow:∀r,(Value.slice av n cv).ownBlock=some r→w1.heap.size+8≤r:=fun r hr=>(Vx.out.1.lt r hr).1;have Us:=lH (show ∀b,b<w1.heap.size+8→w2.heap[b]?=W.heap[b]? from fun b hb=>(hgrow.block b (Nat.lt_of_lt_of_le hb (Nat.le_trans Vu.out KA.out.size)) (fun e=>by have:=hrow b e.symm;omega)).trans (KA.out.block b (Nat.lt_of_lt_of_le hb Vu.out)));have hv8:vb<w1.heap.size:=by have:=VJ.out;omega
     have hvc2:w2.cell? ⟨vb,0,none⟩=some (.slice av n cv):=(World.cell?_of_block (a:=⟨vb,0,none⟩) (hgrow.block vb (by simp;omega) (fun e=>by have:=hrow vb e.symm;omega))).trans (cell_later (jN W1 _ _) hvc1);have hvf2:w2.frozen? ⟨vb,0,none⟩=false:=(World.frozen?_of_block (a:=⟨vb,0,none⟩) (hgrow.block vb (by simp;omega) (fun e=>by have:=hrow vb e.symm;omega))).trans (((jN W1 _ _).frozen (p:=⟨vb,0,none⟩) hm1).trans hvf1);have VA:=lH hown';have UZ:=lH (show Below w.heap.size w w2 from⟨hgrow.os.trans (KA.out.os.trans HB.out.os),hgrow.tape.trans (KA.out.tape.trans HB.out.tape),hgrow.output.trans (KA.out.output.trans HB.out.output),Nat.le_trans HB.out.size (Nat.le_trans KA.out.size hgrow.size),fun b hb=>(Us.out b (by have:=VS.out;omega)).trans (HB.out.block b hb)⟩);clear hvc1 hvf1 hown' hgrow hrow hi hz0 hz1 hz2;gi_wp2
     refine⟨fun b h1 h2=>(Below.heap_setCell w2 ⟨vb,0,none⟩ _ b (by show b≠vb;omega)).trans (Us.out b (by omega)),UZ.out.setCell (p:=⟨vb,0,none⟩) (by have:=VS.out;show w.heap.size≤vb;omega) _,ZV HD.out HP.out HQ.out,⟨_,World.cell?_setCell_same' _ _ _ (by rw[hvc2];rfl),by rw[World.frozen?_setCell];exact hvf2,?_⟩⟩;have hl:(zu (jl r) (k+1)).length=n+1:=by rw[Zj HP.out (by rw[HN.out];exact h8),List.length_append,HN.out];rfl
     have ho:Own jt 46 w2 (w1.heap.size+8) (.slice (some ⟨g',0,none⟩) (n+1) cap') (zu (jl r) (k+1)):=by
      refine⟨?_,?_⟩
      · rw[hl,Zj HP.out (by rw[HN.out];exact h8),Tt.out,JA];exact VA.out
      · rw[Zj HP.out (by rw[HN.out];exact h8),Tt.out];intro x hx;rcases List.mem_append.1 hx with h | h
        · exact Vx.out.2 x h
        · obtain rfl:x=(u,c,d):=by simpa using h
          exact VK.out HQ.out
     exact ho.setCell_below (a:=⟨vb,0,none⟩) (by show vb<w1.heap.size+8;omega) _
   · have VM:=lH (jbp HP.out (by rw[HN.out];exact h8));have h9:8<n:=by omega
     clear h8;gi_wp2
     refine⟨fun b h1 h2=>(Kept.trans K1.out (ja W1 _)).block b (by have:=Vu.out;omega),HB.out.trans (Below.mono (Kept.trans K1.out (ja W1 _)) HB.out.size),ZV HD.out HP.out HQ.out,⟨.slice av n cv,cell_later (ja W1 _) hvc1,((ja W1 _).frozen (p:=⟨vb,0,none⟩) hm1).trans hvf1,?_⟩⟩;rw[VM.out];exact Vx.out.kept (Kept.trans K1.out (ja W1 _))
  | false =>
   clear hp hvo hvc hvf;gi_wp2_with (refine⟨trivial,?_⟩;gi_at_call 98;refine(CallsIn.inRound l (callsIn_wide.2 VH.out)).mono ?_;rintro e W1 ⟨-,hb,k1⟩;obtain rfl:=hb HQ.out;have K1:=lH k1;clear hb k1)
   refine⟨rfl,fun b h1 h2=>K1.out.block b (by have:=Vu.out;omega),rfl,HB.out.trans (Below.mono K1.out HB.out.size),?_⟩;unfold za;rw[List.all_eq_false];exact⟨p,HM.out,by rw[HQ.out];decide⟩
 case panic =>
  rintro c W ⟨rfl,hB,hbad⟩ hk;refine⟨by simp,.inl ⟨_,_,rfl,run_takeDeferred hk,?_⟩⟩;exact⟨fun h=>(by rw[hbad] at h;cases h),fun _=>rfl,jY hB (by have:=VS.out;have:=VJ.out;omega)⟩
 case done =>
  rintro W ⟨hB,hd,v,hvc,hvf,hvo⟩ hk;have HT:=lH (show za (jl r)=true by
   unfold za;rw[List.all_eq_true];rw[List.take_length] at hd;exact hd)
  obtain⟨Vx,HB,TV⟩:=lH3 hvo hB hk;obtain⟨av,cv,rfl,q1,q2,q3⟩:=hvo.at_;have TW:=lH (show zu (jl r) (jl r).length=((jl r).map jF).take 9 by unfold zu;rw[List.take_length]);clear hd hk hvo hB q1 q2 q3 bx1 bx2 hr1;refine jE (n:=6) ?_;gi_wp2
  refine⟨by simp,.inl ⟨_,_,rfl,run_takeDeferred TV.out,?_⟩⟩;refine⟨_,results_tmp rfl _ _ _,?_⟩;refine⟨fun _=>⟨_,rfl,?_⟩,fun h=>(by rw[HT.out] at h;cases h),jY HB.out (by have:=VS.out;have:=VJ.out;omega)⟩;rw[←TW.out];exact(Vx.out.put (by omega) _).base_le (by have:=VS.out;have:=VJ.out;omega)
end Go.Proofs.YtnfojaidmnccoaaGreatDoor
namespace Go.Proofs.YtnfojaidmnccoaaGreatDoor
open Go.RowKit
theorem Zs:∀(l:Vec.V) (b:Bool),(∀x ∈ l,x.1.size≤50∧-9223372036854775808≤x.2∧x.2≤9223372036854775807)→(Vec.jg b l).length≤80*l.length
 | [],b,_=>by rw[Vec.jg];simp
 | x::t,b,h=>by
  have ih:=Zs t false (fun y hy=>h y (List.mem_cons_of_mem _ hy));obtain⟨h1,h2,h3⟩:=h x (List.mem_cons_self ..);have hi:=Lib.itoa_length_le x.2 h2 h3;have hx:x.1.data.toList.length=x.1.size:=by rw[Array.length_toList,ByteArray.size_data]
  rw[Vec.jg];simp only[List.length_append,List.length_cons,List.length_nil,hx]
  cases b<;>simp<;>omega
theorem Zl {l:Vec.V} (h:Vec.j4 l=true) (hf:Vec.j2 l):(Vec.jz l).length≤2000:=by
 unfold Vec.j4 at h;simp only[Bool.and_eq_true,decide_eq_true_eq] at h;unfold Vec.jz;split
 · decide
 · have:=Zs l true (fun x hx=>by
    obtain⟨k,hk,rfl⟩:=List.getElem_of_mem hx;have e:l.getD k (ByteArray.empty,0)=l[k]:=by simp[List.getD,hk]
    have h1:=Vec.Jg h.2 hk;have h2:=(hf k hk).2;unfold Vec.nm at h1;unfold Vec.qn at h2;rw[e] at h1 h2;exact⟨h1,h2⟩)
   omega
abbrev PL:=List (ByteArray×ByteArray)
def zG (prev:Option ByteArray) (s:ByteArray):Bool:=match prev with | none=>false | some p=>leS s p
def JR:Option ByteArray→PL→Int
 | _,[]=>0
 | prev,x::t=>if (isName x.1&&isName x.2)=false then 3 else if zG prev x.1=true then 13 else JR (some x.1) t
def Yy (l:PL):Int:=if 8<l.length then 4 else JR none l
abbrev NT:=ByteArray×ByteArray×Bool
abbrev NL:=List NT
theorem jcq (x y:ByteArray) (b:Bool) (u:Value) (h:u ∈ [Value.string x,Value.string y,Value.bool b]):u.oneCell'=true:=by
 have e:u=Value.string x∨u=Value.string y∨u=Value.bool b:=by simpa using h
 rcases e with e | e | e<;>rw[e]<;>rfl
def jcc:Lay NT:={ m:=3,cs:=fun x=>[.string x.1,.string x.2.1,.bool x.2.2],fine:=fun x=>x.1.size≤maxLen∧x.2.1.size≤maxLen,len:=fun _=>rfl,one:=fun x=>jcq x.1 x.2.1 x.2.2,pos:=by decide }
theorem jbx (v:Value) (w:World):Calls Tryz.prog 75 #[v,.int .i64 0] w fun e w'=>e=.returned v∧w=w':=by
 go_enter Tryz.func75,Tryz.ntmps75;go_wp2;go_ret;exact⟨rfl,rfl⟩
theorem jaC (v:Value) (x:Int) (w:World) (h:x≠0):Calls Tryz.prog 75 #[v,.int .i64 x] w fun e w'=>e=.panicked [jC x]∧w=w':=by
 have h3:(x != 0)=true:=by simpa using h
 clear h;go_enter Tryz.func75,Tryz.ntmps75;go_wp2;exact⟨rfl,rfl,rfl⟩
def jao (p:List UInt8):ByteArray×ByteArray:=(bytes (Lib.cut p [58]).1,bytes (Lib.cut p [58]).2.1)
def Yu (p:List UInt8):Bool:=!(Lib.cut p [58]).2.2||decide (0≤Lib.indexByte (Lib.cut p [58]).2.1 58)
open Go.RowKit Go.Shelf
attribute [local go_sem] Oper.semAt_some
def jcn (s:List UInt8):=Yr Yu jao Yy s
end Go.Proofs.YtnfojaidmnccoaaGreatDoor
namespace Go.Proofs.YtnfojaidmnccoaaGreatDoor
open Go.RowKit Go.Shelf
attribute [local go_sem] Oper.semAt_some
end Go.Proofs.YtnfojaidmnccoaaGreatDoor
namespace Go.Proofs.YtnfojaidmnccoaaGreatDoor
open Go.RowKit
def Jw (x:ByteArray×ByteArray):ByteArray:=x.1++⟨#[58]⟩++x.2
def jaH (l:PL):ByteArray:=if l=[] then ⟨#[45]⟩ else JZ (l.map Jw)
open Go.RowKit Go.Sort
def Grw (w w':World):Prop:=∃q os,w'=grow (w.drewN q) os
theorem Grw.refl (w:World):Grw w w:=⟨0,#[],by rw[grow_empty];rfl⟩
theorem Grw.grown {w W:World} (h:Grw w W) (n:Nat) (os:Array Obj):Grw w (grow (W.drewN n) os):=by
 obtain⟨q,os0,rfl⟩:=h;exact⟨q+n,os0++os,by show grow (grow ((w.drewN q).drewN n) os0) os=_;rw[grow_grow,World.drewN_drewN]⟩
theorem Grw.trans {a b c:World} (h:Grw a b) (k:Grw b c):Grw a c:=by
 obtain⟨q,os,rfl⟩:=k;exact h.grown q os
theorem Grw.alloc (w:World) (o:Obj):Grw w (w.alloc o):=⟨0,#[o],alloc_eq_grow _ _⟩
theorem Grw.drewN (w:World) (n:Nat):Grw w (w.drewN n):=⟨n,#[],by rw[grow_empty]⟩
theorem jbA (w:World) (n:Nat) (os:Array Obj):Kept w (grow (w.drewN n) os):=Go.Lib.below_grow w.heap.size w (Nat.le_refl _) n os
theorem Grw.kept {w w':World} (h:Grw w w'):Kept w w':=by
 obtain⟨q,os,rfl⟩:=h;exact jbA w q os
def Z8 (w:World) (c:Nat) (t:NT):Prop:=w.cell? ⟨c,0,none⟩=some (.string t.1)∧w.cell? ⟨c,1,none⟩=some (.string t.2.1)∧w.cell? ⟨c,2,none⟩=some (.bool t.2.2)
theorem Z8.kept {w w':World} {c:Nat} {t:NT} (h:Z8 w c t) (k:Kept w w'):Z8 w' c t:=⟨cell_later k h.1,cell_later k h.2.1,cell_later k h.2.2⟩
theorem Z8.new (w:World) (x y:ByteArray) (m:Bool) (T:TypeId):Z8 (w.alloc (.cells #[.string x,.string y,.bool m] T)) w.heap.size (x,y,m):=by
 have hh:=w.alloc_heap_new (.cells #[.string x,.string y,.bool m] T);exact⟨by rw[Lib.cell_of_heap hh];rfl,by rw[Lib.cell_of_heap hh];rfl,by rw[Lib.cell_of_heap hh];rfl⟩
open Go.RowKit Go.Shelf
attribute [local go_sem] Oper.semAt_some
end Go.Proofs.YtnfojaidmnccoaaGreatDoor
namespace Go.Proofs.YtnfojaidmnccoaaGreatDoor
open Go.RowKit Go.Shelf
attribute [local go_sem] Oper.semAt_some
end Go.Proofs.YtnfojaidmnccoaaGreatDoor
namespace Go.Proofs.YtnfojaidmnccoaaGreatDoor
open Go.RowKit
theorem XI (c:UInt8):∀p:List UInt8,(Lib.cut p [c]).2.2=true→(Lib.cut p [c]).1++c::(Lib.cut p [c]).2.1=p
 | [],h=>by rw[Yv] at h;cases h
 | b::t,h=>by
  rw[Jr] at h ⊢;by_cases hb:b=c
  · rw[if_pos hb] at h ⊢;subst hb;rfl
  · rw[if_neg hb] at h ⊢;have ih:=XI c t h;show b::((Lib.cut t [c]).1++c::(Lib.cut t [c]).2.1)=b::t;rw[ih]
theorem ZO:∀{p:List UInt8},(44:UInt8) ∉ p→partsOf p=[p]
 | [],_=>rfl
 | b::t,h=>by
  rw[zw,if_neg (by intro e;exact h (by simp[e])),ZO (p:=t) (by intro e;exact h (by simp[e]))]
theorem YT:∀(x:List UInt8) (y:List UInt8),(44:UInt8) ∉ x→partsOf (x++44::y)=x::partsOf y
 | [],y,_=>by rw[List.nil_append,zw,if_pos rfl]
 | b::t,y,h=>by
  rw[List.cons_append,zw,if_neg (by intro e;exact h (by simp[e])),YT t y (by intro e;exact h (by simp[e]))]
theorem JX:∀(ts:List (List UInt8)),ts≠[]→(∀p ∈ ts,(44:UInt8) ∉ p)→partsOf (Lib.join ts [44])=ts
 | [],h,_=>absurd rfl h
 | [p],_,h=>by rw[Lib.join_one];exact ZO (h p (by simp))
 | p::q::t,_,h=>by
  rw[J8];have e:p++[44]++Lib.join (q::t) [44]=p++44::Lib.join (q::t) [44]:=by simp
  rw[e,YT _ _ (h p (by simp)),JX (q::t) (by simp) (fun z hz=>h z (by simp[hz]))]
theorem XK {b:UInt8} (h:ze b=true):b≠58∧b≠33∧b≠44∧b≠45:=by
 rw[zg] at h;refine⟨?_,?_,?_,?_⟩<;>(rintro rfl;revert h;decide)
theorem J6 {x:ByteArray} (h:isName x=true):∀b ∈ x.data.toList,ze b=true:=by
 unfold isName at h;simp only[Bool.and_eq_true,decide_eq_true_eq] at h;exact List.all_eq_true.1 h.2
theorem YC {x:ByteArray} (h:isName x=true):(58:UInt8) ∉ x.data.toList∧(33:UInt8) ∉ x.data.toList∧(44:UInt8) ∉ x.data.toList:=by
 have hb:=J6 h;exact⟨fun e=>(XK (hb _ e)).1 rfl,fun e=>(XK (hb _ e)).2.1 rfl,fun e=>(XK (hb _ e)).2.2.1 rfl⟩
theorem jb2 (x y:ByteArray) (c:UInt8):(x++⟨#[c]⟩++y).data.toList=x.data.toList++c::y.data.toList:=by simp[ByteArray.data_append]
theorem qt {α:Type} {bad:List UInt8→Bool} {f:List UInt8→α} {chk:List α→Int} {g:α→ByteArray} {l:List α} (hl:l.length≤8) (hne:l≠[]) (hc:chk l=0)
 (hg:∀x ∈ l,(44:UInt8) ∉ (g x).data.toList∧bad (g x).data.toList=false∧f (g x).data.toList=x) (hd:∀x ∈ l,(g x).data.toList≠[45]) :
 Yr bad f chk (JZ (l.map g)).data.toList=(0,l):=by
 have e:(JZ (l.map g)).data.toList=Lib.join (l.map fun x=>(g x).data.toList) [44]:=by
  unfold JZ;rw[List.map_map];rfl
 have hp:partsOf (JZ (l.map g)).data.toList=l.map fun x=>(g x).data.toList:=by
  rw[e];refine JX _ (by simpa using hne) ?_;intro p hp;obtain⟨x,hx,rfl⟩:=List.mem_map.1 hp;exact(hg x hx).1
 have hm:((partsOf (JZ (l.map g)).data.toList).map f).take 9=l:=by
  rw[hp,List.map_map];have:l.map (f ∘ fun x=>(g x).data.toList)=l.map id:=List.map_congr_left fun x hx=>(hg x hx).2.2;rw[this,List.map_id,List.take_of_length_le (by omega)]
 unfold Yr;rw[if_neg,if_neg,hm,if_neg (by rw[hc];decide)]
 · rw[hp];simp only[List.any_map,List.any_eq_true,not_exists,not_and];intro x hx;rw[Function.comp,(hg x hx).2.1];decide
 · intro h45;rw[h45] at hp;have h1:l.map (fun x=>(g x).data.toList)=[[45]]:=by rw[←hp];rfl
   cases l with
   | nil=>exact absurd rfl hne
   | cons x t =>
    have:(g x).data.toList=[45]:=by simpa using (List.cons.inj h1).1
    exact hd x (by simp) this
end Go.Proofs.YtnfojaidmnccoaaGreatDoor
namespace Go.Proofs.YtnfojaidmnccoaaGreatDoor.Vec
open Go.RowKit Go.Proofs.YtnfojaidmnccoaaGreatDoor
theorem jcD {l:List UInt8} (h:jm l=true):l.all jB=true:=by
 cases l with
 | nil=>cases h
 | cons c t=>rw[zm,Bool.and_eq_true] at h;exact h.2
theorem ZF {c:UInt8}:∀{p:List UInt8},¬(Lib.cut p [c]).2.2=true→(Lib.cut p [c]).2.1=[]
 | [],_=>by rw[Yv]
 | b::t,h=>by
  rw[Jr] at h ⊢;by_cases hb:b=c
  · rw[if_pos hb] at h;exact absurd rfl h
  · rw[if_neg hb] at h ⊢;exact ZF (p:=t) h
theorem Zp (acc:Nat) (l:List UInt8) (c:UInt8):j8 acc (l++[c])=j8 acc l*10+(c.toNat-48):=by
 unfold j8;rw[List.foldl_append];rfl
theorem XZ {c:UInt8} (h:jB c=true):UInt8.ofNat (48+(c.toNat-48))=c:=by
 have:=Ja h;rw[show 48+(c.toNat-48)=c.toNat by omega];exact UInt8.ofNat_toNat
theorem jb5 {n d:Nat} (hn:0<n) (hd:d<10):Lib.decDigits (n*10+d)=Lib.decDigits n++[UInt8.ofNat (48+d)]:=by
 rw[Lib.decDigits,dif_neg (by omega),show (n*10+d) / 10=n by omega,show (n*10+d) % 10=d by omega]
theorem YG {c:UInt8} (hc:jB c=true) (h0:c≠48):∀(n:Nat) (t:List UInt8),t.length=n→t.all jB=true→0<valL (c::t)∧Lib.decDigits (valL (c::t))=c::t
 | 0,t,hl,_=>by
  obtain rfl:t=[]:=List.eq_nil_of_length_eq_zero hl;have hd:=Ja hc;have hne:c.toNat≠48:=fun e=>h0 (UInt8.toNat.inj e);have e:valL [c]=c.toNat-48:=by unfold valL;rw[Jv];show 0*10+_=_;omega
  refine⟨by omega,?_⟩;rw[e,Lib.decDigits,dif_pos (by omega),XZ hc]
 | n+1,t,hl,ha=>by
  obtain⟨q,z,rfl⟩:∃q z,t=q++[z]:=⟨_,_,(List.dropLast_concat_getLast (by intro e;rw[e] at hl;cases hl)).symm⟩
  rw[List.all_append,Bool.and_eq_true] at ha;have hz:jB z=true:=by have:=ha.2;simpa using this
  have hd:=Ja hz;obtain⟨i1,i2⟩:=YG hc h0 n q (by simpa using hl) ha.1;have e:valL (c::(q++[z]))=valL (c::q)*10+(z.toNat-48):=Zp 0 (c::q) z;refine⟨by omega,?_⟩;rw[e,jb5 i1 (by omega),i2,XZ hz];rfl
theorem jb1 {l:List UInt8} (h:jm l=true):Lib.itoa (valL l:Int)=l:=by
 have e:Lib.itoa (valL l:Int)=Lib.decDigits (valL l):=by
  unfold Lib.itoa;rw[if_neg (by omega)];rfl
 rw[e]
 cases l with
 | nil=>cases h
 | cons c t =>
  have ha:=jcD h;rw[List.all_cons,Bool.and_eq_true] at ha;by_cases h0:c=48
  · subst h0;rw[zm,Bool.and_eq_true] at h;have ht:t=[]:=by
     cases t with
     | nil=>rfl
     | cons d u=>exact absurd h.1 (by simp)
    subst ht;rw[show valL [48]=0 from rfl,Lib.decDigits,dif_pos (by omega)];rfl
  · exact(YG ha.1 h0 t.length t rfl ha.2).2
theorem XX {p:List UInt8} (h:jm (jk p)=true):(jr p).1.data.toList++([61]++Lib.itoa (jr p).2)=p:=by
 have hf:(Lib.cut p [61]).2.2=true:=Classical.byContradiction fun hf=>by
  have:jk p=[]:=ZF hf;rw[this] at h;cases h
 show (bytes (nameOf p)).data.toList++([61]++Lib.itoa (valL (jk p):Int))=p;rw[jb1 h];have:=XI 61 p hf;unfold nameOf jk;simpa [bytes] using this
theorem Je:∀(ps:List (List UInt8)),(∀p ∈ ps,jm (jk p)=true)→∀q,jm (jk q)=true→jg true ((q::ps).map jr)=Lib.join (q::ps) [44]∧jg false ((q::ps).map jr)=44::Lib.join (q::ps) [44]
 | [],_,q,hq=>by
  have e:=XX hq;have h1:jg true ([q].map jr)=q:=by
   show (jr q).1.data.toList++([61]++(Lib.itoa (jr q).2++[]))=q;rw[List.append_nil];exact e
  refine⟨by rw[h1,Lib.join_one],?_⟩;show 44::jg true ([q].map jr)=_;rw[h1,Lib.join_one]
 | x::ps,hps,q,hq=>by
  have e:=XX hq;have ih:=(Je ps (fun p hp=>hps p (List.mem_cons_of_mem _ hp)) x (hps x (List.mem_cons_self ..))).2;have h1:jg true ((q::x::ps).map jr)=q++44::Lib.join (x::ps) [44]:=by
   show (jr q).1.data.toList++([61]++(Lib.itoa (jr q).2++jg false ((x::ps).map jr)))=_;rw[ih,←List.append_assoc [61],←List.append_assoc,e]
  refine⟨by rw[h1,J8];simp,?_⟩;show 44::jg true ((q::x::ps).map jr)=_;rw[h1,J8];simp
def Jx (w:World) (v:Value) (vs:List (Nat×Nat)) (ps:List (List UInt8)):Prop :=
 ∀(i:Nat) (x:Nat×Nat) (p:List UInt8),vs[i]?=some x→ps[i]?=some p→x.1<w.heap.size∧v.ownBlock≠some x.1 ∧
  w.cell? ⟨x.1,0,none⟩=some (.string (bytes (nameOf p)))∧w.cell? ⟨x.1,1,none⟩=some (.string (bytes (jk p)))
theorem Jx.nil (w:World) (v:Value) (ps:List (List UInt8)):Jx w v [] ps:=fun i x p h=>by simp at h
theorem Jx.kept {w w':World} {v:Value} {vs:List (Nat×Nat)} {ps:List (List UInt8)} (h:Jx w v vs ps) (k:Kept w w'):Jx w' v vs ps:=fun i x p hx hp=>by
 obtain⟨h1,h2,h3,h4⟩:=h i x p hx hp;exact⟨Nat.lt_of_lt_of_le h1 k.size,h2,cell_later k h3,cell_later k h4⟩
theorem Jx.snoc {w w':World} {v:Value} {vs:List (Nat×Nat)} {ps:List (List UInt8)} {g n cap b c:Nat} {p:List UInt8} (h:Jx w v vs ps) (hg:w.grownBy w' v.ownBlock) (hgo:v.ownBlock=some g∨g=w.heap.size)
 (hp:ps[vs.length]?=some p) (hb:b<w.heap.size) (hne:v.ownBlock≠some b)
 (c0:w.cell? ⟨b,0,none⟩=some (.string (bytes (nameOf p)))) (c1:w.cell? ⟨b,1,none⟩=some (.string (bytes (jk p)))) :
 Jx w' (.slice (some ⟨g,0,none⟩) n cap) (vs++[(b,c)]) ps:=by
 have far:∀d,d<w.heap.size→v.ownBlock≠some d→d<w'.heap.size∧(Value.slice (some ⟨g,0,none⟩) n cap).ownBlock≠some d∧∀j,w'.cell? ⟨d,j,none⟩=w.cell? ⟨d,j,none⟩:=fun d hd hn=>by
  refine⟨Nat.lt_of_lt_of_le hd hg.size,?_,fun j=>hg.cell_far ⟨d,j,none⟩ hd (fun e=>hn e.symm)⟩;show some g≠some d;intro e;have e':g=d:=Option.some.inj e;rcases hgo with h1 | h1
  · exact hn (by rw[h1,e'])
  · omega
 intro i x q hx hq;by_cases hi:i<vs.length
 · rw[List.getElem?_append_left hi] at hx;obtain⟨h1,h2,h3,h4⟩:=h i x q hx hq;obtain⟨f1,f2,f3⟩:=far x.1 h1 h2;exact⟨f1,f2,(f3 0).trans h3,(f3 1).trans h4⟩
 · have hi2:i=vs.length:=by
    have:=(List.getElem?_eq_some_iff.1 hx).1;simp at this;omega
   subst hi2;have hxx:(b,c)=x:=by simpa using hx
   have hqq:q=p:=Option.some.inj (hq.symm.trans hp);subst hxx;subst hqq;obtain⟨f1,f2,f3⟩:=far b hb hne;exact⟨f1,f2,(f3 0).trans c0,(f3 1).trans c1⟩
open Go.RowKit
theorem YM (a b:Int) (w:World) (ha:0≤a) (hb:0≤b) (hb':b≤9223372036854775807) (h:9223372036854775807<a+b):Calls Tryz.prog 110 #[.int .i64 a,.int .i64 b] w (Xe 0 5 w):=by
 go_enter Tryz.func110,Tryz.ntmps110;go_wp2;go_ret2
 exact⟨rfl,rfl⟩
theorem Yt (a b:Int) (w:World) (ha:0≤a) (hb:0≤b) (h:a+b≤9223372036854775807):Calls Tryz.prog 110 #[.int .i64 a,.int .i64 b] w (Xe (a+b) 0 w):=by
 go_enter Tryz.func110,Tryz.ntmps110;go_wp2;go_ret2
 exact⟨rfl,rfl⟩
theorem YE (a b:Int) (w:World) (ha:0≤a) (hb:0≤b) (ha':a≤9223372036854775807) (hb':b≤9223372036854775807) (h:9223372036854775807<a*b):Calls Tryz.prog 109 #[.int .i64 a,.int .i64 b] w (Xe 0 5 w):=by
 have g0:1≤a:=by
  rcases Int.lt_or_eq_of_le ha with g | g
  · omega
  · rw[←g,Int.zero_mul] at h;omega
 have g1:9223372036854775807 / a<b:=(Int.ediv_lt_iff_lt_mul (by omega)).2 (by rw[Int.mul_comm];exact h);have g2:0≤9223372036854775807 / a:=Int.ediv_nonneg (by omega) ha;have g3:9223372036854775807 / a≤9223372036854775807:=Int.ediv_le_self _ (by omega);clear h;go_enter Tryz.func109,Tryz.ntmps109;go_wp2;go_ret2
 exact⟨rfl,rfl⟩
theorem zW (a b:Int) (w:World) (ha:0≤a) (hb:0≤b) (ha':a≤9223372036854775807) (hb':b≤9223372036854775807) (h:a*b≤9223372036854775807):Calls Tryz.prog 109 #[.int .i64 a,.int .i64 b] w (Xe (a*b) 0 w):=by
 have g4:=jS ha hb;by_cases g0:1≤a
 · have g1:b≤9223372036854775807 / a:=(Int.le_ediv_iff_mul_le (by omega)).2 (by rw[Int.mul_comm];exact h);have g2:0≤9223372036854775807 / a:=Int.ediv_nonneg (by omega) ha;have g3:9223372036854775807 / a≤9223372036854775807:=Int.ediv_le_self _ (by omega);go_enter Tryz.func109,Tryz.ntmps109;go_wp2;go_ret2
   exact⟨rfl,rfl⟩
 · have g1:a=0:=by omega
   subst g1;go_enter Tryz.func109,Tryz.ntmps109;go_wp2;go_ret2
   exact⟨XO (by omega) rfl,rfl⟩
theorem jaS (a b:Int) (w:World) (h:a<0∨b<0):Calls Tryz.prog 87 #[.int .i64 a,.int .i64 b] w (jbR .i64 0 0 1 w):=by
 by_cases h1:a<0
 · go_enter Tryz.func87,Tryz.ntmps87;go_wp2;go_ret3
   exact⟨rfl,Kept.refl _⟩
 · have h2:b<0:=by omega
   go_enter Tryz.func87,Tryz.ntmps87;go_wp2;go_ret3
   exact⟨rfl,Kept.refl _⟩
theorem jaI (a b:Int) (w:World) (ha:0≤a) (hb:0≤b) (ha':a≤9223372036854775807) (hb':b≤9223372036854775807) (h:9223372036854775807<jZ a b):Calls Tryz.prog 87 #[.int .i64 a,.int .i64 b] w (jbR .i64 0 0 5 w):=by
 have e:=Xp a b;have x0:0≤a*(b / 1000):=jS ha (by omega);have x1:0≤a / 1000*(b % 1000):=jS (by omega) (by omega);have x2:0≤a % 1000*(b % 1000):=jS (by omega) (by omega);have x3:a % 1000*(b % 1000)≤999*999:=Int.mul_le_mul (by omega) (by omega) (by omega) (by omega);have y0:0≤b / 1000:=by omega
 have y1:b / 1000≤9223372036854775807:=by omega
 have y2:0≤a / 1000:=by omega
 have y3:a / 1000≤9223372036854775807:=by omega
 have y4:0≤b % 1000:=by omega
 have y5:b % 1000≤9223372036854775807:=by omega
 have he:=h;rw[e] at he;clear e h;by_cases c1:9223372036854775807<a*(b / 1000)
 · clear he x2 x3;go_enter Tryz.func87,Tryz.ntmps87;go_wp2_with fail
   refine(YE _ _ _ ha y0 ha' y1 c1).mono ?_;rintro e1 w1 ⟨rfl,rfl⟩;go_wp2_with fail
   go_ret3
   exact⟨rfl,Kept.refl _⟩
 · have c1':a*(b / 1000)≤9223372036854775807:=by omega
   by_cases c2:9223372036854775807<a / 1000*(b % 1000)
   · clear he;go_enter Tryz.func87,Tryz.ntmps87;go_wp2_with fail
     refine(zW _ _ _ ha y0 ha' y1 c1').mono ?_;rintro e1 w1 ⟨rfl,rfl⟩;go_wp2_with fail
     refine(YE _ _ _ y2 y4 y3 y5 c2).mono ?_;rintro e1 w1 ⟨rfl,rfl⟩;go_wp2_with fail
     go_ret3
     exact⟨rfl,Kept.refl _⟩
   · have c2':a / 1000*(b % 1000)≤9223372036854775807:=by omega
     by_cases c3:9223372036854775807<a*(b / 1000)+a / 1000*(b % 1000)
     · clear he;go_enter Tryz.func87,Tryz.ntmps87;go_wp2_with fail
       refine(zW _ _ _ ha y0 ha' y1 c1').mono ?_;rintro e1 w1 ⟨rfl,rfl⟩;go_wp2_with fail
       refine(zW _ _ _ y2 y4 y3 y5 c2').mono ?_;rintro e1 w1 ⟨rfl,rfl⟩;go_wp2_with fail
       refine(YM _ _ _ x0 x1 c2' c3).mono ?_;rintro e1 w1 ⟨rfl,rfl⟩;go_wp2_with fail
       go_ret3
       exact⟨rfl,Kept.refl _⟩
     · have c3':a*(b / 1000)+a / 1000*(b % 1000)≤9223372036854775807:=by omega
       have c4:0≤a*(b / 1000)+a / 1000*(b % 1000):=by omega
       have c5:a % 1000*(b % 1000) / 1000≤9223372036854775807:=by omega
       go_enter Tryz.func87,Tryz.ntmps87;go_wp2_with fail
       refine(zW _ _ _ ha y0 ha' y1 c1').mono ?_;rintro e1 w1 ⟨rfl,rfl⟩;go_wp2_with fail
       refine(zW _ _ _ y2 y4 y3 y5 c2').mono ?_;rintro e1 w1 ⟨rfl,rfl⟩;go_wp2_with fail
       refine(Yt _ _ _ x0 x1 c3').mono ?_;rintro e1 w1 ⟨rfl,rfl⟩;go_wp2_with fail
       refine(YM _ _ _ c4 (by omega) c5 he).mono ?_;rintro e1 w1 ⟨rfl,rfl⟩;go_wp2_with fail
       go_ret3
       exact⟨rfl,Kept.refl _⟩
theorem jbT (a b:Int) (w:World) (ha:0≤a) (hb:0≤b) (ha':a≤9223372036854775807) (hb':b≤9223372036854775807) (h:jZ a b≤9223372036854775807):Calls Tryz.prog 87 #[.int .i64 a,.int .i64 b] w (jbR .i64 (jZ a b) (JG a b) 0 w):=by
 have e:=Xp a b;have x0:0≤a*(b / 1000):=jS ha (by omega);have x1:0≤a / 1000*(b % 1000):=jS (by omega) (by omega);have x2:0≤a % 1000*(b % 1000):=jS (by omega) (by omega);have x3:a % 1000*(b % 1000)≤999*999:=Int.mul_le_mul (by omega) (by omega) (by omega) (by omega);have y0:0≤b / 1000:=by omega
 have y1:b / 1000≤9223372036854775807:=by omega
 have y2:0≤a / 1000:=by omega
 have y3:a / 1000≤9223372036854775807:=by omega
 have y4:0≤b % 1000:=by omega
 have y5:b % 1000≤9223372036854775807:=by omega
 have he:=h;rw[e] at he;have c1':a*(b / 1000)≤9223372036854775807:=by omega
 have c2':a / 1000*(b % 1000)≤9223372036854775807:=by omega
 have c3':a*(b / 1000)+a / 1000*(b % 1000)≤9223372036854775807:=by omega
 have c4:0≤a*(b / 1000)+a / 1000*(b % 1000):=by omega
 have E:=lH e.symm;have R:=lH (ja8 a b).symm;clear e h;go_enter Tryz.func87,Tryz.ntmps87;go_wp2_with fail
 refine(zW _ _ _ ha y0 ha' y1 c1').mono ?_;rintro e1 w1 ⟨rfl,rfl⟩;go_wp2_with fail
 refine(zW _ _ _ y2 y4 y3 y5 c2').mono ?_;rintro e1 w1 ⟨rfl,rfl⟩;go_wp2_with fail
 refine(Yt _ _ _ x0 x1 c3').mono ?_;rintro e1 w1 ⟨rfl,rfl⟩;go_wp2_with fail
 refine(Yt _ _ _ c4 (by omega) he).mono ?_;rintro e1 w1 ⟨rfl,rfl⟩;go_wp2_with fail
 go_ret3
 exact⟨ja1 E.out R.out rfl,Kept.refl _⟩
theorem ja5 (a b:Int) (w:World) (h:a<0∨b<0):Calls Tryz.prog 64 #[.int .i64 a,.int .i64 b] w (Ans 0 1 w):=by
 go_enter Tryz.func64,Tryz.ntmps64;go_wp2_with fail
 refine(jaS _ _ _ h).mono ?_;rintro e1 w1 ⟨rfl,hk⟩;go_wp2_with fail
 go_ret2
 exact⟨rfl,hk⟩
theorem jad (a b:Int) (w:World) (ha:0≤a) (hb:0≤b) (ha':a≤9223372036854775807) (hb':b≤9223372036854775807) (h:9223372036854775807<jZ a b):Calls Tryz.prog 64 #[.int .i64 a,.int .i64 b] w (Ans 0 5 w):=by
 go_enter Tryz.func64,Tryz.ntmps64;go_wp2_with fail
 refine(jaI _ _ _ ha hb ha' hb' h).mono ?_;rintro e1 w1 ⟨rfl,hk⟩;go_wp2_with fail
 go_ret2
 exact⟨rfl,hk⟩
theorem jbY (a b:Int) (w:World) (ha:0≤a) (hb:0≤b) (ha':a≤9223372036854775807) (hb':b≤9223372036854775807) (h:jZ a b≤9223372036854775807):Calls Tryz.prog 64 #[.int .i64 a,.int .i64 b] w (Ans (jZ a b) 0 w):=by
 go_enter Tryz.func64,Tryz.ntmps64;go_wp2_with fail
 refine(jbT _ _ _ ha hb ha' hb' h).mono ?_;rintro e1 w1 ⟨rfl,hk⟩;go_wp2_with fail
 go_ret2
 exact⟨rfl,hk⟩
theorem jcx (x y:Int) (w:World) (h:0≤x) (h':x≤9223372036854775807) (g:-9223372036854775808≤y) (g':y≤9223372036854775807) :
 Calls Tryz.prog 64 #[.int .i64 x,.int .i64 y] w (Ans (jj x y).1 (jj x y).2 w):=by
 unfold jj;by_cases h1:y<0
 · rw[if_pos h1];exact ja5 x y w (.inr h1)
 · rw[if_neg h1];by_cases h2:jZ x y≤9223372036854775807
   · rw[if_pos h2];exact jbY x y w h (by omega) h' g' h2
   · rw[if_neg h2];exact jad x y w h (by omega) h' g' (by omega)
def Told (c:Int) (m:V) (w:World) (e:Ending) (w':World):Prop:=∃x,e=.returned (.tuple #[x,.int .i64 c])∧jq 74 w' w.heap.size x m∧Kept w w'
theorem Told.none {c:Int} {w w':World} (k:Kept w w'):Told c [] w (.returned (.tuple #[.slice none 0 0,.int .i64 c])) w':=⟨_,rfl,jq.nil _ _ _,k⟩
theorem jbZ (a:Option Addr) (len cap:Nat) (l:V) (n:ByteArray) (w:World) (hr:jw w a len l) :
 Calls Tryz.prog 42 #[.slice a len cap,.string n] w fun e w'=>e=.returned (.int .i64 (jT l n))∧Kept w w':=by
 have hl:=hr.1;have hm:=hr.2.1;unfold maxLen at hm;rcases hr.form with h0 | ⟨b,off,rfl⟩
 · subst h0;have HE:=lH (show jT l n=0 by rw[List.eq_nil_of_length_eq_zero hl];rfl);clear hr hl;go_enter Tryz.func42,Tryz.ntmps42;go_wp2;refine wp_loop_rounds 1 ?_;rw[rounds_succ];go_wp2;go_ret;exact⟨jd HE.out.symm,Kept.refl _⟩
 · have HR:=lH hr;have HL:=lH hl;clear hr hl;go_enter Tryz.func42,Tryz.ntmps42;go_wp2;go_loopw [5] (fun i wr=>∃k:Nat,k≤len∧i=.int .i64 k∧jT (l.drop k) n=jT l n∧Kept w wr) (fun i _=>len-(intOf i).toNat)
   case atStart=>exact⟨0,Nat.zero_le _,rfl,rfl,Kept.refl _⟩
   case round =>
    obtain⟨k,hk,rfl,hrest,hK⟩:=hrel;have HK:=lH hK;have HS:=lH hrest;by_cases hlt:k<len
    · obtain⟨hb,c1,c2⟩:=(HR.out.kept hK).cells hlt;clear hK hrest;have HI:=lH (show k<l.length by rw[HL.out];exact hlt);by_cases e:eqS (nm l k) n=true
      · have E:=lH e;have e':((nm l k).toList==n.toList)=true:=e;clear e;go_wp2;go_ret;exact⟨jd (HS.out.symm.trans (XA HI.out E.out)).symm,HK.out⟩
      · have e:eqS (nm l k) n=false:=by simpa using e
        have E:=lH e;have e':((nm l k).toList==n.toList)=false:=e;clear e;go_wp2;go_roundw
        case rel=>exact⟨k+1,by omega,by go_num,(XS HI.out E.out).symm.trans HS.out,HK.out⟩
        case measure=>simp[intOf];omega
    · have HI:=lH (show ¬k<l.length by rw[HL.out];exact hlt);clear hK hrest;go_wp2;go_ret;exact⟨jd (HS.out.symm.trans (qR HI.out)).symm,HK.out⟩
theorem jbw (a a':Option Addr) (len cap len' cap':Nat) (l l':V) (w:World) (hr:jw w a len l) (hr':jw w a' len' l') :
 Calls Tryz.prog 19 #[.slice a len cap,.slice a' len' cap'] w fun e w'=>e=.returned (.bool (jx l l'))∧Kept w w':=by
 have hl:=hr.1;have hm:=hr.2.1;have hl':=hr'.1;have hm':=hr'.2.1;unfold maxLen at hm hm';by_cases hll:len=len'
 · subst hll;rcases hr.form with h0 | ⟨b,off,rfl⟩
   · subst h0;have HE:=lH (show jx l l'=true by rw[List.eq_nil_of_length_eq_zero hl,List.eq_nil_of_length_eq_zero hl'];rfl);clear hr hl hr' hl';go_enter Tryz.func19,Tryz.ntmps19;go_wp2;refine wp_loop_rounds 1 ?_;rw[rounds_succ];go_wp2;go_ret;exact⟨js HE.out.symm,Kept.refl _⟩
   · rcases hr'.form with h0 | ⟨b',off',rfl⟩
     · subst h0;have HE:=lH (show jx l l'=true by rw[List.eq_nil_of_length_eq_zero hl,List.eq_nil_of_length_eq_zero hl'];rfl);clear hr hl hr' hl';go_enter Tryz.func19,Tryz.ntmps19;go_wp2;refine wp_loop_rounds 1 ?_;rw[rounds_succ];go_wp2;go_ret;exact⟨js HE.out.symm,Kept.refl _⟩
     · have HR:=lH hr;have HL:=lH hl;have HR':=lH hr';have HL':=lH hl';clear hr hl hr' hl';go_enter Tryz.func19,Tryz.ntmps19;go_wp2;go_loopw [5] (fun i wr=>∃k:Nat,k≤len∧i=.int .i64 k∧jx (l.drop k) (l'.drop k)=jx l l'∧Kept w wr) (fun i _=>len-(intOf i).toNat)
       case atStart=>exact⟨0,Nat.zero_le _,rfl,rfl,Kept.refl _⟩
       case round =>
        obtain⟨k,hk,rfl,hrest,hK⟩:=hrel;have HS:=lH hrest;have HK:=lH hK;by_cases hlt:k<len
        · obtain⟨hb,c1,c2⟩:=(HR.out.kept hK).cells hlt;obtain⟨hb',d1,d2⟩:=(HR'.out.kept hK).cells hlt;clear hrest hK;have HI:=lH (show k<l.length by rw[HL.out];exact hlt);have HI':=lH (show k<l'.length by rw[HL'.out];exact hlt);by_cases e1:eqS (nm l k) (nm l' k)=true
          · have E1:=lH e1;have e1':((nm l k).toList==(nm l' k).toList)=true:=e1;clear e1;by_cases e2:qn l k=qn l' k
            · have E:=lH (show jx (l.drop k) (l'.drop k)=jx (l.drop (k+1)) (l'.drop (k+1)) by
               rw[drop_cons HI.out,drop_cons HI'.out,jx,E1.out,decide_eq_true e2];rfl)
              have e2':(qn l k==qn l' k)=true:=by simpa using e2
              clear e2;go_wp2;go_quiet (fail)
              go_wp2;go_roundw
              case rel=>exact⟨k+1,by omega,by go_num,E.out.symm.trans HS.out,HK.out.trans (Kept.drewN _ _)⟩
              case measure=>simp[intOf];omega
            · have E:=lH (show jx (l.drop k) (l'.drop k)=false by
               rw[drop_cons HI.out,drop_cons HI'.out,jx,E1.out,decide_eq_false e2];rfl)
              have e2':(qn l k==qn l' k)=false:=by simpa using e2
              clear e2;go_wp2;go_quiet (fail)
              go_wp2;go_ret;exact⟨js (HS.out.symm.trans E.out).symm,HK.out.trans (Kept.drewN _ _)⟩
          · have e1:eqS (nm l k) (nm l' k)=false:=by simpa using e1
            have E:=lH (show jx (l.drop k) (l'.drop k)=false by
             rw[drop_cons HI.out,drop_cons HI'.out,jx,e1];rfl)
            have e1':((nm l k).toList==(nm l' k).toList)=false:=e1;clear e1;go_wp2;go_quiet (fail)
            go_wp2;go_ret;exact⟨js (HS.out.symm.trans E.out).symm,HK.out.trans (Kept.drewN _ _)⟩
        · have E:=lH (show jx (l.drop k) (l'.drop k)=true by
           rw[List.drop_of_length_le (by rw[HL.out];omega),List.drop_of_length_le (by rw[HL'.out];omega),jx])
          clear hrest hK;go_wp2;go_ret;exact⟨js (HS.out.symm.trans E.out).symm,HK.out⟩
 · have HV:=lH (show jx l l'=false from same_length (by omega));clear hr hl hr' hl';have hn:((len:Int) != (len':Int))=true:=by
    simp only[bne_iff_ne,ne_eq];omega
   clear hll;go_enter Tryz.func19,Tryz.ntmps19;go_wp2;go_ret;exact⟨js HV.out.symm,Kept.refl _⟩
theorem jq.reads {e:TypeId} {w:World} {B:Nat} {v:Value} {l:V} (h:jq e w B v l):Reads w v l:=h.at_
theorem jaM {v v':Value} {l l':V} {c:Bool} {w:World} (h:Reads w v l) (h':Reads w v' l') (e:jx l l'=c) :
 Calls Tryz.prog 19 #[v,v'] w fun x w'=>x=.returned (.bool c)∧Kept w w':=by
 subst e;obtain⟨a,cap,rfl,h1,h2,h3⟩:=h;obtain⟨a',cap',rfl,h1',h2',h3'⟩:=h';exact jbw a a' _ cap _ cap' l l' w h3 h3'
theorem jda {v:Value} {l:V} {n:ByteArray} {c:Int} {w:World} (h:Reads w v l) (e:jT l n=c) :
 Calls Tryz.prog 42 #[v,.string n] w fun x w'=>x=.returned (.int .i64 c)∧Kept w w':=by
 subst e;obtain⟨a,cap,rfl,h1,h2,h3⟩:=h;exact jbZ a _ cap l n w h3
theorem jc2 {n:ByteArray} {c:Bool} {w:World} (h:n.size≤maxLen) (e:isName n=c) :
 Calls Tryz.prog 32 #[.string n] w fun x w'=>x=.returned (.bool c)∧w=w':=by
 subst e;exact zi n w h
theorem ofL {v:Value} {l:V} {w:World} (h:Reads w v l) (hl:l.length≤1000000) :
 Calls Tryz.prog 13 #[v] w fun e w'=>∃x,e=.returned x∧Reads w' x l∧Kept w w':=by
 obtain⟨a,cap,rfl,h1,h2,h3⟩:=h;exact jc0 a _ cap l w h3 hl
end Go.Proofs.YtnfojaidmnccoaaGreatDoor.Vec
namespace Go.Proofs.YtnfojaidmnccoaaGreatDoor
open Go.RowKit
structure Nod where
 name:ByteArray
 cap:Vec.V
 labels:PL
 taints:NL
 cordon:Bool
def Nod.zero:Nod:=⟨ByteArray.empty,[],[],[],false⟩
abbrev jdu (n:Nod) (v1 v2 v3:Value):Value:=.agg #[.string n.name,v1,v2,v3,.bool n.cordon]
structure Xb (w:World) (v1 v2 v3:Value) (n:Nod):Prop where
 size:n.name.size≤maxLen
 cap:Vec.Reads w v1 n.cap
 labels:Reads qM w v2 n.labels
 taints:Reads jcc w v3 n.taints
theorem Xb.kept {w w':World} {v1 v2 v3:Value} {n:Nod} (h:Xb w v1 v2 v3 n) (k:Kept w w'):Xb w' v1 v2 v3 n:=⟨h.size,h.cap.kept k,h.labels.kept k,h.taints.kept k⟩
def jaJ (w:World) (v:Value) (n:Nod):Prop:=∃v1 v2 v3,v=jdu n v1 v2 v3∧Xb w v1 v2 v3 n
theorem jaJ.kept {w w':World} {v:Value} {n:Nod} (h:jaJ w v n) (k:Kept w w'):jaJ w' v n:=by
 obtain⟨v1,v2,v3,e,h⟩:=h;exact⟨v1,v2,v3,e,h.kept k⟩
end Go.Proofs.YtnfojaidmnccoaaGreatDoor
namespace Go.Proofs.YtnfojaidmnccoaaGreatDoor.Vec
open Go.RowKit Go.Proofs.YtnfojaidmnccoaaGreatDoor
def Js (u:Nat):List UInt8:=if u<10 then [] else Lib.decDigits (u / 10)
theorem Yh (u:Nat):Lib.decDigits u=Js u++[UInt8.ofNat (48+u % 10)]:=by
 unfold Js;by_cases h:u<10
 · rw[Lib.decDigits,dif_pos h,if_pos h,Nat.mod_eq_of_lt h];rfl
 · rw[Lib.decDigits,dif_neg h,if_neg h]
def dig (d:Int):UInt8:=UInt8.ofNat d.toNat
theorem qL (u:Nat):dig (48+(u:Int) % 10)=UInt8.ofNat (48+u % 10):=by
 unfold dig;rw[show (48+(u:Int) % 10).toNat=48+u % 10 by omega]
theorem jb9 (W:World) (d:Int):Sem.run Tryz.prog (convert 65 9 (.slice (some ⟨W.heap.size,0,none⟩) 1 1)) (W.alloc (.cells #[.int .u8 d] 5))=.ok (.string (bytes [dig d])) (W.alloc (.cells #[.int .u8 d] 5)) :=
 run_convert_bytes_arg (W.alloc (.cells #[.int .u8 d] 5)) 65 5 Tryz.underlying65 Tryz.underlying5 W.heap.size 0 1 1 [d] rfl (fun i hi=>by
  obtain rfl:i=0:=by omega
  have hh:=W.alloc_heap_new (.cells #[.int .u8 d] 5);rw[Lib.cell_of_heap hh];rfl) 9 Tryz.underlying9
theorem jaN:∀(k u:Nat),u<10 ^ (k+1)→(Lib.decDigits u).length≤k+1
 | 0,u,h=>by rw[Lib.decDigits,dif_pos (by simpa using h)];simp
 | k+1,u,h=>by
  by_cases h10:u<10
  · rw[Lib.decDigits,dif_pos h10];simp
  · rw[Lib.decDigits,dif_neg h10,List.length_append];have:=jaN k (u / 10) (by rw[Nat.pow_succ] at h;omega);simp;omega
theorem Xj {u:Nat} (h:u≤9223372036854775808):(Lib.decDigits u).length≤19:=jaN 18 u (Nat.lt_of_le_of_lt h (by decide))
theorem YO (x y:List UInt8):bytes x++bytes y=bytes (x++y):=by
 apply Go.WideShapes.bytes_inj;simp[bytes,ByteArray.data_append]
theorem qW (u:Nat) (w:World) (hu:u≤9223372036854775807) :
 Calls Tryz.prog 47 #[.int .i64 (u:Int)] w fun e w'=>e=.returned (.string (bytes (Lib.decDigits u)))∧Kept w w':=by
 have hn:¬(u:Int)<0:=by omega
 have cv:=jb9;go_enter Tryz.func47,Tryz.ntmps47;go_wp2;go_loopw [0,3] (fun n s wr=>∃(v:Nat) (t:List UInt8),v≤u∧n=.int .i64 v∧s=.string (bytes t)∧Hid (Lib.decDigits u=Js v++t)∧Kept w wr) (fun n _ _=>(intOf n).toNat)
 case atStart =>
  refine⟨u,[UInt8.ofNat (48+u % 10)],Nat.le_refl _,rfl,?_,lH (Yh u),ja _ _⟩;rw[qL]
 case round =>
  obtain⟨v,t,hv,rfl,rfl,HT,hK⟩:=hrel;have HK:=lH hK;clear hK;by_cases h10:v<10
  · have HE:=lH (show Lib.decDigits u=t by rw[HT];unfold Js;rw[if_pos h10];rfl);go_wp2;go_ret;rw[HE.out];exact⟨rfl,HK.out⟩
  · obtain⟨q,hq⟩:=eX (v / 10)
    have hqi:(v:Int) / 10=(q:Int):=by omega
    have hge:(10:Int)≤(v:Int):=by omega
    have hsz:(bytes [dig (48+(q:Int) % 10)]).size=1:=by simp[bytes,ByteArray.size]
    have hst:(bytes t).size=t.length:=jn t;have hlen:t.length≤19:=by
     have h1:=congrArg List.length HT;rw[List.length_append] at h1;have:=Xj (u:=u) (by omega);omega
    have HN:=lH (show Lib.decDigits u=Js q++(dig (48+(q:Int) % 10)::t) by
     rw[HT,qL];have:Js v=Lib.decDigits q:=by unfold Js;rw[if_neg h10,hq]
     rw[this,Yh q];simp)
    clear HT;go_wp2;go_roundw
    case rel =>
     refine⟨q,dig (48+(q:Int) % 10)::t,by omega,rfl,?_,HN,HK.out.trans (ja _ _)⟩;rw[YO];rfl
    case measure=>simp[intOf];omega
theorem jaD:bytes (Lib.itoa (-9223372036854775808))=⟨#[45,57,50,50,51,51,55,50,48,51,54,56,53,52,55,55,53,56,48,56]⟩:=by
 simp[Lib.itoa,Lib.decDigits,bytes]
theorem zk (n:Int) (w:World) (h1:-9223372036854775808≤n) (h2:n≤9223372036854775807) :
 Calls Tryz.prog 47 #[.int .i64 n] w fun e w'=>e=.returned (.string (bytes (Lib.itoa n)))∧Kept w w':=by
 by_cases h0:0≤n
 · obtain⟨u,rfl⟩:∃u:Nat,n=(u:Int):=⟨n.toNat,by omega⟩
   have e:Lib.itoa (u:Int)=Lib.decDigits u:=by unfold Lib.itoa;rw[if_neg (by omega)];rfl
   rw[e];exact qW u w (by omega)
 · by_cases hm:n=-9223372036854775808
   · subst hm;have HV:=lH jaD;clear h0 h1 h2;go_enter Tryz.func47,Tryz.ntmps47;go_wp2;go_ret;rw[HV.out];exact⟨rfl,Kept.refl _⟩
   · obtain⟨u,hu⟩:∃u:Nat,-n=(u:Int):=⟨(-n).toNat,by omega⟩
     have e:Lib.itoa n=45::Lib.decDigits u:=by
      unfold Lib.itoa;rw[if_pos (by omega),show n.natAbs=u by omega]
     have HE:=lH e;have hs:(0:Int)-n=(u:Int):=by omega
     have hl:=Xj (u:=u) (by omega);have hsz:(bytes (Lib.decDigits u)).size=(Lib.decDigits u).length:=jn _;have hlt:n<0:=by omega
     have hne:(n==-9223372036854775808)=false:=by simpa using hm
     have HD:=lH (fun W=>qW u W (by omega));have hw:IntKind.i64.wrap (0-n)=(u:Int):=by rw[hs,IntKind.wrap_i64];omega
     clear e hu h0;go_enter Tryz.func47,Tryz.ntmps47;go_wp2_with fail
     refine(HD.out _).mono ?_;rintro e w1 ⟨rfl,k⟩;have K:=lH k;clear k;go_wp2;go_ret;rw[HE.out];exact⟨by rw[show (⟨#[45]⟩:ByteArray)=bytes [45] from rfl,YO];rfl,K.out⟩
theorem qe (acc:List UInt8) (x:ByteArray) (n:Int):bytes acc++x++⟨#[61]⟩++bytes (Lib.itoa n)=bytes (acc++(x.data.toList++([61]++Lib.itoa n))):=by
 apply Go.WideShapes.bytes_inj;simp[bytes,ByteArray.data_append]
theorem jb4 (acc:List UInt8):bytes acc++⟨#[44]⟩=bytes (acc++[44]):=by
 apply Go.WideShapes.bytes_inj;simp[bytes,ByteArray.data_append]
theorem ja9 (a:Option Addr) (len cap:Nat) (l:V) (w:World) (hr:jw w a len l) (hfew:j4 l=true) :
 Calls Tryz.prog 46 #[.slice a len cap] w fun e w'=>e=.returned (.string (bytes (jz l)))∧Kept w w':=by
 have hl:=hr.1;have hf:=hr.2.2.1;unfold j4 at hfew;simp only[Bool.and_eq_true,decide_eq_true_eq] at hfew;have h20:len≤20:=by omega
 by_cases h0:len=0
 · subst h0;have HE:=lH (show jz l=[45] by rw[List.eq_nil_of_length_eq_zero hl];rfl);clear hr hl hf hfew;go_enter Tryz.func46,Tryz.ntmps46;go_wp2;go_ret;exact⟨by rw[HE.out];rfl,Kept.refl _⟩
 · obtain⟨b,off,rfl⟩:=hr.form.resolve_left h0;have hne:((len:Int)==0)=false:=by
    have:(len:Int)≠0:=by omega
    simpa using this
   obtain⟨HV,HS,HF,HR,HL⟩:=lH5 (show jz l=jg true l by unfold jz;rw[if_neg (by intro e;rw[e] at hl;simp at hl;omega)]) (fun k (hk:k<l.length)=>Jg hfew.2 hk) hf hr hl;clear hr hl hf hfew h0;go_enter Tryz.func46,Tryz.ntmps46;go_wp2;go_loopw [3,4] (fun s i wr=>∃(k:Nat) (acc:List UInt8),k≤len∧i=.int .i64 k∧s=.string (bytes acc)∧acc++jg (decide (k=0)) (l.drop k)=jg true l∧acc.length≤k*80∧Kept w wr) (fun _ i _=>len-(intOf i).toNat)
   case atStart=>exact⟨0,[],Nat.zero_le _,rfl,rfl,rfl,Nat.le_refl _,Kept.refl _⟩
   case round =>
    obtain⟨k,acc,hk,rfl,rfl,hrest,hacc,hB⟩:=hrel;have HB:=lH hB;by_cases hlt:k<len
    · have HI:=lH (show k<l.length by rw[HL.out];exact hlt);have hs50:=HS.out k HI.out;have hq:=(HF.out k HI.out).2;have hit:=Lib.itoa_length_le (qn l k) hq.1 hq.2;have hszn:(nm l k).data.toList.length=(nm l k).size:=by rw[Array.length_toList,ByteArray.size_data]
      obtain⟨x,hx⟩:=eX (nm l k)
      obtain⟨n,hn⟩:=eX (qn l k)
      have Vc:=lH (show acc++(if decide (k=0)=true then [] else [44])++(x.data.toList++([61]++Lib.itoa n))++jg (decide (k+1=0)) (l.drop (k+1))=jg true l by
       rw[←hrest,drop_cons HI.out,hx,hn];simp[jg,List.append_assoc])
      have HC:=lH (show ∀W,Kept wr W→W.cell? ⟨b,off+k*2,none⟩=some (.string x)∧W.cell? ⟨b,off+k*2+1,none⟩=some (.int .i64 n) from fun W kk=>by
       have:=((HR.out.kept hB).kept kk).cells hlt;rw[hx,hn] at this;exact this.2)
      rw[hx] at hs50 hszn;rw[hn] at hq hit;have HD:=lH (fun W=>zk n W hq.1 hq.2);have hk1:(k:Int)<(len:Int):=by omega
      have hax:acc.length≤2000:=by
       have:k*80≤20*80:=Nat.mul_le_mul_right _ (by omega);omega
      have hsd:(bytes (Lib.itoa n)).size≤21:=hit;have hnew:∀z:List UInt8,z.length≤acc.length+1→(z++(x.data.toList++([61]++Lib.itoa n))).length≤(k+1)*80:=fun z hz=>by
       simp only[List.length_append,List.length_cons,List.length_nil,hszn];omega
      have VV:=lH hnew;clear hrest hB hx hn hszn hit hq hnew hk;obtain⟨c1,c2⟩:=HC.out _ (Kept.refl _);by_cases hk0:k=0
      · have hd:decide (0<k)=false:=by subst hk0;decide
        have Vc:=lH (show acc++(x.data.toList++([61]++Lib.itoa n))++jg (decide (k+1=0)) (l.drop (k+1))=jg true l by
         have:=Vc.out;rw[decide_eq_true hk0] at this;simpa using this)
        have Vd:=lH (VV.out acc (by omega));have HP:=lH (qe acc x n);obtain⟨S,hS⟩:=eX (bytes acc)
        have hSs:S.size=acc.length:=by rw[←hS];exact jn _
        rw[hS] at HP ⊢;obtain⟨D,hD⟩:=eX (bytes (Lib.itoa n))
        rw[hD] at HP hsd HD;have adz:(⟨#[61]⟩:ByteArray).size=1:=rfl;have ad1:∀W,(Op.stringOp .add S x).run Tryz.prog W=.ok (.string (S++x)) W:=fun W=>run_string_add_sum W _ _ (by omega);have ad2:∀W,(Op.stringOp .add (S++x) (⟨#[61]⟩:ByteArray)).run Tryz.prog W=.ok (.string (S++x++(⟨#[61]⟩:ByteArray))) W:=fun W=>run_string_add_sum W _ _ (by rw[ByteArray.size_append];omega);have ad3:∀W,(Op.stringOp .add (S++x++(⟨#[61]⟩:ByteArray)) D).run Tryz.prog W=.ok (.string (S++x++(⟨#[61]⟩:ByteArray)++D)) W:=fun W=>run_string_add_sum W _ _ (by rw[ByteArray.size_append,ByteArray.size_append];omega);clear hS hD hSs adz hsd hs50 hax hk0 VV;go_wp2
        go_region_held3 (fun W=>W.cell? ⟨b,off+k*2,none⟩=some (.string x)∧W.cell? ⟨b,off+k*2+1,none⟩=some (.int .i64 n))
         (first | exact HC.out _ (Kept.drew _) | exact HC.out _ ((Kept.drew _).trans k1))
         (first | (go_at_call 47;refine(HD.out _).mono ?_;rintro e1 w1 ⟨rfl,k1⟩))
        go_wp2;go_roundw
        case rel=>exact⟨k+1,_,by omega,by go_num,congrArg Value.string HP.out,Vc.out,Vd.out,HB.out.trans ((Kept.drew _).trans k1)⟩
        case measure=>simp[intOf];omega
      · have hd:decide (0<k)=true:=by simp;omega
        have Vc:=lH (show (acc++[44])++(x.data.toList++([61]++Lib.itoa n))++jg (decide (k+1=0)) (l.drop (k+1))=jg true l by
         have:=Vc.out;rw[decide_eq_false hk0] at this;simpa using this)
        have Vd:=lH (VV.out (acc++[44]) (by simp));have HP:=lH (qe (acc++[44]) x n);rw[←jb4] at HP;obtain⟨S,hS⟩:=eX (bytes acc)
        have hSs:S.size=acc.length:=by rw[←hS];exact jn _
        rw[hS] at HP ⊢;obtain⟨D,hD⟩:=eX (bytes (Lib.itoa n))
        rw[hD] at HP hsd HD;have adz:(⟨#[61]⟩:ByteArray).size=1:=rfl;have adc:(⟨#[44]⟩:ByteArray).size=1:=rfl;have ad0:∀W,(Op.stringOp .add S (⟨#[44]⟩:ByteArray)).run Tryz.prog W=.ok (.string (S++(⟨#[44]⟩:ByteArray))) W:=fun W=>run_string_add_sum W _ _ (by omega);have ad1:∀W,(Op.stringOp .add (S++(⟨#[44]⟩:ByteArray)) x).run Tryz.prog W=.ok (.string (S++(⟨#[44]⟩:ByteArray)++x)) W:=fun W=>run_string_add_sum W _ _ (by rw[ByteArray.size_append];omega);have ad2:∀W,(Op.stringOp .add (S++(⟨#[44]⟩:ByteArray)++x) (⟨#[61]⟩:ByteArray)).run Tryz.prog W=.ok (.string (S++(⟨#[44]⟩:ByteArray)++x++(⟨#[61]⟩:ByteArray))) W:=fun W=>run_string_add_sum W _ _ (by rw[ByteArray.size_append,ByteArray.size_append];omega);have ad3:∀W,(Op.stringOp .add (S++(⟨#[44]⟩:ByteArray)++x++(⟨#[61]⟩:ByteArray)) D).run Tryz.prog W=.ok (.string (S++(⟨#[44]⟩:ByteArray)++x++(⟨#[61]⟩:ByteArray)++D)) W:=fun W=>run_string_add_sum W _ _ (by rw[ByteArray.size_append,ByteArray.size_append,ByteArray.size_append];omega);clear hS hD adz adc hsd hs50 hk0 VV;go_wp2
        go_region_held3 (fun W=>W.cell? ⟨b,off+k*2,none⟩=some (.string x)∧W.cell? ⟨b,off+k*2+1,none⟩=some (.int .i64 n))
         (first | exact HC.out _ (Kept.drew _) | exact HC.out _ ((Kept.drew _).trans k1))
         (first | (go_at_call 47;refine(HD.out _).mono ?_;rintro e1 w1 ⟨rfl,k1⟩))
        go_wp2;go_roundw
        case rel=>exact⟨k+1,_,by omega,by go_num,congrArg Value.string HP.out,Vc.out,Vd.out,HB.out.trans ((Kept.drew _).trans k1)⟩
        case measure=>simp[intOf];omega
    · have HE:=lH (show jz l=acc by
       rw[HV.out,←hrest,List.drop_of_length_le (by rw[HL.out];omega),jg,List.append_nil])
      clear hrest hB;go_wp2;go_ret;exact⟨congrArg (fun z=>Ending.returned (.string (bytes z))) HE.out.symm,HB.out⟩
theorem jcH {v:Value} {l:V} {s:List UInt8} {w:World} (h:Reads w v l) (hf:j4 l=true) (e:jz l=s) :
 Calls Tryz.prog 46 #[v] w fun x w'=>x=.returned (.string (bytes s))∧Kept w w':=by
 subst e;obtain⟨a,cap,rfl,h1,h2,h3⟩:=h;exact ja9 a _ cap l w h3 hf
end Go.Proofs.YtnfojaidmnccoaaGreatDoor.Vec
namespace Go.Proofs.YtnfojaidmnccoaaGreatDoor
open Go.RowKit
theorem jbM {l:PL} (h:Yy l=0):l.length≤8:=by
 unfold Yy at h;split at h
 · cases h
 · omega
theorem YV {x y:ByteArray} (hx:isName x=true) (hy:isName y=true) :
 (44:UInt8) ∉ (Jw (x,y)).data.toList∧Yu (Jw (x,y)).data.toList=false∧jao (Jw (x,y)).data.toList=(x,y):=by
 have e:(Jw (x,y)).data.toList=x.data.toList++58::y.data.toList:=jb2 x y 58;have nx:=YC hx;have ny:=YC hy;rw[e];refine⟨by simp[nx.2.2,ny.2.2],?_,?_⟩
 · unfold Yu;rw[Zy _ nx.1,JU];simp[ny.1]
 · unfold jao;rw[Zy _ nx.1,J4,J4]
theorem jbm {s:PL} (h:Yy s=0):∀x ∈ s,isName x.1=true∧isName x.2=true:=by
 have h2:JR none s=0:=by
  unfold Yy at h;split at h
  · cases h
  · exact h
 have key:∀(s:PL) (p:Option ByteArray),JR p s=0→∀x ∈ s,isName x.1=true∧isName x.2=true:=by
  intro s
  induction s with
  | nil=>intro _ _ x hx;cases hx
  | cons y t ih =>
   intro p hc x hx;unfold JR at hc;split at hc
   · cases hc
   · rename_i hn;split at hc
     · cases hc
     · rcases List.mem_cons.1 hx with rfl | hx
       · have:(isName x.1&&isName x.2)=true:=by simpa using hn
         rw[Bool.and_eq_true] at this;exact this
       · exact ih _ hc x hx
 exact key s none h2
theorem Zh {s:PL} (h:Yy s=0):jcn (jaH s).data.toList=(0,s):=by
 by_cases h0:s=[]
 · subst h0;rfl
 · have hn:=jbm h;have e:jaH s=JZ (s.map Jw):=by unfold jaH;rw[if_neg h0]
   rw[e];refine qt (jbM h) h0 h (fun x hx=>YV (hn x hx).1 (hn x hx).2) ?_;intro x hx h45;have:=(YV (hn x hx).1 (hn x hx).2).2.1;rw[show Jw (x.1,x.2)=Jw x from rfl,h45] at this;exact absurd this (by decide)
def Xg (B:Nat) (w:World) (v:Value) (n:Nod):Prop:=∃a1 m1 c1 a2 m2 c2 a3 m3 c3,v=.agg #[.string n.name,.slice a1 m1 c1,.slice a2 m2 c2,.slice a3 m3 c3,.bool n.cordon]∧n.name.size≤maxLen∧Vec.Reads w (.slice a1 m1 c1) n.cap∧Reads qM w (.slice a2 m2 c2) n.labels∧Reads jcc w (.slice a3 m3 c3) n.taints ∧
 (∀b off sp,a1=some ⟨b,off,sp⟩→B≤b)∧(∀b off sp,a2=some ⟨b,off,sp⟩→B≤b)∧(∀b off sp,a3=some ⟨b,off,sp⟩→B≤b)
theorem Xg.toR {B:Nat} {w:World} {v:Value} {n:Nod} (h:Xg B w v n):jaJ w v n:=by
 obtain⟨a1,m1,c1,a2,m2,c2,a3,m3,c3,e,h0,h1,h2,h3,_⟩:=h;exact⟨_,_,_,e,h0,h1,h2,h3⟩
def Yn (r:Int×Nod) (w:World) (e:Ending) (w':World):Prop:=(r.1=0→∃v,e=.returned v∧Xg w.heap.size w' v r.2)∧(r.1≠0→e=.panicked [jC r.1])∧Kept w w'
theorem Yn.good {r:Int×Nod} {w w':World} {v:Value} (h:r.1=0) (ho:Xg w.heap.size w' v r.2) (hb:Kept w w'):Yn r w (.returned v) w':=⟨fun _=>⟨v,rfl,ho⟩,fun g=>absurd h g,hb⟩
theorem Yn.bad {r:Int×Nod} {w w':World} {c:Int} (h:r.1=c) (hc:c≠0) (hb:Kept w w'):Yn r w (.panicked [jC c]) w':=⟨fun g=>absurd (h.symm.trans g) hc,fun _=>by rw[h],hb⟩
theorem Vec.JE.spelt {r:Int×Vec.V} {w w':World} {e:Ending} (h:Vec.JE r w e w'):∃a m cap,e=.returned (.tuple #[.slice a m cap,.int .i64 r.1])∧Vec.Reads w' (.slice a m cap) r.2∧(∀b off sp,a=some ⟨b,off,sp⟩→w.heap.size≤b∧b<w'.heap.size)∧Kept w w':=by
 obtain⟨v,rfl,ho,k⟩:=h;obtain⟨a,cap,rfl,h⟩:=ho.at_;exact⟨a,_,cap,rfl,⟨a,cap,rfl,h⟩,fun b off sp e=>ho.1.lt b (by subst e;rfl),k⟩
theorem XH (w:World) (v0 v1 v2 v3 v4:Value) (T:TypeId) (W:World) (k:Kept (w.alloc (.cells #[v0,v1,v2,v3,v4] T)) W) :
 (W.cell? ⟨w.heap.size,0,none⟩=some v0∧W.cell? ⟨w.heap.size,1,none⟩=some v1∧W.cell? ⟨w.heap.size,2,none⟩=some v2∧W.cell? ⟨w.heap.size,3,none⟩=some v3∧W.cell? ⟨w.heap.size,4,none⟩=some v4) ∧
 W.frozen? ⟨w.heap.size,0,none⟩=false∧W.frozen? ⟨w.heap.size,1,none⟩=false∧W.frozen? ⟨w.heap.size,2,none⟩=false∧W.frozen? ⟨w.heap.size,3,none⟩=false∧W.frozen? ⟨w.heap.size,4,none⟩=false:=by
 have hh:=w.alloc_heap_new (.cells #[v0,v1,v2,v3,v4] T);have hf:∀j,W.frozen? ⟨w.heap.size,j,none⟩=false:=fun j=>by
  have:=k.frozen (p:=⟨w.heap.size,j,none⟩) (by simp);rw[this];unfold World.frozen?;rw[show (w.alloc (.cells #[v0,v1,v2,v3,v4] T)).heap[(⟨w.heap.size,j,none⟩:Addr).block]?=some (.cells #[v0,v1,v2,v3,v4] T) from hh];simp
 exact⟨⟨cell_later k (by rw[Lib.cell_of_heap hh];rfl),cell_later k (by rw[Lib.cell_of_heap hh];rfl),cell_later k (by rw[Lib.cell_of_heap hh];rfl),cell_later k (by rw[Lib.cell_of_heap hh];rfl),cell_later k (by rw[Lib.cell_of_heap hh];rfl)⟩,hf 0,hf 1,hf 2,hf 3,hf 4⟩
theorem jax (W:World) (q:Nat) (u0 u1 u2 u3 u4:Value) (b:Nat) (h:b≠q) :
 (((((W.setCell ⟨q,0,none⟩ u0).setCell ⟨q,1,none⟩ u1).setCell ⟨q,2,none⟩ u2).setCell ⟨q,3,none⟩ u3).setCell ⟨q,4,none⟩ u4).heap[b]?=W.heap[b]? :=
 (Below.heap_setCell _ ⟨q,4,none⟩ _ b h).trans ((Below.heap_setCell _ ⟨q,3,none⟩ _ b h).trans ((Below.heap_setCell _ ⟨q,2,none⟩ _ b h).trans ((Below.heap_setCell _ ⟨q,1,none⟩ _ b h).trans (Below.heap_setCell _ ⟨q,0,none⟩ _ b h))))
theorem jbr (W:World) (q:Nat) (u0 u1 u2 u3 u4:Value) :
 (((((W.setCell ⟨q,0,none⟩ u0).setCell ⟨q,1,none⟩ u1).setCell ⟨q,2,none⟩ u2).setCell ⟨q,3,none⟩ u3).setCell ⟨q,4,none⟩ u4).heap.size=W.heap.size:=by simp[World.setCell]
theorem Reads.far {α:Type} {L:Lay α} {w w':World} {a:Option Addr} {m cap:Nat} {l:List α} (h:Reads L w (.slice a m cap) l) (hs:w'.heap.size=w.heap.size) (hb:∀b off sp,a=some ⟨b,off,sp⟩→w'.heap[b]?=w.heap[b]?):Reads L w' (.slice a m cap) l:=by
 obtain⟨a',cap',e,h1,h2,h3,h4,h5,h6⟩:=h
 cases e
 refine⟨a,cap,rfl,h1,h2,h3,h4,h5,h6.imp id ?_⟩;rintro ⟨b,off,rfl,hlt,hc⟩;exact⟨b,off,rfl,by rw[hs];exact hlt,fun i x j u hi hj=>(World.cell?_of_block (a:=⟨b,off+i*L.m+j,none⟩) (hb b off none rfl)).trans (hc i x j u hi hj)⟩
theorem Vec.Reads.far {w w':World} {a:Option Addr} {m cap:Nat} {l:Vec.V} (h:Vec.Reads w (.slice a m cap) l) (hs:w'.heap.size=w.heap.size) (hb:∀b off sp,a=some ⟨b,off,sp⟩→w'.heap[b]?=w.heap[b]?):Vec.Reads w' (.slice a m cap) l:=by
 obtain⟨a',cap',e,h1,h2,h3,h4,h5,h6⟩:=h
 cases e
 refine⟨a,cap,rfl,h1,h2,h3,h4,h5,h6.imp id ?_⟩;rintro ⟨b,off,rfl,hlt,hc⟩;exact⟨b,off,rfl,by rw[hs];exact hlt,fun i hi=>⟨(World.cell?_of_block (a:=⟨b,off+i*2,none⟩) (hb b off none rfl)).trans (hc i hi).1,(World.cell?_of_block (a:=⟨b,off+i*2+1,none⟩) (hb b off none rfl)).trans (hc i hi).2⟩⟩
theorem jau {W:World} {q:Nat} {v0 v1 v2 v3 v4 u0 u1 u2 u3 u4:Value} (y0:W.cell? ⟨q,0,none⟩=some v0) (y1:W.cell? ⟨q,1,none⟩=some v1) (y2:W.cell? ⟨q,2,none⟩=some v2) (y3:W.cell? ⟨q,3,none⟩=some v3) (y4:W.cell? ⟨q,4,none⟩=some v4) (W':World)
 (hW:(((((W.setCell ⟨q,0,none⟩ u0).setCell ⟨q,1,none⟩ u1).setCell ⟨q,2,none⟩ u2).setCell ⟨q,3,none⟩ u3).setCell ⟨q,4,none⟩ u4)=W') :
 W'.cell? ⟨q,0,none⟩=some u0∧W'.cell? ⟨q,1,none⟩=some u1∧W'.cell? ⟨q,2,none⟩=some u2∧W'.cell? ⟨q,3,none⟩=some u3∧W'.cell? ⟨q,4,none⟩=some u4:=by
 subst hW;refine⟨?_,?_,?_,?_,?_⟩<;>go_simp
end Go.Proofs.YtnfojaidmnccoaaGreatDoor
