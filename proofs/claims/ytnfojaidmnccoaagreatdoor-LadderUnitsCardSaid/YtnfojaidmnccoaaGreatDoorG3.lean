/- C. -/
import Derived.Test.YtnfojaidmnccoaaGreatDoorG0
import Derived.Test.YtnfojaidmnccoaaGreatDoorG1
import Derived.Test.YtnfojaidmnccoaaGreatDoorG2
import Derived.Handy
import Derived.Shelf.SlSortCmp.QuietGrown
import Derived.Deep.AppendSrc
import Derived.Deep.DeepAppendWide
set_option linter.unusedVariables false
set_option maxRecDepth 100000
set_option maxHeartbeats 25600000
namespace Go.Proofs.YtnfojaidmnccoaaGreatDoor
open Go.RowKit Go.Shelf
attribute [local go_sem] Oper.semAt_some
def jaX (D k:Nat) (I:Nat→World→Prop) (JP:List PanicEntry→World→Prop) (W:World):Exit→Act→World→Prop
 | .normal,_,W'=>Z2 D (D+8) W W'∧I (k+1) W'
 | .panic c,a,W'=>a.defers=[]∧Z2 D (D+8) W W'∧JP c W'
 | _,_,_=>False
theorem ZL {g:Operand} {t:Tmp} {assign body:Code} {Q:Exit→Act→World→Prop} {a:Act} {w:World} {fid:Nat} {fn:Func} (hfn:Tryz.prog.funcs[fid]?=some fn)
 (bw bc:Nat) (hg:a.eval g=.func (.func 92) #[] #[.pointer (some ⟨bw,0,none⟩),.pointer (some ⟨bc,0,none⟩)])
 (r:Option (List UInt8)) (hs:∀s,r=some s→s.length≤1000000) (hr:zs w bw bc r)
 (I:Nat→World→Prop) (JP:List PanicEntry→World→Prop) (hI:∀k W W',I k W→StR w.heap.size (w.heap.size+8) W W'→I k W') (hJP:∀c W W',JP c W→StR w.heap.size (w.heap.size+8) W W'→JP c W')
 (hE:∀k W,I k W→Env W) (h0:I 0 w) (a₁:ByteArray→Act)
 (hassign:∀(l:Nat) (x:ByteArray) (W:World) (K:Act→World→Prop),K (a₁ x) W →
   assign.wpIn (Fence.wide.inRound l) 4 Tryz.prog (Exit.then K (fun _ _ _=>False)) { tmps:=(#[t].zip #[Value.string x]).foldl (fun tt (p,v)=>tt.setIfInBounds p v) a.tmps,defers:=[] } W)
 (hbody:∀(l k:Nat) (p:List UInt8) (W:World),(je r)[k]?=some p→I k W→w.heap.size+8≤W.heap.size→body.wpIn (Fence.wide.inRound l) 4 Tryz.prog (jaX w.heap.size k I JP W) (a₁ (bytes p)) W)
 (hdone:∀(W:World),I (je r).length W→W.heap[w.heap.size]?=some (.deferred (some []))→Q .normal { a with defers:={ target:=.collected w.heap.size,args:=#[] }::a.defers } W)
 (hpanic:∀(c:List PanicEntry) (W:World),JP c W→W.heap[w.heap.size]?=some (.deferred (some []))→Q (.panic c) { a with defers:={ target:=.collected w.heap.size,args:=#[] }::a.defers } W) :
 zj fid Tryz.prog (Code.rangeFunc g #[t] assign body) Q a w:=by
 obtain⟨rec,hrec⟩:∃rec:LoopState→Option Code→Loop,rec=fun st pe=>{ state:=st,pending:=pe,fn:=fid,tmps:=a.tmps,params:=#[t],assign,body,defers:=w.heap.size }:=⟨_,rfl⟩
 obtain⟨W1,hW1⟩:=eX ((w.alloc (.deferred (some []))).alloc (.loop (rec .ready none)))
 have hL1:W1.heap[w.heap.size+1]?=some (.loop (rec .ready none)):=by
  rw[←hW1];have:=World.alloc_heap_new (w.alloc (.deferred (some []))) (.loop (rec .ready none));rwa [World.size_alloc] at this
 have hK1:W1.heap[w.heap.size]?=some (.deferred (some [])):=by
  rw[←hW1];exact(Below.heap_alloc _ _ _ (by simp)).trans (World.alloc_heap_new w _)
 have hB1:Kept w W1:=by rw[←hW1];exact(ja w _).trans (ja _ _)
 have hz1:W1.heap.size=w.heap.size+2:=by rw[←hW1];simp
 have hS1:StR w.heap.size (w.heap.size+8) w W1:=StR.kept hB1 (Nat.le_refl _) (by omega)
 refine zy (n:=4) (l:=w.heap.size+1) (mark:=[{ target:=.collected w.heap.size,args:=#[] }]) (w₁:=W1) (d:={ target:=.fn (.func 92) #[.pointer (some ⟨bw,0,none⟩),.pointer (some ⟨bc,0,none⟩)],args:=#[.func (.yield (w.heap.size+1)) #[] #[]] })
  (f:=92) (args:=#[.func (.yield (w.heap.size+1)) #[] #[],.pointer (some ⟨bw,0,none⟩),.pointer (some ⟨bc,0,none⟩)]) ?_ ?_ ?_ ?_
 · rw[←hW1,hrec];exact run_enterLoop_outer _ _ _ _ _
 · simp only[resolve,hg];simp[go_sem]
 · have eg:=enters_of (P:=Tryz.prog) Tryz.func92 (by kernel_rfl) rfl;simp[invoke,go_sem,eg]
 · refine(callsIn_wide.2 (qC (w.heap.size+1) bw bc r W1
    (fun k W=>I k W∧W.heap[w.heap.size+1]?=some (.loop (rec .ready none))∧W.heap[w.heap.size]?=some (.deferred (some [])))
    (fun c W=>JP c W∧W.heap[w.heap.size]?=some (.deferred (some [])))
    (hr.kept hB1) hs ?hY ⟨hI 0 w W1 h0 hS1,hL1,hK1⟩)).mono ?post
   case hY =>
    rw[hz1];refine⟨?_,?_,?_,?_⟩
    · rintro k p W hp ⟨hi,hl,hk⟩ hsz;have hlt:w.heap.size+1<W.heap.size:=(Array.getElem?_eq_some_iff.1 hl).1;have hy:=run_yield (P:=Tryz.prog) (args:=#[.string (bytes p)]) hl (by rw[hrec];rfl);rw[hrec] at hy;refine⟨fid,_,assign,body,hy,j0 trivial hfn ?_⟩;refine hassign _ (bytes p) W _ ?_;refine⟨_,run_beginRound hl (by rw[hrec]),?_⟩;have hl2:(W.putObj (w.heap.size+1) (.loop { rec .ready none with state:=.busy })).heap[w.heap.size+1]?=some (.loop { rec .ready none with state:=.busy }):=World.putObj_heap_same hlt;have hk2:(W.putObj (w.heap.size+1) (.loop { rec .ready none with state:=.busy })).heap[w.heap.size]?=some (.deferred (some [])):=(World.putObj_heap_other (by omega)).trans hk;refine wpIn_mono (hbody _ k p _ hp (hI k _ _ hi (StR.put W _ (by omega))) (by simp;omega)) ?_;rintro e a3 W3 hp3
      cases e with
      | normal =>
       obtain⟨hk3,hi3⟩:=hp3;have hl3:=(hk3 (w.heap.size+1) (by omega) (by omega)).trans hl2;have hr:=run_endRound (P:=Tryz.prog) none hl3;refine⟨_,_,hr,.inl ⟨rfl,⟨hI _ _ _ hi3 (StR.put W3 _ (by omega)),?_,?_⟩,?_⟩⟩
       · rw[World.putObj_heap_same (Array.getElem?_eq_some_iff.1 hl3).1,hrec];rfl
       · exact((World.putObj_heap_other (by omega)).trans (hk3 w.heap.size (by omega) (by omega))).trans hk2
       · intro b hb1 hb2;exact((World.putObj_heap_other (by omega)).trans (hk3 b (by omega) (by omega))).trans (World.putObj_heap_other (by omega))
      | panic c =>
       obtain⟨hd,hk3,hj⟩:=hp3;exact⟨hd,.inr ⟨c,rfl,⟨hj,(hk3 w.heap.size (by omega) (by omega)).trans hk2⟩,fun b hb1 hb2=>(hk3 b (by omega) (by omega)).trans (World.putObj_heap_other (by omega))⟩⟩
      | ret=>exact hp3.elim
      | exit id=>exact hp3.elim
      | goto t=>exact hp3.elim
      | outgrown=>exact hp3.elim
    · rintro k W W' ⟨hi,hl,hk⟩ hst;exact⟨hI _ _ _ hi (hst.wider (by omega) (by omega)),(hst.block _ (by omega)).trans hl,(hst.block _ (by omega)).trans hk⟩
    · rintro c W W' ⟨hj,hk⟩ hst;exact⟨hJP _ _ _ hj (hst.wider (by omega) (by omega)),(hst.block _ (by omega)).trans hk⟩
    · rintro k W ⟨hi,_,_⟩;exact hE k W hi
   case post =>
    rintro e W2 (⟨⟨v,rfl⟩,hi,hl,hk⟩ | ⟨c,rfl,hj,hk⟩)
    · exact⟨_,run_endLoop (P:=Tryz.prog) hl (by rw[hrec];simp) |>.trans (by rw[hrec]),hdone _ (hI _ _ _ hi (StR.put W2 _ (by omega))) ((World.putObj_heap_other (by omega)).trans hk)⟩
    · exact hpanic c W2 hj hk
end Go.Proofs.YtnfojaidmnccoaaGreatDoor
namespace Go.Proofs.YtnfojaidmnccoaaGreatDoor
open Go.RowKit
theorem JU (c:UInt8):∀(k:Nat) (s:List UInt8),k+1≤(jb c s).length→∃r,Lib.splitK [c] 0 k s=(jb c s).take k++[r]∧jb c r=(jb c s).drop k∧r.length≤s.length
 | 0,s,_=>⟨s,by rw[Lib.splitK];rfl,rfl,Nat.le_refl _⟩
 | k+1,s,h=>by
  rw[Lib.splitK];obtain⟨h1,h2⟩:=Xd c s
  cases hf:(Lib.cut s [c]).2.2 with
  | false=>rw[Jc c s hf] at h;simp at h
  | true =>
   obtain⟨e0,e1,e2⟩:=h2 hf;rw[Jo c s hf] at h ⊢;obtain⟨r,i1,i2,i3⟩:=JU c k (Lib.cut s [c]).2.1 (by simpa using h);rw[if_neg (fun e=>e0 (beq_iff_eq.1 e)),e1,e2,i1];exact⟨r,rfl,i2,Nat.le_trans i3 (ja1 s [c]).2⟩
theorem zT (c:UInt8) (k:Nat) (s:List UInt8) (L:List ByteArray) (q:List (List UInt8)) (h:Lib.splitB ⟨#[c]⟩ 0 k (bytes s)=L) (hq:Lib.splitK [c] 0 k s=q):L=q.map bytes:=by
 have hd:=Lib.splitB_data ⟨#[c]⟩ 0 k (bytes s);have hb:(bytes s).data.toList=s:=by simp[bytes]
 rw[hb,h] at hd;have hd':L.map (·.data.toList)=q:=hd.trans hq;rw[←hd',List.map_map];have:(bytes ∘ fun x:ByteArray=>x.data.toList)=id:=by
  funext x;cases x;simp[bytes]
 rw[this,List.map_id]
def Yy (s:List UInt8) (w:World) (e:Ending) (w':World):Prop :=
 ((jb 32 s).length<3→e=.panicked [js 2]) ∧
 (3≤(jb 32 s).length→∃g cap bw bc r,e=.returned (.tuple #[.slice (some ⟨g,0,none⟩) 3 cap,.func (.func 92) #[] #[.pointer (some ⟨bw,0,none⟩),.pointer (some ⟨bc,0,none⟩)]]) ∧
   (∀j p,j<3→(jb 32 s)[j]?=some p→w'.cell? ⟨g,j,none⟩=some (.string (bytes p)))∧zs w' bw bc r∧je r=(jb 32 s).drop 3∧∀q,r=some q→q.length≤s.length)∧Kept w w'
theorem ZF (L:List ByteArray) (n:Nat) (w W:World) (T:TypeId) (q:List (List UInt8)) (hL:L=q.map bytes) (k:Kept (w.alloc (.cells (Lib.cellsOf L n) T)) W):∀j p,q[j]?=some p→W.cell? ⟨w.heap.size,j,none⟩=some (.string (bytes p)):=by
 intro j p hj;have hh:=w.alloc_heap_new (.cells (Lib.cellsOf L n) T);have hLj:L[j]?=some (bytes p):=by rw[hL,List.getElem?_map,hj];rfl
 have hj5:j<L.length:=(List.getElem?_eq_some_iff.1 hLj).1;refine cell_later k ?_;rw[Lib.cell_of_heap hh];show (Lib.cellsOf L n)[j]?=some (.string (bytes p));unfold Lib.cellsOf;rw[List.getElem?_toArray,List.getElem?_append_left (by rw[List.length_map];exact hj5),List.getElem?_map,hLj];rfl
theorem qW (s:List UInt8) (w:World) (hE:Env w) (hs:s.length≤1000000) :
 Calls Tryz.prog 69 #[.string (bytes s),.int .i64 3] w (Yy s w):=by
 obtain⟨w1,hw1⟩:=eX (w.alloc (.cells #[.int .i64 3] 3))
 have hk1:Kept w w1:=by rw[←hw1];exact ja _ _
 have hz1:w1.heap.size=w.heap.size+1:=by rw[←hw1,World.size_alloc]
 have hc1:w1.cell? ⟨w.heap.size,0,none⟩=some (.int .i64 3):=by rw[←hw1];exact(zR w _ _).1
 obtain⟨m,hm⟩:=(hE.kept hk1).most;have hmf:=hmfL (P:=Tryz.prog);have Vc:=lH (Tryz.strings_SplitN (bytes s) ⟨#[32]⟩ 4 m w1 (by rw[jh];omega) hm (by decide) (by decide) (by decide));obtain⟨n,hn⟩:=eX (min 4 ((bytes s).size+1))
 rw[hn] at Vc;obtain⟨L,hL⟩:=eX (Lib.splitB ⟨#[32]⟩ 0 (n-1) (bytes s))
 rw[hL] at Vc;have hsz:(bytes s).size=s.length:=jh s;have hpl:=Yh 32 s;have hcap:L.length≤n:=by
  rw[←hL];have:=Lib.splitB_length_le ⟨#[32]⟩ 0 (n-1) (bytes s);omega
 obtain⟨Vw,Vv,U4⟩:=lH3 hk1 hz1 hc1;by_cases h3:(jb 32 s).length<3
 · have hq:=(zp 32 (n-1) s).1 (by omega);have hLq:=zT 32 (n-1) s L _ hL hq;obtain⟨k,hk⟩:=eX (L.length)
   have hk3:k<3:=by rw[←hk,hLq,List.length_map];exact h3
   rw[hk] at Vc;have H3:=lH h3;have hlt:(k:Int)<3:=by omega
   clear h3 hq hLq hk hk3 hcap hL hm hE hz1;go_enter Tryz.func69,Tryz.ntmps69;go_wp2_with fail
   refine Vc.out.mono ?_;rintro e w2 ⟨rfl,rfl⟩;have hc3:((w1.alloc (.cells (Lib.cellsOf L n) 9)).alloc (.cells #[.slice (some ⟨w1.heap.size,0,none⟩) k n] 87)).cell? ⟨w.heap.size,0,none⟩=some (.int .i64 3):=cell_later (jE _ _ _) U4.out;go_wp2;exact⟨rfl,⟨fun _=>rfl,fun h=>absurd H3.out (by omega),Vw.out.trans (jE _ _ _)⟩⟩
 · obtain⟨k,r,q,hk,hLq,hqt,hr,hrp,hrs⟩:∃(k:Nat) (r:Option (List UInt8)) (q:List (List UInt8)),L.length=k∧L=q.map bytes∧(∀j p,j<3→(jb 32 s)[j]?=some p→q[j]?=some p)∧(match r with | none=>k=3∧3≤n∧n≤4 | some x=>k=4∧n=4∧q[3]?=some x)∧je r=(jb 32 s).drop 3∧∀x,r=some x→x.length≤s.length:=by
    by_cases h4:(jb 32 s).length=3
    · have hq:=(zp 32 (n-1) s).1 (by omega);have hLq:=zT 32 (n-1) s L _ hL hq;refine⟨3,none,jb 32 s,by rw[hLq,List.length_map,h4],hLq,fun j p _ h=>h,⟨rfl,by omega,by omega⟩,?_,fun x h=>by cases h⟩;rw[List.drop_of_length_le (by omega)];rfl
    · have hn4:n=4:=by omega
      subst hn4;obtain⟨x,e1,e2,e3⟩:=JU 32 3 s (by omega);have hLq:=zT 32 3 s L _ hL e1;have ht:((jb 32 s).take 3).length=3:=by rw[List.length_take];omega
      refine⟨4,some x,(jb 32 s).take 3++[x],by rw[hLq,List.length_map,List.length_append,ht];rfl,hLq,fun j p hj h=>?_,⟨rfl,rfl,?_⟩,e2,fun y h=>by cases h;exact e3⟩
      · rw[List.getElem?_append_left (by omega),List.getElem?_take_of_lt hj];exact h
      · rw[List.getElem?_append_right (by omega),ht];rfl
   rw[hk] at Vc
   have hcap3:3≤n:=by cases r with
    | none=>exact hr.2.1
    | some x=>obtain⟨_,h,_⟩:=hr;omega
   have hk3:¬(k:Int)<3:=by cases r with
    | none=>obtain⟨h,_⟩:=hr;omega
    | some x=>obtain⟨h,_⟩:=hr;omega
   have hkn:k≤n:=by rw[←hk];exact hcap
   have hn4:n≤4:=by omega
   obtain⟨H3,Tw,HR,VK,Ug,Tx⟩:=lH6 h3 hqt hr hrp hrs hLq;clear h3 hqt hr hrp hrs hLq hk hcap hL hm hE hn hz1;go_enter Tryz.func69,Tryz.ntmps69;go_wp2_with fail
   refine Vc.out.mono ?_;rintro e w2 ⟨rfl,rfl⟩;have hc3:((w1.alloc (.cells (Lib.cellsOf L n) 9)).alloc (.cells #[.slice (some ⟨w1.heap.size,0,none⟩) k n] 87)).cell? ⟨w.heap.size,0,none⟩=some (.int .i64 3):=cell_later (jE _ _ _) U4.out;have U5:=lH hc3;have U6:=lH (ZF L n w1 ((w1.alloc (.cells (Lib.cellsOf L n) 9)).alloc (.cells #[.slice (some ⟨w1.heap.size,0,none⟩) k n] 87)) 9 q Tx.out (ja _ _));have U7:=lH (show ((w1.alloc (.cells (Lib.cellsOf L n) 9)).alloc (.cells #[.slice (some ⟨w1.heap.size,0,none⟩) k n] 87)).cell? ⟨w1.heap.size+1,0,none⟩=some (.slice (some ⟨w1.heap.size,0,none⟩) k n) by
    have:=(zR (w1.alloc (.cells (Lib.cellsOf L n) 9)) (.slice (some ⟨w1.heap.size,0,none⟩) k n) 87).1;rwa [World.size_alloc] at this)
   go_wp2;go_ret2
   refine⟨fun h=>absurd h H3.out,fun _=>⟨w1.heap.size,n,w1.heap.size+1,w.heap.size,r,rfl,fun j p hj hp=>U6.out j p (Tw.out j p hj hp),?_,VK.out,Ug.out⟩,Vw.out.trans (jE _ _ _)⟩;have hr:=HR.out
   cases r with
   | none =>
    obtain⟨rfl,h1,h2⟩:=hr;exact⟨U5.out,_,_,U7.out,h1,h2⟩
   | some x =>
    obtain⟨rfl,rfl,h2⟩:=hr;exact⟨U5.out,_,U7.out,U6.out 3 x h2⟩
open Go.RowKit Go.Shelf
attribute [local go_sem] Oper.semAt_some
theorem Below.stR {B lo hi:Nat} {w W W':World} (h:Below B w W) (k:StR lo hi W W') (hl:B≤lo):Below B w W' :=
 ⟨k.os.trans h.os,k.tape.trans h.tape,k.output.trans h.output,Nat.le_trans h.size k.size,fun b hb=>(k.block b (by omega)).trans (h.block b hb)⟩
def j4 (ps:List (List UInt8)):Bool:=ps.all (jI 58 3)
def qc (ps:List (List UInt8)) (w:World) (e:Ending) (w':World):Prop:=(j4 ps=true→∃v,e=.returned v)∧(j4 ps=false→e=.panicked [js 2])∧Kept w w'
theorem J4 {ps:List (List UInt8)} {k:Nat} {p:List UInt8} {f:List UInt8→Bool} (h:∀q ∈ ps.take k,f q=true) (hp:ps[k]?=some p) (hf:f p=true):∀q ∈ ps.take (k+1),f q=true:=by
 intro q hq;rw[List.take_add_one,hp] at hq;rcases List.mem_append.1 hq with g | g
 · exact h q g
 · have:q=p:=by simpa using g
   rw[this];exact hf
theorem Yg {r:Option (List UInt8)} (hs:∀s,r=some s→s.length≤1000000):∀p ∈ je r,p.length≤1000000:=by
 intro p hp
 cases r with
 | none=>cases hp
 | some s=>exact Nat.le_trans (jG 32 s p hp) (hs s rfl)
theorem Zo (bw bc:Nat) (r:Option (List UInt8)) (w:World) (hE:Env w) (hr:zs w bw bc r) (hs:∀s,r=some s→s.length≤1000000) :
 Calls Tryz.prog 71 #[.func (.func 92) #[] #[.pointer (some ⟨bw,0,none⟩),.pointer (some ⟨bc,0,none⟩)]] w (qc (je r) w):=by
 have HE:=lH hE;have Vu:=lH (Yg hs);refine zg (n:=6) Tryz.func71 rfl ?_;simp only[Tryz.ntmps71,List.size_toArray,List.length_cons,List.length_nil,Nat.reduceAdd,Nat.reduceSub,Array.replicate_succ,Array.replicate_zero,List.push_toArray,List.append_toArray,List.nil_append,List.cons_append];refine jm (jv (n:=6) ?_);gi_wp2
 refine zM ?_;refine ZL Tryz.func71 bw bc rfl r hs hr
  (fun k W=>Below w.heap.size w W∧∀p ∈ (je r).take k,jI 58 3 p=true)
  (fun c W=>c=[js 2]∧Below w.heap.size w W∧j4 (je r)=false)
  (fun k W W' h st=>⟨Below.stR h.1 st (Nat.le_refl _),h.2⟩) (fun c W W' h st=>⟨h.1,Below.stR h.2.1 st (Nat.le_refl _),h.2.2⟩) (fun k W h=>HE.out.kept h.1) ⟨Below.refl _ _,by simp⟩
  (fun x=>{ tmps:=#[.func (.func 92) #[] #[.pointer (some ⟨bw,0,none⟩),.pointer (some ⟨bc,0,none⟩)],undef,.string x,.func (.func 92) #[] #[.pointer (some ⟨bw,0,none⟩),.pointer (some ⟨bc,0,none⟩)],.string x,undef,undef],defers:=[] }) ?assign ?body ?done ?panic
 case assign =>
  intro l x W K hK;gi_wp2
  exact hK
 case body =>
  rintro l k p W hp ⟨hB,hd⟩ hsz;obtain⟨HB,HD,HP,HM,HR⟩:=lH5 hB hd hp (List.mem_of_getElem? hp) (zY p W (HE.out.kept hB) (Vu.out p (List.mem_of_getElem? hp)));unfold J6 at HR;have Vo:=lH hsz;obtain⟨q,hq⟩:=eX (jI 58 3 p)
  have HQ:=lH hq;clear hB hd hp hsz hE hr hq
  cases q with
  | true =>
   gi_wp2_with (refine⟨trivial,?_⟩;gi_at_call 96;refine(CallsIn.inRound l (callsIn_wide.2 HR.out)).mono ?_;rintro e W1 ⟨ha,-,hk⟩;obtain⟨g,cap,rfl,-⟩:=ha HQ.out;have HK:=lH hk;clear ha hk)
   exact⟨fun b h1 h2=>HK.out.block b (by have:=Vo.out;omega),HB.out.trans (Below.mono HK.out HB.out.size),J4 HD.out HP.out HQ.out⟩
  | false =>
   gi_wp2_with (refine⟨trivial,?_⟩;gi_at_call 96;refine(CallsIn.inRound l (callsIn_wide.2 HR.out)).mono ?_;rintro e W1 ⟨-,hb,hk⟩;obtain rfl:=hb HQ.out;have HK:=lH hk;clear hb hk)
   refine⟨rfl,fun b h1 h2=>HK.out.block b (by have:=Vo.out;omega),rfl,HB.out.trans (Below.mono HK.out HB.out.size),?_⟩;unfold j4;rw[List.all_eq_false];exact⟨p,HM.out,by rw[HQ.out];decide⟩
 case panic =>
  rintro c W ⟨rfl,hB,hbad⟩ hk;refine⟨by simp,.inl ⟨_,_,rfl,run_takeDeferred hk,?_⟩⟩;exact⟨fun h=>(by rw[hbad] at h;cases h),fun _=>rfl,jN hB (Nat.le_refl _)⟩
 case done =>
  rintro W ⟨hB,hd⟩ hk;have hT:j4 (je r)=true:=by
   unfold j4;rw[List.all_eq_true];rw[List.take_length] at hd;exact hd
  refine⟨by simp,.inl ⟨_,_,rfl,run_takeDeferred hk,?_⟩⟩;exact⟨.tuple #[],by simp[results,Tryz.results71,go_sem],fun _=>⟨_,rfl⟩,fun h=>(by rw[hT] at h;cases h),jN hB (Nat.le_refl _)⟩
theorem jan:(Tryz.prog.info? 46).map (fun i=>(i.zero,i.size,i.bytes))=some (some (.agg #[.int .i64 0,.int .i64 0,.int .i64 0]),3,24):=by kernel_rfl
theorem Own.stR {α:Type} {L:Lay α} {e:TypeId} {lo hi:Nat} {W W':World} {v:Value} {l:List α} (h:Own L e W hi v l) (k:StR lo hi W W'):Own L e W' hi v l:=by
 obtain⟨⟨h0,h1⟩,hf⟩:=h;refine⟨⟨h0,h1.imp id ?_⟩,hf⟩;rintro ⟨g,cap,cur,rfl,hbg,hg,hn,hm,hs,ht⟩;exact⟨g,cap,cur,rfl,hbg,(k.block g (.inr hbg)).trans hg,hn,hm,hs,ht⟩
theorem zK.stR {α:Type} {L:Lay α} {e:TypeId} {lo hi vb:Nat} {W W':World} {l:List α} (h:zK L e hi vb l W) (k:StR lo hi W W') (hv:vb<lo):zK L e hi vb l W':=by
 obtain⟨v,h1,h3,h4⟩:=h;have hb:=k.block vb (.inl hv);exact⟨v,(World.cell?_of_block (a:=⟨vb,0,none⟩) hb).trans h1,(World.frozen?_of_block (a:=⟨vb,0,none⟩) hb).trans h3,h4.stR k⟩
def j8 (ps:List (List UInt8)) (k:Nat):RL:=((ps.take k).map jH).take 9
theorem Za {ps:List (List UInt8)} {k:Nat} (h:k≤ps.length):(j8 ps k).length=min 9 k:=by
 unfold j8;rw[List.length_take,List.length_map,List.length_take];omega
theorem JB {ps:List (List UInt8)} {k:Nat} {p:List UInt8} (hp:ps[k]?=some p) (h:(j8 ps k).length≤8):j8 ps (k+1)=j8 ps k++[jH p]:=by
 have hk:k<ps.length:=(List.getElem?_eq_some_iff.1 hp).1;rw[Za (by omega)] at h;unfold j8;have e:ps.take (k+1)=ps.take k++[p]:=by rw[List.take_add_one,hp];rfl
 rw[e,List.map_append,List.take_of_length_le (l:=(ps.take k).map jH) (by simp;omega),List.take_of_length_le (by simp;omega)];rfl
theorem qB {ps:List (List UInt8)} {k:Nat} {p:List UInt8} (hp:ps[k]?=some p) (h:¬(j8 ps k).length≤8):j8 ps (k+1)=j8 ps k:=by
 have hk:k<ps.length:=(List.getElem?_eq_some_iff.1 hp).1;rw[Za (by omega)] at h;unfold j8;have e:ps.take (k+1)=ps.take k++[p]:=by rw[List.take_add_one,hp];rfl
 rw[e,List.map_append,List.take_append_of_le_length (by simp;omega)]
def zd (ps:List (List UInt8)):Bool:=ps.all zI
def qK (ps:List (List UInt8)) (w:World) (e:Ending) (w':World):Prop:=(zd ps=true→∃v,e=.returned v∧Own jR 46 w' w.heap.size v ((ps.map jH).take 9))∧(zd ps=false→e=.panicked [js 5])∧Kept w w'
theorem X9 (w:World) (o:Obj) (a b c:Int) (T:TypeId):∀j u,[Value.int .i64 a,.int .i64 b,.int .i64 c][j]?=some u→((w.alloc o).alloc (.cells #[.int .i64 a,.int .i64 b,.int .i64 c] T)).cell? ((⟨w.heap.size+1,0,none⟩:Addr).add j)=some u:=jbe w o _ _ _ T
theorem YQ (bw bc:Nat) (r:Option (List UInt8)) (w:World) (hE:Vec.Env w) (hr:zs w bw bc r) (hs:∀s,r=some s→s.length≤1000000) (hf:j4 (je r)=true) :
 Calls Tryz.prog 73 #[.func (.func 92) #[] #[.pointer (some ⟨bw,0,none⟩),.pointer (some ⟨bc,0,none⟩)]] w (qK (je r) w):=by
 obtain⟨HE,Vu,Ty⟩:=lH3 hE (Yg hs) (List.all_eq_true.1 (show (je r).all (jI 58 3)=true from hf));obtain⟨w1,hw1⟩:=eX (w.alloc (.cells #[.slice none 0 0] 24))
 have k1:Kept w w1:=by rw[←hw1];exact ja _ _
 have hz1:w1.heap.size=w.heap.size+1:=by rw[←hw1,World.size_alloc]
 obtain⟨bx1,bx2⟩:=zR w (.slice none 0 0) 24;rw[hw1] at bx1 bx2;obtain⟨vb,hvb⟩:=eX (w.heap.size)
 rw[hvb] at bx1 bx2 hz1;have hr1:=hr.kept k1;obtain⟨Vw,VE,Vv⟩:=lH3 k1 hvb hz1;clear hE hr hf k1;refine zg (n:=6) Tryz.func73 rfl ?_;simp only[Tryz.ntmps73,List.size_toArray,List.length_cons,List.length_nil,Nat.reduceAdd,Nat.reduceSub,Array.replicate_succ,Array.replicate_zero,List.push_toArray,List.append_toArray,List.nil_append,List.cons_append];refine jm (jv (n:=6) ?_);gi_wp2
 refine jm (jv (n:=6) ?_);gi_wp2
 try rw[hw1]
 try rw[hvb]
 clear hw1 hvb hz1;refine jm (jm (jv (n:=6) ?_));gi_wp2
 refine zM ?_;refine ZL Tryz.func73 bw bc rfl r hs hr1
  (fun k W=>Below w.heap.size w W∧(∀p ∈ (je r).take k,zI p=true)∧zK jR 46 (w1.heap.size+8) vb (j8 (je r) k) W)
  (fun c W=>c=[js 5]∧Below w.heap.size w W∧zd (je r)=false)
  (fun k W W' h st=>⟨Below.stR h.1 st (by have:=VE.out;have:=Vv.out;omega),h.2.1,h.2.2.stR st (by have:=Vv.out;omega)⟩) (fun c W W' h st=>⟨h.1,Below.stR h.2.1 st (by have:=VE.out;have:=Vv.out;omega),h.2.2⟩) (fun k W h=>(HE.out.kept h.1).base) ⟨Vw.out,by simp,⟨.slice none 0 0,bx1,bx2,Own.nil _ _ _⟩⟩
  (fun x=>{ tmps:=#[.func (.func 92) #[] #[.pointer (some ⟨bw,0,none⟩),.pointer (some ⟨bc,0,none⟩)],undef,.slice none 0 0,.pointer (some ⟨vb,0,none⟩),.string x,undef,.func (.func 92) #[] #[.pointer (some ⟨bw,0,none⟩),.pointer (some ⟨bc,0,none⟩)],.string x,undef,undef,undef,undef,undef,undef,undef,undef,undef,undef],defers:=[] }) ?assign ?body ?done ?panic
 case assign =>
  intro l x W K hK;gi_wp2
  exact hK
 case body =>
  rintro l k p W hp ⟨hB,hd,v,hvc,hvf,hvo⟩ hlt;obtain⟨HB,HD,HP,HM,Vs⟩:=lH5 hB hd hp (List.mem_of_getElem? hp) (XQ p W (HE.out.kept hB) (Vu.out p (List.mem_of_getElem? hp)) (Ty.out p (List.mem_of_getElem? hp)));unfold Xk at Vs;have Vk:=lH hlt;have hvW:vb<W.heap.size:=by have:=Vv.out;omega
  obtain⟨q,hq⟩:=eX (zI p)
  have HQ:=lH hq;have VY:=lH (fun h=>Xa p h);obtain⟨⟨u,c,d⟩,hru⟩:∃x,jH p=x:=⟨_,rfl⟩
  have U8:=lH hru;rw[hru] at Vs VY;dsimp only at Vs VY;clear hB hd hq hru bx1 bx2 hr1 hlt
  cases q with
  | true =>
   obtain⟨av,cv,rfl,q1,q2,q3⟩:=hvo.at_;obtain⟨n,hn⟩:=eX ((j8 (je r) k).length)
   have hn9:n≤9:=by
    have:=Za (show k≤(je r).length from Nat.le_of_lt (List.getElem?_eq_some_iff.1 hp).1);omega
   rw[hn] at hvo hvc;have Vq:=lH hvo;have HN:=lH hn;clear hvo hn q1 q2 q3 hp;gi_wp2_with (refine⟨trivial,?_⟩;gi_at_call 98;refine(CallsIn.inRound l (callsIn_wide.2 Vs.out)).mono ?_;rintro e W1 ⟨ha,-,k1⟩;obtain rfl:=ha HQ.out;have K1:=lH k1;have hvc1:=cell_later k1 hvc;have hvf1:=(k1.frozen (p:=⟨vb,0,none⟩) hvW).trans hvf;have hm1:vb<W1.heap.size:=Nat.lt_of_lt_of_le hvW k1.size;clear ha k1 hvc hvf;refine Hid.out ?_)
   refine lH ?_;by_cases h8:n≤8
   · obtain⟨i0,hi,hz0,hz1,hz2⟩:=info_parts jan;gi_wp2_with (gi_at_builtin;go_must (refine wpListIn_append_own _ rfl (.tmp 13) (.tmp 15) _ rfl (w1.heap.size+8) 46 i0 _ 3 24 Tryz.underlying24 hi hz0 hz1 hz2 rfl (by decide) _ n (jF jR (j8 (je r) k)) rfl (((Vq.out.kept K1.out).kept (jE W1 (.cells #[.int .i64 u,.int .i64 c,.int .i64 d] 46) (.cells #[.int .i64 u,.int .i64 c,.int .i64 d] 46))).row HN.out) ⟨W1.heap.size+1,0,none⟩ 1 1 [.int .i64 u,.int .i64 c,.int .i64 d] rfl rfl (X9 _ _ _ _ _ _) (YA jR [(u,c,d)]) (by unfold maxLen;omega) (by omega) (by rw[World.size_alloc,World.size_alloc];have:=Vk.out;have:=K1.out.size;omega) ?_);intro v' w2 hown' hgrow _;refine Hid.out ?_)
     refine lH ?_;obtain⟨g',cap',rfl⟩:=ownsRow_succ hown';have KA:=lH (show Kept W ((W1.alloc (.cells #[.int .i64 u,.int .i64 c,.int .i64 d] 46)).alloc (.cells #[.int .i64 u,.int .i64 c,.int .i64 d] 46)) from K1.out.trans (jE W1 _ _));have hrow:∀r,(Value.slice av n cv).ownBlock=some r→w1.heap.size+8≤r:=fun r hr=>(Vq.out.1.lt r hr).1;have V2:=lH (show ∀b,b<w1.heap.size+8→w2.heap[b]?=W.heap[b]? from fun b hb=>(hgrow.block b (Nat.lt_of_lt_of_le hb (Nat.le_trans Vk.out KA.out.size)) (fun e=>by have:=hrow b e.symm;omega)).trans (KA.out.block b (Nat.lt_of_lt_of_le hb Vk.out)));have hv8:vb<w1.heap.size:=by have:=Vv.out;omega
     have hvc2:w2.cell? ⟨vb,0,none⟩=some (.slice av n cv):=(World.cell?_of_block (a:=⟨vb,0,none⟩) (hgrow.block vb (by simp;omega) (fun e=>by have:=hrow vb e.symm;omega))).trans (cell_later (jE W1 _ _) hvc1);have hvf2:w2.frozen? ⟨vb,0,none⟩=false:=(World.frozen?_of_block (a:=⟨vb,0,none⟩) (hgrow.block vb (by simp;omega) (fun e=>by have:=hrow vb e.symm;omega))).trans (((jE W1 _ _).frozen (p:=⟨vb,0,none⟩) hm1).trans hvf1);have VP:=lH hown';have Uw:=lH (show Below w.heap.size w w2 from⟨hgrow.os.trans (KA.out.os.trans HB.out.os),hgrow.tape.trans (KA.out.tape.trans HB.out.tape),hgrow.output.trans (KA.out.output.trans HB.out.output),Nat.le_trans HB.out.size (Nat.le_trans KA.out.size hgrow.size),fun b hb=>(V2.out b (by have:=VE.out;omega)).trans (HB.out.block b hb)⟩);clear hvc1 hvf1 hown' hgrow hrow hi hz0 hz1 hz2;gi_wp2
     refine⟨fun b h1 h2=>(Below.heap_setCell w2 ⟨vb,0,none⟩ _ b (by show b≠vb;omega)).trans (V2.out b (by omega)),Uw.out.setCell (p:=⟨vb,0,none⟩) (by have:=VE.out;show w.heap.size≤vb;omega) _,J4 HD.out HP.out HQ.out,⟨_,World.cell?_setCell_same' _ _ _ (by rw[hvc2];rfl),by rw[World.frozen?_setCell];exact hvf2,?_⟩⟩;have hl:(j8 (je r) (k+1)).length=n+1:=by rw[JB HP.out (by rw[HN.out];exact h8),List.length_append,HN.out];rfl
     have ho:Own jR 46 w2 (w1.heap.size+8) (.slice (some ⟨g',0,none⟩) (n+1) cap') (j8 (je r) (k+1)):=by
      refine⟨?_,?_⟩
      · rw[hl,JB HP.out (by rw[HN.out];exact h8),U8.out,zZ];exact VP.out
      · rw[JB HP.out (by rw[HN.out];exact h8),U8.out];intro x hx;rcases List.mem_append.1 hx with h | h
        · exact Vq.out.2 x h
        · obtain rfl:x=(u,c,d):=by simpa using h
          exact VY.out HQ.out
     exact ho.setCell_below (a:=⟨vb,0,none⟩) (by show vb<w1.heap.size+8;omega) _
   · have Vx:=lH (qB HP.out (by rw[HN.out];exact h8));have h9:8<n:=by omega
     clear h8;gi_wp2
     refine⟨fun b h1 h2=>(Kept.trans K1.out (ja W1 _)).block b (by have:=Vk.out;omega),HB.out.trans (Below.mono (Kept.trans K1.out (ja W1 _)) HB.out.size),J4 HD.out HP.out HQ.out,⟨.slice av n cv,cell_later (ja W1 _) hvc1,((ja W1 _).frozen (p:=⟨vb,0,none⟩) hm1).trans hvf1,?_⟩⟩;rw[Vx.out];exact Vq.out.kept (Kept.trans K1.out (ja W1 _))
  | false =>
   clear hp hvo hvc hvf;gi_wp2_with (refine⟨trivial,?_⟩;gi_at_call 98;refine(CallsIn.inRound l (callsIn_wide.2 Vs.out)).mono ?_;rintro e W1 ⟨-,hb,k1⟩;obtain rfl:=hb HQ.out;have K1:=lH k1;clear hb k1)
   refine⟨rfl,fun b h1 h2=>K1.out.block b (by have:=Vk.out;omega),rfl,HB.out.trans (Below.mono K1.out HB.out.size),?_⟩;unfold zd;rw[List.all_eq_false];exact⟨p,HM.out,by rw[HQ.out];decide⟩
 case panic =>
  rintro c W ⟨rfl,hB,hbad⟩ hk;refine⟨by simp,.inl ⟨_,_,rfl,run_takeDeferred hk,?_⟩⟩;exact⟨fun h=>(by rw[hbad] at h;cases h),fun _=>rfl,jN hB (by have:=VE.out;have:=Vv.out;omega)⟩
 case done =>
  rintro W ⟨hB,hd,v,hvc,hvf,hvo⟩ hk;have HT:=lH (show zd (je r)=true by
   unfold zd;rw[List.all_eq_true];rw[List.take_length] at hd;exact hd)
  obtain⟨Vq,HB,Tz⟩:=lH3 hvo hB hk;obtain⟨av,cv,rfl,q1,q2,q3⟩:=hvo.at_;have TA:=lH (show j8 (je r) (je r).length=((je r).map jH).take 9 by unfold j8;rw[List.take_length]);clear hd hk hvo hB q1 q2 q3 bx1 bx2 hr1;refine jv (n:=6) ?_;gi_wp2
  refine⟨by simp,.inl ⟨_,_,rfl,run_takeDeferred Tz.out,?_⟩⟩;refine⟨_,results_tmp rfl _ _ _,?_⟩;refine⟨fun _=>⟨_,rfl,?_⟩,fun h=>(by rw[HT.out] at h;cases h),jN HB.out (by have:=VE.out;have:=Vv.out;omega)⟩;rw[←TA.out];exact(Vq.out.put (by omega) _).base_le (by have:=VE.out;have:=Vv.out;omega)
end Go.Proofs.YtnfojaidmnccoaaGreatDoor
namespace Go.Proofs.YtnfojaidmnccoaaGreatDoor
open Go.RowKit
theorem JM:∀(l:Vec.V) (b:Bool),(∀x ∈ l,x.1.size≤50∧-9223372036854775808≤x.2∧x.2≤9223372036854775807)→(Vec.jC b l).length≤80*l.length
 | [],b,_=>by rw[Vec.jC];simp
 | x::t,b,h=>by
  have ih:=JM t false (fun y hy=>h y (List.mem_cons_of_mem _ hy));obtain⟨h1,h2,h3⟩:=h x (List.mem_cons_self ..);have hi:=Lib.itoa_length_le x.2 h2 h3;have hx:x.1.data.toList.length=x.1.size:=by rw[Array.length_toList,ByteArray.size_data]
  rw[Vec.jC];simp only[List.length_append,List.length_cons,List.length_nil,hx]
  cases b<;>simp<;>omega
theorem qG {l:Vec.V} (h:Vec.zh l=true) (hf:Vec.jP l):(Vec.j2 l).length≤2000:=by
 unfold Vec.zh at h;simp only[Bool.and_eq_true,decide_eq_true_eq] at h;unfold Vec.j2;split
 · decide
 · have:=JM l true (fun x hx=>by
    obtain⟨k,hk,rfl⟩:=List.getElem_of_mem hx;have e:l.getD k (ByteArray.empty,0)=l[k]:=by simp[List.getD,hk]
    have h1:=Vec.Js h.2 hk;have h2:=(hf k hk).2;unfold Vec.nm at h1;unfold Vec.qn at h2;rw[e] at h1 h2;exact⟨h1,h2⟩)
   omega
abbrev PL:=List (ByteArray×ByteArray)
abbrev NT:=ByteArray×ByteArray×Bool
abbrev NL:=List NT
theorem jaI (x y:ByteArray) (b:Bool) (u:Value) (h:u ∈ [Value.string x,Value.string y,Value.bool b]):u.oneCell'=true:=by
 have e:u=Value.string x∨u=Value.string y∨u=Value.bool b:=by simpa using h
 rcases e with e | e | e<;>rw[e]<;>rfl
def jaq:Lay NT:={ m:=3,cs:=fun x=>[.string x.1,.string x.2.1,.bool x.2.2],fine:=fun x=>x.1.size≤maxLen∧x.2.1.size≤maxLen,len:=fun _=>rfl,one:=fun x=>jaI x.1 x.2.1 x.2.2,pos:=by decide }
theorem qi (v:Value) (w:World):Calls Tryz.prog 75 #[v,.int .i64 0] w fun e w'=>e=.returned v∧w=w':=by
 go_enter Tryz.func75,Tryz.ntmps75;go_wp2;go_ret;exact⟨rfl,rfl⟩
theorem Xz (v:Value) (x:Int) (w:World) (h:x≠0):Calls Tryz.prog 75 #[v,.int .i64 x] w fun e w'=>e=.panicked [js x]∧w=w':=by
 have h3:(x != 0)=true:=by simpa using h
 clear h;go_enter Tryz.func75,Tryz.ntmps75;go_wp2;exact⟨rfl,rfl,rfl⟩
open Go.RowKit Go.Shelf
attribute [local go_sem] Oper.semAt_some
end Go.Proofs.YtnfojaidmnccoaaGreatDoor
namespace Go.Proofs.YtnfojaidmnccoaaGreatDoor
open Go.RowKit Go.Shelf
attribute [local go_sem] Oper.semAt_some
end Go.Proofs.YtnfojaidmnccoaaGreatDoor
namespace Go.Proofs.YtnfojaidmnccoaaGreatDoor
open Go.RowKit Go.Sort
def Grw (w w':World):Prop:=∃q os,w'=grow (w.drewN q) os
theorem Grw.refl (w:World):Grw w w:=⟨0,#[],by rw[grow_empty];rfl⟩
theorem Grw.grown {w W:World} (h:Grw w W) (n:Nat) (os:Array Obj):Grw w (grow (W.drewN n) os):=by
 obtain⟨q,os0,rfl⟩:=h;exact⟨q+n,os0++os,by show grow (grow ((w.drewN q).drewN n) os0) os=_;rw[grow_grow,World.drewN_drewN]⟩
theorem Grw.trans {a b c:World} (h:Grw a b) (k:Grw b c):Grw a c:=by
 obtain⟨q,os,rfl⟩:=k;exact h.grown q os
theorem Grw.alloc (w:World) (o:Obj):Grw w (w.alloc o):=⟨0,#[o],alloc_eq_grow _ _⟩
theorem Grw.drewN (w:World) (n:Nat):Grw w (w.drewN n):=⟨n,#[],by rw[grow_empty]⟩
theorem qf (w:World) (n:Nat) (os:Array Obj):Kept w (grow (w.drewN n) os):=Go.Lib.below_grow w.heap.size w (Nat.le_refl _) n os
theorem Grw.kept {w w':World} (h:Grw w w'):Kept w w':=by
 obtain⟨q,os,rfl⟩:=h;exact qf w q os
def Zj (w:World) (c:Nat) (t:NT):Prop:=w.cell? ⟨c,0,none⟩=some (.string t.1)∧w.cell? ⟨c,1,none⟩=some (.string t.2.1)∧w.cell? ⟨c,2,none⟩=some (.bool t.2.2)
theorem Zj.kept {w w':World} {c:Nat} {t:NT} (h:Zj w c t) (k:Kept w w'):Zj w' c t:=⟨cell_later k h.1,cell_later k h.2.1,cell_later k h.2.2⟩
theorem Zj.new (w:World) (x y:ByteArray) (m:Bool) (T:TypeId):Zj (w.alloc (.cells #[.string x,.string y,.bool m] T)) w.heap.size (x,y,m):=by
 have hh:=w.alloc_heap_new (.cells #[.string x,.string y,.bool m] T);exact⟨by rw[Lib.cell_of_heap hh];rfl,by rw[Lib.cell_of_heap hh];rfl,by rw[Lib.cell_of_heap hh];rfl⟩
open Go.RowKit Go.Shelf
attribute [local go_sem] Oper.semAt_some
end Go.Proofs.YtnfojaidmnccoaaGreatDoor
namespace Go.Proofs.YtnfojaidmnccoaaGreatDoor
open Go.RowKit Go.Shelf
attribute [local go_sem] Oper.semAt_some
end Go.Proofs.YtnfojaidmnccoaaGreatDoor
namespace Go.Proofs.YtnfojaidmnccoaaGreatDoor.Vec
open Go.RowKit Go.Proofs.YtnfojaidmnccoaaGreatDoor
def Zg (w:World) (v:Value) (vs:List (Nat×Nat)) (ps:List (List UInt8)):Prop :=
 ∀(i:Nat) (x:Nat×Nat) (p:List UInt8),vs[i]?=some x→ps[i]?=some p→x.1<w.heap.size∧v.ownBlock≠some x.1 ∧
  w.cell? ⟨x.1,0,none⟩=some (.string (bytes (nameOf p)))∧w.cell? ⟨x.1,1,none⟩=some (.string (bytes (jn p)))
theorem Zg.nil (w:World) (v:Value) (ps:List (List UInt8)):Zg w v [] ps:=fun i x p h=>by simp at h
theorem Zg.kept {w w':World} {v:Value} {vs:List (Nat×Nat)} {ps:List (List UInt8)} (h:Zg w v vs ps) (k:Kept w w'):Zg w' v vs ps:=fun i x p hx hp=>by
 obtain⟨h1,h2,h3,h4⟩:=h i x p hx hp;exact⟨Nat.lt_of_lt_of_le h1 k.size,h2,cell_later k h3,cell_later k h4⟩
end Go.Proofs.YtnfojaidmnccoaaGreatDoor.Vec
namespace Go.Proofs.YtnfojaidmnccoaaGreatDoor.Vec
open Go.RowKit
def Told (c:Int) (m:V) (w:World) (e:Ending) (w':World):Prop:=∃x,e=.returned (.tuple #[x,.int .i64 c])∧jj 74 w' w.heap.size x m∧Kept w w'
theorem Told.none {c:Int} {w w':World} (k:Kept w w'):Told c [] w (.returned (.tuple #[.slice none 0 0,.int .i64 c])) w':=⟨_,rfl,jj.nil _ _ _,k⟩
open Go.RowKit Go.Proofs.YtnfojaidmnccoaaGreatDoor
theorem jj.reads {e:TypeId} {w:World} {B:Nat} {v:Value} {l:V} (h:jj e w B v l):Reads w v l:=h.at_
end Go.Proofs.YtnfojaidmnccoaaGreatDoor.Vec
namespace Go.Proofs.YtnfojaidmnccoaaGreatDoor
open Go.RowKit
structure Nod where
 name:ByteArray
 cap:Vec.V
 labels:PL
 taints:NL
 cordon:Bool
def Nod.zero:Nod:=⟨ByteArray.empty,[],[],[],false⟩
abbrev jbz (n:Nod) (v1 v2 v3:Value):Value:=.agg #[.string n.name,v1,v2,v3,.bool n.cordon]
structure Z5 (w:World) (v1 v2 v3:Value) (n:Nod):Prop where
 size:n.name.size≤maxLen
 cap:Vec.Reads w v1 n.cap
 labels:Reads Xh w v2 n.labels
 taints:Reads jaq w v3 n.taints
theorem Z5.kept {w w':World} {v1 v2 v3:Value} {n:Nod} (h:Z5 w v1 v2 v3 n) (k:Kept w w'):Z5 w' v1 v2 v3 n:=⟨h.size,h.cap.kept k,h.labels.kept k,h.taints.kept k⟩
def q9 (w:World) (v:Value) (n:Nod):Prop:=∃v1 v2 v3,v=jbz n v1 v2 v3∧Z5 w v1 v2 v3 n
theorem q9.kept {w w':World} {v:Value} {n:Nod} (h:q9 w v n) (k:Kept w w'):q9 w' v n:=by
 obtain⟨v1,v2,v3,e,h⟩:=h;exact⟨v1,v2,v3,e,h.kept k⟩
def jat (B:Nat) (w:World) (v:Value) (n:Nod):Prop:=∃a1 m1 c1 a2 m2 c2 a3 m3 c3,v=.agg #[.string n.name,.slice a1 m1 c1,.slice a2 m2 c2,.slice a3 m3 c3,.bool n.cordon]∧n.name.size≤maxLen∧Vec.Reads w (.slice a1 m1 c1) n.cap∧Reads Xh w (.slice a2 m2 c2) n.labels∧Reads jaq w (.slice a3 m3 c3) n.taints ∧
 (∀b off sp,a1=some ⟨b,off,sp⟩→B≤b)∧(∀b off sp,a2=some ⟨b,off,sp⟩→B≤b)∧(∀b off sp,a3=some ⟨b,off,sp⟩→B≤b)
def Zv (r:Int×Nod) (w:World) (e:Ending) (w':World):Prop:=(r.1=0→∃v,e=.returned v∧jat w.heap.size w' v r.2)∧(r.1≠0→e=.panicked [js r.1])∧Kept w w'
theorem Zv.good {r:Int×Nod} {w w':World} {v:Value} (h:r.1=0) (ho:jat w.heap.size w' v r.2) (hb:Kept w w'):Zv r w (.returned v) w':=⟨fun _=>⟨v,rfl,ho⟩,fun g=>absurd h g,hb⟩
theorem Zv.bad {r:Int×Nod} {w w':World} {c:Int} (h:r.1=c) (hc:c≠0) (hb:Kept w w'):Zv r w (.panicked [js c]) w':=⟨fun g=>absurd (h.symm.trans g) hc,fun _=>by rw[h],hb⟩
theorem Vec.Ja.spelt {r:Int×Vec.V} {w w':World} {e:Ending} (h:Vec.Ja r w e w'):∃a m cap,e=.returned (.tuple #[.slice a m cap,.int .i64 r.1])∧Vec.Reads w' (.slice a m cap) r.2∧(∀b off sp,a=some ⟨b,off,sp⟩→w.heap.size≤b∧b<w'.heap.size)∧Kept w w':=by
 obtain⟨v,rfl,ho,k⟩:=h;obtain⟨a,cap,rfl,h⟩:=ho.at_;exact⟨a,_,cap,rfl,⟨a,cap,rfl,h⟩,fun b off sp e=>ho.1.lt b (by subst e;rfl),k⟩
theorem Yi (w:World) (v0 v1 v2 v3 v4:Value) (T:TypeId) (W:World) (k:Kept (w.alloc (.cells #[v0,v1,v2,v3,v4] T)) W) :
 (W.cell? ⟨w.heap.size,0,none⟩=some v0∧W.cell? ⟨w.heap.size,1,none⟩=some v1∧W.cell? ⟨w.heap.size,2,none⟩=some v2∧W.cell? ⟨w.heap.size,3,none⟩=some v3∧W.cell? ⟨w.heap.size,4,none⟩=some v4) ∧
 W.frozen? ⟨w.heap.size,0,none⟩=false∧W.frozen? ⟨w.heap.size,1,none⟩=false∧W.frozen? ⟨w.heap.size,2,none⟩=false∧W.frozen? ⟨w.heap.size,3,none⟩=false∧W.frozen? ⟨w.heap.size,4,none⟩=false:=by
 have hh:=w.alloc_heap_new (.cells #[v0,v1,v2,v3,v4] T);have hf:∀j,W.frozen? ⟨w.heap.size,j,none⟩=false:=fun j=>by
  have:=k.frozen (p:=⟨w.heap.size,j,none⟩) (by simp);rw[this];unfold World.frozen?;rw[show (w.alloc (.cells #[v0,v1,v2,v3,v4] T)).heap[(⟨w.heap.size,j,none⟩:Addr).block]?=some (.cells #[v0,v1,v2,v3,v4] T) from hh];simp
 exact⟨⟨cell_later k (by rw[Lib.cell_of_heap hh];rfl),cell_later k (by rw[Lib.cell_of_heap hh];rfl),cell_later k (by rw[Lib.cell_of_heap hh];rfl),cell_later k (by rw[Lib.cell_of_heap hh];rfl),cell_later k (by rw[Lib.cell_of_heap hh];rfl)⟩,hf 0,hf 1,hf 2,hf 3,hf 4⟩
theorem XF (W:World) (q:Nat) (u0 u1 u2 u3 u4:Value) (b:Nat) (h:b≠q) :
 (((((W.setCell ⟨q,0,none⟩ u0).setCell ⟨q,1,none⟩ u1).setCell ⟨q,2,none⟩ u2).setCell ⟨q,3,none⟩ u3).setCell ⟨q,4,none⟩ u4).heap[b]?=W.heap[b]? :=
 (Below.heap_setCell _ ⟨q,4,none⟩ _ b h).trans ((Below.heap_setCell _ ⟨q,3,none⟩ _ b h).trans ((Below.heap_setCell _ ⟨q,2,none⟩ _ b h).trans ((Below.heap_setCell _ ⟨q,1,none⟩ _ b h).trans (Below.heap_setCell _ ⟨q,0,none⟩ _ b h))))
theorem qk (W:World) (q:Nat) (u0 u1 u2 u3 u4:Value) :
 (((((W.setCell ⟨q,0,none⟩ u0).setCell ⟨q,1,none⟩ u1).setCell ⟨q,2,none⟩ u2).setCell ⟨q,3,none⟩ u3).setCell ⟨q,4,none⟩ u4).heap.size=W.heap.size:=by simp[World.setCell]
theorem Reads.far {α:Type} {L:Lay α} {w w':World} {a:Option Addr} {m cap:Nat} {l:List α} (h:Reads L w (.slice a m cap) l) (hs:w'.heap.size=w.heap.size) (hb:∀b off sp,a=some ⟨b,off,sp⟩→w'.heap[b]?=w.heap[b]?):Reads L w' (.slice a m cap) l:=by
 obtain⟨a',cap',e,h1,h2,h3,h4,h5,h6⟩:=h
 cases e
 refine⟨a,cap,rfl,h1,h2,h3,h4,h5,h6.imp id ?_⟩;rintro ⟨b,off,rfl,hlt,hc⟩;exact⟨b,off,rfl,by rw[hs];exact hlt,fun i x j u hi hj=>(World.cell?_of_block (a:=⟨b,off+i*L.m+j,none⟩) (hb b off none rfl)).trans (hc i x j u hi hj)⟩
theorem Vec.Reads.far {w w':World} {a:Option Addr} {m cap:Nat} {l:Vec.V} (h:Vec.Reads w (.slice a m cap) l) (hs:w'.heap.size=w.heap.size) (hb:∀b off sp,a=some ⟨b,off,sp⟩→w'.heap[b]?=w.heap[b]?):Vec.Reads w' (.slice a m cap) l:=by
 obtain⟨a',cap',e,h1,h2,h3,h4,h5,h6⟩:=h
 cases e
 refine⟨a,cap,rfl,h1,h2,h3,h4,h5,h6.imp id ?_⟩;rintro ⟨b,off,rfl,hlt,hc⟩;exact⟨b,off,rfl,by rw[hs];exact hlt,fun i hi=>⟨(World.cell?_of_block (a:=⟨b,off+i*2,none⟩) (hb b off none rfl)).trans (hc i hi).1,(World.cell?_of_block (a:=⟨b,off+i*2+1,none⟩) (hb b off none rfl)).trans (hc i hi).2⟩⟩
theorem XJ {W:World} {q:Nat} {v0 v1 v2 v3 v4 u0 u1 u2 u3 u4:Value} (y0:W.cell? ⟨q,0,none⟩=some v0) (y1:W.cell? ⟨q,1,none⟩=some v1) (y2:W.cell? ⟨q,2,none⟩=some v2) (y3:W.cell? ⟨q,3,none⟩=some v3) (y4:W.cell? ⟨q,4,none⟩=some v4) (W':World)
 (hW:(((((W.setCell ⟨q,0,none⟩ u0).setCell ⟨q,1,none⟩ u1).setCell ⟨q,2,none⟩ u2).setCell ⟨q,3,none⟩ u3).setCell ⟨q,4,none⟩ u4)=W') :
 W'.cell? ⟨q,0,none⟩=some u0∧W'.cell? ⟨q,1,none⟩=some u1∧W'.cell? ⟨q,2,none⟩=some u2∧W'.cell? ⟨q,3,none⟩=some u3∧W'.cell? ⟨q,4,none⟩=some u4:=by
 subst hW;refine⟨?_,?_,?_,?_,?_⟩<;>go_simp
theorem jaJ (b len:Nat) (l:List Int) (w:World) (hl:l.length=len) (hm:len≤1000) (hc:∀(i:Nat) (x:Int),l[i]?=some x→w.cell? ⟨b,i,none⟩=some (.int .i64 x)) :
 Calls Tryz.prog 35 #[.slice (some ⟨b,0,none⟩) len len] w fun e w'=>e=.returned (.int .i64 (orL l))∧w=w':=by
 have HC:=lH hc;have HL:=lH hl;clear hc hl;go_enter Tryz.func35,Tryz.ntmps35;go_wp2;go_loopw [8] (fun i wr=>∃k:Nat,k≤len∧i=.int .i64 k∧orL (l.drop k)=orL l∧w=wr) (fun i _=>len-(intOf i).toNat)
 case atStart=>exact⟨0,Nat.zero_le _,rfl,rfl,rfl⟩
 case round =>
  obtain⟨k,hk,rfl,hrest,rfl⟩:=hrel;have HS:=lH hrest;by_cases hlt:k<len
  · have hkl:k<l.length:=by rw[HL.out];exact hlt
    obtain⟨x,hx⟩:=eX (l[k])
    have hx':l[k]?=some x:=by rw[List.getElem?_eq_getElem hkl,hx]
    have c0:=HC.out k x hx';have HD:=lH (show l.drop k=x::l.drop (k+1) by rw[List.drop_eq_getElem_cons hkl,hx]);clear hrest hx hx' hkl;by_cases z:x=0
    · subst z;have HE:=lH (show orL (l.drop k)=orL (l.drop (k+1)) by rw[HD.out];rfl);go_wp2;go_roundw
      case rel=>exact⟨k+1,by omega,by go_num,HE.out.symm.trans HS.out,trivial⟩
      case measure=>simp[intOf];omega
    · have HE:=lH (show orL l=x by rw[←HS.out,HD.out];show (if x≠0 then x else _)=x;rw[if_pos z]);have z':(x != 0)=true:=by simpa using z
      clear z;go_wp2;go_ret;exact⟨jx HE.out.symm,rfl⟩
  · have HE:=lH (show orL l=0 by rw[←hrest,List.drop_of_length_le (by rw[HL.out];omega)];rfl);clear hrest;go_wp2;go_ret;exact⟨jx HE.out.symm,rfl⟩
theorem Z1 (x:ByteArray) (w:World) (hx:x.size≤maxLen) :
 Calls Tryz.prog 36 #[.string x] w fun e w'=>e=.returned (.int .i64 (zA x))∧w=w':=by
 obtain⟨q,hq⟩:=eX (isName x)
 have HN:=lH (fun W=>Vec.jba (w:=W) hx hq);have HV:=lH (show zA x=if q=true then 0 else 3 by unfold zA;rw[hq]);clear hq hx
 cases q <;>
 (go_enter Tryz.func36,Tryz.ntmps36
  go_wp2_with (go_at_call 65;refine(HN.out _).mono ?_;rintro e w' ⟨rfl,rfl⟩)
  go_ret;exact⟨jx HV.out.symm,rfl⟩)
theorem YG (a b:Int) (w:World) :
 Calls Tryz.prog 37 #[.int .i64 a,.int .i64 b] w fun e w'=>e=.returned (.int .i64 (jY a b))∧w=w':=by
 by_cases h1:a<0
 · have HV:=lH (show jY a b=1 by unfold jY;rw[if_pos (.inl h1)]);go_enter Tryz.func37,Tryz.ntmps37;go_wp2;go_ret;exact⟨jx HV.out.symm,rfl⟩
 · by_cases h2:b<a
   · have HV:=lH (show jY a b=1 by unfold jY;rw[if_pos (.inr (.inl h2))]);go_enter Tryz.func37,Tryz.ntmps37;go_wp2;go_ret;exact⟨jx HV.out.symm,rfl⟩
   · by_cases h3:128<b
     · have HV:=lH (show jY a b=1 by unfold jY;rw[if_pos (.inr (.inr h3))]);go_enter Tryz.func37,Tryz.ntmps37;go_wp2;go_ret;exact⟨jx HV.out.symm,rfl⟩
     · have HV:=lH (show jY a b=0 by unfold jY;rw[if_neg (by omega)]);go_enter Tryz.func37,Tryz.ntmps37;go_wp2;go_ret;exact⟨jx HV.out.symm,rfl⟩
theorem YK (u c p:Int) (w:World):Calls Tryz.prog 39 #[.agg #[.int .i64 u,.int .i64 c,.int .i64 p]] w fun e w'=>e=.returned (.int .i64 u)∧Kept w w':=by
 go_enter Tryz.func39,Tryz.ntmps39;go_wp2;go_ret;exact⟨rfl,ja _ _⟩
theorem ZY (u c p:Int) (w:World):Calls Tryz.prog 40 #[.agg #[.int .i64 u,.int .i64 c,.int .i64 p]] w fun e w'=>e=.returned (.int .i64 (jw u c p))∧Kept w w':=by
 by_cases h0:u<0
 · have HV:=lH (show jw u c p=1 by unfold jw;rw[if_pos (by omega)]);go_enter Tryz.func40,Tryz.ntmps40;go_wp2;go_ret;exact⟨jx HV.out.symm,ja _ _⟩
 · skip;by_cases h1:p<0
   · have HV:=lH (show jw u c p=1 by unfold jw;rw[if_pos (by omega)]);go_enter Tryz.func40,Tryz.ntmps40;go_wp2;go_ret;exact⟨jx HV.out.symm,ja _ _⟩
   · skip;by_cases h2:1000000<p
     · have HV:=lH (show jw u c p=1 by unfold jw;rw[if_pos (by omega)]);go_enter Tryz.func40,Tryz.ntmps40;go_wp2;go_ret;exact⟨jx HV.out.symm,ja _ _⟩
     · skip;by_cases h3:c<0
       · have HV:=lH (show jw u c p=1 by unfold jw;rw[if_pos (by omega)]);go_enter Tryz.func40,Tryz.ntmps40;go_wp2;go_ret;exact⟨jx HV.out.symm,ja _ _⟩
       · skip;by_cases h4:128<c
         · have HV:=lH (show jw u c p=1 by unfold jw;rw[if_pos (by omega)]);go_enter Tryz.func40,Tryz.ntmps40;go_wp2;go_ret;exact⟨jx HV.out.symm,ja _ _⟩
         · have HV:=lH (show jw u c p=0 by unfold jw;rw[if_neg (by omega)]);go_enter Tryz.func40,Tryz.ntmps40;go_wp2;go_ret;exact⟨jx HV.out.symm,ja _ _⟩
theorem ZG (a:Option Addr) (len cap:Nat) (l:RL) (w:World) (hr:jV jR w a len l) :
 Calls Tryz.prog 38 #[.slice a len cap,.int .i64 8,.func (.func 39) #[] #[],.func (.func 40) #[] #[]] w (Say (.int .i64 (jW l)) w):=by
 have hl:=hr.1;have hm:=hr.2.1;unfold maxLen at hm;by_cases h8:8<len
 · have HV:=lH (show jW l=4 by unfold jW;rw[if_pos (by omega)]);clear hr hl;go_enter Tryz.func38,Tryz.ntmps38;go_wp2;go_ret;exact⟨jx HV.out.symm,Kept.refl _⟩
 · have HV:=lH (show jW l=jr none l by unfold jW;rw[if_neg (by omega)]);have h8':len≤8:=by omega
   by_cases h0:len=0
   · subst h0;have HE:=lH (show jW l=0 by rw[HV.out,List.eq_nil_of_length_eq_zero hl];rfl);clear hr hl h8;go_enter Tryz.func38,Tryz.ntmps38;go_wp2;refine wp_loop_rounds 1 ?_;rw[rounds_succ];go_wp2;go_ret;exact⟨jx HE.out.symm,Kept.refl _⟩
   · obtain⟨b,off,rfl⟩:=hr.form.resolve_left h0;have HR:=lH hr;have HL:=lH hl;clear hr hl h0 h8;go_enter Tryz.func38,Tryz.ntmps38;go_wp2;go_loopw [18] (fun i wr=>∃k:Nat,k≤len∧i=.int .i64 k∧jr (zt l k) (l.drop k)=jr none l∧Kept w wr) (fun i _=>len-(intOf i).toNat)
     case atStart=>exact⟨0,Nat.zero_le _,rfl,rfl,Kept.refl _⟩
     case round =>
      obtain⟨k,hk,rfl,hrest,hK⟩:=hrel;obtain⟨HS,HT,HK⟩:=lH3 (HV.out.trans hrest.symm) hrest hK;by_cases hlt:k<len
      · obtain⟨u,c,p,hn,hd,hb,hfine,p0,p1,p2⟩:=(HR.out.kept hK).rung hlt;obtain⟨HD,U9,VG,TB⟩:=lH4 hd (Xr hn) (fun W=>ZY u c p W) (fun W=>YK u c p W);obtain⟨ck,hck⟩:=eX (jw u c p)
        have Uh:=lH hck;rw[hck] at VG;have hkk:(k:Int)<(len:Int):=by omega
        clear hrest hK hd hck hn hfine;by_cases z1:ck=0
        · subst z1;by_cases h0:k=0
          · have hd0:decide (0<k)=false:=by subst h0;decide
            have HP:=lH (Xv (l:=l) (n:=(u,c,p)) (t:=l.drop (k+1)) h0 Uh.out);clear h0;go_wp2_with fail
            refine(VG.out _).mono ?_;rintro e w1 ⟨rfl,kk⟩;have KW:=lH (Kept.trans (ja _ _) kk);have Ui:=lH (fun W k=>ju wr (.int .i64 u) [.int .i64 c,.int .i64 p] 46 W (Kept.trans kk k));obtain⟨y0,y1,y2⟩:=(Ui.out w1 (Kept.refl _)).at3;clear kk;go_wp2;go_quiet (fail)
            go_wp2;go_roundw
            case rel=>exact⟨k+1,by omega,by go_num,(show jr (zt l (k+1)) (l.drop (k+1))=jr none l by rw[←HT.out,HD.out,HP.out,U9.out]),HK.out.trans (KW.out.trans (Kept.drewN _ _))⟩
            case measure=>simp[intOf];omega
          · have hd0:decide (0<k)=true:=by simp;omega
            obtain⟨q,hqk⟩:∃q,k=q+1:=⟨k-1,by omega⟩
            have g1:(k:Int)-1=(q:Int):=by omega
            have gw:IntKind.i64.wrap (q:Int)=(q:Int):=by rw[IntKind.wrap_i64];omega
            have g2:(q:Int)<(len:Int):=by omega
            obtain⟨u9,c9,p9,hn9,-,hb9,-,q0,q1,q2⟩:=(HR.out.kept HK.out).rung (show q<len by omega);have TX:=lH hqk;have hqk1:k-1=q:=by omega
            have HP:=lH (qy (l:=l) (n:=(u,c,p)) (q:=(u9,c9,p9)) (t:=l.drop (k+1)) h0 (by rw[hqk1];exact hn9) Uh.out);dsimp only at HP;clear hqk hqk1;have TC:=lH (fun W=>YK u9 c9 p9 W);clear h0 hn9;obtain⟨le,hle⟩:=eX (decide (u≤u9))
            have Ta:=lH hle;go_wp2_with fail
            refine(VG.out _).mono ?_;rintro e w1 ⟨rfl,kk⟩;have KW:=lH (Kept.trans (ja _ _) kk);have Ui:=lH (fun W k=>ju wr (.int .i64 u) [.int .i64 c,.int .i64 p] 46 W (Kept.trans kk k));obtain⟨y0,y1,y2⟩:=(Ui.out w1 (Kept.refl _)).at3;have HO:=lH (show ∀W,Kept w1 W→(W.cell? ⟨wr.heap.size,0,none⟩=some (.int .i64 u)∧W.cell? ⟨wr.heap.size,1,none⟩=some (.int .i64 c)∧W.cell? ⟨wr.heap.size,2,none⟩=some (.int .i64 p))∧(W.cell? ⟨b,off+q*3,none⟩=some (.int .i64 u9)∧W.cell? ⟨b,off+q*3+1,none⟩=some (.int .i64 c9)∧W.cell? ⟨b,off+q*3+2,none⟩=some (.int .i64 p9)) from fun W k=>⟨(Ui.out W k).at3,cell_later (KW.out.trans k) q0,cell_later (KW.out.trans k) q1,cell_later (KW.out.trans k) q2⟩);clear kk q0 q1 q2;go_wp2
            go_region_held3 (fun W=>(W.cell? ⟨wr.heap.size,0,none⟩=some (.int .i64 u)∧W.cell? ⟨wr.heap.size,1,none⟩=some (.int .i64 c)∧W.cell? ⟨wr.heap.size,2,none⟩=some (.int .i64 p))∧(W.cell? ⟨b,off+q*3,none⟩=some (.int .i64 u9)∧W.cell? ⟨b,off+q*3+1,none⟩=some (.int .i64 c9)∧W.cell? ⟨b,off+q*3+2,none⟩=some (.int .i64 p9)))
             (first | exact HO.out _ (Kept.drew _) | exact HO.out _ J1.out | exact HO.out _ J2.out)
             (first | (go_at_call 39;refine(TB.out _).mono ?_;rintro e1 w2 ⟨rfl,k1⟩;have J1:=lH ((Kept.drew _).trans k1);clear k1)
                    | (go_at_call 39;refine(TC.out _).mono ?_;rintro e2 w3 ⟨rfl,k1⟩;have J2:=lH (J1.out.trans k1);clear k1))
            cases le with
            | true =>
             have HLE':=lH (of_decide_eq_true Ta.out);go_wp2;go_ret;exact⟨jx (show (13:Int)=jW l by rw[HS.out,HD.out,HP.out,if_pos HLE'.out]),HK.out.trans (KW.out.trans J2.out)⟩
            | false =>
             have HLE':=lH (of_decide_eq_false Ta.out);go_wp2;go_roundw
             case rel=>exact⟨k+1,by omega,by go_num,(show jr (zt l (k+1)) (l.drop (k+1))=jr none l by rw[←HT.out,HD.out,HP.out,if_neg HLE'.out,U9.out]),HK.out.trans (KW.out.trans J2.out)⟩
             case measure=>simp[intOf];omega
        · have HB:=lH (show jr (zt l k) (l.drop k)=ck by rw[HD.out,qR (n:=(u,c,p)) (by dsimp only;rw[Uh.out];exact z1)];exact Uh.out);have z1':(ck != 0)=true:=by simpa using z1
          clear z1;go_wp2_with fail
          refine(VG.out _).mono ?_;rintro e w1 ⟨rfl,kk⟩;have KW:=lH (Kept.trans (ja _ _) kk);clear kk;go_wp2;go_ret;exact⟨jx (HS.out.trans HB.out).symm,HK.out.trans KW.out⟩
      · have HE:=lH (show jr (zt l k) (l.drop k)=0 by rw[List.drop_of_length_le (by rw[HL.out];omega)];rfl);have hkk:¬(k:Int)<(len:Int):=by omega
        clear hrest hK;go_wp2;go_ret;exact⟨jx (HS.out.trans HE.out).symm,HK.out⟩
theorem YS {v:Value} {l:RL} {c:Int} {w:World} (h:Reads jR w v l) (hc:jW l=c) :
 Calls Tryz.prog 38 #[v,.int .i64 8,.func (.func 39) #[] #[],.func (.func 40) #[] #[]] w (Say (.int .i64 c) w):=by
 subst hc;obtain⟨a,cap,rfl,_,_,hr⟩:=h;exact ZG a _ cap l w hr
theorem XR (W:World) (x1 x2 x3 x4:Int) (T:TypeId) (i:Nat) (x:Int) (hi:([x1,x2,x3,x4]:List Int)[i]?=some x) :
 (W.alloc (.cells #[.int .i64 x1,.int .i64 x2,.int .i64 x3,.int .i64 x4] T)).cell? ⟨W.heap.size,i,none⟩=some (.int .i64 x):=by
 refine(ju W (.int .i64 x1) [.int .i64 x2,.int .i64 x3,.int .i64 x4] T _ (Kept.refl _)).at_ i _ ?_
 match i,hi with
 | 0,h=>simpa using h
 | 1,h=>simpa using h
 | 2,h=>simpa using h
 | 3,h=>simpa using h
 | j+4,h=>simp at h
theorem Jm (n:Lad) (v1 v2:Value) (w:World) (h:jZ w v1 v2 n) :
 Calls Tryz.prog 18 #[Yo n v1 v2] w (Say (.int .i64 (jU n)) w):=by
 obtain⟨W0,hW0⟩:=eX (w.alloc (.cells #[.string n.what,v1,v2,.int .i64 n.lo,.int .i64 n.hi] 26))
 have hk0:Kept w W0:=by rw[←hW0];exact ja _ _
 have HC:=lH (show ∀W,Kept W0 W→W.cell? ⟨w.heap.size,0,none⟩=some (.string n.what)∧W.cell? ⟨w.heap.size,1,none⟩=some (v1)∧W.cell? ⟨w.heap.size,2,none⟩=some (v2)∧W.cell? ⟨w.heap.size,3,none⟩=some (.int .i64 n.lo)∧W.cell? ⟨w.heap.size,4,none⟩=some (.int .i64 n.hi) from fun W k =>
  (ju w (.string n.what) [v1,v2,.int .i64 n.lo,.int .i64 n.hi] 26 W (by rw[hW0];exact k)).at5)
 obtain⟨H1,H2,H3,H4,V7,HV⟩:=lH6 (fun W=>Z1 n.what W h.size) (fun W (k:Kept W0 W)=>Vec.Z9 (h.unit.kept (hk0.trans k)) rfl) (fun W=>YG n.lo n.hi W) (fun W (k:Kept W0 W)=>YS (h.rungs.kept (hk0.trans k)) rfl) hk0 (show jU n=orL [zA n.what,Vec.jf n.unit,jY n.lo n.hi,jW n.rungs] from rfl);obtain⟨x1,hx1⟩:=eX (zA n.what)
 obtain⟨x2,hx2⟩:=eX (Vec.jf n.unit)
 obtain⟨x3,hx3⟩:=eX (jY n.lo n.hi)
 obtain⟨x4,hx4⟩:=eX (jW n.rungs)
 rw[hx1,hx2,hx3,hx4] at HV;rw[hx1] at H1;rw[hx2] at H2;rw[hx3] at H3;rw[hx4] at H4;clear hx1 hx2 hx3 hx4 h hk0;unfold Yo;go_enter Tryz.func18,Tryz.ntmps18;go_wp2_with fail
 try rw[hW0]
 clear hW0;have ORC:=lH (fun (W:World)=>XR W x1 x2 x3 x4 38)
 go_region_held3 (fun W=>W.cell? ⟨w.heap.size,0,none⟩=some (.string n.what)∧W.cell? ⟨w.heap.size,1,none⟩=some (v1)∧W.cell? ⟨w.heap.size,2,none⟩=some (v2)∧W.cell? ⟨w.heap.size,3,none⟩=some (.int .i64 n.lo)∧W.cell? ⟨w.heap.size,4,none⟩=some (.int .i64 n.hi))
  (first | exact HC.out _ (Kept.drew _) | exact HC.out _ K2.out | exact HC.out _ K4.out | exact HC.out _ (K4.out.trans (ja _ _)))
  (first | (go_at_call 36;refine(H1.out _).mono ?_;rintro e1 w1 ⟨rfl,rfl⟩)
         | (go_at_call 27;refine(H2.out _ (Kept.drew _)).mono ?_;rintro e2 w2 ⟨rfl,k2⟩;have K2:=lH ((Kept.drew _).trans k2);clear k2)
         | (go_at_call 37;refine(H3.out _).mono ?_;rintro e3 w3 ⟨rfl,rfl⟩)
         | (go_at_call 38;refine(H4.out _ K2.out).mono ?_;rintro e4 w4 ⟨rfl,k4⟩;have K4:=lH (K2.out.trans k4);clear k4)
         | (go_at_call 35;refine(jaJ _ 4 [x1,x2,x3,x4] _ rfl (by decide) (ORC.out _)).mono ?_;rintro e9 w9 ⟨rfl,rfl⟩))
 go_wp2;go_ret;exact⟨jx HV.out.symm,V7.out.trans (K4.out.trans (ja _ _))⟩
theorem jay {v:Value} {n:Lad} {c:Int} {w:World} (h:Zz w v n) (hc:jU n=c):Calls Tryz.prog 18 #[v] w (Say (.int .i64 c) w):=by
 subst hc;obtain⟨v1,v2,rfl,h⟩:=h;exact Jm n v1 v2 w h
def zr (l:RL) (g:Int):Option (Int×Int×Int):=match l.find? (fun r=>decide (g≤r.1)) with
 | some r=>some r
 | none=>l.getLast?
def atL (n:Lad) (t:Vec.V):Option (Int×Int×Int):=zr n.rungs (Vec.ji t n.what)
theorem XE {l:RL} {g:Int} {k:Nat} {r:Int×Int×Int} (h:l.find? (fun r=>decide (g≤r.1))=(l.drop k).find? (fun r=>decide (g≤r.1))) (hd:l.drop k=r::l.drop (k+1)) (hg:g≤r.1):zr l g=some r:=by
 unfold zr;rw[h,hd,List.find?_cons_of_pos (by simpa using hg)]
theorem YY {l:RL} {g:Int} {k:Nat} {r:Int×Int×Int} (h:l.find? (fun r=>decide (g≤r.1))=(l.drop k).find? (fun r=>decide (g≤r.1))) (hd:l.drop k=r::l.drop (k+1)) (hg:¬g≤r.1):l.find? (fun r=>decide (g≤r.1))=(l.drop (k+1)).find? (fun r=>decide (g≤r.1)):=by
 rw[h,hd,List.find?_cons_of_neg (by simpa using hg)]
theorem YP {l:RL} {g:Int} {k:Nat} {r:Int×Int×Int} (h:l.find? (fun r=>decide (g≤r.1))=(l.drop k).find? (fun r=>decide (g≤r.1))) (hk:l.length≤k) (hr:l[l.length-1]?=some r):zr l g=some r:=by
 unfold zr;rw[h,List.drop_of_length_le hk];show l.getLast?=_;rw[List.getLast?_eq_getElem?,hr]
abbrev jap (r:Int×Int×Int):Value:=.agg #[.int .i64 r.1,.int .i64 r.2.1,.int .i64 r.2.2]
def AtR (o:Option (Int×Int×Int)) (w:World) (e:Ending) (w':World):Prop:=e=.returned (.tuple #[jap (o.getD (0,0,0)),.bool o.isSome])∧Kept w w'
theorem qD (n:Lad) (a1 a2:Option Addr) (l1 c1 l2 c2:Nat) (tv:Value) (t:Vec.V) (w:World) (h:jZ w (.slice a1 l1 c1) (.slice a2 l2 c2) n) (ht:Vec.Reads w tv t) :
 Calls Tryz.prog 20 #[.agg #[.string n.what,.slice a1 l1 c1,.slice a2 l2 c2,.int .i64 n.lo,.int .i64 n.hi],tv] w (AtR (atL n t) w):=by
 obtain⟨W1,hW1⟩:=eX (w.alloc (.cells #[.string n.what,.slice a1 l1 c1,.slice a2 l2 c2,.int .i64 n.lo,.int .i64 n.hi] 26))
 have k1:Kept w W1:=by rw[←hW1];exact ja _ _
 obtain⟨W2,hW2⟩:=eX (W1.alloc (.cells #[.int .i64 0,.int .i64 0,.int .i64 0] 46))
 have k2:Kept W1 W2:=by rw[←hW2];exact ja _ _
 obtain⟨HL,HZ,HK,Tb⟩:=lH4 ((ju w (.string n.what) [.slice a1 l1 c1,.slice a2 l2 c2,.int .i64 n.lo,.int .i64 n.hi] 26 W1 (by rw[hW1];exact Kept.refl _)).kept k2) (ju W1 (.int .i64 0) [.int .i64 0,.int .i64 0] 46 W2 (by rw[hW2];exact Kept.refl _)) (k1.trans k2) k1.size;obtain⟨zb,hzb⟩:=eX (W1.heap.size)
 obtain⟨lb,hlb⟩:=eX (w.heap.size)
 rw[hzb] at HZ;rw[hlb] at HL;have Uj:=lH (show lb<zb by have:=(ju w (.string n.what) [.slice a1 l1 c1,.slice a2 l2 c2,.int .i64 n.lo,.int .i64 n.hi] 26 W1 (by rw[hW1];exact Kept.refl _)).lt;omega);have UB:=lH hlb;obtain⟨g,hg⟩:=eX (Vec.ji t n.what)
 obtain⟨HG,HV,UC⟩:=lH3 (fun W (k:Kept w W)=>Vec.jbs (ht.kept k) hg) (show atL n t=zr n.rungs g by unfold atL;rw[hg]) hg;have hr:=h.rungs;obtain⟨a9,c9,e9,hcl,hcm,hrow⟩:=hr;obtain⟨rfl,rfl,rfl⟩:a2=a9∧l2=n.rungs.length∧c2=c9:=by cases e9;exact⟨rfl,rfl,rfl⟩
 obtain⟨len,hlen⟩:=eX (n.rungs.length)
 have Vt:=lH hlen;have HR:=lH hrow;have hm:=hrow.2.1;unfold maxLen at hm;rw[hlen] at HL HR hm;have hsz:=h.size;clear h ht hg e9 hcl hcm hrow k1 k2;by_cases h0:len=0
 · subst h0;have HN:=lH (show zr n.rungs g=none by rw[List.eq_nil_of_length_eq_zero Vt.out];rfl);obtain⟨y0,y1,y2,y3,y4⟩:=HL.out.at5;obtain⟨z0,z1,z2⟩:=HZ.out.at3;have f0:=HZ.out.free 0;have f1:=HZ.out.free 1;have f2:=HZ.out.free 2;go_enter Tryz.func20,Tryz.ntmps20;have TD:=lH (HV.out.trans HN.out);clear hlen;go_wp2;have P:=lH (Jv (vs:=[.int .i64 0,.int .i64 0,.int .i64 0]) HZ.out rfl);obtain⟨WE,hWE⟩:=eX (W2.setCells zb 0 [.int .i64 0,.int .i64 0,.int .i64 0])
   have hWE2:(((W2.setCell ⟨zb,0,none⟩ (.int .i64 0)).setCell ⟨zb,1,none⟩ (.int .i64 0)).setCell ⟨zb,2,none⟩ (.int .i64 0))=WE:=hWE;rw[hWE] at P;try rw[hWE2]
   clear hWE hWE2;have PC:=P.out.cells;refine bodyPost_ret (by simp[results,Tryz.results20,go_sem,PC.at_ 0 _ rfl,PC.at_ 1 _ rfl,PC.at_ 2 _ rfl];try rfl) rfl ?_;exact⟨by rw[TD.out];rfl,P.out.below _ _ (by have:=Uj.out;have:=UB.out;omega) HK.out⟩
 · have UD:=Uj.out;have hlp:0<len:=by omega
   have hne:((len:Int)==0)=false:=by simpa using h0
   clear UD h0;rw[hlen] at hW1 ⊢;clear hlen;obtain⟨y0,y1,y2,y3,y4⟩:=HL.out.at5;obtain⟨z0,z1,z2⟩:=HZ.out.at3;have f0:=HZ.out.free 0;have f1:=HZ.out.free 1;have f2:=HZ.out.free 2;go_enter Tryz.func20,Tryz.ntmps20;go_wp2_with fail
   refine(HG.out _ HK.out).mono ?_;rintro e w3 ⟨rfl,kk⟩;obtain⟨HL,HZ,HK⟩:=lH3 (HL.out.kept kk) (HZ.out.kept kk) (HK.out.trans kk);have HR:=lH (HR.out.kept HK.out);clear kk HG y0 y1 y2 y3 y4 z0 z1 z2 f0 f1 f2 hW1 hW2 hzb hlb;obtain⟨y0,y1,y2,y3,y4⟩:=HL.out.at5;go_wp2;go_loopw [21] (fun iv wr=>∃k:Nat,k≤len∧iv=.int .i64 k∧n.rungs.find? (fun r=>decide (g≤r.1))=(n.rungs.drop k).find? (fun r=>decide (g≤r.1))∧Kept w3 wr) (fun iv _=>len-(intOf iv).toNat)
   case atStart=>exact⟨0,Nat.zero_le _,rfl,rfl,Kept.refl _⟩
   case round =>
    obtain⟨k,hk,rfl,hfd,hK3⟩:=hrel;have UE:=lH hfd;have Vh:=lH hK3;clear hfd hK3 y0 y1 y2 y3 y4;obtain⟨b,off,rfl⟩:=HR.out.form.resolve_left (by omega);by_cases hlt:k<len
    · skip;obtain⟨u,c,p,hn,hd,hb,hfine,p0,p1,p2⟩:=(HR.out.kept Vh.out).rung hlt;have HD:=lH hd;have hkk:(k:Int)<(len:Int):=by omega
      obtain⟨w4,hw4⟩:=eX (wr.alloc (.cells #[.int .i64 u,.int .i64 c,.int .i64 p] 46))
      have k4:Kept wr w4:=by rw[←hw4];exact ja _ _
      obtain⟨r0,r1,r2⟩:=(ju wr (.int .i64 u) [.int .i64 c,.int .i64 p] 46 w4 (by rw[hw4];exact Kept.refl _)).at3;have HZ:=lH (HZ.out.kept (Vh.out.trans k4));have V6:=lH (HK.out.trans (Vh.out.trans k4));obtain⟨z0,z1,z2⟩:=HZ.out.at3;have f0:=HZ.out.free 0;have f1:=HZ.out.free 1;have f2:=HZ.out.free 2;obtain⟨rb,hrb⟩:=eX (wr.heap.size)
      rw[hrb] at r0 r1 r2;have Uk:=lH (Vh.out.trans k4);clear hn hd hfine k4;by_cases hg:g≤u
      · skip;have HW:=lH (show atL n t=some (u,c,p) by rw[HV.out];exact XE UE.out HD.out hg);go_wp2;have P:=lH (Jv (vs:=[.int .i64 u,.int .i64 c,.int .i64 p]) HZ.out rfl);obtain⟨WE,hWE⟩:=eX (w4.setCells zb 0 [.int .i64 u,.int .i64 c,.int .i64 p])
        have hWE2:(((w4.setCell ⟨zb,0,none⟩ (.int .i64 u)).setCell ⟨zb,1,none⟩ (.int .i64 c)).setCell ⟨zb,2,none⟩ (.int .i64 p))=WE:=hWE;rw[hWE] at P;try rw[hWE2]
        clear hWE hWE2;have PC:=P.out.cells;refine bodyPost_ret (by simp[results,Tryz.results20,go_sem,PC.at_ 0 _ rfl,PC.at_ 1 _ rfl,PC.at_ 2 _ rfl];try rfl) rfl ?_;exact⟨by rw[HW.out];rfl,P.out.below _ _ (by have:=Uj.out;have:=UB.out;omega) V6.out⟩
      · skip;have HW:=lH (YY UE.out HD.out hg);go_wp2;go_roundw
        case rel=>exact⟨k+1,by omega,by go_num,HW.out,Uk.out⟩
        case measure=>simp[intOf];omega
    · skip;obtain⟨q,hq⟩:∃q,len=q+1:=⟨len-1,by omega⟩
      have g1:(len:Int)-1=(q:Int):=by omega
      have gw:IntKind.i64.wrap (q:Int)=(q:Int):=by rw[IntKind.wrap_i64];omega
      have g2:(q:Int)<(len:Int):=by omega
      obtain⟨u,c,p,hn,hd,hb,hfine,p0,p1,p2⟩:=(HR.out.kept Vh.out).rung (show q<len by omega);have hkk:¬(k:Int)<(len:Int):=by omega
      have HL:=lH (HL.out.kept Vh.out);have HZ:=lH (HZ.out.kept Vh.out);obtain⟨y0,y1,y2,y3,y4⟩:=HL.out.at5;obtain⟨z0,z1,z2⟩:=HZ.out.at3;have f0:=HZ.out.free 0;have f1:=HZ.out.free 1;have f2:=HZ.out.free 2;have HW:=lH (show atL n t=some (u,c,p) by rw[HV.out];exact YP UE.out (by rw[Vt.out];omega) (by rw[Vt.out,show len-1=q by omega];exact hn));have V6:=lH (HK.out.trans Vh.out);clear hq hn hd hfine;go_wp2;have P:=lH (Jv (vs:=[.int .i64 u,.int .i64 c,.int .i64 p]) HZ.out rfl);obtain⟨WE,hWE⟩:=eX (wr.setCells zb 0 [.int .i64 u,.int .i64 c,.int .i64 p])
      have hWE2:(((wr.setCell ⟨zb,0,none⟩ (.int .i64 u)).setCell ⟨zb,1,none⟩ (.int .i64 c)).setCell ⟨zb,2,none⟩ (.int .i64 p))=WE:=hWE;rw[hWE] at P;try rw[hWE2]
      clear hWE hWE2;have PC:=P.out.cells;refine bodyPost_ret (by simp[results,Tryz.results20,go_sem,PC.at_ 0 _ rfl,PC.at_ 1 _ rfl,PC.at_ 2 _ rfl];try rfl) rfl ?_;exact⟨by rw[HW.out];rfl,P.out.below _ _ (by have:=Uj.out;have:=UB.out;omega) V6.out⟩
def Kind (t e:TypeId) (size bytes:Nat):Prop:=∃i z,Tryz.prog.underlying t=some (.slice e)∧Tryz.prog.info? e=some i∧i.zero=some z∧i.size=size∧i.bytes=bytes∧z.cells.size=size∧0<size
def JE (w:World) (y:Value) (m:Nat) (news:List Value):Prop :=
 (∃ad c,y=.slice (some ad) m c∧∀j u,news[j]?=some u→w.cell? (ad.add j)=some u)∨(∃c,y=.slice none 0 c∧m=0)
theorem YR {t e:TypeId} {size bytes:Nat} (K:Kind t e size bytes) (w:World) (B:Nat) (hB:B≤w.heap.size) (g n cap:Nat) (xs:List Value) (hown:w.ownsRow B e size (.slice (some ⟨g,0,none⟩) n cap) n xs) (y:Value) (m:Nat) (news:List Value) (hl:news.length=m*size) (hone:∀u ∈ news,u.oneCell'=true) (hy:JE w y m news)
 (h63:n+m≤maxLen) (hb:((n+m)+(n+m) / 4+192)*bytes≤281474976710656) (ty:TypeId) :
 ∃g' cap' w',(Builtin.append_ #[t,t] ty #[.slice (some ⟨g,0,none⟩) n cap,y]).run Tryz.prog w=.ok (.slice (some ⟨g',0,none⟩) (n+m) cap') w'∧w'.ownsRow B e size (.slice (some ⟨g',0,none⟩) (n+m) cap') (n+m) (xs++news)∧Below B w w'∧w.grownBy w' (some g):=by
 obtain⟨i,z,ht,hi,hz,h1,h8,hzs,hsz⟩:=K;have hbg:B≤g:=by
  rcases hown.2 with ⟨h0,_⟩ | ⟨g2,cap2,cur,h0,hbg,_⟩
  · cases h0
  · cases h0;exact hbg
 rcases hy with ⟨ad,c,rfl,hc⟩ | ⟨c,rfl,rfl⟩
 · obtain⟨v',w',hr,ho,hg,hnil⟩:=run_append_own_wide w B t ty e i z size bytes ht hi hz h1 h8 hzs hsz _ n xs hown ad m c news hl hc hone h63 hb hB;have hb:=(Below.refl B w).grown hg hB (by intro k hk;cases hk;exact hbg);rcases ho.2 with ⟨h0,_⟩ | ⟨g2,cap2,cur,rfl,_⟩
   · have:=(hnil.1 h0).1
     cases this
   · exact⟨g2,cap2,w',hr,ho,hb,hg⟩
 · have:news=[]:=List.eq_nil_of_length_eq_zero (by rw[hl,Nat.zero_mul]);subst this;rcases hown.2 with ⟨h0,_⟩ | ⟨g2,cap2,cur,h0,_,hg,hnc,_⟩
   · cases h0
   · cases h0
     have hr:=run_append_room_src w t t ty e i ht hi g 0 n cap (.slice none 0 c) 0 [] (Src.ofNil w ht c) (by omega) (by intro j hj;simp at hj) (by intro j hj;simp at hj);exact⟨_,_,_,hr,by simpa [World.setCells] using hown,Below.refl B w,World.grownBy.refl _ _⟩
theorem XP {t e:TypeId} {size bytes:Nat} (Kd:Kind t e size bytes) {o:Oper} {a:Act} {K:Act→World→Prop} {Q:Exit→Act→World→Prop} (s x:Operand) (w:World)
 (ho:o.op=.call { callee:=.builtin .append,args:=#[s,x],argTypes:=#[t,t] })
 (B:Nat) (hB:B≤w.heap.size) (g n cap:Nat) (xs:List Value) (hs:a.eval s=.slice (some ⟨g,0,none⟩) n cap) (hown:w.ownsRow B e size (.slice (some ⟨g,0,none⟩) n cap) n xs) (y:Value) (m:Nat) (news:List Value) (hx:a.eval x=y) (hl:news.length=m*size) (hone:∀u ∈ news,u.oneCell'=true) (hy:JE w y m news)
 (h63:n+m≤maxLen) (hb:((n+m)+(n+m) / 4+192)*bytes≤281474976710656)
 (h:∀g' cap' w',w'.ownsRow B e size (.slice (some ⟨g',0,none⟩) (n+m) cap') (n+m) (xs++news)→Below B w w'→w.grownBy w' (some g)→K (a.put o.dst (.slice (some ⟨g',0,none⟩) (n+m) cap')) w'):o.wp Tryz.prog a w K Q:=by
 obtain⟨g',cap',w',hr,h2,h3,h4⟩:=YR Kd w B hB g n cap xs hown y m news hl hone hy h63 hb o.type;unfold Oper.wp execOp;simp only[ho,resolve,invoke,builtin,Sem.run_bind,Sem.run_pure,Result.andThen_ok,List.map_toArray,List.map_cons,List.map_nil,hs,hx,hr];exact h g' cap' w' h2 h3 h4
theorem Jk {t e:TypeId} {size bytes:Nat} (Kd:Kind t e size bytes) {ops:Array Oper} {rest:List Oper} {o:Oper} {a:Act} {Q:Exit→Act→World→Prop} (w:World) (hgd:o.guard=none) (s x:Operand)
 (ho:o.op=.call { callee:=.builtin .append,args:=#[s,x],argTypes:=#[t,t] })
 (B:Nat) (hB:B≤w.heap.size) (g n cap:Nat) (xs:List Value) (hs:a.eval s=.slice (some ⟨g,0,none⟩) n cap) (hown:w.ownsRow B e size (.slice (some ⟨g,0,none⟩) n cap) n xs) (y:Value) (m:Nat) (news:List Value) (hx:a.eval x=y) (hl:news.length=m*size) (hone:∀u ∈ news,u.oneCell'=true) (hy:JE w y m news)
 (h63:n+m≤maxLen) (hb:((n+m)+(n+m) / 4+192)*bytes≤281474976710656)
 (h:∀g' cap' w',w'.ownsRow B e size (.slice (some ⟨g',0,none⟩) (n+m) cap') (n+m) (xs++news)→Below B w w'→w.grownBy w' (some g)→wpList Tryz.prog ops Q rest (a.put o.dst (.slice (some ⟨g',0,none⟩) (n+m) cap')) w'):wpList Tryz.prog ops Q (o::rest) a w :=
 wpList_plain hgd fun _ hK=>XP Kd s x w ho B hB g n cap xs hs hown y m news hx hl hone hy h63 hb fun g' cap' w' h2 h3 h4=>hK _ _ (h g' cap' w' h2 h3 h4)
theorem ql (w:World) (B size:Nat) (e:TypeId) (hB:B≤w.heap.size):(w.alloc (.cells #[] e)).ownsRow B e size (.slice (some ⟨w.heap.size,0,none⟩) 0 0) 0 [] :=
 ⟨by simp,.inr ⟨w.heap.size,0,#[],rfl,hB,World.alloc_heap_new w _,by omega,by unfold maxLen;omega,by simp,by simp⟩⟩
theorem qv {w:World} {B g n cap size:Nat} {e:TypeId} {xs:List Value} (h:w.ownsRow B e size (.slice (some ⟨g,0,none⟩) n cap) n xs) (o:Obj):(w.alloc o).ownsRow B e size (.slice (some ⟨g,0,none⟩) n cap) n xs:=by
 refine⟨h.1,?_⟩;rcases h.2 with ⟨h0,_⟩ | ⟨g2,cap2,cur,h0,hb,hg,hr⟩
 · cases h0
 · cases h0
   exact .inr ⟨g,cap,cur,rfl,hb,(Below.heap_alloc w o g (Array.getElem?_eq_some_iff.1 hg).1).trans hg,hr⟩
theorem jau {W:World} {B:Nat} {e:TypeId} {cs:Array Value} {vals:List Value} (hv:cs=vals.toArray) (h:W.heap[B]?=some (.cells cs e (0,0))):JE W (.slice (some ⟨B,0,none⟩) 1 1) 1 vals:=by
 subst hv;exact .inl ⟨_,1,rfl,by have:=World.news_of_block (cs:=vals.toArray) (t:=e) (fr:=(0,0)) h;simpa using this⟩
theorem jbi:Kind 23 63 2 24:=by
 obtain⟨i,hi,hz,h1,h2⟩:=info_parts (show (Tryz.prog.info? 63).map (fun i=>(i.zero,i.size,i.bytes))=some (some (.agg #[.string ByteArray.empty,.int .i64 0]),2,24) by kernel_rfl);exact⟨i,_,Tryz.underlying23,hi,hz,h1,h2,rfl,by decide⟩
theorem ZB:∀(l:Vec.V) (j:Nat) (u:Value),(Vec.cellsOf l)[j]?=some u→∃i,i<l.length∧((j=i*2∧u=.string (Vec.nm l i))∨(j=i*2+1∧u=.int .i64 (Vec.qn l i))):=by
 intro l j u h;have hlt:j<l.length*2:=by have:=(List.getElem?_eq_some_iff.1 h).1;rw[Vec.zB] at this;exact this
 have hi:j / 2<l.length:=by omega
 obtain⟨h1,h2⟩:=Vec.zN l (j / 2) hi;refine⟨j / 2,hi,?_⟩;by_cases he:j % 2=0
 · have e:j=j / 2*2:=by omega
   rw[←e] at h1;rw[h1] at h;exact .inl ⟨e,by cases h;rfl⟩
 · have e:j=j / 2*2+1:=by omega
   rw[←e] at h2;rw[h2] at h;exact .inr ⟨e,by cases h;rfl⟩
theorem jaO {w:World} {a:Option Addr} {len cap:Nat} {l:Vec.V} (h:Vec.jq w a len l):JE w (.slice a len cap) len (Vec.cellsOf l):=by
 obtain⟨h0,h1,h2,h3⟩:=h;rcases h3 with h3 | ⟨b,off,rfl,hb,hc⟩
 · have hl:l=[]:=List.eq_nil_of_length_eq_zero (by omega);subst hl;subst h3
   cases a with
   | none=>exact .inr ⟨cap,rfl,rfl⟩
   | some ad=>exact .inl ⟨ad,cap,rfl,fun j u hu=>by simp[Vec.cellsOf] at hu⟩
 · refine .inl ⟨_,cap,rfl,fun j u hu=>?_⟩;obtain⟨i,hi,hj⟩:=ZB l j u hu;obtain⟨c1,c2⟩:=hc i (by omega);have e:(⟨b,off,none⟩:Addr).add j=⟨b,off+j,none⟩:=by
    unfold Addr.add;split<;>simp_all
   rw[e];rcases hj with ⟨rfl,rfl⟩ | ⟨rfl,rfl⟩
   · exact c1
   · rw[←Nat.add_assoc];exact c2
theorem Xq (a:Option Addr) (len cap:Nat) (l:Vec.V) (w:World) (hr:Vec.jq w a len l) (hc:len≤cap) (hm:cap≤maxLen) (hn:len≤1000000) :
 Calls Tryz.prog 33 #[.slice a len cap] w fun e w'=>∃a' m' c',e=.returned (.slice a' m' c')∧Vec.Reads w' (.slice a' m' c') l∧(∀b off sp,a'=some ⟨b,off,sp⟩→w.heap.size≤b)∧Kept w w':=by
 have hl:=hr.1;have q22:∀(w:World) (a:Option Addr) (n c n' c':Nat),(binOp .eql 23 (.slice a n c) (.slice none n' c')).run Tryz.prog w=.ok (.bool a.isNone) w:=fun w a n c n' c'=>Lib.run_eql_slice_nil w _ _ a n c n' c' Tryz.underlying23
 cases a with
 | none =>
  have h0:len=0:=by
   rcases hr.form with h | ⟨b,off,h⟩
   · exact h
   · cases h
  subst h0;have hl0:l=[]:=List.eq_nil_of_length_eq_zero hl;subst hl0;clear hr hl;go_enter Tryz.func33,Tryz.ntmps33;go_wp2;go_ret;exact⟨none,0,0,rfl,Vec.Reads.nil _,(fun b o s e=>by cases e),Kept.refl _⟩
 | some ad =>
  have HR:=lH hr;have HL:=lH hl;have hrl:(Vec.cellsOf l).length=len*2:=by rw[Vec.zB,hl]
  have hb1:0+len≤maxLen:=by unfold maxLen;omega
  have hb2:((0+len)+(0+len) / 4+192)*24≤281474976710656:=by omega
  clear hr hl;go_enter Tryz.func33,Tryz.ntmps33;go_wp2_with (at_builtin;refine Jk jbi _ rfl (.tmp 5) (.tmp 6) rfl w.heap.size (by simp) w.heap.size 0 0 [] rfl (ql w w.heap.size 2 _ (Nat.le_refl _)) _ len (Vec.cellsOf l) rfl hrl (Vec.zG _) (jaO (HR.out.kept (ja _ _))) hb1 hb2 ?_;intro g1 k1 W1 ho hd hg;have HO:=lH ho;have HD:=lH hd;clear ho hd hg;refine Hid.out ?_)
  refine lH ?_;simp only[Nat.zero_add,List.nil_append] at HO ⊢;go_wp2;go_ret;exact⟨_,_,_,rfl,Vec.jj.reads (⟨by rw[HL.out];exact HO.out,HR.out.2.2.1⟩:Vec.jj 63 W1 w.heap.size (.slice (some ⟨g1,0,none⟩) len k1) l),(fun b o s e=>by cases e;exact(HO.out.lt g1 rfl).1),Below.trans (ja w _) HD.out⟩
def Yr (c lo hi:Int):Int:=min (max c lo) hi
def j6 (n:Lad) (t:Vec.V):Int×Vec.V×Int :=
 if jU n≠0 then (0,[],jU n) else match atL n t with
 | none=>(n.lo,n.unit,0)
 | some r=>if (Vec.jy Vec.jd r.2.2 n.unit).1≠0 then (0,[],(Vec.jy Vec.jd r.2.2 n.unit).1) else (Yr r.2.1 n.lo n.hi,(Vec.jy Vec.jd r.2.2 n.unit).2,0)
def XD (x:Int×Vec.V×Int) (w:World) (e:Ending) (w':World):Prop:=∃v,e=.returned (.tuple #[.int .i64 x.1,v,.int .i64 x.2.2])∧Vec.Reads w' v x.2.1∧Kept w w'
theorem qY {n:Lad} {t:Vec.V} {r:Int×Int×Int} (hf:∀x ∈ n.rungs,I64 x.1∧I64 x.2.1∧I64 x.2.2) (h:atL n t=some r):I64 r.1∧I64 r.2.1∧I64 r.2.2:=by
 refine hf r ?_;unfold atL zr at h;split at h
 · rename_i r' hr;obtain rfl:=Option.some.inj h;exact List.mem_of_find?_eq_some hr
 · exact List.mem_of_getLast? h
theorem qZ {a b c d:Int} (h:orL [a,b,c,d]=0):a=0∧b=0∧c=0∧d=0:=by
 simp only[orL] at h;split at h
 · rename_i h1;exact absurd h h1
 · split at h
   · rename_i h1;exact absurd h h1
   · split at h
     · rename_i h1;exact absurd h h1
     · split at h
       · rename_i h1;exact absurd h h1
       · omega
theorem YF {n:Lad} (h:jU n=0):n.unit.length≤8:=by
 have:=(qZ h).2.1;unfold Vec.jf at this;split at this
 · cases this
 · omega
theorem Ym (n:Lad) (a1 a2:Option Addr) (l1 c1 l2 c2:Nat) (tv:Value) (t:Vec.V) (w:World) (h:jZ w (.slice a1 l1 c1) (.slice a2 l2 c2) n) (ht:Vec.Reads w tv t) :
 Calls Tryz.prog 16 #[.agg #[.string n.what,.slice a1 l1 c1,.slice a2 l2 c2,.int .i64 n.lo,.int .i64 n.hi],tv] w (XD (j6 n t) w):=by
 obtain⟨W1,hW1⟩:=eX (w.alloc (.cells #[.string n.what,.slice a1 l1 c1,.slice a2 l2 c2,.int .i64 n.lo,.int .i64 n.hi] 26))
 have k1:Kept w W1:=by rw[←hW1];exact ja _ _
 have HL:=lH (ju w (.string n.what) [.slice a1 l1 c1,.slice a2 l2 c2,.int .i64 n.lo,.int .i64 n.hi] 26 W1 (by rw[hW1];exact Kept.refl _));obtain⟨lb,hlb⟩:=eX (w.heap.size)
 rw[hlb] at HL;obtain⟨HK,HA,HT,HF⟩:=lH4 k1 h ht (h.rungs.fine);clear h ht k1;obtain⟨e1,he1⟩:=eX (jU n)
 have VW:=lH he1;have HC:=lH (fun W (k:Kept w W)=>Jm n (.slice a1 l1 c1) (.slice a2 l2 c2) W (HA.out.kept k));unfold Yo at HC;rw[he1] at HC;clear he1;obtain⟨y0,y1,y2,y3,y4⟩:=HL.out.at5;go_enter Tryz.func16,Tryz.ntmps16;go_wp2_with fail
 try rw[hW1]
 try rw[hlb]
 clear hW1 hlb;refine(HC.out _ HK.out).mono ?_;rintro e w2 ⟨rfl,kk⟩;have HL:=lH (HL.out.kept kk);have HK:=lH (HK.out.trans kk);clear kk HC y0 y1 y2 y3 y4;by_cases hz:e1=0
 · subst hz;obtain⟨o,ho⟩:=eX (atL n t)
   have HO:=lH ho;have Va:=lH (fun W (k:Kept w W)=>qD n a1 a2 l1 c1 l2 c2 tv t W (HA.out.kept k) (HT.out.kept k));rw[ho] at Va;unfold AtR jap at Va;obtain⟨⟨u,c,p⟩,hr⟩:∃r,o.getD (0,0,0)=r:=⟨_,rfl⟩
   rw[hr] at Va;have VD:=lH hr;obtain⟨ok,hok⟩:=eX (o.isSome)
   rw[hok] at Va;have Vr:=lH hok;dsimp only at Va;clear ho hr hok;obtain⟨y0,y1,y2,y3,y4⟩:=HL.out.at5;go_wp2_with fail
   refine(Va.out _ HK.out).mono ?_;rintro e w3 ⟨rfl,kk⟩;have HL:=lH (HL.out.kept kk);have HK:=lH (HK.out.trans kk);clear kk Va y0 y1 y2 y3 y4;obtain⟨w4,hw4⟩:=eX (w3.alloc (.cells #[.int .i64 u,.int .i64 c,.int .i64 p] 46))
   have k4:Kept w3 w4:=by rw[←hw4];exact ja _ _
   have HB:=lH (ju w3 (.int .i64 u) [.int .i64 c,.int .i64 p] 46 w4 (by rw[hw4];exact Kept.refl _));obtain⟨rb,hrb⟩:=eX (w3.heap.size)
   rw[hrb] at HB;have HL:=lH (HL.out.kept k4);have HK:=lH (HK.out.trans k4);clear k4;obtain⟨y0,y1,y2,y3,y4⟩:=HL.out.at5;obtain⟨r0,r1,r2⟩:=HB.out.at3
   cases ok with
   | false =>
    have HW:=lH (show j6 n t=(n.lo,n.unit,0) by
     have e:o=none:=by cases o with
      | none=>rfl
      | some x=>exact absurd Vr.out (by simp)
     unfold j6;rw[if_neg (by rw[VW.out];decide),HO.out,e])
    clear r0 r1 r2;go_upto_region 6 with fail
    try rw[hw4]
    try rw[hrb]
    clear hw4 hrb y0 y1 y2 y3 y4;have HS:=lH (show ∀W,Kept w4 W→W.cell? ⟨lb,0,none⟩=some (.string n.what)∧W.cell? ⟨lb,1,none⟩=some (.slice a1 l1 c1)∧W.cell? ⟨lb,2,none⟩=some (.slice a2 l2 c2)∧W.cell? ⟨lb,3,none⟩=some (.int .i64 n.lo)∧W.cell? ⟨lb,4,none⟩=some (.int .i64 n.hi) from fun W k=>(HL.out.kept k).at5);have J:=lH (Kept.drew w4);refine wp_region_held_drew (S:=fun W=>W.cell? ⟨lb,0,none⟩=some (.string n.what)∧W.cell? ⟨lb,1,none⟩=some (.slice a1 l1 c1)∧W.cell? ⟨lb,2,none⟩=some (.slice a2 l2 c2)∧W.cell? ⟨lb,3,none⟩=some (.int .i64 n.lo)∧W.cell? ⟨lb,4,none⟩=some (.int .i64 n.hi)) (by kernel_rfl) (HS.out _ J.out) (fun hHeld=>?_);obtain⟨wd,hwd⟩:=eX (w4.drew)
    rw[hwd] at J hHeld;try rw[hwd]
    clear hwd;refine tR 0 rfl (by kernel_rfl) (fun _ _ _=>id) (Or.inl ⟨by rfl,by rintro W ⟨o0,o1,o2,o3,o4⟩;go_simp<;>with_reducible rfl⟩) ‹_› ?_;try simp only[nA,nB,nC,nD,nE]
    refine tR 1 rfl (by kernel_rfl) (fun _ _ _=>id) (Or.inl ⟨by rfl,by rintro W ⟨o0,o1,o2,o3,o4⟩;go_simp<;>with_reducible rfl⟩) ‹_› ?_;try simp only[nA,nB,nC,nD,nE]
    refine tR 2 rfl (by kernel_rfl) (fun _ _ _=>id) (Or.inl ⟨by rfl,by rintro W ⟨o0,o1,o2,o3,o4⟩;go_simp<;>with_reducible rfl⟩) ‹_› ?_;try simp only[nA,nB,nC,nD,nE]
    refine tR 3 rfl (by kernel_rfl) (fun _ _ _=>id) (Or.inl ⟨by rfl,by rintro W ⟨o0,o1,o2,o3,o4⟩;go_simp<;>with_reducible rfl⟩) ‹_› ?_;try simp only[nA,nB,nC,nD,nE]
    refine rd1 4 fun K9 Ky=>?_;go_simp;obtain⟨a9,c9,e9,q1,q2,q3⟩:=(HA.out.kept (HK.out.trans J.out)).unit;obtain⟨rfl,rfl,rfl⟩:a1=a9∧l1=n.unit.length∧c1=c9:=by cases e9;exact⟨rfl,rfl,rfl⟩
    refine(Xq a1 _ c1 n.unit wd q3 q1 q2 (by have:=YF VW.out;omega)).mono ?_;rintro e w5 ⟨a5,m5,c5,rfl,hrd,-,kk⟩;have J:=lH (J.out.trans kk);have Vy:=lH hrd;clear kk hrd e9 q1 q2 q3;refine Ky.out _ _ (HS.out _ J.out) (fun _=>?_);clear Ky K9;try simp only[nA,nB,nC,nD,nE]
    refine tR 5 rfl (by kernel_rfl) (fun _ _ _=>id) (Or.inl ⟨by rfl,by rintro W ⟨o0,o1,o2,o3,o4⟩;go_simp<;>with_reducible rfl⟩) ‹_› ?_;try simp only[nA,nB,nC,nD,nE]
    refine tR 6 rfl (by kernel_rfl) (fun _ _ _=>id) (Or.inl ⟨by rfl,by rintro W ⟨o0,o1,o2,o3,o4⟩;go_simp<;>with_reducible rfl⟩) ‹_› ?_;try simp only[nA,nB,nC,nD,nE]
    refine tR 7 rfl (by kernel_rfl) (fun _ _ _=>id) (Or.inl ⟨by rfl,by rintro W ⟨o0,o1,o2,o3,o4⟩;go_simp<;>with_reducible rfl⟩) ‹_› ?_;try simp only[nA,nB,nC,nD,nE]
    refine wpAnyH_done (by kernel_rfl) ?_ _;go_wp2;go_ret3
    exact⟨.slice a5 m5 c5,by rw[HW.out];rfl,by rw[HW.out];exact Vy.out,HK.out.trans J.out⟩
   | true =>
    have Tc:=lH (show o=some (u,c,p) by
     cases o with
     | none=>exact absurd Vr.out (by simp)
     | some x=>have:=VD.out;simp at this;rw[this])
    have VY:=lH (qY HF.out (HO.out.trans Tc.out));obtain⟨⟨e2,m2⟩,hem⟩:∃x,Vec.jy Vec.jd p n.unit=x:=⟨_,rfl⟩
    have HW:=lH (show j6 n t=if e2≠0 then (0,[],e2) else (Yr c n.lo n.hi,m2,0) by
     unfold j6;rw[if_neg (by rw[VW.out];decide),HO.out,Tc.out];dsimp only;rw[hem])
    have HP:=lH (fun W (k:Kept w W)=>Vec.jbd (n:=p) (HA.out.unit.kept k) VY.out.2.2.1 VY.out.2.2.2 hem);clear hem;go_wp2_with fail
    try rw[hw4]
    try rw[hrb]
    clear hw4 hrb;refine(HP.out _ HK.out).mono ?_;rintro e w5 ⟨x,rfl,hrd,kk⟩;obtain⟨Vy,HL,HB,HK⟩:=lH4 hrd (HL.out.kept kk) (HB.out.kept kk) (HK.out.trans kk);clear hrd kk HP y0 y1 y2 y3 y4 r0 r1 r2;by_cases hz2:e2=0
    · subst hz2;obtain⟨y0,y1,y2,y3,y4⟩:=HL.out.at5;obtain⟨r0,r1,r2⟩:=HB.out.at3;go_wp2;go_ret3
      exact⟨x,by rw[HW.out];rfl,by rw[HW.out];exact Vy.out,HK.out⟩
    · have hz3:(e2 != 0)=true:=by simpa using hz2
      have HN:=lH hz2;clear hz2;go_wp2;go_ret3
      exact⟨.slice none 0 0,by rw[HW.out,if_pos HN.out];rfl,by rw[HW.out,if_pos HN.out];exact Vec.Reads.nil _,HK.out⟩
 · have hz3:(e1 != 0)=true:=by simpa using hz
   have HW:=lH (show j6 n t=(0,[],e1) by unfold j6;rw[VW.out,if_pos hz]);clear hz;go_wp2;go_ret3
   exact⟨.slice none 0 0,by rw[HW.out];rfl,by rw[HW.out];exact Vec.Reads.nil _,HK.out⟩
theorem YJ {n:Lad} {v tv:Value} {t:Vec.V} {w:World} {x:Int×Vec.V×Int} (h:Zz w v n) (ht:Vec.Reads w tv t) (e:j6 n t=x):Calls Tryz.prog 16 #[v,tv] w (XD x w):=by
 subst e;obtain⟨v1,v2,rfl,h⟩:=h;obtain⟨a1,c1,rfl,-⟩:=id h.unit;obtain⟨a2,c2,rfl,-⟩:=id h.rungs;exact Ym n a1 a2 _ c1 _ c2 tv t w h ht
theorem ja3 {n:Lad} {v tv:Value} {t:Vec.V} {w:World} {o:Option (Int×Int×Int)} (h:Zz w v n) (ht:Vec.Reads w tv t) (e:atL n t=o):Calls Tryz.prog 20 #[v,tv] w (AtR o w):=by
 subst e;obtain⟨v1,v2,rfl,h⟩:=h;obtain⟨a1,c1,rfl,-⟩:=id h.unit;obtain⟨a2,c2,rfl,-⟩:=id h.rungs;exact qD n a1 a2 _ c1 _ c2 tv t w h ht
end Go.Proofs.YtnfojaidmnccoaaGreatDoor
