/- C. -/
import Derived.Test.YtnfojaidmnccoaaGreatDoorG0
import Derived.Test.YtnfojaidmnccoaaGreatDoorG1
import Derived.Test.YtnfojaidmnccoaaGreatDoorG2
import Derived.Handy
import Derived.Shelf.SlSortCmp.QuietGrown
set_option linter.unusedVariables false
set_option maxRecDepth 100000
set_option maxHeartbeats 25600000
namespace Go.Proofs.YtnfojaidmnccoaaGreatDoor
open Go.RowKit Go.Shelf
attribute [local go_sem] Oper.semAt_some
def jcu (D k:Nat) (I:Nat→World→Prop) (JP:List PanicEntry→World→Prop) (W:World):Exit→Act→World→Prop
 | .normal,_,W'=>Y6 D (D+8) W W'∧I (k+1) W'
 | .panic c,a,W'=>a.defers=[]∧Y6 D (D+8) W W'∧JP c W'
 | _,_,_=>False
theorem YG {g:Operand} {t:Tmp} {assign body:Code} {Q:Exit→Act→World→Prop} {a:Act} {w:World} {fid:Nat} {fn:Func} (hfn:Tryz.prog.funcs[fid]?=some fn)
 (bw bc:Nat) (hg:a.eval g=.func (.func 92) #[] #[.pointer (some ⟨bw,0,none⟩),.pointer (some ⟨bc,0,none⟩)])
 (r:Option (List UInt8)) (hs:∀s,r=some s→s.length≤1000000) (hr:zL w bw bc r)
 (I:Nat→World→Prop) (JP:List PanicEntry→World→Prop) (hI:∀k W W',I k W→StR w.heap.size (w.heap.size+8) W W'→I k W') (hJP:∀c W W',JP c W→StR w.heap.size (w.heap.size+8) W W'→JP c W')
 (hE:∀k W,I k W→Env W) (h0:I 0 w) (a₁:ByteArray→Act)
 (hassign:∀(l:Nat) (x:ByteArray) (W:World) (K:Act→World→Prop),K (a₁ x) W →
   assign.wpIn (Fence.wide.inRound l) 4 Tryz.prog (Exit.then K (fun _ _ _=>False)) { tmps:=(#[t].zip #[Value.string x]).foldl (fun tt (p,v)=>tt.setIfInBounds p v) a.tmps,defers:=[] } W)
 (hbody:∀(l k:Nat) (p:List UInt8) (W:World),(jm r)[k]?=some p→I k W→w.heap.size+8≤W.heap.size→body.wpIn (Fence.wide.inRound l) 4 Tryz.prog (jcu w.heap.size k I JP W) (a₁ (bytes p)) W)
 (hdone:∀(W:World),I (jm r).length W→W.heap[w.heap.size]?=some (.deferred (some []))→Q .normal { a with defers:={ target:=.collected w.heap.size,args:=#[] }::a.defers } W)
 (hpanic:∀(c:List PanicEntry) (W:World),JP c W→W.heap[w.heap.size]?=some (.deferred (some []))→Q (.panic c) { a with defers:={ target:=.collected w.heap.size,args:=#[] }::a.defers } W) :
 zG fid Tryz.prog (Code.rangeFunc g #[t] assign body) Q a w:=by
 obtain⟨rec,hrec⟩:∃rec:LoopState→Option Code→Loop,rec=fun st pe=>{ state:=st,pending:=pe,fn:=fid,tmps:=a.tmps,params:=#[t],assign,body,defers:=w.heap.size }:=⟨_,rfl⟩
 obtain⟨W1,hW1⟩:=eX ((w.alloc (.deferred (some []))).alloc (.loop (rec .ready none)))
 have hL1:W1.heap[w.heap.size+1]?=some (.loop (rec .ready none)):=by
  rw[←hW1];have:=World.alloc_heap_new (w.alloc (.deferred (some []))) (.loop (rec .ready none));rwa [World.size_alloc] at this
 have hK1:W1.heap[w.heap.size]?=some (.deferred (some [])):=by
  rw[←hW1];exact(Below.heap_alloc _ _ _ (by simp)).trans (World.alloc_heap_new w _)
 have hB1:Kept w W1:=by rw[←hW1];exact(jb w _).trans (jb _ _)
 have hz1:W1.heap.size=w.heap.size+2:=by rw[←hW1];simp
 have hS1:StR w.heap.size (w.heap.size+8) w W1:=StR.kept hB1 (Nat.le_refl _) (by omega)
 refine zZ (n:=4) (l:=w.heap.size+1) (mark:=[{ target:=.collected w.heap.size,args:=#[] }]) (w₁:=W1) (d:={ target:=.fn (.func 92) #[.pointer (some ⟨bw,0,none⟩),.pointer (some ⟨bc,0,none⟩)],args:=#[.func (.yield (w.heap.size+1)) #[] #[]] })
  (f:=92) (args:=#[.func (.yield (w.heap.size+1)) #[] #[],.pointer (some ⟨bw,0,none⟩),.pointer (some ⟨bc,0,none⟩)]) ?_ ?_ ?_ ?_
 · rw[←hW1,hrec];exact run_enterLoop_outer _ _ _ _ _
 · simp only[resolve,hg];simp[go_sem]
 · have eg:=enters_of (P:=Tryz.prog) Tryz.func92 (by kernel_rfl) rfl;simp[invoke,go_sem,eg]
 · refine(callsIn_wide.2 (jaT (w.heap.size+1) bw bc r W1
    (fun k W=>I k W∧W.heap[w.heap.size+1]?=some (.loop (rec .ready none))∧W.heap[w.heap.size]?=some (.deferred (some [])))
    (fun c W=>JP c W∧W.heap[w.heap.size]?=some (.deferred (some [])))
    (hr.kept hB1) hs ?hY ⟨hI 0 w W1 h0 hS1,hL1,hK1⟩)).mono ?post
   case hY =>
    rw[hz1];refine⟨?_,?_,?_,?_⟩
    · rintro k p W hp ⟨hi,hl,hk⟩ hsz;have hlt:w.heap.size+1<W.heap.size:=(Array.getElem?_eq_some_iff.1 hl).1;have hy:=run_yield (P:=Tryz.prog) (args:=#[.string (bytes p)]) hl (by rw[hrec];rfl);rw[hrec] at hy;refine⟨fid,_,assign,body,hy,zi trivial hfn ?_⟩;refine hassign _ (bytes p) W _ ?_;refine⟨_,run_beginRound hl (by rw[hrec]),?_⟩;have hl2:(W.putObj (w.heap.size+1) (.loop { rec .ready none with state:=.busy })).heap[w.heap.size+1]?=some (.loop { rec .ready none with state:=.busy }):=World.putObj_heap_same hlt;have hk2:(W.putObj (w.heap.size+1) (.loop { rec .ready none with state:=.busy })).heap[w.heap.size]?=some (.deferred (some [])):=(World.putObj_heap_other (by omega)).trans hk;refine wpIn_mono (hbody _ k p _ hp (hI k _ _ hi (StR.put W _ (by omega))) (by simp;omega)) ?_;rintro e a3 W3 hp3
      cases e with
      | normal =>
       obtain⟨hk3,hi3⟩:=hp3;have hl3:=(hk3 (w.heap.size+1) (by omega) (by omega)).trans hl2;have hr:=run_endRound (P:=Tryz.prog) none hl3;refine⟨_,_,hr,.inl ⟨rfl,⟨hI _ _ _ hi3 (StR.put W3 _ (by omega)),?_,?_⟩,?_⟩⟩
       · rw[World.putObj_heap_same (Array.getElem?_eq_some_iff.1 hl3).1,hrec];rfl
       · exact((World.putObj_heap_other (by omega)).trans (hk3 w.heap.size (by omega) (by omega))).trans hk2
       · intro b hb1 hb2;exact((World.putObj_heap_other (by omega)).trans (hk3 b (by omega) (by omega))).trans (World.putObj_heap_other (by omega))
      | panic c =>
       obtain⟨hd,hk3,hj⟩:=hp3;exact⟨hd,.inr ⟨c,rfl,⟨hj,(hk3 w.heap.size (by omega) (by omega)).trans hk2⟩,fun b hb1 hb2=>(hk3 b (by omega) (by omega)).trans (World.putObj_heap_other (by omega))⟩⟩
      | ret=>exact hp3.elim
      | exit id=>exact hp3.elim
      | goto t=>exact hp3.elim
      | outgrown=>exact hp3.elim
    · rintro k W W' ⟨hi,hl,hk⟩ hst;exact⟨hI _ _ _ hi (hst.wider (by omega) (by omega)),(hst.block _ (by omega)).trans hl,(hst.block _ (by omega)).trans hk⟩
    · rintro c W W' ⟨hj,hk⟩ hst;exact⟨hJP _ _ _ hj (hst.wider (by omega) (by omega)),(hst.block _ (by omega)).trans hk⟩
    · rintro k W ⟨hi,_,_⟩;exact hE k W hi
   case post =>
    rintro e W2 (⟨⟨v,rfl⟩,hi,hl,hk⟩ | ⟨c,rfl,hj,hk⟩)
    · exact⟨_,run_endLoop (P:=Tryz.prog) hl (by rw[hrec];simp) |>.trans (by rw[hrec]),hdone _ (hI _ _ _ hi (StR.put W2 _ (by omega))) ((World.putObj_heap_other (by omega)).trans hk)⟩
    · exact hpanic c W2 hj hk
end Go.Proofs.YtnfojaidmnccoaaGreatDoor
namespace Go.Proofs.YtnfojaidmnccoaaGreatDoor
open Go.RowKit
theorem ZK (c:UInt8):∀(k:Nat) (s:List UInt8),k+1≤(ja c s).length→∃r,Lib.splitK [c] 0 k s=(ja c s).take k++[r]∧ja c r=(ja c s).drop k∧r.length≤s.length
 | 0,s,_=>⟨s,by rw[Lib.splitK];rfl,rfl,Nat.le_refl _⟩
 | k+1,s,h=>by
  rw[Lib.splitK];obtain⟨h1,h2⟩:=qw c s
  cases hf:(Lib.cut s [c]).2.2 with
  | false=>rw[JI c s hf] at h;simp at h
  | true =>
   obtain⟨e0,e1,e2⟩:=h2 hf;rw[J3 c s hf] at h ⊢;obtain⟨r,i1,i2,i3⟩:=ZK c k (Lib.cut s [c]).2.1 (by simpa using h);rw[if_neg (fun e=>e0 (beq_iff_eq.1 e)),e1,e2,i1];exact⟨r,rfl,i2,Nat.le_trans i3 (jco s [c]).2⟩
theorem Jz (c:UInt8) (k:Nat) (s:List UInt8) (L:List ByteArray) (q:List (List UInt8)) (h:Lib.splitB ⟨#[c]⟩ 0 k (bytes s)=L) (hq:Lib.splitK [c] 0 k s=q):L=q.map bytes:=by
 have hd:=Lib.splitB_data ⟨#[c]⟩ 0 k (bytes s);have hb:(bytes s).data.toList=s:=by simp[bytes]
 rw[hb,h] at hd;have hd':L.map (·.data.toList)=q:=hd.trans hq;rw[←hd',List.map_map];have:(bytes ∘ fun x:ByteArray=>x.data.toList)=id:=by
  funext x;cases x;simp[bytes]
 rw[this,List.map_id]
def Y8 (s:List UInt8) (w:World) (e:Ending) (w':World):Prop :=
 ((ja 32 s).length<3→e=.panicked [jG 2]) ∧
 (3≤(ja 32 s).length→∃g cap bw bc r,e=.returned (.tuple #[.slice (some ⟨g,0,none⟩) 3 cap,.func (.func 92) #[] #[.pointer (some ⟨bw,0,none⟩),.pointer (some ⟨bc,0,none⟩)]]) ∧
   (∀j p,j<3→(ja 32 s)[j]?=some p→w'.cell? ⟨g,j,none⟩=some (.string (bytes p)))∧zL w' bw bc r∧jm r=(ja 32 s).drop 3∧∀q,r=some q→q.length≤s.length)∧Kept w w'
theorem Yz (L:List ByteArray) (n:Nat) (w W:World) (T:TypeId) (q:List (List UInt8)) (hL:L=q.map bytes) (k:Kept (w.alloc (.cells (Lib.cellsOf L n) T)) W):∀j p,q[j]?=some p→W.cell? ⟨w.heap.size,j,none⟩=some (.string (bytes p)):=by
 intro j p hj;have hh:=w.alloc_heap_new (.cells (Lib.cellsOf L n) T);have hLj:L[j]?=some (bytes p):=by rw[hL,List.getElem?_map,hj];rfl
 have hj5:j<L.length:=(List.getElem?_eq_some_iff.1 hLj).1;refine cell_later k ?_;rw[Lib.cell_of_heap hh];show (Lib.cellsOf L n)[j]?=some (.string (bytes p));unfold Lib.cellsOf;rw[List.getElem?_toArray,List.getElem?_append_left (by rw[List.length_map];exact hj5),List.getElem?_map,hLj];rfl
theorem jbH (s:List UInt8) (w:World) (hE:Env w) (hs:s.length≤1000000) :
 Calls Tryz.prog 69 #[.string (bytes s),.int .i64 3] w (Y8 s w):=by
 obtain⟨w1,hw1⟩:=eX (w.alloc (.cells #[.int .i64 3] 3))
 have hk1:Kept w w1:=by rw[←hw1];exact jb _ _
 have hz1:w1.heap.size=w.heap.size+1:=by rw[←hw1,World.size_alloc]
 have hc1:w1.cell? ⟨w.heap.size,0,none⟩=some (.int .i64 3):=by rw[←hw1];exact(Jv w _ _).1
 obtain⟨m,hm⟩:=(hE.kept hk1).most;have hmf:=hmfL (P:=Tryz.prog);have Vd:=lH (Tryz.strings_SplitN (bytes s) ⟨#[32]⟩ 4 m w1 (by rw[jn];omega) hm (by decide) (by decide) (by decide));obtain⟨n,hn⟩:=eX (min 4 ((bytes s).size+1))
 rw[hn] at Vd;obtain⟨L,hL⟩:=eX (Lib.splitB ⟨#[32]⟩ 0 (n-1) (bytes s))
 rw[hL] at Vd;have hsz:(bytes s).size=s.length:=jn s;have hpl:=J0 32 s;have hcap:L.length≤n:=by
  rw[←hL];have:=Lib.splitB_length_le ⟨#[32]⟩ 0 (n-1) (bytes s);omega
 obtain⟨VU,VS,TV⟩:=lH3 hk1 hz1 hc1;by_cases h3:(ja 32 s).length<3
 · have hq:=(zT 32 (n-1) s).1 (by omega);have hLq:=Jz 32 (n-1) s L _ hL hq;obtain⟨k,hk⟩:=eX (L.length)
   have hk3:k<3:=by rw[←hk,hLq,List.length_map];exact h3
   rw[hk] at Vd;have H3:=lH h3;have hlt:(k:Int)<3:=by omega
   clear h3 hq hLq hk hk3 hcap hL hm hE hz1;go_enter Tryz.func69,Tryz.ntmps69;go_wp2_with fail
   refine Vd.out.mono ?_;rintro e w2 ⟨rfl,rfl⟩;have hc3:((w1.alloc (.cells (Lib.cellsOf L n) 9)).alloc (.cells #[.slice (some ⟨w1.heap.size,0,none⟩) k n] 87)).cell? ⟨w.heap.size,0,none⟩=some (.int .i64 3):=cell_later (jQ _ _ _) TV.out;go_wp2;exact⟨rfl,⟨fun _=>rfl,fun h=>absurd H3.out (by omega),VU.out.trans (jQ _ _ _)⟩⟩
 · obtain⟨k,r,q,hk,hLq,hqt,hr,hrp,hrs⟩:∃(k:Nat) (r:Option (List UInt8)) (q:List (List UInt8)),L.length=k∧L=q.map bytes∧(∀j p,j<3→(ja 32 s)[j]?=some p→q[j]?=some p)∧(match r with | none=>k=3∧3≤n∧n≤4 | some x=>k=4∧n=4∧q[3]?=some x)∧jm r=(ja 32 s).drop 3∧∀x,r=some x→x.length≤s.length:=by
    by_cases h4:(ja 32 s).length=3
    · have hq:=(zT 32 (n-1) s).1 (by omega);have hLq:=Jz 32 (n-1) s L _ hL hq;refine⟨3,none,ja 32 s,by rw[hLq,List.length_map,h4],hLq,fun j p _ h=>h,⟨rfl,by omega,by omega⟩,?_,fun x h=>by cases h⟩;rw[List.drop_of_length_le (by omega)];rfl
    · have hn4:n=4:=by omega
      subst hn4;obtain⟨x,e1,e2,e3⟩:=ZK 32 3 s (by omega);have hLq:=Jz 32 3 s L _ hL e1;have ht:((ja 32 s).take 3).length=3:=by rw[List.length_take];omega
      refine⟨4,some x,(ja 32 s).take 3++[x],by rw[hLq,List.length_map,List.length_append,ht];rfl,hLq,fun j p hj h=>?_,⟨rfl,rfl,?_⟩,e2,fun y h=>by cases h;exact e3⟩
      · rw[List.getElem?_append_left (by omega),List.getElem?_take_of_lt hj];exact h
      · rw[List.getElem?_append_right (by omega),ht];rfl
   rw[hk] at Vd
   have hcap3:3≤n:=by cases r with
    | none=>exact hr.2.1
    | some x=>obtain⟨_,h,_⟩:=hr;omega
   have hk3:¬(k:Int)<3:=by cases r with
    | none=>obtain⟨h,_⟩:=hr;omega
    | some x=>obtain⟨h,_⟩:=hr;omega
   have hkn:k≤n:=by rw[←hk];exact hcap
   have hn4:n≤4:=by omega
   obtain⟨H3,Ru,HR,Vs,UZ,U2⟩:=lH6 h3 hqt hr hrp hrs hLq;clear h3 hqt hr hrp hrs hLq hk hcap hL hm hE hn hz1;go_enter Tryz.func69,Tryz.ntmps69;go_wp2_with fail
   refine Vd.out.mono ?_;rintro e w2 ⟨rfl,rfl⟩;have hc3:((w1.alloc (.cells (Lib.cellsOf L n) 9)).alloc (.cells #[.slice (some ⟨w1.heap.size,0,none⟩) k n] 87)).cell? ⟨w.heap.size,0,none⟩=some (.int .i64 3):=cell_later (jQ _ _ _) TV.out;have TW:=lH hc3;have TX:=lH (Yz L n w1 ((w1.alloc (.cells (Lib.cellsOf L n) 9)).alloc (.cells #[.slice (some ⟨w1.heap.size,0,none⟩) k n] 87)) 9 q U2.out (jb _ _));have TY:=lH (show ((w1.alloc (.cells (Lib.cellsOf L n) 9)).alloc (.cells #[.slice (some ⟨w1.heap.size,0,none⟩) k n] 87)).cell? ⟨w1.heap.size+1,0,none⟩=some (.slice (some ⟨w1.heap.size,0,none⟩) k n) by
    have:=(Jv (w1.alloc (.cells (Lib.cellsOf L n) 9)) (.slice (some ⟨w1.heap.size,0,none⟩) k n) 87).1;rwa [World.size_alloc] at this)
   go_wp2;go_ret2
   refine⟨fun h=>absurd h H3.out,fun _=>⟨w1.heap.size,n,w1.heap.size+1,w.heap.size,r,rfl,fun j p hj hp=>TX.out j p (Ru.out j p hj hp),?_,Vs.out,UZ.out⟩,VU.out.trans (jQ _ _ _)⟩;have hr:=HR.out
   cases r with
   | none =>
    obtain⟨rfl,h1,h2⟩:=hr;exact⟨TW.out,_,_,TY.out,h1,h2⟩
   | some x =>
    obtain⟨rfl,rfl,h2⟩:=hr;exact⟨TW.out,_,TY.out,TX.out 3 x h2⟩
open Go.RowKit Go.Shelf
attribute [local go_sem] Oper.semAt_some
theorem Below.stR {B lo hi:Nat} {w W W':World} (h:Below B w W) (k:StR lo hi W W') (hl:B≤lo):Below B w W' :=
 ⟨k.os.trans h.os,k.tape.trans h.tape,k.output.trans h.output,Nat.le_trans h.size k.size,fun b hb=>(k.block b (by omega)).trans (h.block b hb)⟩
def j3 (ps:List (List UInt8)):Bool:=ps.all (jA 58 3)
def jai (ps:List (List UInt8)) (w:World) (e:Ending) (w':World):Prop:=(j3 ps=true→∃v,e=.returned v)∧(j3 ps=false→e=.panicked [jG 2])∧Kept w w'
theorem JD {ps:List (List UInt8)} {k:Nat} {p:List UInt8} {f:List UInt8→Bool} (h:∀q ∈ ps.take k,f q=true) (hp:ps[k]?=some p) (hf:f p=true):∀q ∈ ps.take (k+1),f q=true:=by
 intro q hq;rw[List.take_add_one,hp] at hq;rcases List.mem_append.1 hq with g | g
 · exact h q g
 · have:q=p:=by simpa using g
   rw[this];exact hf
theorem XC {r:Option (List UInt8)} (hs:∀s,r=some s→s.length≤1000000):∀p ∈ jm r,p.length≤1000000:=by
 intro p hp
 cases r with
 | none=>cases hp
 | some s=>exact Nat.le_trans (jz 32 s p hp) (hs s rfl)
theorem Yq (bw bc:Nat) (r:Option (List UInt8)) (w:World) (hE:Env w) (hr:zL w bw bc r) (hs:∀s,r=some s→s.length≤1000000) :
 Calls Tryz.prog 71 #[.func (.func 92) #[] #[.pointer (some ⟨bw,0,none⟩),.pointer (some ⟨bc,0,none⟩)]] w (jai (jm r) w):=by
 have HE:=lH hE;have Vo:=lH (XC hs);refine zE (n:=6) Tryz.func71 rfl ?_;simp only[Tryz.ntmps71,List.size_toArray,List.length_cons,List.length_nil,Nat.reduceAdd,Nat.reduceSub,Array.replicate_succ,Array.replicate_zero,List.push_toArray,List.append_toArray,List.nil_append,List.cons_append];refine jy (jK (n:=6) ?_);gi_wp2
 refine Jt ?_;refine YG Tryz.func71 bw bc rfl r hs hr
  (fun k W=>Below w.heap.size w W∧∀p ∈ (jm r).take k,jA 58 3 p=true)
  (fun c W=>c=[jG 2]∧Below w.heap.size w W∧j3 (jm r)=false)
  (fun k W W' h st=>⟨Below.stR h.1 st (Nat.le_refl _),h.2⟩) (fun c W W' h st=>⟨h.1,Below.stR h.2.1 st (Nat.le_refl _),h.2.2⟩) (fun k W h=>HE.out.kept h.1) ⟨Below.refl _ _,by simp⟩
  (fun x=>{ tmps:=#[.func (.func 92) #[] #[.pointer (some ⟨bw,0,none⟩),.pointer (some ⟨bc,0,none⟩)],undef,.string x,.func (.func 92) #[] #[.pointer (some ⟨bw,0,none⟩),.pointer (some ⟨bc,0,none⟩)],.string x,undef,undef],defers:=[] }) ?assign ?body ?done ?panic
 case assign =>
  intro l x W K hK;gi_wp2
  exact hK
 case body =>
  rintro l k p W hp ⟨hB,hd⟩ hsz;obtain⟨HB,HD,HP,HM,HR⟩:=lH5 hB hd hp (List.mem_of_getElem? hp) (JG p W (HE.out.kept hB) (Vo.out p (List.mem_of_getElem? hp)));unfold Z6 at HR;have Vy:=lH hsz;obtain⟨q,hq⟩:=eX (jA 58 3 p)
  have HQ:=lH hq;clear hB hd hp hsz hE hr hq
  cases q with
  | true =>
   gi_wp2_with (refine⟨trivial,?_⟩;gi_at_call 96;refine(CallsIn.inRound l (callsIn_wide.2 HR.out)).mono ?_;rintro e W1 ⟨ha,-,hk⟩;obtain⟨g,cap,rfl,-⟩:=ha HQ.out;have HK:=lH hk;clear ha hk)
   exact⟨fun b h1 h2=>HK.out.block b (by have:=Vy.out;omega),HB.out.trans (Below.mono HK.out HB.out.size),JD HD.out HP.out HQ.out⟩
  | false =>
   gi_wp2_with (refine⟨trivial,?_⟩;gi_at_call 96;refine(CallsIn.inRound l (callsIn_wide.2 HR.out)).mono ?_;rintro e W1 ⟨-,hb,hk⟩;obtain rfl:=hb HQ.out;have HK:=lH hk;clear hb hk)
   refine⟨rfl,fun b h1 h2=>HK.out.block b (by have:=Vy.out;omega),rfl,HB.out.trans (Below.mono HK.out HB.out.size),?_⟩;unfold j3;rw[List.all_eq_false];exact⟨p,HM.out,by rw[HQ.out];decide⟩
 case panic =>
  rintro c W ⟨rfl,hB,hbad⟩ hk;refine⟨by simp,.inl ⟨_,_,rfl,run_takeDeferred hk,?_⟩⟩;exact⟨fun h=>(by rw[hbad] at h;cases h),fun _=>rfl,j1 hB (Nat.le_refl _)⟩
 case done =>
  rintro W ⟨hB,hd⟩ hk;have hT:j3 (jm r)=true:=by
   unfold j3;rw[List.all_eq_true];rw[List.take_length] at hd;exact hd
  refine⟨by simp,.inl ⟨_,_,rfl,run_takeDeferred hk,?_⟩⟩;exact⟨.tuple #[],by simp[results,Tryz.results71,go_sem],fun _=>⟨_,rfl⟩,fun h=>(by rw[hT] at h;cases h),j1 hB (Nat.le_refl _)⟩
theorem jbr:(Tryz.prog.info? 46).map (fun i=>(i.zero,i.size,i.bytes))=some (some (.agg #[.int .i64 0,.int .i64 0,.int .i64 0]),3,24):=by kernel_rfl
theorem Own.stR {α:Type} {L:Lay α} {e:TypeId} {lo hi:Nat} {W W':World} {v:Value} {l:List α} (h:Own L e W hi v l) (k:StR lo hi W W'):Own L e W' hi v l:=by
 obtain⟨⟨h0,h1⟩,hf⟩:=h;refine⟨⟨h0,h1.imp id ?_⟩,hf⟩;rintro ⟨g,cap,cur,rfl,hbg,hg,hn,hm,hs,ht⟩;exact⟨g,cap,cur,rfl,hbg,(k.block g (.inr hbg)).trans hg,hn,hm,hs,ht⟩
theorem Jk.stR {α:Type} {L:Lay α} {e:TypeId} {lo hi vb:Nat} {W W':World} {l:List α} (h:Jk L e hi vb l W) (k:StR lo hi W W') (hv:vb<lo):Jk L e hi vb l W':=by
 obtain⟨v,h1,h3,h4⟩:=h;have hb:=k.block vb (.inl hv);exact⟨v,(World.cell?_of_block (a:=⟨vb,0,none⟩) hb).trans h1,(World.frozen?_of_block (a:=⟨vb,0,none⟩) hb).trans h3,h4.stR k⟩
def zt (ps:List (List UInt8)) (k:Nat):RL:=((ps.take k).map jq).take 9
theorem Z0 {ps:List (List UInt8)} {k:Nat} (h:k≤ps.length):(zt ps k).length=min 9 k:=by
 unfold zt;rw[List.length_take,List.length_map,List.length_take];omega
theorem Zk {ps:List (List UInt8)} {k:Nat} {p:List UInt8} (hp:ps[k]?=some p) (h:(zt ps k).length≤8):zt ps (k+1)=zt ps k++[jq p]:=by
 have hk:k<ps.length:=(List.getElem?_eq_some_iff.1 hp).1;rw[Z0 (by omega)] at h;unfold zt;have e:ps.take (k+1)=ps.take k++[p]:=by rw[List.take_add_one,hp];rfl
 rw[e,List.map_append,List.take_of_length_le (l:=(ps.take k).map jq) (by simp;omega),List.take_of_length_le (by simp;omega)];rfl
theorem ja6 {ps:List (List UInt8)} {k:Nat} {p:List UInt8} (hp:ps[k]?=some p) (h:¬(zt ps k).length≤8):zt ps (k+1)=zt ps k:=by
 have hk:k<ps.length:=(List.getElem?_eq_some_iff.1 hp).1;rw[Z0 (by omega)] at h;unfold zt;have e:ps.take (k+1)=ps.take k++[p]:=by rw[List.take_add_one,hp];rfl
 rw[e,List.map_append,List.take_append_of_le_length (by simp;omega)]
def zp (ps:List (List UInt8)):Bool:=ps.all jV
def jaV (ps:List (List UInt8)) (w:World) (e:Ending) (w':World):Prop:=(zp ps=true→∃v,e=.returned v∧Own jh 46 w' w.heap.size v ((ps.map jq).take 9))∧(zp ps=false→e=.panicked [jG 5])∧Kept w w'
theorem jaZ (w:World) (o:Obj) (a b c:Int) (T:TypeId):∀j u,[Value.int .i64 a,.int .i64 b,.int .i64 c][j]?=some u→((w.alloc o).alloc (.cells #[.int .i64 a,.int .i64 b,.int .i64 c] T)).cell? ((⟨w.heap.size+1,0,none⟩:Addr).add j)=some u:=jcT w o _ _ _ T
theorem X3 (bw bc:Nat) (r:Option (List UInt8)) (w:World) (hE:Vec.Env w) (hr:zL w bw bc r) (hs:∀s,r=some s→s.length≤1000000) (hf:j3 (jm r)=true) :
 Calls Tryz.prog 73 #[.func (.func 92) #[] #[.pointer (some ⟨bw,0,none⟩),.pointer (some ⟨bc,0,none⟩)]] w (jaV (jm r) w):=by
 obtain⟨HE,Vo,UK⟩:=lH3 hE (XC hs) (List.all_eq_true.1 (show (jm r).all (jA 58 3)=true from hf));obtain⟨w1,hw1⟩:=eX (w.alloc (.cells #[.slice none 0 0] 24))
 have k1:Kept w w1:=by rw[←hw1];exact jb _ _
 have hz1:w1.heap.size=w.heap.size+1:=by rw[←hw1,World.size_alloc]
 obtain⟨bx1,bx2⟩:=Jv w (.slice none 0 0) 24;rw[hw1] at bx1 bx2;obtain⟨vb,hvb⟩:=eX (w.heap.size)
 rw[hvb] at bx1 bx2 hz1;have hr1:=hr.kept k1;obtain⟨VU,V3,VS⟩:=lH3 k1 hvb hz1;clear hE hr hf k1;refine zE (n:=6) Tryz.func73 rfl ?_;simp only[Tryz.ntmps73,List.size_toArray,List.length_cons,List.length_nil,Nat.reduceAdd,Nat.reduceSub,Array.replicate_succ,Array.replicate_zero,List.push_toArray,List.append_toArray,List.nil_append,List.cons_append];refine jy (jK (n:=6) ?_);gi_wp2
 refine jy (jK (n:=6) ?_);gi_wp2
 try rw[hw1]
 try rw[hvb]
 clear hw1 hvb hz1;refine jy (jy (jK (n:=6) ?_));gi_wp2
 refine Jt ?_;refine YG Tryz.func73 bw bc rfl r hs hr1
  (fun k W=>Below w.heap.size w W∧(∀p ∈ (jm r).take k,jV p=true)∧Jk jh 46 (w1.heap.size+8) vb (zt (jm r) k) W)
  (fun c W=>c=[jG 5]∧Below w.heap.size w W∧zp (jm r)=false)
  (fun k W W' h st=>⟨Below.stR h.1 st (by have:=V3.out;have:=VS.out;omega),h.2.1,h.2.2.stR st (by have:=VS.out;omega)⟩) (fun c W W' h st=>⟨h.1,Below.stR h.2.1 st (by have:=V3.out;have:=VS.out;omega),h.2.2⟩) (fun k W h=>(HE.out.kept h.1).base) ⟨VU.out,by simp,⟨.slice none 0 0,bx1,bx2,Own.nil _ _ _⟩⟩
  (fun x=>{ tmps:=#[.func (.func 92) #[] #[.pointer (some ⟨bw,0,none⟩),.pointer (some ⟨bc,0,none⟩)],undef,.slice none 0 0,.pointer (some ⟨vb,0,none⟩),.string x,undef,.func (.func 92) #[] #[.pointer (some ⟨bw,0,none⟩),.pointer (some ⟨bc,0,none⟩)],.string x,undef,undef,undef,undef,undef,undef,undef,undef,undef,undef],defers:=[] }) ?assign ?body ?done ?panic
 case assign =>
  intro l x W K hK;gi_wp2
  exact hK
 case body =>
  rintro l k p W hp ⟨hB,hd,v,hvc,hvf,hvo⟩ hlt;obtain⟨HB,HD,HP,HM,VO⟩:=lH5 hB hd hp (List.mem_of_getElem? hp) (qT p W (HE.out.kept hB) (Vo.out p (List.mem_of_getElem? hp)) (UK.out p (List.mem_of_getElem? hp)));unfold ql at VO;have VA:=lH hlt;have hvW:vb<W.heap.size:=by have:=VS.out;omega
  obtain⟨q,hq⟩:=eX (jV p)
  have HQ:=lH hq;have Vu:=lH (fun h=>X9 p h);obtain⟨⟨u,c,d⟩,hru⟩:∃x,jq p=x:=⟨_,rfl⟩
  have TZ:=lH hru;rw[hru] at VO Vu;dsimp only at VO Vu;clear hB hd hq hru bx1 bx2 hr1 hlt
  cases q with
  | true =>
   obtain⟨av,cv,rfl,q1,q2,q3⟩:=hvo.at_;obtain⟨n,hn⟩:=eX ((zt (jm r) k).length)
   have hn9:n≤9:=by
    have:=Z0 (show k≤(jm r).length from Nat.le_of_lt (List.getElem?_eq_some_iff.1 hp).1);omega
   rw[hn] at hvo hvc;have VE:=lH hvo;have HN:=lH hn;clear hvo hn q1 q2 q3 hp;gi_wp2_with (refine⟨trivial,?_⟩;gi_at_call 98;refine(CallsIn.inRound l (callsIn_wide.2 VO.out)).mono ?_;rintro e W1 ⟨ha,-,k1⟩;obtain rfl:=ha HQ.out;have K1:=lH k1;have hvc1:=cell_later k1 hvc;have hvf1:=(k1.frozen (p:=⟨vb,0,none⟩) hvW).trans hvf;have hm1:vb<W1.heap.size:=Nat.lt_of_lt_of_le hvW k1.size;clear ha k1 hvc hvf;refine Hid.out ?_)
   refine lH ?_;by_cases h8:n≤8
   · obtain⟨i0,hi,hz0,hz1,hz2⟩:=info_parts jbr;gi_wp2_with (gi_at_builtin;go_must (refine wpListIn_append_own _ rfl (.tmp 13) (.tmp 15) _ rfl (w1.heap.size+8) 46 i0 _ 3 24 Tryz.underlying24 hi hz0 hz1 hz2 rfl (by decide) _ n (jg jh (zt (jm r) k)) rfl (((VE.out.kept K1.out).kept (jQ W1 (.cells #[.int .i64 u,.int .i64 c,.int .i64 d] 46) (.cells #[.int .i64 u,.int .i64 c,.int .i64 d] 46))).row HN.out) ⟨W1.heap.size+1,0,none⟩ 1 1 [.int .i64 u,.int .i64 c,.int .i64 d] rfl rfl (jaZ _ _ _ _ _ _) (za jh [(u,c,d)]) (by unfold maxLen;omega) (by omega) (by rw[World.size_alloc,World.size_alloc];have:=VA.out;have:=K1.out.size;omega) ?_);intro v' w2 hown' hgrow _;refine Hid.out ?_)
     refine lH ?_;obtain⟨g',cap',rfl⟩:=ownsRow_succ hown';have KA:=lH (show Kept W ((W1.alloc (.cells #[.int .i64 u,.int .i64 c,.int .i64 d] 46)).alloc (.cells #[.int .i64 u,.int .i64 c,.int .i64 d] 46)) from K1.out.trans (jQ W1 _ _));have hrow:∀r,(Value.slice av n cv).ownBlock=some r→w1.heap.size+8≤r:=fun r hr=>(VE.out.1.lt r hr).1;have UE:=lH (show ∀b,b<w1.heap.size+8→w2.heap[b]?=W.heap[b]? from fun b hb=>(hgrow.block b (Nat.lt_of_lt_of_le hb (Nat.le_trans VA.out KA.out.size)) (fun e=>by have:=hrow b e.symm;omega)).trans (KA.out.block b (Nat.lt_of_lt_of_le hb VA.out)));have hv8:vb<w1.heap.size:=by have:=VS.out;omega
     have hvc2:w2.cell? ⟨vb,0,none⟩=some (.slice av n cv):=(World.cell?_of_block (a:=⟨vb,0,none⟩) (hgrow.block vb (by simp;omega) (fun e=>by have:=hrow vb e.symm;omega))).trans (cell_later (jQ W1 _ _) hvc1);have hvf2:w2.frozen? ⟨vb,0,none⟩=false:=(World.frozen?_of_block (a:=⟨vb,0,none⟩) (hgrow.block vb (by simp;omega) (fun e=>by have:=hrow vb e.symm;omega))).trans (((jQ W1 _ _).frozen (p:=⟨vb,0,none⟩) hm1).trans hvf1);have Vg:=lH hown';have Ti:=lH (show Below w.heap.size w w2 from⟨hgrow.os.trans (KA.out.os.trans HB.out.os),hgrow.tape.trans (KA.out.tape.trans HB.out.tape),hgrow.output.trans (KA.out.output.trans HB.out.output),Nat.le_trans HB.out.size (Nat.le_trans KA.out.size hgrow.size),fun b hb=>(UE.out b (by have:=V3.out;omega)).trans (HB.out.block b hb)⟩);clear hvc1 hvf1 hown' hgrow hrow hi hz0 hz1 hz2;gi_wp2
     refine⟨fun b h1 h2=>(Below.heap_setCell w2 ⟨vb,0,none⟩ _ b (by show b≠vb;omega)).trans (UE.out b (by omega)),Ti.out.setCell (p:=⟨vb,0,none⟩) (by have:=V3.out;show w.heap.size≤vb;omega) _,JD HD.out HP.out HQ.out,⟨_,World.cell?_setCell_same' _ _ _ (by rw[hvc2];rfl),by rw[World.frozen?_setCell];exact hvf2,?_⟩⟩;have hl:(zt (jm r) (k+1)).length=n+1:=by rw[Zk HP.out (by rw[HN.out];exact h8),List.length_append,HN.out];rfl
     have ho:Own jh 46 w2 (w1.heap.size+8) (.slice (some ⟨g',0,none⟩) (n+1) cap') (zt (jm r) (k+1)):=by
      refine⟨?_,?_⟩
      · rw[hl,Zk HP.out (by rw[HN.out];exact h8),TZ.out,ze];exact Vg.out
      · rw[Zk HP.out (by rw[HN.out];exact h8),TZ.out];intro x hx;rcases List.mem_append.1 hx with h | h
        · exact VE.out.2 x h
        · obtain rfl:x=(u,c,d):=by simpa using h
          exact Vu.out HQ.out
     exact ho.setCell_below (a:=⟨vb,0,none⟩) (by show vb<w1.heap.size+8;omega) _
   · have VW:=lH (ja6 HP.out (by rw[HN.out];exact h8));have h9:8<n:=by omega
     clear h8;gi_wp2
     refine⟨fun b h1 h2=>(Kept.trans K1.out (jb W1 _)).block b (by have:=VA.out;omega),HB.out.trans (Below.mono (Kept.trans K1.out (jb W1 _)) HB.out.size),JD HD.out HP.out HQ.out,⟨.slice av n cv,cell_later (jb W1 _) hvc1,((jb W1 _).frozen (p:=⟨vb,0,none⟩) hm1).trans hvf1,?_⟩⟩;rw[VW.out];exact VE.out.kept (Kept.trans K1.out (jb W1 _))
  | false =>
   clear hp hvo hvc hvf;gi_wp2_with (refine⟨trivial,?_⟩;gi_at_call 98;refine(CallsIn.inRound l (callsIn_wide.2 VO.out)).mono ?_;rintro e W1 ⟨-,hb,k1⟩;obtain rfl:=hb HQ.out;have K1:=lH k1;clear hb k1)
   refine⟨rfl,fun b h1 h2=>K1.out.block b (by have:=VA.out;omega),rfl,HB.out.trans (Below.mono K1.out HB.out.size),?_⟩;unfold zp;rw[List.all_eq_false];exact⟨p,HM.out,by rw[HQ.out];decide⟩
 case panic =>
  rintro c W ⟨rfl,hB,hbad⟩ hk;refine⟨by simp,.inl ⟨_,_,rfl,run_takeDeferred hk,?_⟩⟩;exact⟨fun h=>(by rw[hbad] at h;cases h),fun _=>rfl,j1 hB (by have:=V3.out;have:=VS.out;omega)⟩
 case done =>
  rintro W ⟨hB,hd,v,hvc,hvf,hvo⟩ hk;have HT:=lH (show zp (jm r)=true by
   unfold zp;rw[List.all_eq_true];rw[List.take_length] at hd;exact hd)
  obtain⟨VE,HB,Rv⟩:=lH3 hvo hB hk;obtain⟨av,cv,rfl,q1,q2,q3⟩:=hvo.at_;have Rw:=lH (show zt (jm r) (jm r).length=((jm r).map jq).take 9 by unfold zt;rw[List.take_length]);clear hd hk hvo hB q1 q2 q3 bx1 bx2 hr1;refine jK (n:=6) ?_;gi_wp2
  refine⟨by simp,.inl ⟨_,_,rfl,run_takeDeferred Rv.out,?_⟩⟩;refine⟨_,results_tmp rfl _ _ _,?_⟩;refine⟨fun _=>⟨_,rfl,?_⟩,fun h=>(by rw[HT.out] at h;cases h),j1 HB.out (by have:=V3.out;have:=VS.out;omega)⟩;rw[←Rw.out];exact(VE.out.put (by omega) _).base_le (by have:=V3.out;have:=VS.out;omega)
end Go.Proofs.YtnfojaidmnccoaaGreatDoor
namespace Go.Proofs.YtnfojaidmnccoaaGreatDoor
open Go.RowKit
theorem Zu:∀(l:Vec.V) (b:Bool),(∀x ∈ l,x.1.size≤50∧-9223372036854775808≤x.2∧x.2≤9223372036854775807)→(Vec.jw b l).length≤80*l.length
 | [],b,_=>by rw[Vec.jw];simp
 | x::t,b,h=>by
  have ih:=Zu t false (fun y hy=>h y (List.mem_cons_of_mem _ hy));obtain⟨h1,h2,h3⟩:=h x (List.mem_cons_self ..);have hi:=Lib.itoa_length_le x.2 h2 h3;have hx:x.1.data.toList.length=x.1.size:=by rw[Array.length_toList,ByteArray.size_data]
  rw[Vec.jw];simp only[List.length_append,List.length_cons,List.length_nil,hx]
  cases b<;>simp<;>omega
theorem jaE {l:Vec.V} (h:Vec.Za l=true) (hf:Vec.jX l):(Vec.j0 l).length≤2000:=by
 unfold Vec.Za at h;simp only[Bool.and_eq_true,decide_eq_true_eq] at h;unfold Vec.j0;split
 · decide
 · have:=Zu l true (fun x hx=>by
    obtain⟨k,hk,rfl⟩:=List.getElem_of_mem hx;have e:l.getD k (ByteArray.empty,0)=l[k]:=by simp[List.getD,hk]
    have h1:=Vec.J8 h.2 hk;have h2:=(hf k hk).2;unfold Vec.nm at h1;unfold Vec.qn at h2;rw[e] at h1 h2;exact⟨h1,h2⟩)
   omega
abbrev PL:=List (ByteArray×ByteArray)
def zI (prev:Option ByteArray) (s:ByteArray):Bool:=match prev with | none=>false | some p=>leS s p
def qo:Option ByteArray→PL→Int
 | _,[]=>0
 | prev,x::t=>if (isName x.1&&isName x.2)=false then 3 else if zI prev x.1=true then 13 else qo (some x.1) t
def qH (l:PL):Int:=if 8<l.length then 4 else qo none l
abbrev NT:=ByteArray×ByteArray×Bool
abbrev NL:=List NT
theorem jbV (x y:ByteArray) (b:Bool) (u:Value) (h:u ∈ [Value.string x,Value.string y,Value.bool b]):u.oneCell'=true:=by
 have e:u=Value.string x∨u=Value.string y∨u=Value.bool b:=by simpa using h
 rcases e with e | e | e<;>rw[e]<;>rfl
def jbM:Lay NT:={ m:=3,cs:=fun x=>[.string x.1,.string x.2.1,.bool x.2.2],fine:=fun x=>x.1.size≤maxLen∧x.2.1.size≤maxLen,len:=fun _=>rfl,one:=fun x=>jbV x.1 x.2.1 x.2.2,pos:=by decide }
theorem ja3 (v:Value) (w:World):Calls Tryz.prog 75 #[v,.int .i64 0] w fun e w'=>e=.returned v∧w=w':=by
 go_enter Tryz.func75,Tryz.ntmps75;go_wp2;go_ret;exact⟨rfl,rfl⟩
theorem jab (v:Value) (x:Int) (w:World) (h:x≠0):Calls Tryz.prog 75 #[v,.int .i64 x] w fun e w'=>e=.panicked [jG x]∧w=w':=by
 have h3:(x != 0)=true:=by simpa using h
 clear h;go_enter Tryz.func75,Tryz.ntmps75;go_wp2;exact⟨rfl,rfl,rfl⟩
def Y2 (p:List UInt8):ByteArray×ByteArray:=(bytes (Lib.cut p [58]).1,bytes (Lib.cut p [58]).2.1)
def JO (p:List UInt8):Bool:=!(Lib.cut p [58]).2.2||decide (0≤Lib.indexByte (Lib.cut p [58]).2.1 58)
open Go.RowKit Go.Shelf
attribute [local go_sem] Oper.semAt_some
def Yt (s:List UInt8):=Yy JO Y2 qH s
end Go.Proofs.YtnfojaidmnccoaaGreatDoor
namespace Go.Proofs.YtnfojaidmnccoaaGreatDoor
open Go.RowKit Go.Shelf
attribute [local go_sem] Oper.semAt_some
end Go.Proofs.YtnfojaidmnccoaaGreatDoor
namespace Go.Proofs.YtnfojaidmnccoaaGreatDoor
open Go.RowKit
def jbQ (x:ByteArray×ByteArray):ByteArray:=x.1++⟨#[58]⟩++x.2
def jbJ (l:PL):ByteArray:=if l=[] then ⟨#[45]⟩ else qU (l.map jbQ)
open Go.RowKit Go.Sort
def Grw (w w':World):Prop:=∃q os,w'=grow (w.drewN q) os
theorem Grw.refl (w:World):Grw w w:=⟨0,#[],by rw[grow_empty];rfl⟩
theorem Grw.grown {w W:World} (h:Grw w W) (n:Nat) (os:Array Obj):Grw w (grow (W.drewN n) os):=by
 obtain⟨q,os0,rfl⟩:=h;exact⟨q+n,os0++os,by show grow (grow ((w.drewN q).drewN n) os0) os=_;rw[grow_grow,World.drewN_drewN]⟩
theorem Grw.trans {a b c:World} (h:Grw a b) (k:Grw b c):Grw a c:=by
 obtain⟨q,os,rfl⟩:=k;exact h.grown q os
theorem Grw.alloc (w:World) (o:Obj):Grw w (w.alloc o):=⟨0,#[o],alloc_eq_grow _ _⟩
theorem Grw.drewN (w:World) (n:Nat):Grw w (w.drewN n):=⟨n,#[],by rw[grow_empty]⟩
theorem jav (w:World) (n:Nat) (os:Array Obj):Kept w (grow (w.drewN n) os):=Go.Lib.below_grow w.heap.size w (Nat.le_refl _) n os
theorem Grw.kept {w w':World} (h:Grw w w'):Kept w w':=by
 obtain⟨q,os,rfl⟩:=h;exact jav w q os
def Yh (w:World) (c:Nat) (t:NT):Prop:=w.cell? ⟨c,0,none⟩=some (.string t.1)∧w.cell? ⟨c,1,none⟩=some (.string t.2.1)∧w.cell? ⟨c,2,none⟩=some (.bool t.2.2)
theorem Yh.kept {w w':World} {c:Nat} {t:NT} (h:Yh w c t) (k:Kept w w'):Yh w' c t:=⟨cell_later k h.1,cell_later k h.2.1,cell_later k h.2.2⟩
theorem Yh.new (w:World) (x y:ByteArray) (m:Bool) (T:TypeId):Yh (w.alloc (.cells #[.string x,.string y,.bool m] T)) w.heap.size (x,y,m):=by
 have hh:=w.alloc_heap_new (.cells #[.string x,.string y,.bool m] T);exact⟨by rw[Lib.cell_of_heap hh];rfl,by rw[Lib.cell_of_heap hh];rfl,by rw[Lib.cell_of_heap hh];rfl⟩
open Go.RowKit Go.Shelf
attribute [local go_sem] Oper.semAt_some
end Go.Proofs.YtnfojaidmnccoaaGreatDoor
namespace Go.Proofs.YtnfojaidmnccoaaGreatDoor
open Go.RowKit Go.Shelf
attribute [local go_sem] Oper.semAt_some
end Go.Proofs.YtnfojaidmnccoaaGreatDoor
namespace Go.Proofs.YtnfojaidmnccoaaGreatDoor
open Go.RowKit
theorem Zc:∀s:List UInt8,Lib.join (partsOf s) [44]=s
 | []=>by rw[partsOf,Lib.join_one]
 | b::t=>by
  have ih:=Zc t;rw[JA];by_cases h:b=44
  · rw[if_pos h]
    cases hp:partsOf t with
    | nil=>exact absurd hp (zA t)
    | cons q qs=>rw[hp] at ih;rw[zP,ih,h];rfl
  · rw[if_neg h]
    cases hp:partsOf t with
    | nil=>exact absurd hp (zA t)
    | cons q qs=>rw[hp] at ih;dsimp only;rw[jas,ih]
theorem XZ (s:List UInt8):qU ((partsOf s).map bytes)=bytes s:=by
 unfold qU;rw[List.map_map];have:((fun x:ByteArray=>x.data.toList) ∘ bytes)=id:=by funext p;simp[bytes]
 rw[this,List.map_id,Zc];rfl
theorem ZU (c:UInt8):∀p:List UInt8,(Lib.cut p [c]).2.2=true→(Lib.cut p [c]).1++c::(Lib.cut p [c]).2.1=p
 | [],h=>by rw[ZC] at h;cases h
 | b::t,h=>by
  rw[Zd] at h ⊢;by_cases hb:b=c
  · rw[if_pos hb] at h ⊢;subst hb;rfl
  · rw[if_neg hb] at h ⊢;have ih:=ZU c t h;show b::((Lib.cut t [c]).1++c::(Lib.cut t [c]).2.1)=b::t;rw[ih]
theorem ja5 (x y:List UInt8) (c:UInt8):bytes x++⟨#[c]⟩++bytes y=bytes (x++c::y):=by
 apply Go.WideShapes.bytes_inj;simp[bytes,ByteArray.data_append]
theorem jbx {α:Type} {bad:List UInt8→Bool} {f:List UInt8→α} {g:α→ByteArray} (hb:∀p,bad p=false→g (f p)=bytes p) (s:List UInt8) (h:(partsOf s).any bad=false):((partsOf s).map f).map g=(partsOf s).map bytes:=by
 rw[List.map_map];apply List.map_congr_left;intro p hp;rw[List.any_eq_false] at h;exact hb p (by have:=h p hp;simpa using this)
end Go.Proofs.YtnfojaidmnccoaaGreatDoor
namespace Go.Proofs.YtnfojaidmnccoaaGreatDoor.Vec
open Go.RowKit Go.Proofs.YtnfojaidmnccoaaGreatDoor
theorem ZE {l:List UInt8} (h:je l=true):l.all jD=true:=by
 cases l with
 | nil=>cases h
 | cons c t=>rw[zf,Bool.and_eq_true] at h;exact h.2
theorem jbS {l:List UInt8} (h:je l=true):(61:UInt8) ∉ l:=by
 intro hm;have:=List.all_eq_true.1 (ZE h) 61 hm;revert this;decide
theorem JL {c:UInt8}:∀{p:List UInt8},¬(Lib.cut p [c]).2.2=true→(Lib.cut p [c]).2.1=[]
 | [],_=>by rw[ZC]
 | b::t,h=>by
  rw[Zd] at h ⊢;by_cases hb:b=c
  · rw[if_pos hb] at h;exact absurd rfl h
  · rw[if_neg hb] at h ⊢;exact JL (p:=t) h
theorem jbg {p:List UInt8} (h:je (jc p)=true):ja 61 p=[nameOf p,jc p]:=by
 have hn:=jbS h;by_cases hf:(Lib.cut p [61]).2.2=true
 · rw[zj,if_pos hf];have e:ja 61 (jc p)=[jc p]:=by
    rw[zj,ZV hn];rfl
   show nameOf p::ja 61 (jc p)=_;rw[e]
 · have:jc p=[]:=JL hf;rw[this] at h;cases h
theorem form_bad {p:List UInt8} (h:je (jc p)=false):(ja 61 p).length≠2∨∃a b,ja 61 p=[a,b]∧je b=false:=by
 by_cases hf:(Lib.cut p [61]).2.2=true
 · have e:ja 61 p=nameOf p::ja 61 (jc p):=by rw[zj,if_pos hf];rfl
   by_cases hm:(61:UInt8) ∈ jc p
   · refine .inl fun h2=>?_;rw[e] at h2;have:(ja 61 (jc p)).length=1:=by simpa using h2
     exact(YB 61 _).1 this hm
   · refine .inr ⟨nameOf p,jc p,?_,h⟩;have e2:ja 61 (jc p)=[jc p]:=by rw[zj,ZV hm];rfl
     rw[e,e2]
 · refine .inl ?_;rw[zj,if_neg hf];simp
theorem Xt (acc:Nat) (l:List UInt8) (c:UInt8):zd acc (l++[c])=zd acc l*10+(c.toNat-48):=by
 unfold zd;rw[List.foldl_append];rfl
theorem XA {c:UInt8} (h:jD c=true):UInt8.ofNat (48+(c.toNat-48))=c:=by
 have:=Jh h;rw[show 48+(c.toNat-48)=c.toNat by omega];exact UInt8.ofNat_toNat
theorem jbD {n d:Nat} (hn:0<n) (hd:d<10):Lib.decDigits (n*10+d)=Lib.decDigits n++[UInt8.ofNat (48+d)]:=by
 rw[Lib.decDigits,dif_neg (by omega),show (n*10+d) / 10=n by omega,show (n*10+d) % 10=d by omega]
theorem YQ {c:UInt8} (hc:jD c=true) (h0:c≠48):∀(n:Nat) (t:List UInt8),t.length=n→t.all jD=true→0<valL (c::t)∧Lib.decDigits (valL (c::t))=c::t
 | 0,t,hl,_=>by
  obtain rfl:t=[]:=List.eq_nil_of_length_eq_zero hl;have hd:=Jh hc;have hne:c.toNat≠48:=fun e=>h0 (UInt8.toNat.inj e);have e:valL [c]=c.toNat-48:=by unfold valL;rw[zK];show 0*10+_=_;omega
  refine⟨by omega,?_⟩;rw[e,Lib.decDigits,dif_pos (by omega),XA hc]
 | n+1,t,hl,ha=>by
  obtain⟨q,z,rfl⟩:∃q z,t=q++[z]:=⟨_,_,(List.dropLast_concat_getLast (by intro e;rw[e] at hl;cases hl)).symm⟩
  rw[List.all_append,Bool.and_eq_true] at ha;have hz:jD z=true:=by have:=ha.2;simpa using this
  have hd:=Jh hz;obtain⟨i1,i2⟩:=YQ hc h0 n q (by simpa using hl) ha.1;have e:valL (c::(q++[z]))=valL (c::q)*10+(z.toNat-48):=Xt 0 (c::q) z;refine⟨by omega,?_⟩;rw[e,jbD i1 (by omega),i2,XA hz];rfl
theorem zW {l:List UInt8} (h:je l=true):Lib.itoa (valL l:Int)=l:=by
 have e:Lib.itoa (valL l:Int)=Lib.decDigits (valL l):=by
  unfold Lib.itoa;rw[if_neg (by omega)];rfl
 rw[e]
 cases l with
 | nil=>cases h
 | cons c t =>
  have ha:=ZE h;rw[List.all_cons,Bool.and_eq_true] at ha;by_cases h0:c=48
  · subst h0;rw[zf,Bool.and_eq_true] at h;have ht:t=[]:=by
     cases t with
     | nil=>rfl
     | cons d u=>exact absurd h.1 (by simp)
    subst ht;rw[show valL [48]=0 from rfl,Lib.decDigits,dif_pos (by omega)];rfl
  · exact(YQ ha.1 h0 t.length t rfl ha.2).2
theorem Xp {p:List UInt8} (h:je (jc p)=true):(jl p).1.data.toList++([61]++Lib.itoa (jl p).2)=p:=by
 have hf:(Lib.cut p [61]).2.2=true:=Classical.byContradiction fun hf=>by
  have:jc p=[]:=JL hf;rw[this] at h;cases h
 show (bytes (nameOf p)).data.toList++([61]++Lib.itoa (valL (jc p):Int))=p;rw[zW h];have:=ZU 61 p hf;unfold nameOf jc;simpa [bytes] using this
theorem Zg:∀(ps:List (List UInt8)),(∀p ∈ ps,je (jc p)=true)→∀q,je (jc q)=true→jw true ((q::ps).map jl)=Lib.join (q::ps) [44]∧jw false ((q::ps).map jl)=44::Lib.join (q::ps) [44]
 | [],_,q,hq=>by
  have e:=Xp hq;have h1:jw true ([q].map jl)=q:=by
   show (jl q).1.data.toList++([61]++(Lib.itoa (jl q).2++[]))=q;rw[List.append_nil];exact e
  refine⟨by rw[h1,Lib.join_one],?_⟩;show 44::jw true ([q].map jl)=_;rw[h1,Lib.join_one]
 | x::ps,hps,q,hq=>by
  have e:=Xp hq;have ih:=(Zg ps (fun p hp=>hps p (List.mem_cons_of_mem _ hp)) x (hps x (List.mem_cons_self ..))).2;have h1:jw true ((q::x::ps).map jl)=q++44::Lib.join (x::ps) [44]:=by
   show (jl q).1.data.toList++([61]++(Lib.itoa (jl q).2++jw false ((x::ps).map jl)))=_;rw[ih,←List.append_assoc [61],←List.append_assoc,e]
  refine⟨by rw[h1,zP];simp,?_⟩;show 44::jw true ((q::x::ps).map jl)=_;rw[h1,zP];simp
theorem YM (s:List UInt8) (h:(jH s).1=0):j0 (jH s).2=s:=by
 unfold jH at h ⊢;by_cases hd:s=[45]
 · rw[if_pos hd];show j0 []=s;unfold j0;rw[if_pos rfl,hd]
 · rw[if_neg hd] at h ⊢;unfold jI at h ⊢;by_cases h1:zh (partsOf s)=true
   · rw[if_pos h1] at h;cases h
   · rw[if_neg h1] at h ⊢;by_cases h2:zw (partsOf s)=true
     · rw[if_pos h2] at h;cases h
     · rw[if_neg h2] at h ⊢;by_cases h3:jf (((partsOf s).map jl).take 9)≠0
       · rw[if_pos h3] at h;exact absurd h h3
       · rw[if_neg h3];have h3':jf (((partsOf s).map jl).take 9)=0:=Classical.byContradiction h3;have hl:=Zt h3';have hlen:((partsOf s).map jl).length≤9:=by rw[List.length_take] at hl;omega
         show j0 (((partsOf s).map jl).take 9)=s;rw[List.take_of_length_le hlen];have hall:∀p ∈ partsOf s,je (jc p)=true:=by
          intro p hp;have:zh (partsOf s)=false:=by simpa using h1
          unfold zh at this;rw[List.any_eq_false] at this;simpa using this p hp
         have hj:=Zc s
         cases hps:partsOf s with
         | nil=>exact absurd hps (zA s)
         | cons q ps =>
          rw[hps] at hall hj;unfold j0;rw[if_neg (by simp),(Zg ps (fun p hp=>hall p (List.mem_cons_of_mem _ hp)) q (hall q (List.mem_cons_self ..))).1,hj]
def DuoLay:Lay (Nat×Nat) where
 m:=1
 cs x:=[.slice (some ⟨x.1,0,none⟩) 2 x.2]
 fine _:=True
 len _:=rfl
 one x u h:=by
  have:u=.slice (some ⟨x.1,0,none⟩) 2 x.2:=by simpa using h
  subst this;rfl
 pos:=by decide
def zU (w:World) (v:Value) (vs:List (Nat×Nat)) (ps:List (List UInt8)):Prop :=
 ∀(i:Nat) (x:Nat×Nat) (p:List UInt8),vs[i]?=some x→ps[i]?=some p→x.1<w.heap.size∧v.ownBlock≠some x.1 ∧
  w.cell? ⟨x.1,0,none⟩=some (.string (bytes (nameOf p)))∧w.cell? ⟨x.1,1,none⟩=some (.string (bytes (jc p)))
theorem zU.nil (w:World) (v:Value) (ps:List (List UInt8)):zU w v [] ps:=fun i x p h=>by simp at h
theorem zU.kept {w w':World} {v:Value} {vs:List (Nat×Nat)} {ps:List (List UInt8)} (h:zU w v vs ps) (k:Kept w w'):zU w' v vs ps:=fun i x p hx hp=>by
 obtain⟨h1,h2,h3,h4⟩:=h i x p hx hp;exact⟨Nat.lt_of_lt_of_le h1 k.size,h2,cell_later k h3,cell_later k h4⟩
theorem zU.snoc {w w':World} {v:Value} {vs:List (Nat×Nat)} {ps:List (List UInt8)} {g n cap b c:Nat} {p:List UInt8} (h:zU w v vs ps) (hg:w.grownBy w' v.ownBlock) (hgo:v.ownBlock=some g∨g=w.heap.size)
 (hp:ps[vs.length]?=some p) (hb:b<w.heap.size) (hne:v.ownBlock≠some b)
 (c0:w.cell? ⟨b,0,none⟩=some (.string (bytes (nameOf p)))) (c1:w.cell? ⟨b,1,none⟩=some (.string (bytes (jc p)))) :
 zU w' (.slice (some ⟨g,0,none⟩) n cap) (vs++[(b,c)]) ps:=by
 have far:∀d,d<w.heap.size→v.ownBlock≠some d→d<w'.heap.size∧(Value.slice (some ⟨g,0,none⟩) n cap).ownBlock≠some d∧∀j,w'.cell? ⟨d,j,none⟩=w.cell? ⟨d,j,none⟩:=fun d hd hn=>by
  refine⟨Nat.lt_of_lt_of_le hd hg.size,?_,fun j=>hg.cell_far ⟨d,j,none⟩ hd (fun e=>hn e.symm)⟩;show some g≠some d;intro e;have e':g=d:=Option.some.inj e;rcases hgo with h1 | h1
  · exact hn (by rw[h1,e'])
  · omega
 intro i x q hx hq;by_cases hi:i<vs.length
 · rw[List.getElem?_append_left hi] at hx;obtain⟨h1,h2,h3,h4⟩:=h i x q hx hq;obtain⟨f1,f2,f3⟩:=far x.1 h1 h2;exact⟨f1,f2,(f3 0).trans h3,(f3 1).trans h4⟩
 · have hi2:i=vs.length:=by
    have:=(List.getElem?_eq_some_iff.1 hx).1;simp at this;omega
   subst hi2;have hxx:(b,c)=x:=by simpa using hx
   have hqq:q=p:=Option.some.inj (hq.symm.trans hp);subst hxx;subst hqq;obtain⟨f1,f2,f3⟩:=far b hb hne;exact⟨f1,f2,(f3 0).trans c0,(f3 1).trans c1⟩
theorem ja9 {w:World} {B:Nat} {v:Value} {x y:ByteArray} (h:Own StrLay 9 w B v [x,y]) :
 ∃b c,v=.slice (some ⟨b,0,none⟩) 2 c∧B≤b∧b<w.heap.size∧w.cell? ⟨b,0,none⟩=some (.string x)∧w.cell? ⟨b,1,none⟩=some (.string y):=by
 have hown:=h.1;obtain⟨g,cap,rfl⟩:=ownsRow_succ hown;exact⟨g,cap,rfl,(hown.lt g rfl).1,World.block_lt_of_cell? _ _ (JU hown (k:=0) rfl),JU hown (k:=0) rfl,JU hown (k:=1) rfl⟩
open Go.RowKit
def Told (c:Int) (m:V) (w:World) (e:Ending) (w':World):Prop:=∃x,e=.returned (.tuple #[x,.int .i64 c])∧jt 74 w' w.heap.size x m∧Kept w w'
theorem Told.none {c:Int} {w w':World} (k:Kept w w'):Told c [] w (.returned (.tuple #[.slice none 0 0,.int .i64 c])) w':=⟨_,rfl,jt.nil _ _ _,k⟩
theorem ZW (s:ByteArray) (w:World) (hs:s.size≤maxLen) :
 Calls Tryz.prog 78 #[.string s] w fun e w'=>e=.returned (.bool (jL s))∧w=w':=by
 unfold maxLen at hs;obtain⟨l,hl⟩:=eX (s.data.toList)
 have hsz:s.size=l.length:=by rw[←hl,Array.length_toList,ByteArray.size_data]
 cases l with
 | nil =>
  have HV:=lH (show jL s=false by unfold jL;rw[hl];rfl);have h0:s=ByteArray.empty:=Jj hsz;subst h0;clear hl hsz;go_enter Tryz.func78,Tryz.ntmps78;go_wp2;go_ret;exact⟨jv HV.out.symm,rfl⟩
 | cons c t =>
  have h0:0<s.size:=by rw[hsz];simp
  have hne:(s.toList==([]:List UInt8))=false:=by rw[Lib.toList_data,hl];rfl
  have hc:s[0]=c:=by
   have:s.data.toList[0]'(by rw[hl];simp)=c:=by simp[hl]
   rw[←this];simp[ByteArray.getElem_eq_getElem_data]
  by_cases hz:c=48∧t≠[]
  · obtain⟨rfl,ht⟩:=hz;have HV:=lH (show jL s=false by
     unfold jL;rw[hl,zf]
     cases t with
     | nil=>exact absurd rfl ht
     | cons d u=>rfl)
    have h1:1<s.size:=by
     rw[hsz]
     cases t with
     | nil=>exact absurd rfl ht
     | cons d u=>simp
    have h48:((s[0].toNat:Int)==48)=true:=by rw[hc];rfl
    clear hl hsz hc ht;go_enter Tryz.func78,Tryz.ntmps78;go_wp2;go_ret;exact⟨jv HV.out.symm,rfl⟩
  · have hcase:(s.size=1∧((s[0].toNat:Int)==48)=true)∨(((s[0].toNat:Int)==48)=false):=by
     by_cases h48:(s[0].toNat:Int)=48
     · refine .inl ⟨?_,by simpa using h48⟩;rw[hc] at h48;have hc48:c=48:=UInt8.toNat.inj (by show c.toNat=48;omega);have ht:t=[]:=Classical.byContradiction fun e=>hz ⟨hc48,e⟩;rw[hsz,ht];rfl
     · exact .inr (by simpa using h48)
    have hdec:jL s=s.data.toList.all jD:=by
     unfold jL;rw[hl,zf];have:(c==48&&!t.isEmpty)=false:=by
      cases t with
      | nil=>simp
      | cons d u =>
       have:c≠48:=fun e=>hz ⟨e,by simp⟩;simp[this]
     rw[this];rfl
    clear hz hc;by_cases hall:s.data.toList.all jD=true
    · have HV:=lH (show jL s=true from hdec.trans hall);have HA:=lH (Yw hall);clear hall hdec hl hsz;rcases hcase with ⟨h1,h48⟩ | h48
      case' inl=>(have h1':s.size≤1:=by omega)
      case' inl=>(clear h1)
      all_goals
       go_enter Tryz.func78,Tryz.ntmps78;go_wp2;go_loop [3] (fun i=>∃k:Nat,k≤s.size∧i=.int .i64 k) (fun i=>s.size-(intOf i).toNat)
       case atStart=>exact⟨0,Nat.zero_le _,rfl⟩
       case round =>
        obtain⟨k,hk,rfl⟩:=hrel;by_cases hlt:k<s.size
        · obtain⟨c2,c3⟩:=(j8 _).1 (HA.out k hlt);go_wp2;go_round
          case rel=>exact⟨k+1,by omega,by go_num⟩
          case measure=>simp[intOf];omega
        · go_wp2;go_ret;exact⟨jv HV.out.symm,rfl⟩
    · have HV:=lH (show jL s=false from hdec.trans (by simpa using hall));obtain⟨j,hj,hbad⟩:=ZJ hall;have HB:=lH hbad;clear hall hdec hl hsz hbad;rcases hcase with ⟨h1,h48⟩ | h48
      case' inl=>(have h1':s.size≤1:=by omega)
      case' inl=>(clear h1)
      all_goals
       go_enter Tryz.func78,Tryz.ntmps78;go_wp2;go_loop [3] (fun i=>∃k:Nat,k≤j∧i=.int .i64 k) (fun i=>s.size-(intOf i).toNat)
       case atStart=>exact⟨0,Nat.zero_le _,rfl⟩
       case round =>
        obtain⟨k,hk,rfl⟩:=hrel;have hlt:k<s.size:=by omega
        by_cases hok:jD s[k]=true
        · have hkj:k+1≤j:=by
           rcases Nat.lt_or_eq_of_le hk with g | g
           · exact g
           · subst g;rw[HB.out] at hok;cases hok
          obtain⟨c2,c3⟩:=(j8 _).1 hok;clear hok;first
          | exact absurd hkj (by omega)
          | (go_wp2
             go_round
             case rel=>exact⟨k+1,by omega,by go_num⟩
             case measure=>(simp[intOf];omega))
        · have c4:(s[k].toNat:Int)<48∨57<(s[k].toNat:Int):=by
           have:¬(48≤(s[k].toNat:Int)∧(s[k].toNat:Int)≤57):=fun g=>hok ((j8 _).2 g);omega
          clear hok;rcases c4 with c4 | c4
          · go_wp2;go_ret;exact⟨jv HV.out.symm,rfl⟩
          · have c5:48≤(s[k].toNat:Int):=by omega
            go_wp2;go_ret;exact⟨jv HV.out.symm,rfl⟩
def jU (l:List UInt8):Int×Bool:=if valL l≤9223372036854775807 then ((valL l:Int),true) else (0,false)
theorem Z1 (s:ByteArray) (w:World) (hs:s.size≤maxLen) (hall:s.data.toList.all jD=true) :
 Calls Tryz.prog 79 #[.string s,.int .i64 9223372036854775807] w fun e w'=>e=.returned (.tuple #[.int .i64 (jU s.data.toList).1,.bool (jU s.data.toList).2])∧w=w':=by
 unfold maxLen at hs;have HA:=lH (Yw hall);obtain⟨L,hL⟩:=eX (s.data.toList)
 have hsz:s.size=L.length:=by rw[←hL,Array.length_toList,ByteArray.size_data]
 have hat:∀k (h:k<s.size),L.drop k=s[k]::L.drop (k+1):=fun k h=>by
  rw[List.drop_eq_getElem_cons (by omega)];have:L[k]'(by omega)=s[k]:=by subst hL;simp[ByteArray.getElem_eq_getElem_data]
  rw[this]
 rw[hL];have HT:=lH hat;have HS:=lH hsz;clear hall hL hat hsz;go_enter Tryz.func79,Tryz.ntmps79;go_wp2;go_loop [6,7,8] (fun n i d=>∃k acc:Nat,k≤s.size∧i=.int .i64 k∧n=.int .i64 acc∧acc≤9223372036854775807∧Hid (zd acc (L.drop k)=valL L)) (fun n i d=>s.size-(intOf i).toNat)
 case atStart=>exact⟨0,0,Nat.zero_le _,rfl,rfl,by omega,lH rfl⟩
 case round =>
  obtain⟨k,acc,hk,rfl,rfl,hacc,HV⟩:=hrel;by_cases hlt:k<s.size
  · obtain⟨c2,c3⟩:=(j8 _).1 (HA.out k hlt);obtain⟨d,hd⟩:∃d:Nat,s[k].toNat=d+48:=⟨s[k].toNat-48,by omega⟩
    have hd9:d≤9:=by omega
    have HN:=lH (show zd (acc*10+d) (L.drop (k+1))=valL L by
     have:=HV.out;rw[HT.out k hlt,zK,hd] at this;simpa using this)
    obtain⟨P,hP⟩:∃P:Nat,(9223372036854775807:Int)-(d:Int)=(P:Int):=⟨9223372036854775807-d,by omega⟩
    obtain⟨q,hq⟩:∃q:Nat,((P:Int)).tdiv 10=(q:Int):=⟨P / 10,by rw[Int.tdiv_eq_ediv_of_nonneg (by omega)];omega⟩
    have hq':q=P / 10:=by rw[Int.tdiv_eq_ediv_of_nonneg (by omega)] at hq;omega
    have w1:IntKind.u8.wrap ((s[k].toNat:Int)-48)=(d:Int):=by rw[show (s[k].toNat:Int)-48=(d:Int) by omega];exact IntWalk.u8_in _ (by omega)
    have w2:IntKind.i64.wrap (d:Int)=(d:Int):=IntWalk.i64_in _ (by omega);have w3:IntKind.i64.wrap (P:Int)=(P:Int):=IntWalk.i64_in _ (by omega);have w4:IntKind.i64.wrap (q:Int)=(q:Int):=IntWalk.i64_in _ (by omega);by_cases hov:q<acc
    · have HW:=lH (show jU L=(0,false) by
       unfold jU;have:=Zf (L.drop (k+1)) (acc*10+d);rw[HN.out] at this;rw[if_neg (by omega)])
      have hov':(q:Int)<(acc:Int):=by omega
      clear hk hq' hd hd9 HN HV HT c2 c3;go_wp2;go_ret2
      exact⟨by rw[HW.out];rfl,rfl⟩
    · have hov':¬(q:Int)<(acc:Int):=by omega
      have w5:IntKind.i64.wrap (10*(acc:Int))=10*(acc:Int):=IntWalk.i64_in _ (by omega);obtain⟨acc',ha'⟩:∃acc':Nat,acc'=acc*10+d:=⟨_,rfl⟩
      have w6:10*(acc:Int)+(d:Int)=(acc':Int):=by omega
      have w7:IntKind.i64.wrap (acc':Int)=(acc':Int):=IntWalk.i64_in _ (by omega);have hacc':acc'≤9223372036854775807:=by omega
      rw[←ha'] at HN;have K:=lH hk;clear hk hq' hd hd9 HV HT c2 c3 ha' hacc;go_wp2;go_round
      case rel=>exact⟨k+1,acc',by omega,by go_num,rfl,hacc',HN⟩
      case measure=>simp[intOf];omega
  · have hk2:k=s.size:=by omega
    have hv:acc=valL L:=by
     have:=HV.out;rw[hk2,HS.out,List.drop_length] at this;exact this
    have HW:=lH (show jU L=((acc:Int),true) by unfold jU;rw[←hv,if_pos hacc]);have hacc2:(acc:Int)≤9223372036854775807:=by omega
    clear HV HT hv;go_wp2;go_ret2
    exact⟨by rw[HW.out];rfl,rfl⟩
theorem jch:(Tryz.prog.info? 87).map (fun i=>(i.zero,i.size,i.bytes))=some (some (.slice none 0 0),1,24):=by kernel_rfl
theorem jcf (b c:Nat) (u:Value) (h:u ∈ [Value.slice (some ⟨b,0,none⟩) 2 c]):u.oneCell'=true:=by
 have:u=.slice (some ⟨b,0,none⟩) 2 c:=by simpa using h
 subst this;rfl
theorem jaR {ps:List (List UInt8)} {k:Nat} {p:List UInt8} (hp:ps[k]?=some p) (h:∀q ∈ ps.take k,je (jc q)=true) (hg:je (jc p)=true):∀q ∈ ps.take (k+1),je (jc q)=true:=by
 intro q hq;rw[List.take_add_one,hp] at hq;rcases List.mem_append.1 hq with g | g
 · exact h q g
 · have:q=p:=by simpa using g
   rw[this];exact hg
theorem Yc {ps:List (List UInt8)} (h:∀q ∈ ps,je (jc q)=true):zh ps=false:=by
 unfold zh;rw[List.any_eq_false];intro p hp;rw[h p hp];decide
theorem q8 {ps:List (List UInt8)} (h:∀q ∈ ps,valL (jc q)≤9223372036854775807):zw ps=false:=by
 unfold zw;rw[List.any_eq_false];intro p hp;have:=h p hp;simp;omega
theorem XY {s:List UInt8} {ps:List (List UInt8)} (hps:partsOf s=ps) (h:∀q ∈ ps,je (jc q)=true) (h':∀q ∈ ps,valL (jc q)≤9223372036854775807) :
 jI s=if jf (ps.map jl)≠0 then (jf (ps.map jl),[]) else (0,ps.map jl):=by
 unfold jI;rw[hps,Yc h,q8 h',if_neg (by decide),if_neg (by decide)];by_cases h9:(ps.map jl).length≤9
 · rw[List.take_of_length_le h9]
 · have e1:jf ((ps.map jl).take 9)=4:=by unfold jf;rw[if_pos (by rw[List.length_take];omega)]
   have e2:jf (ps.map jl)=4:=by unfold jf;rw[if_pos (by omega)]
   rw[e1,e2,if_pos (by decide),if_pos (by decide)]
theorem jac (s:List UInt8) (w:World) (hs:s.length≤1000000) :
 Calls Tryz.prog 53 #[.string (bytes s)] w (Told (jH s).1 (jH s).2 w):=by
 by_cases hd:s=[45]
 · have e:((bytes s).toList==[45])=true:=by rw[hd,Lib.toList_data];rfl
   have HV:=lH (show jH s=(0,[]) by unfold jH;rw[if_pos hd]);rw[HV.out];clear hs hd;go_enter Tryz.func53,Tryz.ntmps53;go_wp2;go_ret2
   exact Told.none (Kept.refl _)
 · have e:((bytes s).toList==[45])=false:=by rw[Xc];simpa using hd
   have HV:=lH (show jH s=jI s by unfold jH;rw[if_neg hd]);rw[HV.out];obtain⟨R,hR⟩:=eX (jI s)
   rw[hR];have HR:=lH hR;clear hR;obtain⟨ps,hps⟩:=eX (partsOf s)
   obtain⟨n,hn⟩:∃n,ps.length=n+1:=by
    cases ps with
    | nil=>exact absurd hps (zA s)
    | cons q t=>exact⟨t.length,rfl⟩
   have hsp:splitB 44 s=ps.map bytes:=by unfold splitB;rw[Jm,hps]
   have hplen:∀p ∈ ps,p.length≤1000000:=fun p hp=>by
    have:=jz 44 s p (by rw[Jm,hps];exact hp);omega
   have hn6:n≤1000000:=by have:=Jq 44 s;rw[hsp,List.length_map,hn] at this;omega
   obtain⟨Uf,Vo,HN,Vd⟩:=lH4 hps hplen hn hsp;obtain⟨i0,hi,hz0,hz1,hz2⟩:=info_parts jch;clear hd hps hn hsp hplen;go_enter Tryz.func53,Tryz.ntmps53;go_wp2_with fail
   refine(Ym 44 s w hs rfl).mono ?_;rintro e1 w1 ⟨v1,rfl,ho,k1⟩;rw[Vd.out] at ho;have hown:w1.ownsRow w.heap.size 9 1 v1 (n+1) (jg StrLay (ps.map bytes)):=by
    have:=ho.1;rw[List.length_map,HN.out] at this;exact this
   obtain⟨g1,cap1,rfl⟩:=ownsRow_succ hown;have hcell:∀k p,ps[k]?=some p→w1.cell? ⟨g1,k,none⟩=some (.string (bytes p)):=fun k p hp=>JU hown (by
    have:(jg StrLay (ps.map bytes))[k]?=some (.string (bytes p)):=by
     have:=Jd StrLay (ps.map bytes) k (bytes p) 0 (.string (bytes p)) (by rw[List.getElem?_map,hp];rfl) rfl;rw[←this];congr 1;exact(Nat.mul_one k).symm
    exact this)
   have HC:=lH hcell;have K1:=lH k1;clear ho hown hcell k1 hs;go_wp2;go_loopw [5,6,7] (fun v i q wr=>∃(k:Nat) (vs:List (Nat×Nat)),k≤n+1∧i=.int .i64 k∧vs.length=k∧Own DuoLay 87 wr w1.heap.size v vs∧zU wr v vs ps∧Hid (∀q ∈ ps.take k,je (jc q)=true)∧Kept w1 wr) (fun _ i _ _=>(n+1)-(intOf i).toNat)
   case atStart=>exact⟨0,[],Nat.zero_le _,rfl,rfl,Own.nil _ _ _,zU.nil _ _ _,lH (fun q hq=>by simp at hq),Kept.refl _⟩
   case round =>
    obtain⟨k,vs,hk,rfl,hvl,ho,hin,HG,hB⟩:=hrel;obtain⟨HO,Uv,HB,Uw⟩:=lH4 ho hin hB hvl;clear ho hin hB hvl;by_cases hlt:k<n+1
    · obtain⟨p,hp⟩:∃p,ps[k]?=some p:=⟨_,List.getElem?_eq_getElem (by rw[HN.out];exact hlt)⟩
      have HP:=lH hp;have c1:=cell_later HB.out (HC.out k p hp);have hpl:=Vo.out p (List.mem_of_getElem? hp);clear hp;go_wp2_with fail
      refine(Ym 61 p _ hpl rfl).mono ?_;rintro e2 w2 ⟨v2,rfl,ho2,k2⟩;have K2:=lH k2;have U3:=lH (show w2.ownsRow w1.heap.size 87 1 u5 k (jg DuoLay vs) by
       have:=(HO.out.kept k2).1;rw[Uw.out] at this;exact this)
      have hns:(bytes (jc p)).size≤maxLen:=by
       have:=JQ p;rw[jn];unfold maxLen;omega
      have Ut:=lH hns;have hdl:jL (bytes (jc p))=je (jc p):=by unfold jL;simp[bytes]
      by_cases hgd:je (jc p)=true
      · have hsp2:splitB 61 p=[bytes (nameOf p),bytes (jc p)]:=by unfold splitB;rw[jbg hgd];rfl
        rw[hsp2] at ho2;obtain⟨b,c,rfl,hb0,hb1,d0,d1⟩:=ja9 ho2;obtain⟨HD,VP,Rx,Vh⟩:=lH4 (show jL (bytes (jc p))=true by rw[hdl,hgd]) (jaR HP.out HG hgd) hb0 hb1;have hb2:w1.heap.size≤w2.heap.size:=Nat.le_trans HB.out.size K2.out.size;clear ho2 k2 hns hdl hgd hsp2 hb0 hb1 c1;go_wp2_with fail
        refine(ZW _ _ Ut.out).mono ?_;rw[HD.out];rintro e3 w3 ⟨rfl,rfl⟩;have Vg:=lH (U3.out.alloc (.cells #[.slice (some ⟨b,0,none⟩) 2 c] 87));go_wp2_with (at_builtin;refine wpList_append_lies _ rfl (.tmp 38) (.tmp 40) _ rfl w1.heap.size 87 i0 _ 1 24 Tryz.underlying132 hi hz0 hz1 hz2 rfl (by decide) u5 k (jg DuoLay vs) rfl Vg.out ⟨w2.heap.size,0,none⟩ 1 1 [.slice (some ⟨b,0,none⟩) 2 c] rfl rfl (World.news_of_block (cs:=#[.slice (some ⟨b,0,none⟩) 2 c]) (t:=87) (fr:=(0,0)) (w2.alloc_heap_new _)) (jcf b c) (by decide) (by unfold maxLen;omega) (by omega) (by rw[World.size_alloc];omega) (w2.heap.size+1) (World.size_alloc _ _) ?_;intro g cap4 w4 hown1 hgrow hg hlt4;obtain⟨VB,VQ,Ry⟩:=lH3 hown1 hgrow hg;clear hown1 hgrow hg hlt4)
        go_roundw
        case rel =>
         refine⟨k+1,vs++[(b,c)],by omega,by go_num,by rw[List.length_append,Uw.out];rfl,?_,?_,VP,?_⟩
         · exact Own.snoc (L:=DuoLay) (x:=(b,c)) VB.out (by rw[Uw.out]) HO.out.2 trivial
         · have hs4:(w2.alloc (.cells #[.slice (some ⟨b,0,none⟩) 2 c] 87)).heap.size=w2.heap.size+1:=World.size_alloc _ _
           exact zU.snoc (Uv.out.kept (K2.out.trans (jb _ _))) VQ.out (by rw[hs4];exact Ry.out) (by rw[Uw.out];exact HP.out) (by rw[hs4];have:=Vh.out;omega)
            (fun e=>by have h1:=(HO.out.1.lt b e).2;have h2:=Rx.out;omega) (cell_later (jb _ _) d0) (cell_later (jb _ _) d1)
         · exact(HB.out.trans (K2.out.trans (jb _ _))).grown VQ.out (by rw[World.size_alloc];omega) (fun j hj=>(Vg.out.lt j hj).1)
        case measure=>simp[intOf];omega
      · have HD:=lH (show jL (bytes (jc p))=false by rw[hdl];simpa using hgd);have U4:=lH (show R=(2,[]) by
         rw[←HR.out];unfold jI;rw[Uf.out,if_pos];unfold zh;rw[List.any_eq_true];exact⟨p,List.mem_of_getElem? HP.out,by simpa using hgd⟩)
        have KW:=lH (K1.out.trans (HB.out.trans K2.out));rcases form_bad (p:=p) (by simpa using hgd) with hne | ⟨x,y,hxy,hby⟩
        · obtain⟨m,hm⟩:∃m,(splitB 61 p).length=m+1:=by
           unfold splitB;rw[List.length_map];exact⟨(ja 61 p).length-1,by have:=List.length_pos_iff.2 (jY 61 p);omega⟩
          have hown2:=ho2.1;rw[hm] at hown2;obtain⟨g2,cap2,rfl⟩:=ownsRow_succ hown2;have hm2:m+1≠2:=by
           unfold splitB at hm;rw[List.length_map] at hm;omega
          have e2:((m:Int)+1==2)=false:=by
           have:(m:Int)+1≠2:=by omega
           simpa using this
          have e3:¬(m:Int)+1=2:=by omega
          clear ho2 hown2 hm k2 hns hdl hgd hne c1;go_wp2;go_ret2
          rw[U4.out];exact Told.none KW.out
        · have hsp2:splitB 61 p=[bytes x,bytes y]:=by unfold splitB;rw[hxy];rfl
          rw[hsp2] at ho2;obtain⟨b,c,rfl,hb0,hb1,d0,d1⟩:=ja9 ho2;have hys:(bytes y).size≤maxLen:=by
           have:=jz 61 p y (by rw[hxy];simp);rw[jn];unfold maxLen;omega
          have Rz:=lH hys;have RA:=lH (show jL (bytes y)=false by
           have:jL (bytes y)=je y:=by unfold jL;simp[bytes]
           rw[this];exact hby)
          clear ho2 k2 hns hdl hgd hsp2 hb0 hb1 c1 hys hxy hby;go_wp2_with fail
          refine(ZW _ _ Rz.out).mono ?_;rw[RA.out];rintro e3 w3 ⟨rfl,rfl⟩;go_wp2;go_ret2
          rw[U4.out];exact Told.none KW.out
    · have hk2:k=n+1:=by omega
      subst hk2;have VV:=lH (show ∀q ∈ ps,je (jc q)=true by
       have:=HG;rw[List.take_of_length_le (by rw[HN.out];exact Nat.le_refl _)] at this;exact this)
      have hown5:=HO.out.1;rw[Uw.out] at hown5;obtain⟨g5,cap5,rfl⟩:=ownsRow_succ hown5;have Tn:=lH (show ∀k p,ps[k]?=some p→∃b c,wr.cell? ⟨g5,k,none⟩=some (.slice (some ⟨b,0,none⟩) 2 c)∧wr.cell? ⟨b,0,none⟩=some (.string (bytes (nameOf p)))∧wr.cell? ⟨b,1,none⟩=some (.string (bytes (jc p))) from fun k p hp=>by
       have hkn:k<vs.length:=by have:=(List.getElem?_eq_some_iff.1 hp).1;rw[Uw.out,←HN.out];exact this
       have hx:vs[k]?=some vs[k]:=List.getElem?_eq_getElem hkn;obtain⟨h1,h2,h3,h4⟩:=Uv.out k _ p hx hp;refine⟨vs[k].1,vs[k].2,JU hown5 (by
        have:=Jd DuoLay vs k vs[k] 0 (.slice (some ⟨vs[k].1,0,none⟩) 2 vs[k].2) hx rfl;rw[←this];congr 1;exact(Nat.mul_one k).symm),h3,h4⟩)
      rename World=>w9
      obtain⟨i1,hj,hy0,hy1,hy2⟩:=info_parts qf;have KR:=lH (K1.out.trans HB.out);clear hown5 hi hz0 hz1 hz2 hk hlt;go_wp2;push_cast
      go_loopw [8,9,10,11] (fun v i n2 o2 wr=>∃k:Nat,k≤n+1∧i=.int .i64 k∧jt 74 wr w9.heap.size v ((ps.take k).map jl)∧Hid (∀q ∈ ps.take k,valL (jc q)≤9223372036854775807)∧Kept w9 wr) (fun _ i _ _ _=>(n+1)-(intOf i).toNat)
      case atStart=>exact⟨0,Nat.zero_le _,rfl,jt.nil _ _ _,lH (fun q hq=>by simp at hq),Kept.refl _⟩
      case round =>
       obtain⟨k,hk,rfl,ho,T0,hB3⟩:=hrel;have To:=lH ho;have Uh:=lH hB3;clear ho hB3;by_cases hlt:k<n+1
       · obtain⟨p,hp⟩:∃p,ps[k]?=some p:=⟨_,List.getElem?_eq_getElem (by rw[HN.out];exact hlt)⟩
         have HP:=lH hp;obtain⟨b,c,c0,c1,c2⟩:=Tn.out k p hp;have f0:=cell_later Uh.out c0;have f1:=cell_later Uh.out c1;have f2:=cell_later Uh.out c2;have hpm:=List.mem_of_getElem? hp;have T1:=lH hpm;have Ut:=lH (show (bytes (jc p)).size≤maxLen by
          have:=JQ p;have:=Vo.out p hpm;rw[jn];unfold maxLen;omega)
         have hbd:(bytes (jc p)).data.toList=jc p:=by simp[bytes]
         have UY:=lH hbd;have T2:=lH (show (bytes (jc p)).data.toList.all jD=true by rw[hbd];exact ZE (VV.out p hpm));clear hp c0 c1 c2 hpm hbd;by_cases hv:valL (jc p)≤9223372036854775807
         · obtain⟨Tp,T3,Tq⟩:=lH3 (show jU (bytes (jc p)).data.toList=((valL (jc p):Int),true) by rw[UY.out];unfold jU;rw[if_pos hv]) (show ((ps.take k).map jl).length=k by rw[List.length_map,List.length_take,HN.out];omega) (Ys T0 HP.out hv);have T4:=lH (show (wr.alloc (.cells #[.string (bytes (nameOf p)),.int .i64 (valL (jc p):Int)] 74)).ownsRow w9.heap.size 74 2 u8 k (cellsOf ((ps.take k).map jl)) by
            have:=To.out.1;rw[T3.out] at this;exact this.alloc _)
           have hwq:w9.heap.size≤wr.heap.size:=Uh.out.size;have VP:=lH (show (ps.take (k+1)).map jl=(ps.take k).map jl++[jl p] by rw[List.take_add_one,HP.out,List.map_append];rfl);have HV:=lH hv;clear hv;go_wp2_with fail
           refine(Z1 _ _ Ut.out T2.out).mono ?_;rw[Tp.out];rintro e3 w3 ⟨rfl,rfl⟩;go_wp2_with (at_builtin;refine wpList_append_lies _ rfl (.tmp 60) (.tmp 69) _ rfl w9.heap.size 74 i1 _ 2 24 Tryz.underlying31 hj hy0 hy1 hy2 rfl (by decide) u8 k (cellsOf ((ps.take k).map jl)) rfl T4.out ⟨wr.heap.size,0,none⟩ 1 1 [.string (bytes (nameOf p)),.int .i64 (valL (jc p):Int)] rfl rfl (Z7 _ _ _ _) (zo [(bytes (nameOf p),(valL (jc p):Int))]) (by decide) (by unfold maxLen;omega) (by omega) (by rw[World.size_alloc];omega) (wr.heap.size+1) (World.size_alloc _ _) ?_;intro g cap4 w4 hown1 hgrow hg hlt4;have VB:=lH hown1;have VQ:=lH hgrow;clear hown1 hgrow hg hlt4)
           go_roundw
           case rel =>
            refine⟨k+1,by omega,by go_num,⟨?_,?_⟩,Tq,?_⟩
            · rw[VP.out,zg,List.length_append,T3.out];exact VB.out
            · rw[VP.out];exact To.out.2.snoc (Ya (Vo.out p T1.out)) (by show (-9223372036854775808:Int)≤(valL (jc p):Int);omega) (by show (valL (jc p):Int)≤9223372036854775807;have:=HV.out;omega)
            · exact(Uh.out.trans (jb _ _)).grown VQ.out (by rw[World.size_alloc];omega) (fun j hj=>(T4.out.lt j hj).1)
           case measure=>simp[intOf];omega
         · have Tp:=lH (show jU (bytes (jc p)).data.toList=(0,false) by rw[UY.out];unfold jU;rw[if_neg hv]);have U4:=lH (show R=(5,[]) by
            rw[←HR.out];unfold jI;rw[Uf.out,if_neg (by rw[Yc VV.out];decide),if_pos];unfold zw;rw[List.any_eq_true];exact⟨p,T1.out,by simp;omega⟩)
           have KW:=lH (KR.out.trans Uh.out);clear hv;go_wp2_with fail
           refine(Z1 _ _ Ut.out T2.out).mono ?_;rw[Tp.out];rintro e3 w3 ⟨rfl,rfl⟩;go_wp2;go_ret2
           rw[U4.out];exact Told.none KW.out
       · have hk2:k=n+1:=by omega
         subst hk2;have hfull:ps.take (n+1)=ps:=List.take_of_length_le (by rw[HN.out];exact Nat.le_refl _);obtain⟨Q,hQ⟩:=eX (ps.map jl)
         have T5:=lH (show jt 74 wr w9.heap.size u8 Q by have:=To.out;rw[hfull,hQ] at this;exact this);have VM:=lH (show R=if jf Q≠0 then (jf Q,[]) else (0,Q) by
          have h3:=T0;rw[hfull] at h3;rw[←HR.out,←hQ];exact XY Uf.out VV.out h3)
         obtain⟨a5,cap6,he,-,-,hat⟩:=T5.out.at_;obtain⟨m,hm⟩:=eX (Q.length)
         rw[hm] at he hat;subst he;have Vc:=lH hat;have KW:=lH (KR.out.trans Uh.out);have hbase:w.heap.size≤w9.heap.size:=KR.out.size;clear hfull hat hk hlt hQ hm;obtain⟨E,hE⟩:=eX (jf Q)
         have Vv:=lH (fun W (k:Kept wr W)=>Zl a5 m cap6 Q W (Vc.out.kept k));rw[hE] at VM Vv;by_cases hc:E=0
         · subst hc;have HE:=lH (show R=(0,Q) by rw[VM.out,if_neg (by decide)]);clear VM hE;go_wp2_with fail
           refine(Vv.out _ (Kept.refl _)).mono ?_;rintro e6 w6 ⟨rfl,k6⟩;have K6:=lH k6;clear k6;go_wp2;go_ret2
           rw[HE.out];exact⟨_,rfl,(T5.out.kept K6.out).base_le hbase,KW.out.trans K6.out⟩
         · have hc1:(E != 0)=true:=by simpa using hc
           have HE:=lH (show R=(E,[]) by rw[VM.out,if_pos hc]);clear VM hE;go_wp2_with fail
           refine(Vv.out _ (Kept.refl _)).mono ?_;rintro e6 w6 ⟨rfl,k6⟩;have K6:=lH k6;clear k6;go_wp2;go_ret2
           rw[HE.out];exact Told.none (KW.out.trans K6.out)
theorem jbf (a a':Option Addr) (len cap len' cap':Nat) (l l':V) (w:World) (hr:jJ w a len l) (hr':jJ w a' len' l') :
 Calls Tryz.prog 19 #[.slice a len cap,.slice a' len' cap'] w fun e w'=>e=.returned (.bool (jB l l'))∧Kept w w':=by
 have hl:=hr.1;have hm:=hr.2.1;have hl':=hr'.1;have hm':=hr'.2.1;unfold maxLen at hm hm';by_cases hll:len=len'
 · subst hll;rcases hr.form with h0 | ⟨b,off,rfl⟩
   · subst h0;have HE:=lH (show jB l l'=true by rw[List.eq_nil_of_length_eq_zero hl,List.eq_nil_of_length_eq_zero hl'];rfl);clear hr hl hr' hl';go_enter Tryz.func19,Tryz.ntmps19;go_wp2;refine wp_loop_rounds 1 ?_;rw[rounds_succ];go_wp2;go_ret;exact⟨jv HE.out.symm,Kept.refl _⟩
   · rcases hr'.form with h0 | ⟨b',off',rfl⟩
     · subst h0;have HE:=lH (show jB l l'=true by rw[List.eq_nil_of_length_eq_zero hl,List.eq_nil_of_length_eq_zero hl'];rfl);clear hr hl hr' hl';go_enter Tryz.func19,Tryz.ntmps19;go_wp2;refine wp_loop_rounds 1 ?_;rw[rounds_succ];go_wp2;go_ret;exact⟨jv HE.out.symm,Kept.refl _⟩
     · have HR:=lH hr;have HL:=lH hl;have HR':=lH hr';have HL':=lH hl';clear hr hl hr' hl';go_enter Tryz.func19,Tryz.ntmps19;go_wp2;go_loopw [5] (fun i wr=>∃k:Nat,k≤len∧i=.int .i64 k∧jB (l.drop k) (l'.drop k)=jB l l'∧Kept w wr) (fun i _=>len-(intOf i).toNat)
       case atStart=>exact⟨0,Nat.zero_le _,rfl,rfl,Kept.refl _⟩
       case round =>
        obtain⟨k,hk,rfl,hrest,hK⟩:=hrel;have HS:=lH hrest;have HK:=lH hK;by_cases hlt:k<len
        · obtain⟨hb,c1,c2⟩:=(HR.out.kept hK).cells hlt;obtain⟨hb',d1,d2⟩:=(HR'.out.kept hK).cells hlt;clear hrest hK;have HI:=lH (show k<l.length by rw[HL.out];exact hlt);have HI':=lH (show k<l'.length by rw[HL'.out];exact hlt);by_cases e1:eqS (nm l k) (nm l' k)=true
          · have E1:=lH e1;have e1':((nm l k).toList==(nm l' k).toList)=true:=e1;clear e1;by_cases e2:qn l k=qn l' k
            · have E:=lH (show jB (l.drop k) (l'.drop k)=jB (l.drop (k+1)) (l'.drop (k+1)) by
               rw[drop_cons HI.out,drop_cons HI'.out,jB,E1.out,decide_eq_true e2];rfl)
              have e2':(qn l k==qn l' k)=true:=by simpa using e2
              clear e2;go_wp2;go_quiet (fail)
              go_wp2;go_roundw
              case rel=>exact⟨k+1,by omega,by go_num,E.out.symm.trans HS.out,HK.out.trans (Kept.drewN _ _)⟩
              case measure=>simp[intOf];omega
            · have E:=lH (show jB (l.drop k) (l'.drop k)=false by
               rw[drop_cons HI.out,drop_cons HI'.out,jB,E1.out,decide_eq_false e2];rfl)
              have e2':(qn l k==qn l' k)=false:=by simpa using e2
              clear e2;go_wp2;go_quiet (fail)
              go_wp2;go_ret;exact⟨jv (HS.out.symm.trans E.out).symm,HK.out.trans (Kept.drewN _ _)⟩
          · have e1:eqS (nm l k) (nm l' k)=false:=by simpa using e1
            have E:=lH (show jB (l.drop k) (l'.drop k)=false by
             rw[drop_cons HI.out,drop_cons HI'.out,jB,e1];rfl)
            have e1':((nm l k).toList==(nm l' k).toList)=false:=e1;clear e1;go_wp2;go_quiet (fail)
            go_wp2;go_ret;exact⟨jv (HS.out.symm.trans E.out).symm,HK.out.trans (Kept.drewN _ _)⟩
        · have E:=lH (show jB (l.drop k) (l'.drop k)=true by
           rw[List.drop_of_length_le (by rw[HL.out];omega),List.drop_of_length_le (by rw[HL'.out];omega),jB])
          clear hrest hK;go_wp2;go_ret;exact⟨jv (HS.out.symm.trans E.out).symm,HK.out⟩
 · have HV:=lH (show jB l l'=false from same_length (by omega));clear hr hl hr' hl';have hn:((len:Int) != (len':Int))=true:=by
    simp only[bne_iff_ne,ne_eq];omega
   clear hll;go_enter Tryz.func19,Tryz.ntmps19;go_wp2;go_ret;exact⟨jv HV.out.symm,Kept.refl _⟩
theorem jaO:∀{l:V},(∀x ∈ l,x.1.size≤50)→z8 l=true
 | [],_=>rfl
 | x::t,h=>by
  rw[z8,decide_eq_true (h x (by simp)),jaO (fun y hy=>h y (by simp[hy]))];rfl
theorem jah {s:ByteArray} (h:isName s=true):s.size≤12:=by
 unfold isName at h;simp only[Bool.and_eq_true,decide_eq_true_eq] at h;exact h.1.2
theorem jaA {l:V} (h:jf l=0) (hf:jX l):Za l=true:=by
 have g:=qW h hf;have hl:=Zt h;have hn:∀x ∈ l,x.1.size≤50:=fun x hx=>by
  have:=jah (g.1 x hx).1;omega
 unfold Za;rw[decide_eq_true (by omega),jaO hn];rfl
theorem jt.reads {e:TypeId} {w:World} {B:Nat} {v:Value} {l:V} (h:jt e w B v l):Reads w v l:=h.at_
theorem jcA {v v':Value} {l l':V} {c:Bool} {w:World} (h:Reads w v l) (h':Reads w v' l') (e:jB l l'=c) :
 Calls Tryz.prog 19 #[v,v'] w fun x w'=>x=.returned (.bool c)∧Kept w w':=by
 subst e;obtain⟨a,cap,rfl,h1,h2,h3⟩:=h;obtain⟨a',cap',rfl,h1',h2',h3'⟩:=h';exact jbf a a' _ cap _ cap' l l' w h3 h3'
theorem jcF {n:ByteArray} {c:Bool} {w:World} (h:n.size≤maxLen) (e:isName n=c) :
 Calls Tryz.prog 32 #[.string n] w fun x w'=>x=.returned (.bool c)∧w=w':=by
 subst e;exact zq n w h
end Go.Proofs.YtnfojaidmnccoaaGreatDoor.Vec
namespace Go.Proofs.YtnfojaidmnccoaaGreatDoor
open Go.RowKit
structure Nod where
 name:ByteArray
 cap:Vec.V
 labels:PL
 taints:NL
 cordon:Bool
def Nod.zero:Nod:=⟨ByteArray.empty,[],[],[],false⟩
abbrev jc5 (n:Nod) (v1 v2 v3:Value):Value:=.agg #[.string n.name,v1,v2,v3,.bool n.cordon]
structure Y4 (w:World) (v1 v2 v3:Value) (n:Nod):Prop where
 size:n.name.size≤maxLen
 cap:Vec.Reads w v1 n.cap
 labels:Reads qd w v2 n.labels
 taints:Reads jbM w v3 n.taints
theorem Y4.kept {w w':World} {v1 v2 v3:Value} {n:Nod} (h:Y4 w v1 v2 v3 n) (k:Kept w w'):Y4 w' v1 v2 v3 n:=⟨h.size,h.cap.kept k,h.labels.kept k,h.taints.kept k⟩
def qY (w:World) (v:Value) (n:Nod):Prop:=∃v1 v2 v3,v=jc5 n v1 v2 v3∧Y4 w v1 v2 v3 n
theorem qY.kept {w w':World} {v:Value} {n:Nod} (h:qY w v n) (k:Kept w w'):qY w' v n:=by
 obtain⟨v1,v2,v3,e,h⟩:=h;exact⟨v1,v2,v3,e,h.kept k⟩
theorem jaG (l:PL) (h:8<l.length):qH l=4:=by unfold qH;rw[if_pos h]
theorem ja4 {p:List UInt8} (h:JO p=false):jbQ (Y2 p)=bytes p:=by
 unfold JO at h;rw[Bool.or_eq_false_iff] at h;have h1:(Lib.cut p [58]).2.2=true:=by simpa using h.1
 show bytes (Lib.cut p [58]).1++⟨#[58]⟩++bytes (Lib.cut p [58]).2.1=bytes p;rw[ja5,ZU 58 p h1]
theorem YM {s:List UInt8} (h:(Yt s).1=0):jbJ (Yt s).2=bytes s:=by
 have e:=XU (bad:=JO) (f:=Y2) jaG s;unfold Yt at h ⊢;rw[←e] at h ⊢;unfold jae at h ⊢;by_cases hd:s=[45]
 · rw[if_pos hd];subst hd;rfl
 · rw[if_neg hd] at h ⊢;by_cases ha:(partsOf s).any JO=true
   · rw[if_pos ha] at h;cases h
   · rw[if_neg ha] at h ⊢;by_cases hc:qH ((partsOf s).map Y2)≠0
     · rw[if_pos hc] at h;exact absurd h hc
     · rw[if_neg hc];unfold jbJ;rw[if_neg (by simp;exact zA s),jbx (fun p hp=>ja4 hp) s (by simpa using ha),XZ]
def Y3 (B:Nat) (w:World) (v:Value) (n:Nod):Prop:=∃a1 m1 c1 a2 m2 c2 a3 m3 c3,v=.agg #[.string n.name,.slice a1 m1 c1,.slice a2 m2 c2,.slice a3 m3 c3,.bool n.cordon]∧n.name.size≤maxLen∧Vec.Reads w (.slice a1 m1 c1) n.cap∧Reads qd w (.slice a2 m2 c2) n.labels∧Reads jbM w (.slice a3 m3 c3) n.taints ∧
 (∀b off sp,a1=some ⟨b,off,sp⟩→B≤b)∧(∀b off sp,a2=some ⟨b,off,sp⟩→B≤b)∧(∀b off sp,a3=some ⟨b,off,sp⟩→B≤b)
theorem Y3.toR {B:Nat} {w:World} {v:Value} {n:Nod} (h:Y3 B w v n):qY w v n:=by
 obtain⟨a1,m1,c1,a2,m2,c2,a3,m3,c3,e,h0,h1,h2,h3,_⟩:=h;exact⟨_,_,_,e,h0,h1,h2,h3⟩
def Yj (r:Int×Nod) (w:World) (e:Ending) (w':World):Prop:=(r.1=0→∃v,e=.returned v∧Y3 w.heap.size w' v r.2)∧(r.1≠0→e=.panicked [jG r.1])∧Kept w w'
theorem Yj.good {r:Int×Nod} {w w':World} {v:Value} (h:r.1=0) (ho:Y3 w.heap.size w' v r.2) (hb:Kept w w'):Yj r w (.returned v) w':=⟨fun _=>⟨v,rfl,ho⟩,fun g=>absurd h g,hb⟩
theorem Yj.bad {r:Int×Nod} {w w':World} {c:Int} (h:r.1=c) (hc:c≠0) (hb:Kept w w'):Yj r w (.panicked [jG c]) w':=⟨fun g=>absurd (h.symm.trans g) hc,fun _=>by rw[h],hb⟩
theorem Vec.JJ.spelt {r:Int×Vec.V} {w w':World} {e:Ending} (h:Vec.JJ r w e w'):∃a m cap,e=.returned (.tuple #[.slice a m cap,.int .i64 r.1])∧Vec.Reads w' (.slice a m cap) r.2∧(∀b off sp,a=some ⟨b,off,sp⟩→w.heap.size≤b∧b<w'.heap.size)∧Kept w w':=by
 obtain⟨v,rfl,ho,k⟩:=h;obtain⟨a,cap,rfl,h⟩:=ho.at_;exact⟨a,_,cap,rfl,⟨a,cap,rfl,h⟩,fun b off sp e=>ho.1.lt b (by subst e;rfl),k⟩
theorem Xn (w:World) (v0 v1 v2 v3 v4:Value) (T:TypeId) (W:World) (k:Kept (w.alloc (.cells #[v0,v1,v2,v3,v4] T)) W) :
 (W.cell? ⟨w.heap.size,0,none⟩=some v0∧W.cell? ⟨w.heap.size,1,none⟩=some v1∧W.cell? ⟨w.heap.size,2,none⟩=some v2∧W.cell? ⟨w.heap.size,3,none⟩=some v3∧W.cell? ⟨w.heap.size,4,none⟩=some v4) ∧
 W.frozen? ⟨w.heap.size,0,none⟩=false∧W.frozen? ⟨w.heap.size,1,none⟩=false∧W.frozen? ⟨w.heap.size,2,none⟩=false∧W.frozen? ⟨w.heap.size,3,none⟩=false∧W.frozen? ⟨w.heap.size,4,none⟩=false:=by
 have hh:=w.alloc_heap_new (.cells #[v0,v1,v2,v3,v4] T);have hf:∀j,W.frozen? ⟨w.heap.size,j,none⟩=false:=fun j=>by
  have:=k.frozen (p:=⟨w.heap.size,j,none⟩) (by simp);rw[this];unfold World.frozen?;rw[show (w.alloc (.cells #[v0,v1,v2,v3,v4] T)).heap[(⟨w.heap.size,j,none⟩:Addr).block]?=some (.cells #[v0,v1,v2,v3,v4] T) from hh];simp
 exact⟨⟨cell_later k (by rw[Lib.cell_of_heap hh];rfl),cell_later k (by rw[Lib.cell_of_heap hh];rfl),cell_later k (by rw[Lib.cell_of_heap hh];rfl),cell_later k (by rw[Lib.cell_of_heap hh];rfl),cell_later k (by rw[Lib.cell_of_heap hh];rfl)⟩,hf 0,hf 1,hf 2,hf 3,hf 4⟩
theorem qP (W:World) (q:Nat) (u0 u1 u2 u3 u4:Value) (b:Nat) (h:b≠q) :
 (((((W.setCell ⟨q,0,none⟩ u0).setCell ⟨q,1,none⟩ u1).setCell ⟨q,2,none⟩ u2).setCell ⟨q,3,none⟩ u3).setCell ⟨q,4,none⟩ u4).heap[b]?=W.heap[b]? :=
 (Below.heap_setCell _ ⟨q,4,none⟩ _ b h).trans ((Below.heap_setCell _ ⟨q,3,none⟩ _ b h).trans ((Below.heap_setCell _ ⟨q,2,none⟩ _ b h).trans ((Below.heap_setCell _ ⟨q,1,none⟩ _ b h).trans (Below.heap_setCell _ ⟨q,0,none⟩ _ b h))))
theorem ja7 (W:World) (q:Nat) (u0 u1 u2 u3 u4:Value) :
 (((((W.setCell ⟨q,0,none⟩ u0).setCell ⟨q,1,none⟩ u1).setCell ⟨q,2,none⟩ u2).setCell ⟨q,3,none⟩ u3).setCell ⟨q,4,none⟩ u4).heap.size=W.heap.size:=by simp[World.setCell]
theorem Reads.far {α:Type} {L:Lay α} {w w':World} {a:Option Addr} {m cap:Nat} {l:List α} (h:Reads L w (.slice a m cap) l) (hs:w'.heap.size=w.heap.size) (hb:∀b off sp,a=some ⟨b,off,sp⟩→w'.heap[b]?=w.heap[b]?):Reads L w' (.slice a m cap) l:=by
 obtain⟨a',cap',e,h1,h2,h3,h4,h5,h6⟩:=h
 cases e
 refine⟨a,cap,rfl,h1,h2,h3,h4,h5,h6.imp id ?_⟩;rintro ⟨b,off,rfl,hlt,hc⟩;exact⟨b,off,rfl,by rw[hs];exact hlt,fun i x j u hi hj=>(World.cell?_of_block (a:=⟨b,off+i*L.m+j,none⟩) (hb b off none rfl)).trans (hc i x j u hi hj)⟩
theorem Vec.Reads.far {w w':World} {a:Option Addr} {m cap:Nat} {l:Vec.V} (h:Vec.Reads w (.slice a m cap) l) (hs:w'.heap.size=w.heap.size) (hb:∀b off sp,a=some ⟨b,off,sp⟩→w'.heap[b]?=w.heap[b]?):Vec.Reads w' (.slice a m cap) l:=by
 obtain⟨a',cap',e,h1,h2,h3,h4,h5,h6⟩:=h
 cases e
 refine⟨a,cap,rfl,h1,h2,h3,h4,h5,h6.imp id ?_⟩;rintro ⟨b,off,rfl,hlt,hc⟩;exact⟨b,off,rfl,by rw[hs];exact hlt,fun i hi=>⟨(World.cell?_of_block (a:=⟨b,off+i*2,none⟩) (hb b off none rfl)).trans (hc i hi).1,(World.cell?_of_block (a:=⟨b,off+i*2+1,none⟩) (hb b off none rfl)).trans (hc i hi).2⟩⟩
theorem qS {W:World} {q:Nat} {v0 v1 v2 v3 v4 u0 u1 u2 u3 u4:Value} (y0:W.cell? ⟨q,0,none⟩=some v0) (y1:W.cell? ⟨q,1,none⟩=some v1) (y2:W.cell? ⟨q,2,none⟩=some v2) (y3:W.cell? ⟨q,3,none⟩=some v3) (y4:W.cell? ⟨q,4,none⟩=some v4) (W':World)
 (hW:(((((W.setCell ⟨q,0,none⟩ u0).setCell ⟨q,1,none⟩ u1).setCell ⟨q,2,none⟩ u2).setCell ⟨q,3,none⟩ u3).setCell ⟨q,4,none⟩ u4)=W') :
 W'.cell? ⟨q,0,none⟩=some u0∧W'.cell? ⟨q,1,none⟩=some u1∧W'.cell? ⟨q,2,none⟩=some u2∧W'.cell? ⟨q,3,none⟩=some u3∧W'.cell? ⟨q,4,none⟩=some u4:=by
 subst hW;refine⟨?_,?_,?_,?_,?_⟩<;>go_simp
theorem jcb (b len:Nat) (l:List Int) (w:World) (hl:l.length=len) (hm:len≤1000) (hc:∀(i:Nat) (x:Int),l[i]?=some x→w.cell? ⟨b,i,none⟩=some (.int .i64 x)) :
 Calls Tryz.prog 35 #[.slice (some ⟨b,0,none⟩) len len] w fun e w'=>e=.returned (.int .i64 (orL l))∧w=w':=by
 have HC:=lH hc;have HL:=lH hl;clear hc hl;go_enter Tryz.func35,Tryz.ntmps35;go_wp2;go_loopw [8] (fun i wr=>∃k:Nat,k≤len∧i=.int .i64 k∧orL (l.drop k)=orL l∧w=wr) (fun i _=>len-(intOf i).toNat)
 case atStart=>exact⟨0,Nat.zero_le _,rfl,rfl,rfl⟩
 case round =>
  obtain⟨k,hk,rfl,hrest,rfl⟩:=hrel;have HS:=lH hrest;by_cases hlt:k<len
  · have hkl:k<l.length:=by rw[HL.out];exact hlt
    obtain⟨x,hx⟩:=eX (l[k])
    have hx':l[k]?=some x:=by rw[List.getElem?_eq_getElem hkl,hx]
    have c0:=HC.out k x hx';have HD:=lH (show l.drop k=x::l.drop (k+1) by rw[List.drop_eq_getElem_cons hkl,hx]);clear hrest hx hx' hkl;by_cases z:x=0
    · subst z;have HE:=lH (show orL (l.drop k)=orL (l.drop (k+1)) by rw[HD.out];rfl);go_wp2;go_roundw
      case rel=>exact⟨k+1,by omega,by go_num,HE.out.symm.trans HS.out,trivial⟩
      case measure=>simp[intOf];omega
    · have HE:=lH (show orL l=x by rw[←HS.out,HD.out];show (if x≠0 then x else _)=x;rw[if_pos z]);have z':(x != 0)=true:=by simpa using z
      clear z;go_wp2;go_ret;exact⟨ji HE.out.symm,rfl⟩
  · have HE:=lH (show orL l=0 by rw[←hrest,List.drop_of_length_le (by rw[HL.out];omega)];rfl);clear hrest;go_wp2;go_ret;exact⟨ji HE.out.symm,rfl⟩
theorem YX (x:ByteArray) (w:World) (hx:x.size≤maxLen) :
 Calls Tryz.prog 36 #[.string x] w fun e w'=>e=.returned (.int .i64 (Ja x))∧w=w':=by
 obtain⟨q,hq⟩:=eX (isName x)
 have HN:=lH (fun W=>Vec.jcV (w:=W) hx hq);have HV:=lH (show Ja x=if q=true then 0 else 3 by unfold Ja;rw[hq]);clear hq hx
 cases q <;>
 (go_enter Tryz.func36,Tryz.ntmps36
  go_wp2_with (go_at_call 65;refine(HN.out _).mono ?_;rintro e w' ⟨rfl,rfl⟩)
  go_ret;exact⟨ji HV.out.symm,rfl⟩)
theorem Xq (a b:Int) (w:World) :
 Calls Tryz.prog 37 #[.int .i64 a,.int .i64 b] w fun e w'=>e=.returned (.int .i64 (jP a b))∧w=w':=by
 by_cases h1:a<0
 · have HV:=lH (show jP a b=1 by unfold jP;rw[if_pos (.inl h1)]);go_enter Tryz.func37,Tryz.ntmps37;go_wp2;go_ret;exact⟨ji HV.out.symm,rfl⟩
 · by_cases h2:b<a
   · have HV:=lH (show jP a b=1 by unfold jP;rw[if_pos (.inr (.inl h2))]);go_enter Tryz.func37,Tryz.ntmps37;go_wp2;go_ret;exact⟨ji HV.out.symm,rfl⟩
   · by_cases h3:128<b
     · have HV:=lH (show jP a b=1 by unfold jP;rw[if_pos (.inr (.inr h3))]);go_enter Tryz.func37,Tryz.ntmps37;go_wp2;go_ret;exact⟨ji HV.out.symm,rfl⟩
     · have HV:=lH (show jP a b=0 by unfold jP;rw[if_neg (by omega)]);go_enter Tryz.func37,Tryz.ntmps37;go_wp2;go_ret;exact⟨ji HV.out.symm,rfl⟩
theorem Xi (u c p:Int) (w:World):Calls Tryz.prog 39 #[.agg #[.int .i64 u,.int .i64 c,.int .i64 p]] w fun e w'=>e=.returned (.int .i64 u)∧Kept w w':=by
 go_enter Tryz.func39,Tryz.ntmps39;go_wp2;go_ret;exact⟨rfl,jb _ _⟩
theorem Y0 (u c p:Int) (w:World):Calls Tryz.prog 40 #[.agg #[.int .i64 u,.int .i64 c,.int .i64 p]] w fun e w'=>e=.returned (.int .i64 (jo u c p))∧Kept w w':=by
 by_cases h0:u<0
 · have HV:=lH (show jo u c p=1 by unfold jo;rw[if_pos (by omega)]);go_enter Tryz.func40,Tryz.ntmps40;go_wp2;go_ret;exact⟨ji HV.out.symm,jb _ _⟩
 · skip;by_cases h1:p<0
   · have HV:=lH (show jo u c p=1 by unfold jo;rw[if_pos (by omega)]);go_enter Tryz.func40,Tryz.ntmps40;go_wp2;go_ret;exact⟨ji HV.out.symm,jb _ _⟩
   · skip;by_cases h2:1000000<p
     · have HV:=lH (show jo u c p=1 by unfold jo;rw[if_pos (by omega)]);go_enter Tryz.func40,Tryz.ntmps40;go_wp2;go_ret;exact⟨ji HV.out.symm,jb _ _⟩
     · skip;by_cases h3:c<0
       · have HV:=lH (show jo u c p=1 by unfold jo;rw[if_pos (by omega)]);go_enter Tryz.func40,Tryz.ntmps40;go_wp2;go_ret;exact⟨ji HV.out.symm,jb _ _⟩
       · skip;by_cases h4:128<c
         · have HV:=lH (show jo u c p=1 by unfold jo;rw[if_pos (by omega)]);go_enter Tryz.func40,Tryz.ntmps40;go_wp2;go_ret;exact⟨ji HV.out.symm,jb _ _⟩
         · have HV:=lH (show jo u c p=0 by unfold jo;rw[if_neg (by omega)]);go_enter Tryz.func40,Tryz.ntmps40;go_wp2;go_ret;exact⟨ji HV.out.symm,jb _ _⟩
theorem Yu (a:Option Addr) (len cap:Nat) (l:RL) (w:World) (hr:jT jh w a len l) :
 Calls Tryz.prog 38 #[.slice a len cap,.int .i64 8,.func (.func 39) #[] #[],.func (.func 40) #[] #[]] w (Say (.int .i64 (jC l)) w):=by
 have hl:=hr.1;have hm:=hr.2.1;unfold maxLen at hm;by_cases h8:8<len
 · have HV:=lH (show jC l=4 by unfold jC;rw[if_pos (by omega)]);clear hr hl;go_enter Tryz.func38,Tryz.ntmps38;go_wp2;go_ret;exact⟨ji HV.out.symm,Kept.refl _⟩
 · have HV:=lH (show jC l=jk none l by unfold jC;rw[if_neg (by omega)]);have h8':len≤8:=by omega
   by_cases h0:len=0
   · subst h0;have HE:=lH (show jC l=0 by rw[HV.out,List.eq_nil_of_length_eq_zero hl];rfl);clear hr hl h8;go_enter Tryz.func38,Tryz.ntmps38;go_wp2;refine wp_loop_rounds 1 ?_;rw[rounds_succ];go_wp2;go_ret;exact⟨ji HE.out.symm,Kept.refl _⟩
   · obtain⟨b,off,rfl⟩:=hr.form.resolve_left h0;have HR:=lH hr;have HL:=lH hl;clear hr hl h0 h8;go_enter Tryz.func38,Tryz.ntmps38;go_wp2;go_loopw [18] (fun i wr=>∃k:Nat,k≤len∧i=.int .i64 k∧jk (j4 l k) (l.drop k)=jk none l∧Kept w wr) (fun i _=>len-(intOf i).toNat)
     case atStart=>exact⟨0,Nat.zero_le _,rfl,rfl,Kept.refl _⟩
     case round =>
      obtain⟨k,hk,rfl,hrest,hK⟩:=hrel;obtain⟨HS,HT,HK⟩:=lH3 (HV.out.trans hrest.symm) hrest hK;by_cases hlt:k<len
      · obtain⟨u,c,p,hn,hd,hb,hfine,p0,p1,p2⟩:=(HR.out.kept hK).rung hlt;obtain⟨HD,VP,Vv,RC⟩:=lH4 hd (Yd hn) (fun W=>Y0 u c p W) (fun W=>Xi u c p W);obtain⟨ck,hck⟩:=eX (jo u c p)
        have Ui:=lH hck;rw[hck] at Vv;have hkk:(k:Int)<(len:Int):=by omega
        clear hrest hK hd hck hn hfine;by_cases z1:ck=0
        · subst z1;by_cases h0:k=0
          · have hd0:decide (0<k)=false:=by subst h0;decide
            have HP:=lH (Yi (l:=l) (n:=(u,c,p)) (t:=l.drop (k+1)) h0 Ui.out);clear h0;go_wp2_with fail
            refine(Vv.out _).mono ?_;rintro e w1 ⟨rfl,kk⟩;have KW:=lH (Kept.trans (jb _ _) kk);have U5:=lH (fun W k=>js wr (.int .i64 u) [.int .i64 c,.int .i64 p] 46 W (Kept.trans kk k));obtain⟨y0,y1,y2⟩:=(U5.out w1 (Kept.refl _)).at3;clear kk;go_wp2;go_quiet (fail)
            go_wp2;go_roundw
            case rel=>exact⟨k+1,by omega,by go_num,(show jk (j4 l (k+1)) (l.drop (k+1))=jk none l by rw[←HT.out,HD.out,HP.out,VP.out]),HK.out.trans (KW.out.trans (Kept.drewN _ _))⟩
            case measure=>simp[intOf];omega
          · have hd0:decide (0<k)=true:=by simp;omega
            obtain⟨q,hqk⟩:∃q,k=q+1:=⟨k-1,by omega⟩
            have g1:(k:Int)-1=(q:Int):=by omega
            have gw:IntKind.i64.wrap (q:Int)=(q:Int):=by rw[IntKind.wrap_i64];omega
            have g2:(q:Int)<(len:Int):=by omega
            obtain⟨u9,c9,p9,hn9,-,hb9,-,q0,q1,q2⟩:=(HR.out.kept HK.out).rung (show q<len by omega);have R5:=lH hqk;have hqk1:k-1=q:=by omega
            have HP:=lH (YT (l:=l) (n:=(u,c,p)) (q:=(u9,c9,p9)) (t:=l.drop (k+1)) h0 (by rw[hqk1];exact hn9) Ui.out);dsimp only at HP;clear hqk hqk1;have Ux:=lH (fun W=>Xi u9 c9 p9 W);clear h0 hn9;obtain⟨le,hle⟩:=eX (decide (u≤u9))
            have T6:=lH hle;go_wp2_with fail
            refine(Vv.out _).mono ?_;rintro e w1 ⟨rfl,kk⟩;have KW:=lH (Kept.trans (jb _ _) kk);have U5:=lH (fun W k=>js wr (.int .i64 u) [.int .i64 c,.int .i64 p] 46 W (Kept.trans kk k));obtain⟨y0,y1,y2⟩:=(U5.out w1 (Kept.refl _)).at3;have HO:=lH (show ∀W,Kept w1 W→(W.cell? ⟨wr.heap.size,0,none⟩=some (.int .i64 u)∧W.cell? ⟨wr.heap.size,1,none⟩=some (.int .i64 c)∧W.cell? ⟨wr.heap.size,2,none⟩=some (.int .i64 p))∧(W.cell? ⟨b,off+q*3,none⟩=some (.int .i64 u9)∧W.cell? ⟨b,off+q*3+1,none⟩=some (.int .i64 c9)∧W.cell? ⟨b,off+q*3+2,none⟩=some (.int .i64 p9)) from fun W k=>⟨(U5.out W k).at3,cell_later (KW.out.trans k) q0,cell_later (KW.out.trans k) q1,cell_later (KW.out.trans k) q2⟩);clear kk q0 q1 q2;go_wp2
            go_region_held3 (fun W=>(W.cell? ⟨wr.heap.size,0,none⟩=some (.int .i64 u)∧W.cell? ⟨wr.heap.size,1,none⟩=some (.int .i64 c)∧W.cell? ⟨wr.heap.size,2,none⟩=some (.int .i64 p))∧(W.cell? ⟨b,off+q*3,none⟩=some (.int .i64 u9)∧W.cell? ⟨b,off+q*3+1,none⟩=some (.int .i64 c9)∧W.cell? ⟨b,off+q*3+2,none⟩=some (.int .i64 p9)))
             (first | exact HO.out _ (Kept.drew _) | exact HO.out _ J1.out | exact HO.out _ J2.out)
             (first | (go_at_call 39;refine(RC.out _).mono ?_;rintro e1 w2 ⟨rfl,k1⟩;have J1:=lH ((Kept.drew _).trans k1);clear k1)
                    | (go_at_call 39;refine(Ux.out _).mono ?_;rintro e2 w3 ⟨rfl,k1⟩;have J2:=lH (J1.out.trans k1);clear k1))
            cases le with
            | true =>
             have HLE':=lH (of_decide_eq_true T6.out);go_wp2;go_ret;exact⟨ji (show (13:Int)=jC l by rw[HS.out,HD.out,HP.out,if_pos HLE'.out]),HK.out.trans (KW.out.trans J2.out)⟩
            | false =>
             have HLE':=lH (of_decide_eq_false T6.out);go_wp2;go_roundw
             case rel=>exact⟨k+1,by omega,by go_num,(show jk (j4 l (k+1)) (l.drop (k+1))=jk none l by rw[←HT.out,HD.out,HP.out,if_neg HLE'.out,VP.out]),HK.out.trans (KW.out.trans J2.out)⟩
             case measure=>simp[intOf];omega
        · have HB:=lH (show jk (j4 l k) (l.drop k)=ck by rw[HD.out,zY (n:=(u,c,p)) (by dsimp only;rw[Ui.out];exact z1)];exact Ui.out);have z1':(ck != 0)=true:=by simpa using z1
          clear z1;go_wp2_with fail
          refine(Vv.out _).mono ?_;rintro e w1 ⟨rfl,kk⟩;have KW:=lH (Kept.trans (jb _ _) kk);clear kk;go_wp2;go_ret;exact⟨ji (HS.out.trans HB.out).symm,HK.out.trans KW.out⟩
      · have HE:=lH (show jk (j4 l k) (l.drop k)=0 by rw[List.drop_of_length_le (by rw[HL.out];omega)];rfl);have hkk:¬(k:Int)<(len:Int):=by omega
        clear hrest hK;go_wp2;go_ret;exact⟨ji (HS.out.trans HE.out).symm,HK.out⟩
theorem XQ {v:Value} {l:RL} {c:Int} {w:World} (h:Reads jh w v l) (hc:jC l=c) :
 Calls Tryz.prog 38 #[v,.int .i64 8,.func (.func 39) #[] #[],.func (.func 40) #[] #[]] w (Say (.int .i64 c) w):=by
 subst hc;obtain⟨a,cap,rfl,_,_,hr⟩:=h;exact Yu a _ cap l w hr
theorem qR (W:World) (x1 x2 x3 x4:Int) (T:TypeId) (i:Nat) (x:Int) (hi:([x1,x2,x3,x4]:List Int)[i]?=some x) :
 (W.alloc (.cells #[.int .i64 x1,.int .i64 x2,.int .i64 x3,.int .i64 x4] T)).cell? ⟨W.heap.size,i,none⟩=some (.int .i64 x):=by
 refine(js W (.int .i64 x1) [.int .i64 x2,.int .i64 x3,.int .i64 x4] T _ (Kept.refl _)).at_ i _ ?_
 match i,hi with
 | 0,h=>simpa using h
 | 1,h=>simpa using h
 | 2,h=>simpa using h
 | 3,h=>simpa using h
 | j+4,h=>simp at h
theorem J4 (n:Lad) (v1 v2:Value) (w:World) (h:j7 w v1 v2 n) :
 Calls Tryz.prog 18 #[Ji n v1 v2] w (Say (.int .i64 (jF n)) w):=by
 obtain⟨W0,hW0⟩:=eX (w.alloc (.cells #[.string n.what,v1,v2,.int .i64 n.lo,.int .i64 n.hi] 26))
 have hk0:Kept w W0:=by rw[←hW0];exact jb _ _
 have HC:=lH (show ∀W,Kept W0 W→W.cell? ⟨w.heap.size,0,none⟩=some (.string n.what)∧W.cell? ⟨w.heap.size,1,none⟩=some (v1)∧W.cell? ⟨w.heap.size,2,none⟩=some (v2)∧W.cell? ⟨w.heap.size,3,none⟩=some (.int .i64 n.lo)∧W.cell? ⟨w.heap.size,4,none⟩=some (.int .i64 n.hi) from fun W k =>
  (js w (.string n.what) [v1,v2,.int .i64 n.lo,.int .i64 n.hi] 26 W (by rw[hW0];exact k)).at5)
 obtain⟨H1,H2,H3,H4,UL,HV⟩:=lH6 (fun W=>YX n.what W h.size) (fun W (k:Kept W0 W)=>Vec.jcy (h.unit.kept (hk0.trans k)) rfl) (fun W=>Xq n.lo n.hi W) (fun W (k:Kept W0 W)=>XQ (h.rungs.kept (hk0.trans k)) rfl) hk0 (show jF n=orL [Ja n.what,Vec.jf n.unit,jP n.lo n.hi,jC n.rungs] from rfl);obtain⟨x1,hx1⟩:=eX (Ja n.what)
 obtain⟨x2,hx2⟩:=eX (Vec.jf n.unit)
 obtain⟨x3,hx3⟩:=eX (jP n.lo n.hi)
 obtain⟨x4,hx4⟩:=eX (jC n.rungs)
 rw[hx1,hx2,hx3,hx4] at HV;rw[hx1] at H1;rw[hx2] at H2;rw[hx3] at H3;rw[hx4] at H4;clear hx1 hx2 hx3 hx4 h hk0;unfold Ji;go_enter Tryz.func18,Tryz.ntmps18;go_wp2_with fail
 try rw[hW0]
 clear hW0;have ORC:=lH (fun (W:World)=>qR W x1 x2 x3 x4 38)
 go_region_held3 (fun W=>W.cell? ⟨w.heap.size,0,none⟩=some (.string n.what)∧W.cell? ⟨w.heap.size,1,none⟩=some (v1)∧W.cell? ⟨w.heap.size,2,none⟩=some (v2)∧W.cell? ⟨w.heap.size,3,none⟩=some (.int .i64 n.lo)∧W.cell? ⟨w.heap.size,4,none⟩=some (.int .i64 n.hi))
  (first | exact HC.out _ (Kept.drew _) | exact HC.out _ K2.out | exact HC.out _ K4.out | exact HC.out _ (K4.out.trans (jb _ _)))
  (first | (go_at_call 36;refine(H1.out _).mono ?_;rintro e1 w1 ⟨rfl,rfl⟩)
         | (go_at_call 27;refine(H2.out _ (Kept.drew _)).mono ?_;rintro e2 w2 ⟨rfl,k2⟩;have K2:=lH ((Kept.drew _).trans k2);clear k2)
         | (go_at_call 37;refine(H3.out _).mono ?_;rintro e3 w3 ⟨rfl,rfl⟩)
         | (go_at_call 38;refine(H4.out _ K2.out).mono ?_;rintro e4 w4 ⟨rfl,k4⟩;have K4:=lH (K2.out.trans k4);clear k4)
         | (go_at_call 35;refine(jcb _ 4 [x1,x2,x3,x4] _ rfl (by decide) (ORC.out _)).mono ?_;rintro e9 w9 ⟨rfl,rfl⟩))
 go_wp2;go_ret;exact⟨ji HV.out.symm,UL.out.trans (K4.out.trans (jb _ _))⟩
theorem jb8 {v:Value} {n:Lad} {c:Int} {w:World} (h:JN w v n) (hc:jF n=c):Calls Tryz.prog 18 #[v] w (Say (.int .i64 c) w):=by
 subst hc;obtain⟨v1,v2,rfl,h⟩:=h;exact J4 n v1 v2 w h
end Go.Proofs.YtnfojaidmnccoaaGreatDoor
