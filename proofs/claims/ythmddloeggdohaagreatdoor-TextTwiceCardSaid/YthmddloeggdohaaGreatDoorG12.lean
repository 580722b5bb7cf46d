/- What serves all packages,and package by package the contracts of the functions that the law calls. -/
import Derived.Test.YthmddloeggdohaaGreatDoorG1
import Derived.Test.YthmddloeggdohaaGreatDoorG2
import Derived.Test.YthmddloeggdohaaGreatDoorG3
import Derived.Test.YthmddloeggdohaaGreatDoorG4
import Derived.Test.YthmddloeggdohaaGreatDoorG5
import Derived.Test.YthmddloeggdohaaGreatDoorG6
import Derived.Test.YthmddloeggdohaaGreatDoorG7
import Derived.Test.YthmddloeggdohaaGreatDoorG8
import Derived.Test.YthmddloeggdohaaGreatDoorG11
set_option linter.unusedVariables false
set_option maxRecDepth 100000
set_option maxHeartbeats 25600000
namespace Go.Proofs.YthmddloeggdohaaGreatDoor
open Go.RowKit Go.Shelf
attribute [local go_sem] Oper.semAt_some
theorem jjH (t:List UInt8) (w:World):Calls Tryz.prog 49 #[.string (bytes t)] w fun e w'=>e=.returned (.func (.func 79) #[] #[.pointer (some ⟨w.heap.size,0,none⟩)])∧w'=w.alloc (.cells #[.string (bytes t)] 9):=by
 have hmf:=hmfL (P:=Tryz.prog);go_enter Tryz.func49,Tryz.ntmps49;go_wp2;go_ret;exact⟨rfl,rfl⟩
theorem jlS (p:List UInt8) (w:World) (hp:p.length≤1000000):Calls Tryz.prog 51 #[.string (bytes p),.string ⟨#[10]⟩] w fun e w'=>e=.returned (.string (bytes (jaU p)))∧w'=w :=
 Tryz.strings_TrimSuffix (bytes p) ⟨#[10]⟩ w (by rw[ji];omega)
theorem jaT:∀{t:List UInt8} {p:List UInt8},p ∈ jO t→p.length≤t.length
 | c::t,p,h=>by
  rw[Zm] at h;split at h
  · rcases List.mem_cons.1 h with rfl | h
    · simp
    · have:=jaT h;simp;omega
  · cases hp:jO t with
    | nil=>rw[hp] at h;have:=List.mem_singleton.1 h;subst this;simp
    | cons q qs =>
     rw[hp] at h;rcases List.mem_cons.1 h with rfl | h
     · have:=jaT (t:=t) (p:=q) (by rw[hp];simp);simp;omega
     · have:=jaT (t:=t) (p:=p) (by rw[hp];simp[h]);simp;omega
theorem jgP:∀t:List UInt8,(jO t).length≤t.length
 | []=>Nat.le_refl _
 | c::t=>by
  have:=jgP t;rw[Zm];split
  · simp;omega
  · cases hp:jO t with
    | nil=>simp
    | cons q qs=>rw[hp] at this;simp at this ⊢;omega
theorem jlL {S:Nat→Prop} {a b:World} {D:Nat} {o:Obj} (h:jc S a b) (hD:a.heap.size≤D):jc S a (b.putObj D o) :=
 ⟨h.os,h.tape,h.output,by rw[World.putObj_size];exact h.size,fun i hi hn=>(World.putObj_heap_other (by omega)).trans (h.block i hi hn)⟩
theorem jlr (a1 a2 a3:Option Addr) (n1 n2 n3 p1 p2 p3:Nat) (w:World):Calls Tryz.prog 52 #[.agg #[.slice a1 n1 p1,.slice a2 n2 p2,.slice a3 n3 p3],.int .i64 0] w fun e w'=>e=.returned (.agg #[.slice a1 n1 p1,.slice a2 n2 p2,.slice a3 n3 p3])∧Kept w w':=by
 go_enter Tryz.func52,Tryz.ntmps52;go_wp2;go_returns
 exact⟨rfl,jk _ _ _⟩
theorem jjG (a1 a2 a3:Option Addr) (n1 n2 n3 p1 p2 p3:Nat) (x:Int) (w:World) (h:x≠0):Calls Tryz.prog 52 #[.agg #[.slice a1 n1 p1,.slice a2 n2 p2,.slice a3 n3 p3],.int .i64 x] w fun e w'=>e=.panicked [ju x]∧Kept w w':=by
 have h3:(x != 0)=true:=by simpa using h
 clear h;go_enter Tryz.func52,Tryz.ntmps52;go_wp2;exact⟨rfl,rfl,jk _ _ _⟩
theorem jkv {P:Program} {c:Code} {Q:Exit→Act→World→Prop} {JP:List PanicEntry→Act→World→Prop} {a:Act} {w:World} (hp:∀c a w,JP c a w→Q (.panic c) a w)
 (h:c.wp P (fun e a w=>match e with | .panic c=>JP c a w | e=>Q e a w) a w):c.wp P Q a w:=Code.wp_mono (fun e a w h=>by cases e<;>first | exact h | exact hp _ _ _ h) h
theorem ja2 {q:Nat} {vs:List Value} {T:TypeId} {W:World} (h:W.heap[q]?=some (.cells vs.toArray T (0,0))):jf q vs W :=
 ⟨fun i u hu=>by rw[Lib.cell_of_heap h];simpa using hu,fun i=>by
  unfold World.frozen?;rw[show W.heap[(⟨q,i,none⟩:Addr).block]?=some (.cells vs.toArray T (0,0)) from h];simp⟩
theorem jc.join {S S':Nat→Prop} {a b c:World} (h:jc S a b) (k:jc S' b c) (hs:∀i,i<a.heap.size→S' i→S i):jc S a c :=
 ⟨k.os.trans h.os,k.tape.trans h.tape,k.output.trans h.output,Nat.le_trans h.size k.size,fun i hi hn=>(k.block i (Nat.lt_of_lt_of_le hi h.size) fun e=>hn (hs i hi e)).trans (h.block i hi hn)⟩
theorem jc.put {S:Nat→Prop} (a:World) (D:Nat) (o:Obj) (hD:S D):jc S a (a.putObj D o):=⟨rfl,rfl,rfl,by rw[World.putObj_size];exact Nat.le_refl _,fun i _ hn=>World.putObj_heap_other (fun e=>hn (e▸hD))⟩
structure jdC (R:Nat) (w:World) (ms:List jD) (k:Nat) (W:World):Prop where
 off:jc (fun b=>b=R) w W
 ptr:W.heap[w.heap.size]?=some (.cells #[.pointer (some ⟨R,0,none⟩)] 114 (0,0))
 res:W.heap[w.heap.size+1]?=some (.cells #[.slice none 0 0,.slice none 0 0,.slice none 0 0] 26 (0,0))
 made:∃v1 v2 v3 s,jf R [v1,v2,v3,.int .i64 (k:Int)] W∧jW (fun b=>b<w.heap.size+5) (w.heap.size+5) W v1 v2 v3 s∧YY s∧jF ⟨[],[],[]⟩ 0 ms=jF s k (ms.drop k)
theorem jdC.step {R k:Nat} {w W W':World} {ms:List jD} (h:jdC R w ms k W) (hR:R<w.heap.size) (g:jc (fun b=>b=w.heap.size+2∨b=w.heap.size+3∨b=w.heap.size+4) W W'):jdC R w ms k W':=by
 obtain⟨v1,v2,v3,s,h1,h2,h3,h4⟩:=h.made;have hs:=h.off.size;have lt0:w.heap.size<W.heap.size:=(Array.getElem?_eq_some_iff.1 h.ptr).1;have lt1:w.heap.size+1<W.heap.size:=(Array.getElem?_eq_some_iff.1 h.res).1;refine⟨⟨g.os.trans h.off.os,g.tape.trans h.off.tape,g.output.trans h.off.output,Nat.le_trans hs g.size,fun i hi hn=>(g.block i (by omega) (by omega)).trans (h.off.block i hi hn)⟩,(g.block _ lt0 (by omega)).trans h.ptr,(g.block _ lt1 (by omega)).trans h.res,v1,v2,v3,s,h1.block (g.block R (by omega) (by omega)),h2.step (g.mono fun b e=>by omega),h3,h4⟩
theorem St.goff {b D:Nat} {W W':World} (h:St b D W W'):jc (fun q=>q=b∨q=D∨q=D+1) W W':=⟨h.os,h.tape,h.output,h.size,fun i hi hn=>h.block i (fun e=>hn (.inl e)) (fun e=>hn (.inr (.inl e))) (fun e=>hn (.inr (.inr e)))⟩
def qE (B:Nat) (w:World) (v:Value) (s:Clu):Prop:=∀W,jc (fun b=>b<B) w W→Zl W v s
theorem qE.here {B:Nat} {w:World} {v:Value} {s:Clu} (h:qE B w v s):Zl w v s:=h w (jc.of (Kept.refl _))
theorem qE.step {B B':Nat} {w w':World} {v:Value} {s:Clu} (h:qE B w v s) (g:jc (fun b=>b<B) w w') (hB:B'≤B):qE B' w' v s:=fun W k=>h W (g.trans (k.mono fun b e=>Nat.lt_of_lt_of_le e hB))
def jak (R:Nat) (ms:List jD) (w:World) (e:Ending) (w':World):Prop :=
 jc (fun b=>b=R) w w'∧((jF ⟨[],[],[]⟩ 0 ms).1≠0∨zB (jF ⟨[],[],[]⟩ 0 ms).2.2≠0→∃c v1 v2 v3,c=(if (jF ⟨[],[],[]⟩ 0 ms).1≠0 then (jF ⟨[],[],[]⟩ 0 ms).1 else zB (jF ⟨[],[],[]⟩ 0 ms).2.2)∧e=.panicked [ju c]∧jf R [v1,v2,v3,.int .i64 ((jF ⟨[],[],[]⟩ 0 ms).2.1:Int)] w') ∧
 ((jF ⟨[],[],[]⟩ 0 ms).1=0→zB (jF ⟨[],[],[]⟩ 0 ms).2.2=0→∃v,e=.returned v∧qE w.heap.size w' v (jF ⟨[],[],[]⟩ 0 ms).2.2)
theorem jgF (w0:World) (R:Nat) (t:List UInt8) (ms:List jD) (w:World) (hE:Jf w0) (k0:Kept w0 w) (hR0:w0.heap.size≤R) (ht:t.length≤900000) (hlen:ms.length=(jO t).length) (hm:∀(k:Nat) (p:List UInt8),(jO t)[k]?=some p→∃m:jD,ms[k]?=some m∧Jv (jaU p) m) (hR:jf R [.slice none 0 0,.slice none 0 0,.slice none 0 0,.int .i64 0] w) (hRw:R<w.heap.size) (hlow:∀n ∈ (jF ⟨[],[],[]⟩ 0 ms).2.2.nodes,zO n) :
 Calls Tryz.prog 22 #[.pointer (some ⟨R,0,none⟩),.string (bytes t)] w (jak R ms w):=by
 have HE:=lH hE;have HK0:=lH k0;have HM:=lH hm;have HR:=lH hR;have HLOW:=lH hlow;have HLEN:=lH hlen;have HLB:=lH (Nat.le_trans (jgP t) ht);clear hE k0 hm hR hlow hlen;refine ZC (n:=6) Tryz.func22 rfl ?_;simp only[Tryz.ntmps22,List.size_toArray,List.length_cons,List.length_nil,Nat.reduceAdd,Nat.reduceSub,Array.replicate_succ,Array.replicate_zero,List.push_toArray,List.append_toArray,List.nil_append,List.cons_append];refine jQ (j6 (n:=6) ?_);gi_wp2
 obtain⟨V0,hV0⟩:∃V,(w.alloc (.cells #[.pointer (some ⟨R,0,none⟩)] 114)).alloc (.cells #[.slice none 0 0,.slice none 0 0,.slice none 0 0] 26)=V:=⟨_,rfl⟩
 have HV0:=lH hV0;have hkv:Kept w V0:=by rw[←hV0];exact jk _ _ _
 have hsv:V0.heap.size=w.heap.size+2:=by rw[←hV0];simp
 have hpv:V0.heap[w.heap.size]?=some (.cells #[.pointer (some ⟨R,0,none⟩)] 114 (0,0)):=by rw[←hV0];exact(Below.heap_alloc _ _ _ (by simp)).trans (World.alloc_heap_new w _)
 have hrv:V0.heap[w.heap.size+1]?=some (.cells #[.slice none 0 0,.slice none 0 0,.slice none 0 0] 26 (0,0)):=by
  have:=(w.alloc (.cells #[.pointer (some ⟨R,0,none⟩)] 114)).alloc_heap_new (.cells #[.slice none 0 0,.slice none 0 0,.slice none 0 0] 26);rw[World.size_alloc,hV0] at this;exact this
 try rw[hV0]
 clear hV0;refine jQ (jQ (j6 (n:=6) ?_));gi_wp2_with (refine⟨trivial,?_⟩;gi_at_call 49;refine(callsIn_wide.2 (jjH t _)).mono ?_;rintro e wl ⟨rfl,rfl⟩)
 obtain⟨V1,hV1⟩:∃V,V0.alloc (.cells #[.string (bytes t)] 9)=V:=⟨_,rfl⟩
 have hk1:Kept V0 V1:=by rw[←hV1];exact ja _ _
 have hs1:V1.heap.size=w.heap.size+3:=by rw[←hV1,World.size_alloc,hsv]
 have hb1:V1.cell? ⟨w.heap.size+2,0,none⟩=some (.string (bytes t))∧V1.frozen? ⟨w.heap.size+2,0,none⟩=false:=by
  rw[←hV1,←hsv];exact jau V0 _ _
 try rw[hV1]
 try rw[hsv]
 clear hV1;refine Yg ?_;have HI0:=lH (show jdC R w ms 0 V1 from⟨jc.of (hkv.trans hk1),(hk1.block _ (Array.getElem?_eq_some_iff.1 hpv).1).trans hpv,(hk1.block _ (Array.getElem?_eq_some_iff.1 hrv).1).trans hrv,_,_,_,_,HR.out.kept (hkv.trans hk1),jW.none _ _ _,jgt,rfl⟩);have HS1:=lH hs1;have HB1:=lH hb1;clear hkv hk1 hpv hrv hs1 hb1 hsv;refine jjv (n:=6) Tryz.func22 (by decide) (w.heap.size+2) rfl t (by omega) (by rw[HS1.out];omega) HB1.out.1 HB1.out.2
  (fun k W=>jdC R w ms k W)
  (fun c W=>jc (fun b=>b=R) w W∧∃v1 v2 v3,(jF ⟨[],[],[]⟩ 0 ms).1≠0∧c=[ju (jF ⟨[],[],[]⟩ 0 ms).1]∧jf R [v1,v2,v3,.int .i64 ((jF ⟨[],[],[]⟩ 0 ms).2.1:Int)] W)
  (fun k W1 W2 h st=>h.step hRw (by have g:=st.goff;rw[HS1.out] at g;exact g)) HI0.out
  (fun x=>{ tmps:=#[.pointer (some ⟨R,0,none⟩),.string (bytes t),.pointer (some ⟨w.heap.size,0,none⟩),undef,.pointer (some ⟨w.heap.size+1,0,none⟩),.string x,.string (bytes t),.func (.func 79) #[] #[.pointer (some ⟨w.heap.size+2,0,none⟩)],.string x,undef,undef,undef,undef,undef,undef,undef,undef,undef,undef,undef,undef,undef,undef,undef,undef,undef,undef,undef,undef,undef],defers:=[] }) ?assign ?body ?done ?panic
 case assign =>
  intro l x W K hK;gi_wp2
  exact hK
 case panic =>
  rintro c W ⟨hg,v1,v2,v3,hc,rfl,hr⟩ hk;refine⟨by simp,.inl ⟨_,_,rfl,run_takeDeferred hk,?_⟩⟩;exact⟨jlL hg (by rw[HS1.out];omega),fun _=>⟨_,v1,v2,v3,(if_pos hc).symm,rfl,hr.block (World.putObj_heap_other (by rw[HS1.out];omega))⟩,fun g=>absurd g hc⟩
 case body =>
  intro l k p W hp hi hlt;obtain⟨v1,v2,v3,s,h1,h2,h3,h4⟩:=hi.made;obtain⟨m,hmk,hmean⟩:=HM.out k p hp;have HI:=lH hi;have HP:=lH hp;have H1:=lH h1;have H2:=lH h2;have H3:=lH h3;have H4:=lH h4;have HMK:=lH hmk;have HME:=lH hmean;have HLT:=lH hlt;have hpl:p.length≤1000000:=Nat.le_trans (jaT (List.mem_of_getElem? hp)) (by omega);have KW:=lH (show Kept w0 W from jc.below HK0.out hi.off (fun q e=>by rw[e];exact hR0));have hsz:w.heap.size+5≤W.heap.size:=by rw[HS1.out] at hlt;omega
  have HTR:=lH (fun W9=>jlS p W9 hpl);have HTK:=lH (fun (W9:World) (kk:Kept W W9)=>jl8 R (w.heap.size+5) (k:Int) (jaU p) m v1 v2 v3 s W9 (HE.out.kept (KW.out.trans kk)) HME.out (H1.out.kept kk) (H2.out.kept kk) (by omega) (Nat.le_trans hsz kk.size) H3.out);clear hp hi h1 h2 h3 h4 hmk hmean hlt hpl;gi_upto_region 3 with fail
  refine wpIn_region_any (by kernel_rfl) ?_;try simp only[List.size_toArray,List.length_cons,List.length_nil,Nat.reduceAdd]
  obtain⟨wd,hwd⟩:∃V,({ W with drawn:=W.drawn+1 }:World)=V:=⟨_,rfl⟩
  have KD:=lH (show Kept W wd by rw[←hwd];exact Kept.drew W);try rw[hwd]
  clear hwd;refine wpAnyIn_ready (rs:=[0,1]) (by kernel_rfl) (by simp) (AllReadyIn.cons (by rw[List.getElem?_toArray];exact rfl) (fun K9 hK9=>?_) (AllReadyIn.cons (by rw[List.getElem?_toArray];exact rfl) (fun K9 hK9=>?_) AllReadyIn.nil))
  · skip;have c9:wd.cell? ⟨w.heap.size,0,none⟩=some (.pointer (some ⟨R,0,none⟩)):=cell_later KD.out (by rw[Lib.cell_of_heap HI.out.ptr];rfl);go_simp;refine hK9 _ _ ?_;clear hK9 K9 c9;try simp only[nP]
    refine wpAnyIn_ready (rs:=[1]) (by kernel_rfl) (by simp) (AllReadyIn.cons (by rw[List.getElem?_toArray];exact rfl) (fun K9 hK9=>?_) AllReadyIn.nil);go_simp;refine hK9 _ _ ?_;clear hK9 K9;try simp only[nP]
    refine wpAnyIn_ready (rs:=[2]) (by kernel_rfl) (by simp) (AllReadyIn.cons (by rw[List.getElem?_toArray];exact rfl) (fun K9 hK9=>?_) AllReadyIn.nil);go_simp;refine⟨trivial,?_⟩;gi_at_call 51
    refine(CallsIn.inRound l (callsIn_wide.2 (HTR.out wd))).mono ?_;rintro e wd ⟨rfl,rfl⟩;refine hK9 _ _ ?_;clear hK9 K9;try simp only[nP]
    refine wpAnyIn_ready (rs:=[3]) (by kernel_rfl) (by simp) (AllReadyIn.cons (by rw[List.getElem?_toArray];exact rfl) (fun K9 hK9=>?_) AllReadyIn.nil);go_simp;refine⟨trivial,?_⟩;gi_at_call 50
    refine(CallsIn.inRound l (callsIn_wide.2 (HTK.out _ KD.out))).mono ?_;rintro e W3 ⟨hg,u1,u2,u3,hc,hown,⟨h0,x9,rfl⟩ | ⟨h0,rfl⟩⟩
    · have HC:=lH hc;have HW3:=lH hown;have H0:=lH h0;have HG:=lH ((jc.of KD.out).trans hg);clear hc hown h0 hg;refine hK9 _ _ ?_;clear hK9 K9;try simp only[nP]
      refine wpAnyIn_done (by kernel_rfl) ?_ _;have lt0:w.heap.size<W.heap.size:=(Array.getElem?_eq_some_iff.1 HI.out.ptr).1;have lt1:w.heap.size+1<W.heap.size:=(Array.getElem?_eq_some_iff.1 HI.out.res).1;have hp3:W3.heap[w.heap.size]?=some (.cells #[.pointer (some ⟨R,0,none⟩)] 114 (0,0)):=(HG.out.block _ lt0 (by omega)).trans HI.out.ptr;have HP3:=lH hp3;have c9:W3.cell? ⟨w.heap.size,0,none⟩=some (.pointer (some ⟨R,0,none⟩)):=by rw[Lib.cell_of_heap hp3];rfl
      have q3:=HC.out.at_ 3 _ rfl;have f3:=HC.out.free 3;have hkw:IntKind.i64.wrap ((k:Int)+1)=(k:Int)+1:=IntWalk.i64_in _ (by have h9:=(List.getElem?_eq_some_iff.1 HMK.out).1;have h8:=HLEN.out;have h7:=HLB.out;omega);have hcast:((k+1:Nat):Int)=(k:Int)+1:=by push_cast;rfl
      clear hp3;gi_wp2
      have hne:∀b,b≠R→(W3.setCell ⟨R,3,none⟩ (.int .i64 ((k:Int)+1))).heap[b]?=W3.heap[b]?:=fun b hb=>Below.heap_setCell W3 ⟨R,3,none⟩ _ b hb;refine⟨fun b hb=>?_,?_⟩
      · have hs1:=HS1.out;have hlt:=HLT.out;exact(hne b (by omega)).trans (HG.out.block b (by omega) (by omega))
      · have g3:=(jc.cell (S:=fun b=>b=R) (a:=W3) R 3 (.int .i64 ((k:Int)+1)) rfl)
        have hoff:=HI.out.off;have hs3:=HG.out.size;have hsw:=hoff.size;refine⟨⟨g3.os.trans (HG.out.os.trans hoff.os),g3.tape.trans (HG.out.tape.trans hoff.tape),g3.output.trans (HG.out.output.trans hoff.output),Nat.le_trans hsw (Nat.le_trans hs3 g3.size),fun i hi hn=>(hne i hn).trans ((HG.out.block i (by omega) (by omega)).trans (hoff.block i hi hn))⟩,(hne _ (by omega)).trans HP3.out,(hne _ (by omega)).trans ((HG.out.block _ lt1 (by omega)).trans HI.out.res),u1,u2,u3,_,?_,HW3.out.step (g3.mono fun b e=>by omega),XI H3.out H0.out,?_⟩
        · have:=HC.out.set (j:=3) (u:=.int .i64 ((k:Int)+1)) (by simp);rw[hcast];exact this
        · have hd:=List.drop_eq_getElem_cons (List.getElem?_eq_some_iff.1 HMK.out).1;rw[(List.getElem?_eq_some_iff.1 HMK.out).2] at hd;rw[H4.out,hd,Yo H0.out]
    · have hrun:jF ⟨[],[],[]⟩ 0 ms=((jj s m).1,k,s):=by
       have hd:=List.drop_eq_getElem_cons (List.getElem?_eq_some_iff.1 HMK.out).1;rw[(List.getElem?_eq_some_iff.1 HMK.out).2] at hd;rw[H4.out,hd,XC h0]
      refine⟨rfl,fun b hb=>?_,?_,u1,u2,u3,by rw[hrun];exact h0,by rw[hrun],by rw[hrun];exact hc⟩
      · have hs1:=HS1.out;have hlt:=HLT.out;exact(hg.block b (Nat.lt_of_lt_of_le (by omega) KD.out.size) (by omega)).trans (KD.out.block b (by omega))
      · have hoff:=HI.out.off;have hsw:=hoff.size;have gg:=(jc.of KD.out).trans hg;exact⟨gg.os.trans hoff.os,gg.tape.trans hoff.tape,gg.output.trans hoff.output,Nat.le_trans hsw gg.size,fun i hi hn=>(gg.block i (by omega) (by omega)).trans (hoff.block i hi hn)⟩
  · skip;go_simp;refine hK9 _ _ ?_;clear hK9 K9;try simp only[nP]
    refine wpAnyIn_ready (rs:=[0,2]) (by kernel_rfl) (by simp) (AllReadyIn.cons (by rw[List.getElem?_toArray];exact rfl) (fun K9 hK9=>?_) (AllReadyIn.cons (by rw[List.getElem?_toArray];exact rfl) (fun K9 hK9=>?_) AllReadyIn.nil))
    · skip;have c9:wd.cell? ⟨w.heap.size,0,none⟩=some (.pointer (some ⟨R,0,none⟩)):=cell_later KD.out (by rw[Lib.cell_of_heap HI.out.ptr];rfl);go_simp;refine hK9 _ _ ?_;clear hK9 K9 c9;try simp only[nP]
      refine wpAnyIn_ready (rs:=[2]) (by kernel_rfl) (by simp) (AllReadyIn.cons (by rw[List.getElem?_toArray];exact rfl) (fun K9 hK9=>?_) AllReadyIn.nil);go_simp;refine⟨trivial,?_⟩;gi_at_call 51
      refine(CallsIn.inRound l (callsIn_wide.2 (HTR.out wd))).mono ?_;rintro e wd ⟨rfl,rfl⟩;refine hK9 _ _ ?_;clear hK9 K9;try simp only[nP]
      refine wpAnyIn_ready (rs:=[3]) (by kernel_rfl) (by simp) (AllReadyIn.cons (by rw[List.getElem?_toArray];exact rfl) (fun K9 hK9=>?_) AllReadyIn.nil);go_simp;refine⟨trivial,?_⟩;gi_at_call 50
      refine(CallsIn.inRound l (callsIn_wide.2 (HTK.out _ KD.out))).mono ?_;rintro e W3 ⟨hg,u1,u2,u3,hc,hown,⟨h0,x9,rfl⟩ | ⟨h0,rfl⟩⟩
      · have HC:=lH hc;have HW3:=lH hown;have H0:=lH h0;have HG:=lH ((jc.of KD.out).trans hg);clear hc hown h0 hg;refine hK9 _ _ ?_;clear hK9 K9;try simp only[nP]
        refine wpAnyIn_done (by kernel_rfl) ?_ _;have lt0:w.heap.size<W.heap.size:=(Array.getElem?_eq_some_iff.1 HI.out.ptr).1;have lt1:w.heap.size+1<W.heap.size:=(Array.getElem?_eq_some_iff.1 HI.out.res).1;have hp3:W3.heap[w.heap.size]?=some (.cells #[.pointer (some ⟨R,0,none⟩)] 114 (0,0)):=(HG.out.block _ lt0 (by omega)).trans HI.out.ptr;have HP3:=lH hp3;have c9:W3.cell? ⟨w.heap.size,0,none⟩=some (.pointer (some ⟨R,0,none⟩)):=by rw[Lib.cell_of_heap hp3];rfl
        have q3:=HC.out.at_ 3 _ rfl;have f3:=HC.out.free 3;have hkw:IntKind.i64.wrap ((k:Int)+1)=(k:Int)+1:=IntWalk.i64_in _ (by have h9:=(List.getElem?_eq_some_iff.1 HMK.out).1;have h8:=HLEN.out;have h7:=HLB.out;omega);have hcast:((k+1:Nat):Int)=(k:Int)+1:=by push_cast;rfl
        clear hp3;gi_wp2
        have hne:∀b,b≠R→(W3.setCell ⟨R,3,none⟩ (.int .i64 ((k:Int)+1))).heap[b]?=W3.heap[b]?:=fun b hb=>Below.heap_setCell W3 ⟨R,3,none⟩ _ b hb;refine⟨fun b hb=>?_,?_⟩
        · have hs1:=HS1.out;have hlt:=HLT.out;exact(hne b (by omega)).trans (HG.out.block b (by omega) (by omega))
        · have g3:=(jc.cell (S:=fun b=>b=R) (a:=W3) R 3 (.int .i64 ((k:Int)+1)) rfl)
          have hoff:=HI.out.off;have hs3:=HG.out.size;have hsw:=hoff.size;refine⟨⟨g3.os.trans (HG.out.os.trans hoff.os),g3.tape.trans (HG.out.tape.trans hoff.tape),g3.output.trans (HG.out.output.trans hoff.output),Nat.le_trans hsw (Nat.le_trans hs3 g3.size),fun i hi hn=>(hne i hn).trans ((HG.out.block i (by omega) (by omega)).trans (hoff.block i hi hn))⟩,(hne _ (by omega)).trans HP3.out,(hne _ (by omega)).trans ((HG.out.block _ lt1 (by omega)).trans HI.out.res),u1,u2,u3,_,?_,HW3.out.step (g3.mono fun b e=>by omega),XI H3.out H0.out,?_⟩
          · have:=HC.out.set (j:=3) (u:=.int .i64 ((k:Int)+1)) (by simp);rw[hcast];exact this
          · have hd:=List.drop_eq_getElem_cons (List.getElem?_eq_some_iff.1 HMK.out).1;rw[(List.getElem?_eq_some_iff.1 HMK.out).2] at hd;rw[H4.out,hd,Yo H0.out]
      · have hrun:jF ⟨[],[],[]⟩ 0 ms=((jj s m).1,k,s):=by
         have hd:=List.drop_eq_getElem_cons (List.getElem?_eq_some_iff.1 HMK.out).1;rw[(List.getElem?_eq_some_iff.1 HMK.out).2] at hd;rw[H4.out,hd,XC h0]
        refine⟨rfl,fun b hb=>?_,?_,u1,u2,u3,by rw[hrun];exact h0,by rw[hrun],by rw[hrun];exact hc⟩
        · have hs1:=HS1.out;have hlt:=HLT.out;exact(hg.block b (Nat.lt_of_lt_of_le (by omega) KD.out.size) (by omega)).trans (KD.out.block b (by omega))
        · have hoff:=HI.out.off;have hsw:=hoff.size;have gg:=(jc.of KD.out).trans hg;exact⟨gg.os.trans hoff.os,gg.tape.trans hoff.tape,gg.output.trans hoff.output,Nat.le_trans hsw gg.size,fun i hi hn=>(gg.block i (by omega) (by omega)).trans (hoff.block i hi hn)⟩
    · skip;go_simp;refine⟨trivial,?_⟩;gi_at_call 51
      refine(CallsIn.inRound l (callsIn_wide.2 (HTR.out wd))).mono ?_;rintro e wd ⟨rfl,rfl⟩;refine hK9 _ _ ?_;clear hK9 K9;try simp only[nP]
      refine wpAnyIn_ready (rs:=[0]) (by kernel_rfl) (by simp) (AllReadyIn.cons (by rw[List.getElem?_toArray];exact rfl) (fun K9 hK9=>?_) AllReadyIn.nil);have c9:wd.cell? ⟨w.heap.size,0,none⟩=some (.pointer (some ⟨R,0,none⟩)):=cell_later KD.out (by rw[Lib.cell_of_heap HI.out.ptr];rfl);go_simp;refine hK9 _ _ ?_;clear hK9 K9 c9;try simp only[nP]
      refine wpAnyIn_ready (rs:=[3]) (by kernel_rfl) (by simp) (AllReadyIn.cons (by rw[List.getElem?_toArray];exact rfl) (fun K9 hK9=>?_) AllReadyIn.nil);go_simp;refine⟨trivial,?_⟩;gi_at_call 50
      refine(CallsIn.inRound l (callsIn_wide.2 (HTK.out _ KD.out))).mono ?_;rintro e W3 ⟨hg,u1,u2,u3,hc,hown,⟨h0,x9,rfl⟩ | ⟨h0,rfl⟩⟩
      · have HC:=lH hc;have HW3:=lH hown;have H0:=lH h0;have HG:=lH ((jc.of KD.out).trans hg);clear hc hown h0 hg;refine hK9 _ _ ?_;clear hK9 K9;try simp only[nP]
        refine wpAnyIn_done (by kernel_rfl) ?_ _;have lt0:w.heap.size<W.heap.size:=(Array.getElem?_eq_some_iff.1 HI.out.ptr).1;have lt1:w.heap.size+1<W.heap.size:=(Array.getElem?_eq_some_iff.1 HI.out.res).1;have hp3:W3.heap[w.heap.size]?=some (.cells #[.pointer (some ⟨R,0,none⟩)] 114 (0,0)):=(HG.out.block _ lt0 (by omega)).trans HI.out.ptr;have HP3:=lH hp3;have c9:W3.cell? ⟨w.heap.size,0,none⟩=some (.pointer (some ⟨R,0,none⟩)):=by rw[Lib.cell_of_heap hp3];rfl
        have q3:=HC.out.at_ 3 _ rfl;have f3:=HC.out.free 3;have hkw:IntKind.i64.wrap ((k:Int)+1)=(k:Int)+1:=IntWalk.i64_in _ (by have h9:=(List.getElem?_eq_some_iff.1 HMK.out).1;have h8:=HLEN.out;have h7:=HLB.out;omega);have hcast:((k+1:Nat):Int)=(k:Int)+1:=by push_cast;rfl
        clear hp3;gi_wp2
        have hne:∀b,b≠R→(W3.setCell ⟨R,3,none⟩ (.int .i64 ((k:Int)+1))).heap[b]?=W3.heap[b]?:=fun b hb=>Below.heap_setCell W3 ⟨R,3,none⟩ _ b hb;refine⟨fun b hb=>?_,?_⟩
        · have hs1:=HS1.out;have hlt:=HLT.out;exact(hne b (by omega)).trans (HG.out.block b (by omega) (by omega))
        · have g3:=(jc.cell (S:=fun b=>b=R) (a:=W3) R 3 (.int .i64 ((k:Int)+1)) rfl)
          have hoff:=HI.out.off;have hs3:=HG.out.size;have hsw:=hoff.size;refine⟨⟨g3.os.trans (HG.out.os.trans hoff.os),g3.tape.trans (HG.out.tape.trans hoff.tape),g3.output.trans (HG.out.output.trans hoff.output),Nat.le_trans hsw (Nat.le_trans hs3 g3.size),fun i hi hn=>(hne i hn).trans ((HG.out.block i (by omega) (by omega)).trans (hoff.block i hi hn))⟩,(hne _ (by omega)).trans HP3.out,(hne _ (by omega)).trans ((HG.out.block _ lt1 (by omega)).trans HI.out.res),u1,u2,u3,_,?_,HW3.out.step (g3.mono fun b e=>by omega),XI H3.out H0.out,?_⟩
          · have:=HC.out.set (j:=3) (u:=.int .i64 ((k:Int)+1)) (by simp);rw[hcast];exact this
          · have hd:=List.drop_eq_getElem_cons (List.getElem?_eq_some_iff.1 HMK.out).1;rw[(List.getElem?_eq_some_iff.1 HMK.out).2] at hd;rw[H4.out,hd,Yo H0.out]
      · have hrun:jF ⟨[],[],[]⟩ 0 ms=((jj s m).1,k,s):=by
         have hd:=List.drop_eq_getElem_cons (List.getElem?_eq_some_iff.1 HMK.out).1;rw[(List.getElem?_eq_some_iff.1 HMK.out).2] at hd;rw[H4.out,hd,XC h0]
        refine⟨rfl,fun b hb=>?_,?_,u1,u2,u3,by rw[hrun];exact h0,by rw[hrun],by rw[hrun];exact hc⟩
        · have hs1:=HS1.out;have hlt:=HLT.out;exact(hg.block b (Nat.lt_of_lt_of_le (by omega) KD.out.size) (by omega)).trans (KD.out.block b (by omega))
        · have hoff:=HI.out.off;have hsw:=hoff.size;have gg:=(jc.of KD.out).trans hg;exact⟨gg.os.trans hoff.os,gg.tape.trans hoff.tape,gg.output.trans hoff.output,Nat.le_trans hsw gg.size,fun i hi hn=>(gg.block i (by omega) (by omega)).trans (hoff.block i hi hn)⟩
 case done =>
  intro W hi hk;obtain⟨v1,v2,v3,s,h1,h2,h3,h4⟩:=hi.made;obtain⟨u1,u2,u3,hu,⟨a1,p1,e1,_,_,_⟩,⟨a2,p2,e2,_,_,_⟩,⟨a3,p3,e3,_,_,_⟩⟩:=h2.toR;obtain⟨rfl,rfl,rfl⟩:v1=u1∧v2=u2∧v3=u3:=by simpa using hu
  subst e1 e2 e3;clear hu;have hrun:jF ⟨[],[],[]⟩ 0 ms=(0,(jO t).length,s):=by rw[h4,List.drop_eq_nil_of_le (by rw[HLEN.out];exact Nat.le_refl _)];rfl
  have HRUN:=lH hrun;have HI:=lH hi;have H1:=lH h1;have H2:=lH h2;have HKK:=lH hk;have HLW:=lH (show ∀n ∈ s.nodes,zO n by have:=HLOW.out;rw[hrun] at this;exact this);have hsz:=hi.off.size;have lt1:w.heap.size+1<W.heap.size:=(Array.getElem?_eq_some_iff.1 hi.res).1;have lt2:V1.heap.size<W.heap.size:=(Array.getElem?_eq_some_iff.1 hk).1;have hs1:=HS1.out;obtain⟨c,hc⟩:∃c,zB s=c:=⟨_,rfl⟩
  have HC:=lH hc;have HCK:=lH (fun (W9:World) (g:jc (fun b=>b=w.heap.size+1) W W9)=>jmv (H2.out.step (g.mono fun b e=>by omega)).toR HLW.out HC.out);have f0:W.cell? ⟨w.heap.size,0,none⟩=some (.pointer (some ⟨R,0,none⟩)):=by rw[Lib.cell_of_heap hi.ptr];rfl
  have f1:=h1.at_ 0 _ rfl;have f2:=h1.at_ 1 _ rfl;have f3:=h1.at_ 2 _ rfl;have KD:=lH (Kept.drew W);have HS0:=lH (show (fun W9=>W9.cell? ⟨w.heap.size,0,none⟩=some (.pointer (some ⟨R,0,none⟩))∧W9.cell? ⟨R,0,none⟩=some (.slice a1 s.nodes.length p1)∧W9.cell? ⟨R,1,none⟩=some (.slice a2 s.pods.length p2)∧W9.cell? ⟨R,2,none⟩=some (.slice a3 s.buds.length p3)∧jc (fun b=>b=w.heap.size+1) W W9) W.drew from⟨cell_later KD.out f0,cell_later KD.out f1,cell_later KD.out f2,cell_later KD.out f3,jc.of KD.out⟩);clear hrun hi h1 h2 h3 h4 hk f0 f1 f2 f3;refine j6 (n:=6) (wpIn_wide.2 ?_);go_wp2;refine jkv (JP:=fun pc a W9=>c≠0∧pc=[ju c]∧jc (fun b=>b=w.heap.size+1) W W9∧a.defers=[{ target:=.collected (w.heap.size+3),args:=#[] }]) ?pan ?_
  case pan =>
   rintro pc a9 W9 ⟨hz,rfl,hg,hd⟩;obtain⟨tm,df⟩:=a9;dsimp only at hd;subst hd;have e1:W9.heap[w.heap.size+3]?=some (.deferred (some [])):=(hg.block _ (by omega) (by omega)).trans (hs1▸HKK.out);refine⟨by simp,.inl ⟨_,_,rfl,run_takeDeferred e1,?_⟩⟩;have hg9:=(hg.mono (S':=fun b=>w.heap.size+1≤b) fun b e=>by omega).trans (jc.put (S:=fun b=>w.heap.size+1≤b) W9 (w.heap.size+3) (.deferred none) (by omega));unfold jak;rw[HRUN.out];dsimp only;rw[HC.out];refine⟨HI.out.off.join hg9 (fun i hi h9=>by omega),fun _=>⟨c,_,_,_,(if_neg (by simp)).symm,rfl,H1.out.block (hg9.block _ (by omega) (by omega))⟩,fun _ g=>absurd g hz⟩
  refine wp_region_held_drew (S:=(fun W9=>W9.cell? ⟨w.heap.size,0,none⟩=some (.pointer (some ⟨R,0,none⟩))∧W9.cell? ⟨R,0,none⟩=some (.slice a1 s.nodes.length p1)∧W9.cell? ⟨R,1,none⟩=some (.slice a2 s.pods.length p2)∧W9.cell? ⟨R,2,none⟩=some (.slice a3 s.buds.length p3)∧jc (fun b=>b=w.heap.size+1) W W9)) (by kernel_rfl) HS0.out (fun hHeld=>?_);clear HS0;refine tkI 0 ?_;refine tkI 1 ?_;refine tkI 2 ?_;refine tkI 3 ?_;refine tkI 4 ?_;refine tkI 5 ?_;refine tkI 6 ?_;refine tkI 7 ?_;try simp only[nP]
  refine rd1 8 fun K9 hK9=>?_;go_simp;refine(HCK.out _ hHeld.2.2.2.2).mono ?_;rintro e W1 ⟨rfl,k1⟩;have HT:=lH (show (fun W9=>W9.cell? ⟨w.heap.size,0,none⟩=some (.pointer (some ⟨R,0,none⟩))∧W9.cell? ⟨R,0,none⟩=some (.slice a1 s.nodes.length p1)∧W9.cell? ⟨R,1,none⟩=some (.slice a2 s.pods.length p2)∧W9.cell? ⟨R,2,none⟩=some (.slice a3 s.buds.length p3)∧jc (fun b=>b=w.heap.size+1) W W9) W1 from⟨cell_later k1 hHeld.1,cell_later k1 hHeld.2.1,cell_later k1 hHeld.2.2.1,cell_later k1 hHeld.2.2.2.1,hHeld.2.2.2.2.trans (jc.of k1)⟩);have J1:=lH (show Kept W W1 from KD.out.trans k1);refine hK9.out _ _ HT.out (fun hHeld2=>?_);clear hK9 K9 k1 hHeld;try simp only[nP]
  refine rd1 9 fun K9 hK9=>?_;by_cases hz:c=0
  · subst hz;go_simp;refine(jlr _ _ _ _ _ _ _ _ _ _).mono ?_;rintro e W2 ⟨rfl,k2⟩;have HT2:=lH (show (fun W9=>W9.cell? ⟨w.heap.size,0,none⟩=some (.pointer (some ⟨R,0,none⟩))∧W9.cell? ⟨R,0,none⟩=some (.slice a1 s.nodes.length p1)∧W9.cell? ⟨R,1,none⟩=some (.slice a2 s.pods.length p2)∧W9.cell? ⟨R,2,none⟩=some (.slice a3 s.buds.length p3)∧jc (fun b=>b=w.heap.size+1) W W9) W2 from⟨cell_later k2 hHeld2.1,cell_later k2 hHeld2.2.1,cell_later k2 hHeld2.2.2.1,cell_later k2 hHeld2.2.2.2.1,hHeld2.2.2.2.2.trans (jc.of k2)⟩);have J2:=lH (show Kept W W2 from J1.out.trans k2);have HRB:=lH (show jf (w.heap.size+1) [.slice none 0 0,.slice none 0 0,.slice none 0 0] W2 from ja2 ((J2.out.block _ lt1).trans HI.out.res));have z0:=HRB.out.at_ 0 _ rfl;have z1:=HRB.out.at_ 1 _ rfl;have z2:=HRB.out.at_ 2 _ rfl;have g0:=HRB.out.free 0;have g1:=HRB.out.free 1;have g2:=HRB.out.free 2;refine hK9.out _ _ HT2.out (fun hHeld3=>?_);clear hK9 K9 hHeld2 k2;try simp only[nP]
    refine rd1 10 fun K9 hK9=>?_;go_simp;have P:=lH (J7 (vs:=[.slice a1 s.nodes.length p1,.slice a2 s.pods.length p2,.slice a3 s.buds.length p3]) HRB.out rfl);have GE:=lH (jc.cells (S:=fun b=>b=w.heap.size+1) (w.heap.size+1) rfl [.slice a1 s.nodes.length p1,.slice a2 s.pods.length p2,.slice a3 s.buds.length p3] 0 W2);obtain⟨WE,hWE⟩:∃W9,W2.setCells (w.heap.size+1) 0 [.slice a1 s.nodes.length p1,.slice a2 s.pods.length p2,.slice a3 s.buds.length p3]=W9:=⟨_,rfl⟩
    have hWE2:((W2.setCell ⟨w.heap.size+1,0,none⟩ (.slice a1 s.nodes.length p1)).setCell ⟨w.heap.size+1,1,none⟩ (.slice a2 s.pods.length p2)).setCell ⟨w.heap.size+1,2,none⟩ (.slice a3 s.buds.length p3)=WE:=hWE;rw[hWE] at P GE;rw[hWE2];clear hWE hWE2;obtain⟨PC,hsz9,hbl,hkp⟩:=P.out;have ce:∀q j,q≠w.heap.size+1→WE.cell? ⟨q,j,none⟩=W2.cell? ⟨q,j,none⟩:=fun q j hq=>World.cell?_of_block (a:=⟨q,j,none⟩) (hbl q hq);refine hK9.out _ _ ⟨(ce _ _ (by omega)).trans HT2.out.1,(ce _ _ (by omega)).trans HT2.out.2.1,(ce _ _ (by omega)).trans HT2.out.2.2.1,(ce _ _ (by omega)).trans HT2.out.2.2.2.1,HT2.out.2.2.2.2.trans GE.out⟩ (fun hHeldE=>?_);clear hK9 K9 hHeldE hHeld3 z0 z1 z2 g0 g1 g2;try simp only[nP]
    refine wpAnyH_done (by kernel_rfl) ?_ _;go_wp2;have e1:WE.heap[w.heap.size+3]?=some (.deferred (some [])):=(hbl _ (by omega)).trans ((J2.out.block _ (by omega)).trans (hs1▸HKK.out));have PC':=PC.block (W':=WE.putObj (w.heap.size+3) (.deferred none)) (World.putObj_heap_other (by omega));have gF:jc (fun b=>b<w.heap.size+5∧w.heap.size≤b) W (WE.putObj (w.heap.size+3) (.deferred none)):=((jc.of J2.out).trans (GE.out.mono fun b e=>by omega)).trans (jc.put _ _ _ (by omega));refine⟨by simp,.inl ⟨_,_,rfl,run_takeDeferred e1,?_⟩⟩;refine⟨_,by simp[results,Tryz.results22,go_sem,PC'.at_ 0 _ rfl,PC'.at_ 1 _ rfl,PC'.at_ 2 _ rfl];try rfl,?_⟩;unfold jak;rw[HRUN.out];dsimp only;rw[HC.out];exact⟨HI.out.off.join gF (fun i hi h9=>by omega),fun h=>by rcases h with h | h<;>exact absurd rfl h,fun _ _=>⟨_,rfl,fun W9 g9=>((H2.out.step (gF.mono fun b e=>e.1)).step (g9.mono fun b e=>by omega)).toR⟩⟩
  · have hz9:=lH hz;go_simp;refine(jjG _ _ _ _ _ _ _ _ _ c _ hz9.out).mono ?_;rintro e W2 ⟨rfl,k2⟩;exact⟨rfl,hHeld2.2.2.2.2.trans (jc.of k2)⟩
end Go.Proofs.YthmddloeggdohaaGreatDoor
namespace Go.Proofs.YthmddloeggdohaaGreatDoor
open Go.RowKit Go.Shelf
def jS (x:List UInt8):List ByteArray→List UInt8
 | []=>[]
 | t::r=>x++32::(t.data.toList++10::jS x r)
theorem YE (x:List UInt8):∀(l r:List ByteArray),jS x (l++r)=jS x l++jS x r
 | [],_=>rfl
 | t::l,r=>by simp[jS,YE x l r]
theorem jk9 (b:Nat) (x acc:List UInt8) (a:Option Addr) (len cap:Nat) (l:List Nod) (w0 w:World) (hE:Vec.EnvT w0) (hr:j0 w0 a len l) (k0:Kept w0 w) (hI:Vec.IsB w0.heap.size b acc w) (hx:x.length≤10) (ha:acc.length≤10000000000) (hlen:len≤1000) (hm:∀n ∈ l,jd2 n) (hsz:∀n ∈ l,(za n).size≤900000) :
 Calls Tryz.prog 13 #[.pointer (some ⟨b,0,none⟩),.string (bytes x),.slice a len cap,.func (.func 14) #[] #[]] w fun e w'=>e=.returned (.tuple #[])∧Vec.IsB w0.heap.size b (acc++jS x (l.map za)) w'∧Kept w0 w':=by
 have hl:=hr.1;by_cases h0:len=0
 · subst h0;have HE:=lH (show acc++jS x (l.map za)=acc by rw[List.eq_nil_of_length_eq_zero hl];simp[jS]);rw[HE.out];have HI:=lH hI;have HK:=lH k0;clear hr hl hI k0 HE hm hsz;go_enter Tryz.func13,Tryz.ntmps13;go_wp2;refine wp_loop_rounds 1 ?_;rw[rounds_succ];go_wp2;go_end0
   exact⟨rfl,HI.out,HK.out⟩
 · obtain⟨g,off,rfl⟩:=hr.form.resolve_left h0;have HR:=lH hr;have HL:=lH hl;have HI:=lH hI;have HK:=lH k0;have HM:=lH hm;have HSZ:=lH hsz;have HE:=lH hE;clear hr hl hI k0 hm hsz hE h0;go_enter Tryz.func13,Tryz.ntmps13;go_wp2;go_loopw [12] (fun i wr=>∃k:Nat,k≤len∧i=.int .i64 k∧Vec.IsB w0.heap.size b (acc++jS x ((l.take k).map za)) wr∧(jS x ((l.take k).map za)).length≤k*900020∧Kept w0 wr) (fun i _=>len-(intOf i).toNat)
   case atStart=>exact⟨0,Nat.zero_le _,rfl,by simpa [jS] using HI.out,by simp[jS],HK.out⟩
   case round =>
    obtain⟨k,hk,rfl,hI,hL,hK⟩:=hrel;have HII:=lH hI;have HLL:=lH hL;have HKK:=lH hK;by_cases hlt:k<len
    · obtain⟨n,a1,m1,c1,a2,m2,c2,a3,m3,c3,hn,hd,hb,p0,p1,p2,p3,p4,hat⟩:=(HR.out.kept hK).at_ hlt;have HAT:=lH hat;have HT:=lH (fun W (kk:Kept wr W)=>jk1 n (.slice a1 m1 c1) (.slice a2 m2 c2) (.slice a3 m3 c3) W (HE.out.kept (HKK.out.trans kk)) (HAT.out.kept kk) (HM.out n (List.mem_of_getElem? hn)));have HS:=lH (HSZ.out n (List.mem_of_getElem? hn));have HTK:=lH (show (l.take (k+1)).map za=(l.take k).map za++[za n] by rw[List.take_add_one,hn];simp);have hkk:(k:Int)<(len:Int):=by omega
      have hkb:k<len:=hlt;clear hI hL hK hat hd hn;obtain⟨tx,htx⟩:∃t,za n=t:=⟨_,rfl⟩
      rw[htx] at HT HS HTK;clear htx;unfold Jy at HT;have s0:(bytes x).size≤10:=hx;have s1:(⟨#[32]⟩:ByteArray).size=1:=rfl;have s2:(⟨#[10]⟩:ByteArray).size=1:=rfl;have s3:=HS.out;have ad1:∀W,(Op.stringOp .add (bytes x) (⟨#[32]⟩:ByteArray)).run Tryz.prog W=.ok (.string (bytes x++(⟨#[32]⟩:ByteArray))) W:=fun W=>run_string_add_sum W _ _ (by omega);have ad2:∀W,(Op.stringOp .add (bytes x++(⟨#[32]⟩:ByteArray)) tx).run Tryz.prog W=.ok (.string (bytes x++(⟨#[32]⟩:ByteArray)++tx)) W:=fun W=>run_string_add_sum W _ _ (by rw[ByteArray.size_append];omega);have ad3:∀W,(Op.stringOp .add (bytes x++(⟨#[32]⟩:ByteArray)++tx) (⟨#[10]⟩:ByteArray)).run Tryz.prog W=.ok (.string (bytes x++(⟨#[32]⟩:ByteArray)++tx++(⟨#[10]⟩:ByteArray))) W:=fun W=>run_string_add_sum W _ _ (by rw[ByteArray.size_append,ByteArray.size_append];omega);clear s0 s1 s2 s3;go_wp2_with fail
      refine(HT.out _ (ja _ _)).mono ?_;rintro e w1 ⟨rfl,k1⟩;have K1:=lH (Kept.trans (ja _ _) k1);have I1:=lH (HII.out.kept K1.out);have KW:=lH (HKK.out.trans K1.out);clear k1;go_wp2_with fail
      refine(Vec.Zq w0.heap.size b _ _ _ I1.out (by
       have h1:=HS.out;have h2:=HLL.out;have h3:k*900020≤1000*900020:=Nat.mul_le_mul_right _ (by omega);rw[ByteArray.size_append,ByteArray.size_append,ByteArray.size_append,ji,List.length_append];have e1:(⟨#[32]⟩:ByteArray).size=1:=rfl;have e2:(⟨#[10]⟩:ByteArray).size=1:=rfl;omega) KW.out.size).mono ?_
      rintro e w2 ⟨rfl,i2,b2,-⟩;have K2:=lH (show Kept w0 w2 from Below.trans KW.out b2);have hcat:(bytes x++⟨#[32]⟩++tx++⟨#[10]⟩:ByteArray).data.toList=x++32::(tx.data.toList++[10]):=by
       simp[bytes,ByteArray.data_append,Array.toList_append]
      have hw1:jS x [tx]=x++32::(tx.data.toList++[10]):=rfl;have I2:=lH (show Vec.IsB w0.heap.size b (acc++jS x ((l.take (k+1)).map za)) w2 by
       rw[HTK.out,YE,hw1,←hcat,←List.append_assoc];exact i2)
      have L2:=lH (show (jS x ((l.take (k+1)).map za)).length≤(k+1)*900020 by
       rw[HTK.out,YE,hw1];have h1:=HS.out;have h2:=HLL.out;have h4:tx.data.toList.length=tx.size:=by rw[Array.length_toList,ByteArray.size_data]
       simp only[List.length_append,List.length_cons,List.length_nil,h4,Nat.add_mul];omega)
      clear i2 b2 hcat hw1;go_wp2;go_roundw
      case rel=>exact⟨k+1,by omega,by go_num,I2.out,L2.out,K2.out⟩
      case measure=>simp[intOf];omega
    · have hk':k=len:=by omega
      subst hk';have hlt':¬(k:Int)<(k:Int):=by omega
      have HA:=lH (show l.take k=l by rw[List.take_of_length_le (by rw[HL.out];exact Nat.le_refl _)]);have HF:=lH (show Vec.IsB w0.heap.size b (acc++jS x (l.map za)) wr by have:=HII.out;rw[HA.out] at this;exact this);go_wp2;go_end0
      exact⟨rfl,HF.out,HKK.out⟩
open Go.RowKit
def JK (n:Nod):Bool:=decide (n.name.size≤50)&&(Vec.Zv n.cap&&(Yt n.labels&&J5 n.taints))
theorem jnt {n:Nod} (h:JK n=true):zO n:=by
 unfold JK at h;simp only[Bool.and_eq_true,decide_eq_true_eq] at h;obtain⟨_,h1,h2,h3⟩:=h;refine⟨?_,?_,?_⟩
 · unfold Vec.Zv at h1;simp only[Bool.and_eq_true,decide_eq_true_eq] at h1;omega
 · unfold Yt at h2;simp only[Bool.and_eq_true,decide_eq_true_eq] at h2;omega
 · have:=(Xd h3).1;omega
theorem jiO (n:Nod) (v1 v2 v3:Value) (w:World) (h:Jo w v1 v2 v3 n) :
 Calls Tryz.prog 24 #[Jy n v1 v2 v3] w (Say (.bool (JK n)) w):=by
 have HB:=lH (show ∀W,Kept (w.alloc (.cells #[.string n.name,v1,v2,v3,.bool n.cordon] 42)) W→W.cell? ⟨w.heap.size,0,none⟩=some (.string n.name)∧W.cell? ⟨w.heap.size,1,none⟩=some v1∧W.cell? ⟨w.heap.size,2,none⟩=some v2∧W.cell? ⟨w.heap.size,3,none⟩=some v3∧W.cell? ⟨w.heap.size,4,none⟩=some (.bool n.cordon) from fun W k=>(YC w _ _ _ _ _ 42 W k).1);have H:=lH (h.kept (ja w (.cells #[.string n.name,v1,v2,v3,.bool n.cordon] 42)));obtain⟨⟨nm,l1,l2,l3,cd⟩,hnn⟩:∃m,m=n:=⟨n,rfl⟩
 subst hnn;have hsz:nm.size≤maxLen:=h.size;unfold maxLen at hsz;obtain⟨b1,hb1⟩:∃b,Vec.Zv l1=b:=⟨_,rfl⟩
 obtain⟨b2,hb2⟩:∃b,Yt l2=b:=⟨_,rfl⟩
 obtain⟨b3,hb3⟩:∃b,J5 l3=b:=⟨_,rfl⟩
 have HV:=lH (show JK ⟨nm,l1,l2,l3,cd⟩=(decide (nm.size≤50)&&(b1&&(b2&&b3))) by unfold JK;dsimp only;rw[hb1,hb2,hb3]);have H1:=lH (Vec.jf9 H.out.cap hb1);have H2:=lH (show Calls Tryz.prog 56 #[v2] _ fun e w'=>e=.returned (.bool b2)∧_=w' by rw[←hb2];exact jf9 H.out.labels);have H3:=lH (show Calls Tryz.prog 57 #[v3] _ fun e w'=>e=.returned (.bool b3)∧_=w' by rw[←hb3];exact joG H.out.taints);clear h hb1 hb2 hb3 H;dsimp only at HB H1 H2 H3;obtain⟨y0,y1,y2,y3,y4⟩:=HB.out _ (Kept.refl _);unfold Jy;dsimp only;by_cases hs:nm.size≤50
 · have hs':decide (nm.size≤50)=true:=decide_eq_true hs;have hsi:(nm.size:Int)≤50:=by omega
   cases b1 with
   | false =>
    go_enter Tryz.func24,Tryz.ntmps24;go_wp2_with fail
    refine H1.out.mono ?_;rintro e w' ⟨rfl,rfl⟩;go_wp2;go_ret;exact⟨jh (by rw[HV.out,hs'];rfl),ja _ _⟩
   | true =>
    cases b2 with
    | false =>
     go_enter Tryz.func24,Tryz.ntmps24;go_wp2_with fail
     refine H1.out.mono ?_;rintro e w' ⟨rfl,rfl⟩;go_wp2_with fail
     refine H2.out.mono ?_;rintro e w' ⟨rfl,rfl⟩;go_wp2;go_ret;exact⟨jh (by rw[HV.out,hs'];rfl),ja _ _⟩
    | true =>
     go_enter Tryz.func24,Tryz.ntmps24;go_wp2_with fail
     refine H1.out.mono ?_;rintro e w' ⟨rfl,rfl⟩;go_wp2_with fail
     refine H2.out.mono ?_;rintro e w' ⟨rfl,rfl⟩;go_wp2_with fail
     refine H3.out.mono ?_;rintro e w' ⟨rfl,rfl⟩;go_wp2;go_ret;exact⟨jh (by rw[HV.out,hs'];cases b3<;>rfl),ja _ _⟩
 · have hs':decide (nm.size≤50)=false:=decide_eq_false hs;have hsi:(50:Int)<(nm.size:Int):=by omega
   go_enter Tryz.func24,Tryz.ntmps24;go_wp2;go_ret;exact⟨jh (by rw[HV.out,hs'];rfl),ja _ _⟩
theorem jne {v:Value} {n:Nod} {b:Bool} {w:World} (h:jcY w v n) (hb:JK n=b):Calls Tryz.prog 24 #[v] w (Say (.bool b) w):=by
 subst hb;obtain⟨v1,v2,v3,rfl,h⟩:=h;exact jiO n v1 v2 v3 w h
theorem Xo {l:PL} (h:Yt l=true):l.length≤20∧∀x ∈ l,x.1.size≤50∧x.2.size≤50:=by
 unfold Yt at h;simp only[Bool.and_eq_true,decide_eq_true_eq,List.all_eq_true] at h;refine⟨h.1,fun x hx=>?_⟩;have:=h.2 x hx;unfold XD at this;simpa only[Bool.and_eq_true,decide_eq_true_eq] using this
theorem Xv {l:TL} (h:Ys l=true):l.length≤20∧∀x ∈ l,x.2.1.size≤50∧x.2.2.size≤50:=by
 unfold Ys at h;simp only[Bool.and_eq_true,decide_eq_true_eq,List.all_eq_true] at h;refine⟨h.1,fun x hx=>?_⟩;have:=h.2 x hx;unfold XP at this;simpa only[Bool.and_eq_true,decide_eq_true_eq] using this
theorem JR (c:UInt8):(⟨#[c]⟩:ByteArray).size=1:=rfl
theorem jco {l:PL} (h:Yt l=true):(zr l).size≤5000:=by
 obtain⟨h1,h2⟩:=Xo h;unfold zr;split
 · decide
 · have:=Zn (ts:=l.map zR) (B:=101) (fun z hz=>by
    obtain⟨x,hx,rfl⟩:=List.mem_map.1 hz;have:=h2 x hx;unfold zR;rw[ByteArray.size_append,ByteArray.size_append,JR];omega)
   rw[List.length_map] at this;omega
theorem jg7 {l:NL} (h:J5 l=true):(zS l).size≤5000:=by
 obtain⟨h1,h2⟩:=Xd h;unfold zS;split
 · decide
 · have:=Zn (ts:=l.map zh) (B:=102) (fun z hz=>by
    obtain⟨x,hx,rfl⟩:=List.mem_map.1 hz;have:=h2 x hx;unfold zh;split
    · rw[ByteArray.size_append,ByteArray.size_append,ByteArray.size_append,JR,JR];omega
    · rw[ByteArray.size_append,ByteArray.size_append,JR];omega)
   rw[List.length_map] at this;omega
theorem jbQ {n:Nod} (h:JK n=true):n.name.size≤50∧Vec.Zv n.cap=true∧Yt n.labels=true∧J5 n.taints=true:=by
 unfold JK at h;simpa only[Bool.and_eq_true,decide_eq_true_eq] using h
theorem jfH {n:Nod} (h:JK n=true):jd2 n:=by
 obtain⟨h0,h1,h2,h3⟩:=jbQ h;have a:=Xo h2;have b:=Xd h3;exact⟨by omega,h1,⟨by omega,fun x hx=>by have:=a.2 x hx;omega⟩,⟨by omega,fun x hx=>by have:=b.2 x hx;omega⟩⟩
theorem jg4 {n:Nod} (h:JK n=true) (hf:Vec.zp n.cap):(za n).size≤900000:=by
 obtain⟨h0,h1,h2,h3⟩:=jbQ h;have a:=jbe h1 hf;have b:=jco h2;have c:=jg7 h3;have d:=jaJ n.cordon;have e:(bytes (Vec.j7 n.cap)).size=(Vec.j7 n.cap).length:=ji _;unfold za;simp only[ByteArray.size_append,JR];omega
theorem qP (c:UInt8) (x y:List UInt8):Lib.countByte (x++y) c=Lib.countByte x c+Lib.countByte y c:=by unfold Lib.countByte;exact List.count_append
theorem Ye {c:UInt8} {x:List UInt8} (h:c ∉ x):Lib.countByte x c=0:=by unfold Lib.countByte;exact List.count_eq_zero.2 h
theorem jjX {x:ByteArray} (h:isName x=true):∃u z,x.data.toList=u++[z]∧z≠33:=by
 obtain⟨b,t,e,_⟩:=X3 h;have hne:x.data.toList≠[]:=by rw[e];simp
 refine⟨_,_,(List.dropLast_concat_getLast hne).symm,?_⟩;intro hz;exact(Zy h).2.1 (hz▸List.getLast_mem hne)
theorem qm {x y:ByteArray} {m:Bool} (hx:isName x=true) (hy:isName y=true) :
 (44:UInt8) ∉ (zh (x,y,m)).data.toList∧JX (zh (x,y,m)).data.toList=false∧Jr (zh (x,y,m)).data.toList=(x,y,m)∧(zh (x,y,m)).data.toList≠[45]:=by
 have nx:=Zy hx;have ny:=Zy hy
 cases m with
 | true =>
  have e:(zh (x,y,true)).data.toList=x.data.toList++58::(y.data.toList++[33]):=by rw[jjp];simp[ByteArray.data_append]
  have hc:Lib.countByte (x.data.toList++58::(y.data.toList++[33])) 58=1:=by
   rw[qP,Ye nx.1,count_cons,qP,Ye ny.1];rfl
  have hcut:=JM (c:=58) (y.data.toList++[33]) nx.1;rw[e];refine⟨by simp[nx.2.2,ny.2.2],by unfold JX;rw[hc];decide,?_,?_⟩
  · rw[jjg hc (u:=y.data.toList) (by rw[hcut]),hcut,jZ,jZ]
  · intro h;rw[h] at hc;exact absurd hc (by decide)
 | false =>
  have e:(zh (x,y,false)).data.toList=x.data.toList++58::y.data.toList:=by rw[jkU];exact Zu x y 58
  have hc:Lib.countByte (x.data.toList++58::y.data.toList) 58=1:=by
   rw[qP,Ye nx.1,count_cons,Ye ny.1];rfl
  have hcut:=JM (c:=58) y.data.toList nx.1;obtain⟨u,z,hu,hz⟩:=jjX hy;rw[e];refine⟨by simp[nx.2.2,ny.2.2],by unfold JX;rw[hc];decide,?_,?_⟩
  · rw[jhr hc (u:=u) (z:=z) (by rw[hcut,hu]) hz,hcut,←hu,jZ,jZ]
  · intro h;rw[h] at hc;exact absurd hc (by decide)
theorem jmT {s:ByteArray} (h:Zj s=true):s=ByteArray.empty:=zt.1 h
theorem jkH {x:ByteArray} (h:(Zj x||isName x)=true) :
 (58:UInt8) ∉ (JI x).data.toList∧(44:UInt8) ∉ (JI x).data.toList∧jer (JI x).data.toList=x∧∃b t,(JI x).data.toList=b::t∧b≠58∧b≠45:=by
 cases hn:Zj x with
 | true =>
  have e:JI x=⟨#[42]⟩:=by unfold JI;rw[hn];rfl
  rw[e,jmT hn];exact⟨by decide,by decide,rfl,42,[],rfl,by decide,by decide⟩
 | false =>
  rw[hn,Bool.false_or] at h;have e:JI x=x:=by unfold JI;rw[hn];rfl
  have nx:=Zy h;obtain⟨b,t,eb,hb⟩:=X3 h;rw[e];refine⟨nx.1,nx.2.2,?_,b,t,eb,(jar hb).1,(jar hb).2.2.2⟩;unfold jer;rw[if_neg,jZ];intro h42;rw[h42] at eb;have:b=42:=by simpa using (List.cons.inj eb).1.symm
  subst this;exact absurd hb (by decide)
theorem jaZ {x y:ByteArray} {m:Bool} (h:zm (x,y,m)=true) :
 (44:UInt8) ∉ (Jx (x,y,m)).data.toList∧JO (Jx (x,y,m)).data.toList=false∧JA (Jx (x,y,m)).data.toList=(x,y,m)∧(Jx (x,y,m)).data.toList≠[45]:=by
 unfold zm at h;rw[Bool.and_eq_true] at h;obtain⟨h1,h2⟩:=h;obtain⟨s1,s2,s3,b,t,eb,hb,hb5⟩:=jkH h1
 cases m with
 | true =>
  have hy:y=ByteArray.empty:=jmT (by simpa using h2);subst hy;have e:Jx (x,ByteArray.empty,true)=JI x:=rfl;rw[e];have hcut:=jaK s1;refine⟨s2,?_,?_,?_⟩
  · unfold JO;rw[Ye s1,eb,jcA];simp[hb]
  · unfold JA;rw[hcut,s3];rfl
  · intro h45;rw[h45] at eb;exact hb5 (List.cons.inj eb).1.symm
 | false =>
  have hy:isName y=true:=by simpa using h2
  have ny:=Zy hy;have e:(Jx (x,y,false)).data.toList=(JI x).data.toList++58::y.data.toList:=Zu (JI x) y 58;rw[e];have hcut:=JM (c:=58) y.data.toList s1;refine⟨by simp[s2,ny.2.2],?_,?_,?_⟩
  · unfold JO;rw[qP,Ye s1,count_cons,Ye ny.1,eb,List.cons_append,jcA];simp[hb]
  · unfold JA;rw[hcut,s3,jZ];rfl
  · intro h45;rw[eb] at h45;exact hb5 (List.cons.inj h45).1
theorem jaO {s:NL} (h:Jg s=0):∀x ∈ s,isName x.1=true∧isName x.2.1=true:=by
 have h2:JF [] s=0:=by
  unfold Jg at h;split at h
  · cases h
  · exact h
 have key:∀(s:NL) (p:NL),JF p s=0→∀x ∈ s,isName x.1=true∧isName x.2.1=true:=by
  intro s
  induction s with
  | nil=>intro _ _ x hx;cases hx
  | cons y t ih =>
   intro p hc x hx;unfold JF at hc;split at hc
   · cases hc
   · rename_i hn;split at hc
     · cases hc
     · rcases List.mem_cons.1 hx with rfl | hx
       · have:(isName x.1&&isName x.2.1)=true:=by simpa using hn
         rw[Bool.and_eq_true] at this;exact this
       · exact ih _ hc x hx
 exact key s [] h2
theorem jaW {s:NL} (h:zw s=0):∀x ∈ s,zm x=true:=by
 unfold zw at h;split at h
 · cases h
 · split at h
   · rename_i h1;exact fun x hx=>List.all_eq_true.1 h1 x hx
   · cases h
theorem jlF {l:NL} (h:Jg l=0):l.length≤8:=by
 unfold Jg at h;split at h
 · cases h
 · omega
theorem jl2 {l:NL} (h:zw l=0):l.length≤8:=by
 unfold zw at h;split at h
 · cases h
 · omega
theorem jdq {s:NL} (h:Jg s=0):Jj (zS s).data.toList=(0,s):=by
 by_cases h0:s=[]
 · subst h0;rfl
 · have hn:=jaO h;have e:zS s=zZ (s.map zh):=by unfold zS;rw[if_neg h0]
   rw[e];exact XW (jlF h) h0 h (fun x hx=>⟨(qm (hn x hx).1 (hn x hx).2).1,(qm (hn x hx).1 (hn x hx).2).2.1,(qm (hn x hx).1 (hn x hx).2).2.2.1⟩) (fun x hx=>(qm (hn x hx).1 (hn x hx).2).2.2.2)
theorem jiW {s:NL} (h:zw s=0):J8 (Jh s).data.toList=(0,s):=by
 by_cases h0:s=[]
 · subst h0;rfl
 · have hn:=jaW h;have e:Jh s=zZ (s.map Jx):=by unfold Jh;rw[if_neg h0]
   rw[e];exact XW (jl2 h) h0 h (fun x hx=>⟨(jaZ (hn x hx)).1,(jaZ (hn x hx)).2.1,(jaZ (hn x hx)).2.2.1⟩) (fun x hx=>(jaZ (hn x hx)).2.2.2)
def Ze (x:ByteArray):ByteArray:=if Zj x=true then ⟨#[45]⟩ else x
def zY (k:ByteArray) (m:Int):ByteArray:=if Zj k=true then ⟨#[45]⟩ else k++⟨#[47]⟩++bytes (Lib.itoa m)
def Xl (b:Bool):ByteArray:=if b=true then ⟨#[104,111,108,100]⟩ else ⟨#[114,101,97,108]⟩
def jbG (n:Pd):List ByteArray:=[n.name,Ze n.owner,bytes (Lib.itoa n.prio),bytes (Vec.j7 n.need),zr n.labels,zD n.sel,Jh n.tols,zY n.key n.most,Ze n.node,Xl n.hold]
def jY (n:Pd):ByteArray:=⟨(Lib.join ((jbG n).map (·.data.toList)) [32]).toArray⟩
def Ji (n:Pd):Bool:=decide (n.name.size≤50)&&(decide (n.owner.size≤50)&&(decide (n.key.size≤50)&&(decide (n.node.size≤50)&&(Vec.Zv n.need&&(Yt n.labels&&(Ys n.sel&&J5 n.tols))))))
theorem XR {n:Pd} (h:Ji n=true):n.name.size≤50∧n.owner.size≤50∧n.key.size≤50∧n.node.size≤50∧Vec.Zv n.need=true∧Yt n.labels=true∧Ys n.sel=true∧J5 n.tols=true:=by
 unfold Ji at h;simpa only[Bool.and_eq_true,decide_eq_true_eq] using h
theorem je5 {l:TL} (h:Ys l=true):(zD l).size≤5000:=by
 obtain⟨h1,h2⟩:=Xv h;unfold zD;split
 · decide
 · have:=Zn (ts:=l.map zK) (B:=101) (fun z hz=>by
    obtain⟨x,hx,rfl⟩:=List.mem_map.1 hz;have:=h2 x hx;have e1:(⟨#[58]⟩:ByteArray).size=1:=rfl;have e2:(⟨#[33]⟩:ByteArray).size=1:=rfl;have e3:(⟨#[45]⟩:ByteArray).size=1:=rfl;unfold zK;split
    · rw[ByteArray.size_append,ByteArray.size_append];omega
    · split
      · rw[ByteArray.size_append,ByteArray.size_append];omega
      · split
        · rw[ByteArray.size_append];omega
        · omega)
   rw[List.length_map] at this;omega
theorem jeQ {x:ByteArray} (h:x.size≤50):(JI x).size≤50:=by
 unfold JI;split
 · exact(by decide:(⟨#[42]⟩:ByteArray).size≤50)
 · exact h
theorem jj5 {l:NL} (h:J5 l=true):(Jh l).size≤5000:=by
 obtain⟨h1,h2⟩:=Xd h;unfold Jh;split
 · decide
 · have:=Zn (ts:=l.map Jx) (B:=101) (fun z hz=>by
    obtain⟨x,hx,rfl⟩:=List.mem_map.1 hz;have:=h2 x hx;have hs:=jeQ this.1;have e1:(⟨#[58]⟩:ByteArray).size=1:=rfl;unfold Jx;split
    · omega
    · rw[ByteArray.size_append,ByteArray.size_append];omega)
   rw[List.length_map] at this;omega
theorem qG {x:ByteArray} (h:x.size≤50):(Ze x).size≤50:=by
 unfold Ze;split
 · exact(by decide:(⟨#[45]⟩:ByteArray).size≤50)
 · exact h
theorem jbH {k:ByteArray} {m:Int} (h:k.size≤50) (h0:-9223372036854775808≤m) (h1:m≤9223372036854775807):(zY k m).size≤100:=by
 have hi:=Lib.itoa_length_le m h0 h1;have e:(bytes (Lib.itoa m)).size=(Lib.itoa m).length:=ji _;have e1:(⟨#[47]⟩:ByteArray).size=1:=rfl;unfold zY;split
 · exact(by decide:(⟨#[45]⟩:ByteArray).size≤100)
 · rw[ByteArray.size_append,ByteArray.size_append];omega
theorem jdD (b:Bool):(Xl b).size≤4:=by cases b<;>decide
theorem jaH (a b c d e f g h i j:ByteArray):(⟨(Lib.join ([a,b,c,d,e,f,g,h,i,j].map (·.data.toList)) [32]).toArray⟩:ByteArray)=a++⟨#[32]⟩++b++⟨#[32]⟩++c++⟨#[32]⟩++d++⟨#[32]⟩++e++⟨#[32]⟩++f++⟨#[32]⟩++g++⟨#[32]⟩++h++⟨#[32]⟩++i++⟨#[32]⟩++j:=by
 apply Go.WideShapes.bytes_inj;simp[Lib.join,List.intercalate,ByteArray.data_append]
theorem jhE {n:Pd} (h:Ji n=true) (hv:Vec.zp n.need) (hp:-9223372036854775808≤n.prio∧n.prio≤9223372036854775807) (hm:-9223372036854775808≤n.most∧n.most≤9223372036854775807):(jY n).size≤900000:=by
 obtain⟨h1,h2,h3,h4,h5,h6,h7,h8⟩:=XR h;have a1:=qG h2;have a2:=qG h4;have a3:=jbe h5 hv;have a4:=jco h6;have a5:=je5 h7;have a6:=jj5 h8;have a7:=jbH h3 hm.1 hm.2;have a8:=jdD n.hold;have a9:=Lib.itoa_length_le n.prio hp.1 hp.2;have e:(bytes (Vec.j7 n.need)).size=(Vec.j7 n.need).length:=ji _;have e2:(bytes (Lib.itoa n.prio)).size=(Lib.itoa n.prio).length:=ji _;unfold jY jbG;rw[jaH];simp only[ByteArray.size_append,JR];omega
theorem jc7 (n:Int) (w:World) (hE:Vec.EnvT w) (h0:-9223372036854775808≤n) (h1:n≤9223372036854775807) :
 Calls Tryz.prog 43 #[.int .i64 n] w fun e w'=>e=.returned (.string (bytes (Lib.itoa n)))∧Kept w w':=by
 refine(Tryz.strconv_Itoa n h0 h1 w hE.tab).mono ?_;rintro e w' ⟨rfl,k,os,rfl⟩;exact⟨rfl,Lib.below_grow _ _ (Nat.le_refl _) _ _⟩
theorem jgO (x:ByteArray) (w:World):Calls Tryz.prog 42 #[.string x] w fun e w'=>e=.returned (.string (Ze x))∧w=w':=by
 obtain⟨q,hq⟩:∃q,(x.toList==([]:List UInt8))=q:=⟨_,rfl⟩
 have HV:=lH (show Ze x=if q=true then ⟨#[45]⟩ else x by unfold Ze;rw[ZY,hq])
 cases q <;>
 (go_enter Tryz.func42,Tryz.ntmps42
  go_wp2;go_ret;exact⟨Jt HV.out.symm,rfl⟩)
theorem jkd (b:Bool) (w:World):Calls Tryz.prog 47 #[.bool b] w fun e w'=>e=.returned (.string (Xl b))∧w=w':=by
 cases b <;>
 (go_enter Tryz.func47,Tryz.ntmps47
  go_wp2;go_ret;exact⟨rfl,rfl⟩)
theorem jhX (k:ByteArray) (m:Int) (w:World) (hE:Vec.EnvT w) (hk:k.size≤50) (h0:-9223372036854775808≤m) (h1:m≤9223372036854775807):Calls Tryz.prog 46 #[.string k,.int .i64 m] w fun e w'=>e=.returned (.string (zY k m))∧Kept w w':=by
 obtain⟨q,hq⟩:∃q,(k.toList==([]:List UInt8))=q:=⟨_,rfl⟩
 have HV:=lH (show zY k m=if q=true then ⟨#[45]⟩ else k++⟨#[47]⟩++bytes (Lib.itoa m) by unfold zY;rw[ZY,hq]);have HI:=lH (jc7 m w hE h0 h1);have hi:=Lib.itoa_length_le m h0 h1;have e:(bytes (Lib.itoa m)).size=(Lib.itoa m).length:=ji _;have hsz:(bytes (Lib.itoa m)).size≤100:=by rw[e];omega
 obtain⟨t,ht⟩:∃t,bytes (Lib.itoa m)=t:=⟨_,rfl⟩
 rw[ht] at HI HV hsz;clear hE e hi ht
 cases q with
 | true =>
  go_enter Tryz.func46,Tryz.ntmps46;go_wp2;go_ret;exact⟨Jt HV.out.symm,Kept.refl _⟩
 | false =>
  have s1:k.size+(⟨#[47]⟩:ByteArray).size≤140737488355328:=by have:(⟨#[47]⟩:ByteArray).size=1:=rfl;omega
  have s2:(k++(⟨#[47]⟩:ByteArray)).size+t.size≤140737488355328:=by have:(⟨#[47]⟩:ByteArray).size=1:=rfl;rw[ByteArray.size_append];omega
  go_enter Tryz.func46,Tryz.ntmps46;go_wp2_with fail
  refine HI.out.mono ?_;rintro e w' ⟨rfl,k1⟩;have K:=lH k1;clear k1;go_wp2;go_ret;exact⟨Jt HV.out.symm,K.out⟩
theorem jj6 (W:World) (a0 a1 a2 a3 a4 a5 a6 a7 a8 a9:ByteArray) (T:TypeId) (i:Nat) (z:ByteArray) (hi:([a0,a1,a2,a3,a4,a5,a6,a7,a8,a9]:List ByteArray)[i]?=some z) :
 (W.alloc (.cells #[.string a0,.string a1,.string a2,.string a3,.string a4,.string a5,.string a6,.string a7,.string a8,.string a9] T)).cell? ⟨W.heap.size,i,none⟩=some (.string z):=by
 refine(jg W (.string a0) [.string a1,.string a2,.string a3,.string a4,.string a5,.string a6,.string a7,.string a8,.string a9] T _ (Kept.refl _)).at_ i _ ?_
 match i,hi with
 | 0,h=>simpa using h
 | 1,h=>simpa using h
 | 2,h=>simpa using h
 | 3,h=>simpa using h
 | 4,h=>simpa using h
 | 5,h=>simpa using h
 | 6,h=>simpa using h
 | 7,h=>simpa using h
 | 8,h=>simpa using h
 | 9,h=>simpa using h
 | j+10,h=>simp at h
theorem jjA (n:Pd) (v1 v2 v3 v4:Value) (w:World) (hE:Vec.EnvT w) (h:zl w v1 v2 v3 v4 n) (hf:Ji n=true) :
 Calls Tryz.prog 16 #[JQ n v1 v2 v3 v4] w (Say (.string (jY n)) w):=by
 obtain⟨x0,x1,x2,l1,l2,l3,l4,x3,x4,x5,x6⟩:=n;have hsz:=jhE hf h.need.fine h.prio h.most;obtain⟨f1,f2,f3,f4,f5,f6,f7,f8⟩:=XR hf;have g6:=Xo f6;have g7:=Xv f7;have g8:=Xd f8;dsimp only at f1 f2 f3 f4 f5 f6 f7 f8 g6 g7 g8;obtain⟨W0,hW0⟩:∃W0,w.alloc (.cells #[.string x0,.string x1,.int .i64 x2,v1,v2,v3,v4,.string x3,.int .i64 x4,.string x5,.bool x6] 62)=W0:=⟨_,rfl⟩
 have hk0:Kept w W0:=by rw[←hW0];exact ja _ _
 have HC:=lH (show ∀W,Kept W0 W→W.cell? ⟨w.heap.size,0,none⟩=some (.string x0)∧W.cell? ⟨w.heap.size,1,none⟩=some (.string x1)∧W.cell? ⟨w.heap.size,2,none⟩=some (.int .i64 x2)∧W.cell? ⟨w.heap.size,3,none⟩=some (v1)∧W.cell? ⟨w.heap.size,4,none⟩=some (v2)∧W.cell? ⟨w.heap.size,5,none⟩=some (v3)∧W.cell? ⟨w.heap.size,6,none⟩=some (v4)∧W.cell? ⟨w.heap.size,7,none⟩=some (.string x3)∧W.cell? ⟨w.heap.size,8,none⟩=some (.int .i64 x4)∧W.cell? ⟨w.heap.size,9,none⟩=some (.string x5)∧W.cell? ⟨w.heap.size,10,none⟩=some (.bool x6) from fun W k=>by
  have c:=jg w (.string x0) [.string x1,.int .i64 x2,v1,v2,v3,v4,.string x3,.int .i64 x4,.string x5,.bool x6] 62 W (by rw[hW0];exact k);exact⟨c.at_ 0 _ rfl,c.at_ 1 _ rfl,c.at_ 2 _ rfl,c.at_ 3 _ rfl,c.at_ 4 _ rfl,c.at_ 5 _ rfl,c.at_ 6 _ rfl,c.at_ 7 _ rfl,c.at_ 8 _ rfl,c.at_ 9 _ rfl,c.at_ 10 _ rfl⟩)
 have E1:=lH (fun W=>jgO x1 W);have E2:=lH (fun W (k:Kept W0 W)=>jc7 x2 W (hE.kept (hk0.trans k)) h.prio.1 h.prio.2);have E3:=lH (fun W (k:Kept W0 W)=>Vec.jdQ (hE.kept (hk0.trans k)) (h.need.kept (hk0.trans k)) f5 rfl);have E4:=lH (fun W (k:Kept W0 W)=>jdQ (h.labels.kept (hk0.trans k)) (fun x hx=>⟨Nat.le_trans (g6.2 x hx).1 (by decide),Nat.le_trans (g6.2 x hx).2 (by decide)⟩) (Nat.le_trans g6.1 (by decide)) rfl);have E5:=lH (fun W (k:Kept W0 W)=>jgU (h.sel.kept (hk0.trans k)) (fun x hx=>⟨Nat.le_trans (g7.2 x hx).1 (by decide),Nat.le_trans (g7.2 x hx).2 (by decide)⟩) (Nat.le_trans g7.1 (by decide)) rfl);have E6:=lH (fun W (k:Kept W0 W)=>jod (h.tols.kept (hk0.trans k)) (fun x hx=>⟨Nat.le_trans (g8.2 x hx).1 (by decide),Nat.le_trans (g8.2 x hx).2 (by decide)⟩) (Nat.le_trans g8.1 (by decide)) rfl);have E7:=lH (fun W (k:Kept W0 W)=>jhX x3 x4 W (hE.kept (hk0.trans k)) f3 h.most.1 h.most.2);have E8:=lH (fun W=>jgO x5 W);have E9:=lH (fun W=>jkd x6 W);have HV0:=lH (show jY ⟨x0,x1,x2,l1,l2,l3,l4,x3,x4,x5,x6⟩=⟨(Lib.join ([x0,Ze x1,bytes (Lib.itoa x2),bytes (Vec.j7 l1),zr l2,zD l3,Jh l4,zY x3 x4,Ze x5,Xl x6].map (·.data.toList)) [32]).toArray⟩ from rfl);obtain⟨t1,ht1⟩:∃t,Ze x1=t:=⟨_,rfl⟩
 obtain⟨t2,ht2⟩:∃t,bytes (Lib.itoa x2)=t:=⟨_,rfl⟩
 obtain⟨t3,ht3⟩:∃t,bytes (Vec.j7 l1)=t:=⟨_,rfl⟩
 obtain⟨t4,ht4⟩:∃t,zr l2=t:=⟨_,rfl⟩
 obtain⟨t5,ht5⟩:∃t,zD l3=t:=⟨_,rfl⟩
 obtain⟨t6,ht6⟩:∃t,Jh l4=t:=⟨_,rfl⟩
 obtain⟨t7,ht7⟩:∃t,zY x3 x4=t:=⟨_,rfl⟩
 obtain⟨t8,ht8⟩:∃t,Ze x5=t:=⟨_,rfl⟩
 obtain⟨t9,ht9⟩:∃t,Xl x6=t:=⟨_,rfl⟩
 rw[ht1,ht2,ht3,ht4,ht5,ht6,ht7,ht8,ht9] at HV0;rw[ht1] at E1;rw[ht2] at E2;rw[ht3] at E3;rw[ht4] at E4;rw[ht5] at E5;rw[ht6] at E6;rw[ht7] at E7;rw[ht8] at E8;rw[ht9] at E9;obtain⟨RES,hRES⟩:∃R,jY ⟨x0,x1,x2,l1,l2,l3,l4,x3,x4,x5,x6⟩=R:=⟨_,rfl⟩
 have HJ:=lH (show (Lib.join ([x0,t1,t2,t3,t4,t5,t6,t7,t8,t9].map (·.data.toList)) [32]).length≤140737488355328 by
  have e:(⟨(Lib.join ([x0,t1,t2,t3,t4,t5,t6,t7,t8,t9].map (·.data.toList)) [32]).toArray⟩:ByteArray).size=(Lib.join ([x0,t1,t2,t3,t4,t5,t6,t7,t8,t9].map (·.data.toList)) [32]).length:=by simp[ByteArray.size]
  rw[←e,←HV0.out];omega)
 have HJC:=lH (fun W:World=>jc3 (Tryz.strings_Join W.heap.size 0 10 [x0,t1,t2,t3,t4,t5,t6,t7,t8,t9] ⟨#[32]⟩ (W.alloc (.cells #[.string x0,.string t1,.string t2,.string t3,.string t4,.string t5,.string t6,.string t7,.string t8,.string t9] 9)) (fun j z hj=>(by rw[Nat.zero_add];exact jj6 W x0 t1 t2 t3 t4 t5 t6 t7 t8 t9 9 j z hj)) (by simp) (by simp) (by simp) HJ.out));rw[←HV0.out,hRES] at HJC;have HK0:=lH hk0;rw[hRES];clear ht1 ht2 ht3 ht4 ht5 ht6 ht7 ht8 ht9 hRES HJ HV0 hsz f1 f2 f3 f4 f5 f6 f7 f8 g6 g7 g8 h hE hf hk0;obtain⟨c0,c1,c2,c3,c4,c5,c6,c7,c8,c9,c10⟩:=HC.out _ (Kept.refl _);unfold JQ;dsimp only;go_enter Tryz.func16,Tryz.ntmps16;go_wp2;try rw[hW0]
 clear hW0;go_region_held3 (fun W=>W.cell? ⟨w.heap.size,0,none⟩=some (.string x0)∧W.cell? ⟨w.heap.size,1,none⟩=some (.string x1)∧W.cell? ⟨w.heap.size,2,none⟩=some (.int .i64 x2)∧W.cell? ⟨w.heap.size,3,none⟩=some (v1)∧W.cell? ⟨w.heap.size,4,none⟩=some (v2)∧W.cell? ⟨w.heap.size,5,none⟩=some (v3)∧W.cell? ⟨w.heap.size,6,none⟩=some (v4)∧W.cell? ⟨w.heap.size,7,none⟩=some (.string x3)∧W.cell? ⟨w.heap.size,8,none⟩=some (.int .i64 x4)∧W.cell? ⟨w.heap.size,9,none⟩=some (.string x5)∧W.cell? ⟨w.heap.size,10,none⟩=some (.bool x6))
  (first | exact HC.out _ (Kept.drew _) | exact HC.out _ K2.out | exact HC.out _ K3.out | exact HC.out _ K4.out | exact HC.out _ K5.out | exact HC.out _ K6.out | exact HC.out _ K7.out | exact HC.out _ (K7.out.trans (ja _ _)) | exact HC.out _ K10.out)
  (first | (go_at_call 42;refine(E1.out _).mono ?_;rintro e1 w1 ⟨rfl,rfl⟩)
         | (go_at_call 43;refine(E2.out _ (Kept.drew _)).mono ?_;rintro e2 w2 ⟨rfl,k2⟩;have K2:=lH ((Kept.drew _).trans k2);clear k2)
         | (go_at_call 38;refine(E3.out _ K2.out).mono ?_;rintro e3 w3 ⟨rfl,k3⟩;have K3:=lH (K2.out.trans k3);clear k3)
         | (go_at_call 39;refine(E4.out _ K3.out).mono ?_;rintro e4 w4 ⟨rfl,k4⟩;have K4:=lH (K3.out.trans k4);clear k4)
         | (go_at_call 44;refine(E5.out _ K4.out).mono ?_;rintro e5 w5 ⟨rfl,k5⟩;have K5:=lH (K4.out.trans k5);clear k5)
         | (go_at_call 45;refine(E6.out _ K5.out).mono ?_;rintro e6 w6 ⟨rfl,k6⟩;have K6:=lH (K5.out.trans k6);clear k6)
         | (go_at_call 46;refine(E7.out _ K6.out).mono ?_;rintro e7 w7 ⟨rfl,k7⟩;have K7:=lH (K6.out.trans k7);clear k7)
         | (go_at_call 42;refine(E8.out _).mono ?_;rintro e8 w8 ⟨rfl,rfl⟩)
         | (go_at_call 47;refine(E9.out _).mono ?_;rintro e9 w9 ⟨rfl,rfl⟩)
         | (go_at_call 37;refine(HJC.out _).mono ?_;rintro e10 w10 ⟨rfl,k10⟩;have K10:=lH ((K7.out.trans (ja _ _)).trans k10);clear k10))
 go_wp2;go_ret;exact⟨rfl,HK0.out.trans K10.out⟩
theorem jka (b:Nat) (x acc:List UInt8) (a:Option Addr) (len cap:Nat) (l:List Pd) (w0 w:World) (hE:Vec.EnvT w0) (hr:Jd w0 a len l) (k0:Kept w0 w) (hI:Vec.IsB w0.heap.size b acc w) (hx:x.length≤10) (ha:acc.length≤10000000000) (hlen:len≤1000) (hm:∀n ∈ l,Ji n=true) (hsz:∀n ∈ l,(jY n).size≤900000) :
 Calls Tryz.prog 15 #[.pointer (some ⟨b,0,none⟩),.string (bytes x),.slice a len cap,.func (.func 16) #[] #[]] w fun e w'=>e=.returned (.tuple #[])∧Vec.IsB w0.heap.size b (acc++jS x (l.map jY)) w'∧Kept w0 w':=by
 have hl:=hr.1;by_cases h0:len=0
 · subst h0;have HE:=lH (show acc++jS x (l.map jY)=acc by rw[List.eq_nil_of_length_eq_zero hl];simp[jS]);rw[HE.out];have HI:=lH hI;have HK:=lH k0;clear hr hl hI k0 HE hm hsz;go_enter Tryz.func15,Tryz.ntmps15;go_wp2;refine wp_loop_rounds 1 ?_;rw[rounds_succ];go_wp2;go_end0
   exact⟨rfl,HI.out,HK.out⟩
 · obtain⟨g,off,rfl⟩:=hr.form.resolve_left h0;have HR:=lH hr;have HL:=lH hl;have HI:=lH hI;have HK:=lH k0;have HM:=lH hm;have HSZ:=lH hsz;have HE:=lH hE;clear hr hl hI k0 hm hsz hE h0;go_enter Tryz.func15,Tryz.ntmps15;go_wp2;go_loopw [12] (fun i wr=>∃k:Nat,k≤len∧i=.int .i64 k∧Vec.IsB w0.heap.size b (acc++jS x ((l.take k).map jY)) wr∧(jS x ((l.take k).map jY)).length≤k*900020∧Kept w0 wr) (fun i _=>len-(intOf i).toNat)
   case atStart=>exact⟨0,Nat.zero_le _,rfl,by simpa [jS] using HI.out,by simp[jS],HK.out⟩
   case round =>
    obtain⟨k,hk,rfl,hI,hL,hK⟩:=hrel;have HII:=lH hI;have HLL:=lH hL;have HKK:=lH hK;by_cases hlt:k<len
    · obtain⟨n,a1,m1,c1,a2,m2,c2,a3,m3,c3,a4,m4,c4,hn,hd,hb,p0,p1,p2,p3,p4,p5,p6,p7,p8,p9,p10,hat⟩:=(HR.out.kept hK).at_ hlt;have HAT:=lH hat;have HT:=lH (fun W (kk:Kept wr W)=>jjA n (.slice a1 m1 c1) (.slice a2 m2 c2) (.slice a3 m3 c3) (.slice a4 m4 c4) W (HE.out.kept (HKK.out.trans kk)) (HAT.out.kept kk) (HM.out n (List.mem_of_getElem? hn)));have HS:=lH (HSZ.out n (List.mem_of_getElem? hn));have HTK:=lH (show (l.take (k+1)).map jY=(l.take k).map jY++[jY n] by rw[List.take_add_one,hn];simp);have hkk:(k:Int)<(len:Int):=by omega
      have hkb:k<len:=hlt;clear hI hL hK hat hd hn;obtain⟨tx,htx⟩:∃t,jY n=t:=⟨_,rfl⟩
      rw[htx] at HT HS HTK;clear htx;unfold JQ at HT;have s0:(bytes x).size≤10:=hx;have s1:(⟨#[32]⟩:ByteArray).size=1:=rfl;have s2:(⟨#[10]⟩:ByteArray).size=1:=rfl;have s3:=HS.out;have ad1:∀W,(Op.stringOp .add (bytes x) (⟨#[32]⟩:ByteArray)).run Tryz.prog W=.ok (.string (bytes x++(⟨#[32]⟩:ByteArray))) W:=fun W=>run_string_add_sum W _ _ (by omega);have ad2:∀W,(Op.stringOp .add (bytes x++(⟨#[32]⟩:ByteArray)) tx).run Tryz.prog W=.ok (.string (bytes x++(⟨#[32]⟩:ByteArray)++tx)) W:=fun W=>run_string_add_sum W _ _ (by rw[ByteArray.size_append];omega);have ad3:∀W,(Op.stringOp .add (bytes x++(⟨#[32]⟩:ByteArray)++tx) (⟨#[10]⟩:ByteArray)).run Tryz.prog W=.ok (.string (bytes x++(⟨#[32]⟩:ByteArray)++tx++(⟨#[10]⟩:ByteArray))) W:=fun W=>run_string_add_sum W _ _ (by rw[ByteArray.size_append,ByteArray.size_append];omega);clear s0 s1 s2 s3;go_wp2_with fail
      refine(HT.out _ (ja _ _)).mono ?_;rintro e w1 ⟨rfl,k1⟩;have K1:=lH (Kept.trans (ja _ _) k1);have I1:=lH (HII.out.kept K1.out);have KW:=lH (HKK.out.trans K1.out);clear k1;go_wp2_with fail
      refine(Vec.Zq w0.heap.size b _ _ _ I1.out (by
       have h1:=HS.out;have h2:=HLL.out;have h3:k*900020≤1000*900020:=Nat.mul_le_mul_right _ (by omega);rw[ByteArray.size_append,ByteArray.size_append,ByteArray.size_append,ji,List.length_append];have e1:(⟨#[32]⟩:ByteArray).size=1:=rfl;have e2:(⟨#[10]⟩:ByteArray).size=1:=rfl;omega) KW.out.size).mono ?_
      rintro e w2 ⟨rfl,i2,b2,-⟩;have K2:=lH (show Kept w0 w2 from Below.trans KW.out b2);have hcat:(bytes x++⟨#[32]⟩++tx++⟨#[10]⟩:ByteArray).data.toList=x++32::(tx.data.toList++[10]):=by
       simp[bytes,ByteArray.data_append,Array.toList_append]
      have hw1:jS x [tx]=x++32::(tx.data.toList++[10]):=rfl;have I2:=lH (show Vec.IsB w0.heap.size b (acc++jS x ((l.take (k+1)).map jY)) w2 by
       rw[HTK.out,YE,hw1,←hcat,←List.append_assoc];exact i2)
      have L2:=lH (show (jS x ((l.take (k+1)).map jY)).length≤(k+1)*900020 by
       rw[HTK.out,YE,hw1];have h1:=HS.out;have h2:=HLL.out;have h4:tx.data.toList.length=tx.size:=by rw[Array.length_toList,ByteArray.size_data]
       simp only[List.length_append,List.length_cons,List.length_nil,h4,Nat.add_mul];omega)
      clear i2 b2 hcat hw1;go_wp2;go_roundw
      case rel=>exact⟨k+1,by omega,by go_num,I2.out,L2.out,K2.out⟩
      case measure=>simp[intOf];omega
    · have hk':k=len:=by omega
      subst hk';have hlt':¬(k:Int)<(k:Int):=by omega
      have HA:=lH (show l.take k=l by rw[List.take_of_length_le (by rw[HL.out];exact Nat.le_refl _)]);have HF:=lH (show Vec.IsB w0.heap.size b (acc++jS x (l.map jY)) wr by have:=HII.out;rw[HA.out] at this;exact this);go_wp2;go_end0
      exact⟨rfl,HF.out,HKK.out⟩
def j5 (n:Bd):ByteArray:=n.name++⟨#[32]⟩++zD n.sel++⟨#[32]⟩++bytes (Lib.itoa n.floor)
def ZS (n:Bd):Bool:=decide (n.name.size≤50)&&Ys n.sel
theorem jcq {n:Bd} (h:ZS n=true):n.name.size≤50∧Ys n.sel=true:=by
 unfold ZS at h;simpa only[Bool.and_eq_true,decide_eq_true_eq] using h
theorem jdG (a b c:ByteArray):(⟨(Lib.join ([a,b,c].map (·.data.toList)) [32]).toArray⟩:ByteArray)=a++⟨#[32]⟩++b++⟨#[32]⟩++c:=by
 apply Go.WideShapes.bytes_inj;simp[Lib.join,List.intercalate,ByteArray.data_append]
theorem je7 (W:World) (a0 a1 a2:ByteArray) (T:TypeId) (i:Nat) (z:ByteArray) (hi:([a0,a1,a2]:List ByteArray)[i]?=some z) :
 (W.alloc (.cells #[.string a0,.string a1,.string a2] T)).cell? ⟨W.heap.size,i,none⟩=some (.string z):=by
 refine(jg W (.string a0) [.string a1,.string a2] T _ (Kept.refl _)).at_ i _ ?_
 match i,hi with
 | 0,h=>simpa using h
 | 1,h=>simpa using h
 | 2,h=>simpa using h
 | j+3,h=>simp at h
theorem jiU (n:Bd) (v1:Value) (w:World) (hE:Vec.EnvT w) (h:zL w v1 n) (hf:ZS n=true) :
 Calls Tryz.prog 18 #[Zt n v1] w (Say (.string (j5 n)) w):=by
 obtain⟨x0,l3,x2⟩:=n;obtain⟨f1,f7⟩:=jcq hf;have g7:=Xv f7;have sL:=je5 f7;have hi:=Lib.itoa_length_le x2 h.floor.1 h.floor.2;dsimp only at f1 f7 g7 sL;obtain⟨W0,hW0⟩:∃W0,w.alloc (.cells #[.string x0,v1,.int .i64 x2] 66)=W0:=⟨_,rfl⟩
 have hk0:Kept w W0:=by rw[←hW0];exact ja _ _
 have HC:=lH (show ∀W,Kept W0 W→W.cell? ⟨w.heap.size,0,none⟩=some (.string x0)∧W.cell? ⟨w.heap.size,1,none⟩=some (v1)∧W.cell? ⟨w.heap.size,2,none⟩=some (.int .i64 x2) from fun W k=>by
  have c:=jg w (.string x0) [v1,.int .i64 x2] 66 W (by rw[hW0];exact k);exact⟨c.at_ 0 _ rfl,c.at_ 1 _ rfl,c.at_ 2 _ rfl⟩)
 have E2:=lH (fun W (k:Kept W0 W)=>jc7 x2 W (hE.kept (hk0.trans k)) h.floor.1 h.floor.2);have E5:=lH (fun W (k:Kept W0 W)=>jgU (h.sel.kept (hk0.trans k)) (fun x hx=>⟨Nat.le_trans (g7.2 x hx).1 (by decide),Nat.le_trans (g7.2 x hx).2 (by decide)⟩) (Nat.le_trans g7.1 (by decide)) rfl);have HV0:=lH (show j5 ⟨x0,l3,x2⟩=x0++⟨#[32]⟩++zD l3++⟨#[32]⟩++bytes (Lib.itoa x2) from rfl);have sI:(bytes (Lib.itoa x2)).size≤100:=by rw[ji];omega
 obtain⟨t2,ht2⟩:∃t,bytes (Lib.itoa x2)=t:=⟨_,rfl⟩
 obtain⟨t5,ht5⟩:∃t,zD l3=t:=⟨_,rfl⟩
 rw[ht2,ht5] at HV0;rw[ht2] at E2 sI;rw[ht5] at E5 sL;obtain⟨RES,hRES⟩:∃R,j5 ⟨x0,l3,x2⟩=R:=⟨_,rfl⟩
 have HJ:=lH (show (Lib.join ([x0,t5,t2].map (·.data.toList)) [32]).length≤140737488355328 by
  have e:(⟨(Lib.join ([x0,t5,t2].map (·.data.toList)) [32]).toArray⟩:ByteArray).size=(Lib.join ([x0,t5,t2].map (·.data.toList)) [32]).length:=by simp[ByteArray.size]
  rw[←e,jdG];have z:(⟨#[32]⟩:ByteArray).size=1:=rfl;rw[ByteArray.size_append,ByteArray.size_append,ByteArray.size_append,ByteArray.size_append];omega)
 have HJC:=lH (fun W:World=>jc3 (Tryz.strings_Join W.heap.size 0 3 [x0,t5,t2] ⟨#[32]⟩ (W.alloc (.cells #[.string x0,.string t5,.string t2] 9)) (fun j z hj=>(by rw[Nat.zero_add];exact je7 W x0 t5 t2 9 j z hj)) (by simp) (by simp) (by simp) HJ.out));rw[jdG,←HV0.out,hRES] at HJC;have HK0:=lH hk0;rw[hRES];clear ht2 ht5 hRES HJ HV0 f1 f7 g7 sL sI hi h hE hf hk0;obtain⟨c0,c1,c2⟩:=HC.out _ (Kept.refl _);unfold Zt;dsimp only;go_enter Tryz.func18,Tryz.ntmps18;go_wp2;try rw[hW0]
 clear hW0;go_region_held3 (fun W=>W.cell? ⟨w.heap.size,0,none⟩=some (.string x0)∧W.cell? ⟨w.heap.size,1,none⟩=some (v1)∧W.cell? ⟨w.heap.size,2,none⟩=some (.int .i64 x2))
  (first | exact HC.out _ (Kept.drew _) | exact HC.out _ K5.out | exact HC.out _ K2.out | exact HC.out _ (K2.out.trans (ja _ _)) | exact HC.out _ K10.out)
  (first | (go_at_call 44;refine(E5.out _ (Kept.drew _)).mono ?_;rintro e5 w5 ⟨rfl,k5⟩;have K5:=lH ((Kept.drew _).trans k5);clear k5)
         | (go_at_call 43;refine(E2.out _ K5.out).mono ?_;rintro e2 w2 ⟨rfl,k2⟩;have K2:=lH (K5.out.trans k2);clear k2)
         | (go_at_call 37;refine(HJC.out _).mono ?_;rintro e10 w10 ⟨rfl,k10⟩;have K10:=lH ((K2.out.trans (ja _ _)).trans k10);clear k10))
 go_wp2;go_ret;exact⟨rfl,HK0.out.trans K10.out⟩
theorem jjO (b:Nat) (x acc:List UInt8) (a:Option Addr) (len cap:Nat) (l:List Bd) (w0 w:World) (hE:Vec.EnvT w0) (hr:Je w0 a len l) (k0:Kept w0 w) (hI:Vec.IsB w0.heap.size b acc w) (hx:x.length≤10) (ha:acc.length≤10000000000) (hlen:len≤1000) (hm:∀n ∈ l,ZS n=true) (hsz:∀n ∈ l,(j5 n).size≤900000) :
 Calls Tryz.prog 17 #[.pointer (some ⟨b,0,none⟩),.string (bytes x),.slice a len cap,.func (.func 18) #[] #[]] w fun e w'=>e=.returned (.tuple #[])∧Vec.IsB w0.heap.size b (acc++jS x (l.map j5)) w'∧Kept w0 w':=by
 have hl:=hr.1;by_cases h0:len=0
 · subst h0;have HE:=lH (show acc++jS x (l.map j5)=acc by rw[List.eq_nil_of_length_eq_zero hl];simp[jS]);rw[HE.out];have HI:=lH hI;have HK:=lH k0;clear hr hl hI k0 HE hm hsz;go_enter Tryz.func17,Tryz.ntmps17;go_wp2;refine wp_loop_rounds 1 ?_;rw[rounds_succ];go_wp2;go_end0
   exact⟨rfl,HI.out,HK.out⟩
 · obtain⟨g,off,rfl⟩:=hr.form.resolve_left h0;have HR:=lH hr;have HL:=lH hl;have HI:=lH hI;have HK:=lH k0;have HM:=lH hm;have HSZ:=lH hsz;have HE:=lH hE;clear hr hl hI k0 hm hsz hE h0;go_enter Tryz.func17,Tryz.ntmps17;go_wp2;go_loopw [12] (fun i wr=>∃k:Nat,k≤len∧i=.int .i64 k∧Vec.IsB w0.heap.size b (acc++jS x ((l.take k).map j5)) wr∧(jS x ((l.take k).map j5)).length≤k*900020∧Kept w0 wr) (fun i _=>len-(intOf i).toNat)
   case atStart=>exact⟨0,Nat.zero_le _,rfl,by simpa [jS] using HI.out,by simp[jS],HK.out⟩
   case round =>
    obtain⟨k,hk,rfl,hI,hL,hK⟩:=hrel;have HII:=lH hI;have HLL:=lH hL;have HKK:=lH hK;by_cases hlt:k<len
    · obtain⟨n,a1,m1,c1,hn,hd,hb,p0,p1,p2,hat⟩:=(HR.out.kept hK).at_ hlt;have HAT:=lH hat;have HT:=lH (fun W (kk:Kept wr W)=>jiU n (.slice a1 m1 c1) W (HE.out.kept (HKK.out.trans kk)) (HAT.out.kept kk) (HM.out n (List.mem_of_getElem? hn)));have HS:=lH (HSZ.out n (List.mem_of_getElem? hn));have HTK:=lH (show (l.take (k+1)).map j5=(l.take k).map j5++[j5 n] by rw[List.take_add_one,hn];simp);have hkk:(k:Int)<(len:Int):=by omega
      have hkb:k<len:=hlt;clear hI hL hK hat hd hn;obtain⟨tx,htx⟩:∃t,j5 n=t:=⟨_,rfl⟩
      rw[htx] at HT HS HTK;clear htx;unfold Zt at HT;have s0:(bytes x).size≤10:=hx;have s1:(⟨#[32]⟩:ByteArray).size=1:=rfl;have s2:(⟨#[10]⟩:ByteArray).size=1:=rfl;have s3:=HS.out;have ad1:∀W,(Op.stringOp .add (bytes x) (⟨#[32]⟩:ByteArray)).run Tryz.prog W=.ok (.string (bytes x++(⟨#[32]⟩:ByteArray))) W:=fun W=>run_string_add_sum W _ _ (by omega);have ad2:∀W,(Op.stringOp .add (bytes x++(⟨#[32]⟩:ByteArray)) tx).run Tryz.prog W=.ok (.string (bytes x++(⟨#[32]⟩:ByteArray)++tx)) W:=fun W=>run_string_add_sum W _ _ (by rw[ByteArray.size_append];omega);have ad3:∀W,(Op.stringOp .add (bytes x++(⟨#[32]⟩:ByteArray)++tx) (⟨#[10]⟩:ByteArray)).run Tryz.prog W=.ok (.string (bytes x++(⟨#[32]⟩:ByteArray)++tx++(⟨#[10]⟩:ByteArray))) W:=fun W=>run_string_add_sum W _ _ (by rw[ByteArray.size_append,ByteArray.size_append];omega);clear s0 s1 s2 s3;go_wp2_with fail
      refine(HT.out _ (ja _ _)).mono ?_;rintro e w1 ⟨rfl,k1⟩;have K1:=lH (Kept.trans (ja _ _) k1);have I1:=lH (HII.out.kept K1.out);have KW:=lH (HKK.out.trans K1.out);clear k1;go_wp2_with fail
      refine(Vec.Zq w0.heap.size b _ _ _ I1.out (by
       have h1:=HS.out;have h2:=HLL.out;have h3:k*900020≤1000*900020:=Nat.mul_le_mul_right _ (by omega);rw[ByteArray.size_append,ByteArray.size_append,ByteArray.size_append,ji,List.length_append];have e1:(⟨#[32]⟩:ByteArray).size=1:=rfl;have e2:(⟨#[10]⟩:ByteArray).size=1:=rfl;omega) KW.out.size).mono ?_
      rintro e w2 ⟨rfl,i2,b2,-⟩;have K2:=lH (show Kept w0 w2 from Below.trans KW.out b2);have hcat:(bytes x++⟨#[32]⟩++tx++⟨#[10]⟩:ByteArray).data.toList=x++32::(tx.data.toList++[10]):=by
       simp[bytes,ByteArray.data_append,Array.toList_append]
      have hw1:jS x [tx]=x++32::(tx.data.toList++[10]):=rfl;have I2:=lH (show Vec.IsB w0.heap.size b (acc++jS x ((l.take (k+1)).map j5)) w2 by
       rw[HTK.out,YE,hw1,←hcat,←List.append_assoc];exact i2)
      have L2:=lH (show (jS x ((l.take (k+1)).map j5)).length≤(k+1)*900020 by
       rw[HTK.out,YE,hw1];have h1:=HS.out;have h2:=HLL.out;have h4:tx.data.toList.length=tx.size:=by rw[Array.length_toList,ByteArray.size_data]
       simp only[List.length_append,List.length_cons,List.length_nil,h4,Nat.add_mul];omega)
      clear i2 b2 hcat hw1;go_wp2;go_roundw
      case rel=>exact⟨k+1,by omega,by go_num,I2.out,L2.out,K2.out⟩
      case measure=>simp[intOf];omega
    · have hk':k=len:=by omega
      subst hk';have hlt':¬(k:Int)<(k:Int):=by omega
      have HA:=lH (show l.take k=l by rw[List.take_of_length_le (by rw[HL.out];exact Nat.le_refl _)]);have HF:=lH (show Vec.IsB w0.heap.size b (acc++jS x (l.map j5)) wr by have:=HII.out;rw[HA.out] at this;exact this);go_wp2;go_end0
      exact⟨rfl,HF.out,HKK.out⟩
def qU (s:Clu):List UInt8:=jS [110,111,100,101] (s.nodes.map za)++(jS [112,111,100] (s.pods.map jY)++jS [98,117,100,103,101,116] (s.buds.map j5))
structure jgQ (s:Clu):Prop where
 n:∀n ∈ s.nodes,jd2 n∧(za n).size≤900000
 p:∀n ∈ s.pods,Ji n=true∧(jY n).size≤900000
 b:∀n ∈ s.buds,ZS n=true∧(j5 n).size≤900000
 nl:s.nodes.length≤1000
 pl:s.pods.length≤1000
 bl:s.buds.length≤1000
theorem jbR (x:List UInt8) (hx:x.length≤10):∀(l:List ByteArray),(∀t ∈ l,t.size≤900000)→(jS x l).length≤l.length*900020
 | [],_=>by simp[jS]
 | t::r,h=>by
  have h1:=h t (by simp);have h2:=jbR x hx r fun u hu=>h u (by simp[hu]);have h4:t.data.toList.length=t.size:=by rw[Array.length_toList,ByteArray.size_data]
  simp only[jS,List.length_append,List.length_cons,h4,Nat.add_mul];omega
theorem jdo (v:Value) (s:Clu) (w:World) (hE:Vec.EnvT w) (h:Zl w v s) (hm:jgQ s):Calls Tryz.prog 7 #[v] w (Say (.string (bytes (qU s))) w):=by
 obtain⟨v1,v2,v3,rfl,⟨a1,p1,rfl,_,_,hn⟩,⟨a2,p2,rfl,_,_,hp⟩,⟨a3,p3,rfl,_,_,hb⟩⟩:=h;obtain⟨W0,hW0⟩:∃W,w.alloc (.cells #[.slice a1 s.nodes.length p1,.slice a2 s.pods.length p2,.slice a3 s.buds.length p3] 26)=W:=⟨_,rfl⟩
 have hk0:Kept w W0:=by rw[←hW0];exact ja _ _
 have hs0:W0.heap.size=w.heap.size+1:=by rw[←hW0];simp
 have HC:=lH (show jf w.heap.size [.slice a1 s.nodes.length p1,.slice a2 s.pods.length p2,.slice a3 s.buds.length p3] W0 from jg w (.slice a1 s.nodes.length p1) [.slice a2 s.pods.length p2,.slice a3 s.buds.length p3] 26 W0 (by rw[hW0];exact Kept.refl _));have HN:=lH (hn.kept hk0);have HP:=lH (hp.kept hk0);have HB:=lH (hb.kept hk0);have HM:=lH hm;have HE:=lH (hE.kept hk0);have HK0:=lH hk0;have hl1:=jbR [110,111,100,101] (by decide) (s.nodes.map za) (by intro t ht;obtain⟨n,h1,rfl⟩:=List.mem_map.1 ht;exact(hm.n n h1).2);have hl2:=jbR [112,111,100] (by decide) (s.pods.map jY) (by intro t ht;obtain⟨n,h1,rfl⟩:=List.mem_map.1 ht;exact(hm.p n h1).2);rw[List.length_map] at hl1 hl2;have HL1:=lH (Nat.le_trans hl1 (Nat.mul_le_mul_right _ hm.nl));have HL2:=lH (Nat.le_trans hl2 (Nat.mul_le_mul_right _ hm.pl));have HI0:=lH (show Vec.IsB W0.heap.size (w.heap.size+1) [] (W0.alloc (.cells #[.pointer none,.slice none 0 0] 54)) by rw[hs0];have:=Lib.fresh_isBuilder 54 5 W0;rw[hs0] at this;exact this);have c0:=(HC.out.kept (ja W0 (.cells #[.pointer none,.slice none 0 0] 54))).at_ 0 _ rfl;clear hn hp hb hm hE hk0 hl1 hl2;go_enter Tryz.func7,Tryz.ntmps7;go_wp2_with fail
 try rw[hW0]
 clear hW0 c0;refine(jk9 (w.heap.size+1) [110,111,100,101] [] a1 _ p1 s.nodes W0 _ HE.out HN.out (ja _ _) HI0.out (by decide) (by simp) HM.out.nl (fun n h=>(HM.out.n n h).1) (fun n h=>(HM.out.n n h).2)).mono ?_;rintro e w1 ⟨rfl,i1,k1⟩;have I1:=lH i1;have K1:=lH k1;have c1:=(HC.out.kept k1).at_ 1 _ rfl;clear i1 k1;go_wp2_with fail
 refine(jka (w.heap.size+1) [112,111,100] _ a2 _ p2 s.pods W0 _ HE.out HP.out K1.out I1.out (by decide) (by have:=HL1.out;simp;omega) HM.out.pl (fun n h=>(HM.out.p n h).1) (fun n h=>(HM.out.p n h).2)).mono ?_;rintro e w2 ⟨rfl,i2,k2⟩;have I2:=lH i2;have K2:=lH k2;have c2:=(HC.out.kept k2).at_ 2 _ rfl;clear i2 k2 c1;go_wp2_with fail
 refine(jjO (w.heap.size+1) [98,117,100,103,101,116] _ a3 _ p3 s.buds W0 _ HE.out HB.out K2.out I2.out (by decide) (by have:=HL1.out;have:=HL2.out;simp;omega) HM.out.bl (fun n h=>(HM.out.b n h).1) (fun n h=>(HM.out.b n h).2)).mono ?_;rintro e w3 ⟨rfl,i3,k3⟩;have I3:=lH (show Vec.IsB W0.heap.size (w.heap.size+1) (qU s) w3 by unfold qU;simpa using i3);have K3:=lH k3;clear i3 k3 c2;go_wp2_with fail
 refine(Tryz.Builder_String_any W0.heap.size (w.heap.size+1) (qU s) _ I3.out K3.out.size).mono ?_;rintro e w4 ⟨rfl,hb1⟩;have HB1:=lH hb1;clear hb1;go_wp2;go_ret;exact⟨rfl,HK0.out.trans (Below.trans K3.out HB1.out)⟩
end Go.Proofs.YthmddloeggdohaaGreatDoor
namespace Go.Proofs.YthmddloeggdohaaGreatDoor.Vec
open Go.RowKit Go.Proofs.YthmddloeggdohaaGreatDoor
theorem jkw:∀d,d<10→zs (UInt8.ofNat (48+d))=true∧(UInt8.ofNat (48+d)).toNat-48=d:=by decide
theorem jnk {u:Nat} (h:¬u<10):Lib.decDigits u=Lib.decDigits (u / 10)++[UInt8.ofNat (48+u % 10)]:=by rw[Lib.decDigits,dif_neg h]
theorem jeo:∀(n u:Nat),u≤n→(Lib.decDigits u).all zs=true∧valL (Lib.decDigits u)=u∧∃c t,Lib.decDigits u=c::t∧(c=48→u=0)
 | n,u,h=>by
  by_cases h10:u<10
  · rw[Lib.decDigits,dif_pos h10];obtain⟨d1,d2⟩:=jkw u h10;refine⟨by rw[List.all_cons,d1];rfl,?_,_,[],rfl,?_⟩
    · show 0*10+((UInt8.ofNat (48+u)).toNat-48)=u;omega
    · intro e;rw[e] at d2;have:(48:UInt8).toNat-48=0:=by decide
      omega
  · obtain⟨n',rfl⟩:∃m,n=m+1:=⟨n-1,by omega⟩
    obtain⟨i1,i2,c,t,i3,i4⟩:=jeo n' (u / 10) (by omega);obtain⟨d1,d2⟩:=jkw (u % 10) (Nat.mod_lt _ (by decide));rw[jnk h10];refine⟨by rw[List.all_append,i1,List.all_cons,d1];rfl,?_,c,t++[_],by rw[i3];rfl,fun e=>by have:=i4 e;omega⟩;show J9 0 (_++[_])=u;rw[jby,d2];have:J9 0 (Lib.decDigits (u / 10))=u / 10:=i2;omega
theorem jk8 (u:Nat):zT (Lib.decDigits u)=true∧valL (Lib.decDigits u)=u:=by
 obtain⟨h1,h2,c,t,h3,h4⟩:=jeo u u (Nat.le_refl _);refine⟨?_,h2⟩;rw[h3] at h1 ⊢;rw[ZN,h1,Bool.and_true];by_cases e:c=48
 · have hu:=h4 e;subst hu;have:Lib.decDigits 0=[48]:=by rw[Lib.decDigits,dif_pos (by decide)];rfl
   rw[this] at h3;injection h3 with _ h5;rw[←h5];simp
 · have:(c==48)=false:=by simpa using e
   rw[this];rfl
theorem jax {u:Nat} {b:UInt8} (h:b ∈ Lib.decDigits u):zs b=true:=List.all_eq_true.1 (jeo u u (Nat.le_refl _)).1 b h
def partOf (x:ByteArray×Int):List UInt8:=x.1.data.toList++61::Lib.itoa x.2
theorem jnI {x:ByteArray} (h:isName x=true):(61:UInt8) ∉ x.data.toList:=fun e=>absurd (Ya h _ e) (by decide)
theorem Y9 {x:ByteArray×Int} (hn:isName x.1=true) (h0:0<x.2):j3 (partOf x)=x∧zT (jB (partOf x))=true∧valL (jB (partOf x))=x.2.toNat∧(44:UInt8) ∉ partOf x:=by
 obtain⟨nm,q⟩:=x;dsimp only at hn h0;obtain⟨u,rfl⟩:∃u:Nat,q=(u:Int):=⟨q.toNat,by omega⟩
 have hc:Lib.cut (partOf (nm,(u:Int))) [61]=(nm.data.toList,Lib.itoa (u:Int),true):=JM _ (jnI hn);have hi:Lib.itoa (u:Int)=Lib.decDigits u:=by unfold Lib.itoa;rw[if_neg (by omega)];rfl
 have hnum:jB (partOf (nm,(u:Int)))=Lib.decDigits u:=by unfold jB;rw[hc,←hi]
 have hnam:nameOf (partOf (nm,(u:Int)))=nm.data.toList:=by unfold nameOf;rw[hc]
 obtain⟨d1,d2⟩:=jk8 u;refine⟨?_,by rw[hnum];exact d1,by rw[hnum,d2];simp,?_⟩
 · unfold j3;rw[hnum,hnam,d2,jZ]
 · intro e;unfold partOf at e;rcases List.mem_append.1 e with e | e
   · exact(Zy hn).2.2 e
   · rcases List.mem_cons.1 e with e | e
     · exact absurd e (by decide)
     · rw[hi] at e;exact absurd (jax e) (by decide)
theorem Z5 {l:V} (h:jm l=0):∀x ∈ l,isName x.1=true∧0<x.2:=by
 have h2:jG none l=0:=by
  unfold jm at h;split at h
  · cases h
  · exact h
 have key:∀(l:V) (p:Option ByteArray),jG p l=0→∀x ∈ l,isName x.1=true∧0<x.2:=by
  intro l
  induction l with
  | nil=>intro p _ x hx;cases hx
  | cons y t ih =>
   intro p hp x hx;rw[jG] at hp;by_cases c1:isName y.1=false
   · rw[if_pos c1] at hp;cases hp
   · rw[if_neg c1] at hp;by_cases c2:y.2≤0
     · rw[if_pos c2] at hp;cases hp
     · rw[if_neg c2] at hp;by_cases c3:jI p y.1=true
       · rw[if_pos c3] at hp;cases hp
       · rw[if_neg c3] at hp;rcases List.mem_cons.1 hx with rfl | hx
         · exact⟨by simpa using c1,by omega⟩
         · exact ih _ hp x hx
 exact key l none h2
theorem jiV {l:V} (h:jm l=0):(l.map partOf).map j3=l:=by
 have hp:=Z5 h;rw[List.map_map];refine(List.map_congr_left fun x hx=>?_).trans (List.map_id l);exact(Y9 (hp x hx).1 (hp x hx).2).1
theorem je3 {l:V} (h:jm l=0) (h0:l≠[]):j7 l=Lib.join (l.map partOf) [44]:=by
 have hp:=Z5 h;have hm:=jiV h;have hd:∀p ∈ l.map partOf,zT (jB p)=true:=by
  intro p hx;obtain⟨x,hxl,rfl⟩:=List.mem_map.1 hx;exact(Y9 (hp x hxl).1 (hp x hxl).2).2.1
 unfold j7;rw[if_neg h0]
 cases l with
 | nil=>exact absurd rfl h0
 | cons x t =>
  have:=(X9 (t.map partOf) (fun p hx=>hd p (List.mem_cons_of_mem _ hx)) (partOf x) (hd _ (List.mem_cons_self ..))).1;rw[←List.map_cons] at this;rw[hm] at this;exact this
theorem YA {l:V} (h:jm l=0) (hf:zp l):Z0 (j7 l)=(0,l):=by
 by_cases h0:l=[]
 · subst h0;rfl
 · have hp:=Z5 h;have hl:=YI h;have hm:(l.map partOf).map j3=l:=by
    rw[List.map_map];refine(List.map_congr_left fun x hx=>?_).trans (List.map_id l);exact(Y9 (hp x hx).1 (hp x hx).2).1
   have hd:∀p ∈ l.map partOf,zT (jB p)=true:=by
    intro p hx;obtain⟨x,hxl,rfl⟩:=List.mem_map.1 hx;exact(Y9 (hp x hxl).1 (hp x hxl).2).2.1
   have hc:∀p ∈ l.map partOf,(44:UInt8) ∉ p:=by
    intro p hx;obtain⟨x,hxl,rfl⟩:=List.mem_map.1 hx;exact(Y9 (hp x hxl).1 (hp x hxl).2).2.2.2
   have ht:j7 l=Lib.join (l.map partOf) [44]:=by
    unfold j7;rw[if_neg h0]
    cases l with
    | nil=>exact absurd rfl h0
    | cons x t =>
     have:=(X9 (t.map partOf) (fun p hx=>hd p (List.mem_cons_of_mem _ hx)) (partOf x) (hd _ (List.mem_cons_self ..))).1;rw[←List.map_cons] at this;rw[hm] at this;exact this
   have hps:partsOf (j7 l)=l.map partOf:=by rw[ht];exact jaN _ (by simpa using h0) hc
   have h45:j7 l≠[45]:=by
    intro e;rw[e] at hps
    cases l with
    | nil=>exact h0 rfl
    | cons x t =>
     have e2:partsOf [45]=[[45]]:=rfl;rw[e2,List.map_cons] at hps;injection hps with e3 _;have:(61:UInt8) ∈ ([45]:List UInt8):=by rw[e3];unfold partOf;simp
     exact absurd this (by decide)
   have hv:∀x ∈ l,x.2≤9223372036854775807:=fun x hx=>by
    obtain⟨i,hi⟩:=List.getElem?_of_mem hx;have hlt:=(List.getElem?_eq_some_iff.1 hi).1;have:=(hf i hlt).2.2;unfold qn at this;rw[List.getD,hi] at this;exact this
   have hfb:XM (l.map partOf)=false:=by
    unfold XM;rw[List.any_eq_false];intro p hx;rw[hd p hx];decide
   have hob:XH (l.map partOf)=false:=by
    unfold XH;rw[List.any_eq_false];intro p hx;obtain⟨x,hxl,rfl⟩:=List.mem_map.1 hx;rw[(Y9 (hp x hxl).1 (hp x hxl).2).2.2.1];have:=hv x hxl;have:=(hp x hxl).2;simp;omega
   have htk:((l.map partOf).map j3).take 9=l:=by rw[hm];exact List.take_of_length_le (by omega)
   unfold Z0;rw[if_neg h45];unfold Ju;rw[hps,hfb,if_neg (by decide),hob,if_neg (by decide),htk,h,if_neg (fun g=>g rfl)]
end Go.Proofs.YthmddloeggdohaaGreatDoor.Vec
namespace Go.Proofs.YthmddloeggdohaaGreatDoor
open Go.RowKit
theorem jaR {c:UInt8}:∀{p:List UInt8},c ∉ p→je c p=[p]
 | [],_=>rfl
 | b::t,h=>by
  unfold je;rw[if_neg (by intro e;exact h (by simp[e])),jaR (p:=t) (by intro e;exact h (by simp[e]))]
theorem Zi {c:UInt8}:∀(x:List UInt8) (y:List UInt8),c ∉ x→je c (x++c::y)=x::je c y
 | [],y,_=>by
  rw[List.nil_append];show (if c=c then []::je c y else _)=_;rw[if_pos rfl]
 | b::t,y,h=>by
  rw[List.cons_append];show (if b=c then []::je c (t++c::y) else match je c (t++c::y) with
   | []=>[[b]]
   | p::ps=>(b::p)::ps)=(b::t)::je c y
  rw[if_neg (by intro e;exact h (by simp[e])),Zi t y (by intro e;exact h (by simp[e]))]
theorem mem_join {b:UInt8}:∀{ts:List (List UInt8)},b ∈ Lib.join ts [44]→b=44∨∃t ∈ ts,b ∈ t
 | [],h=>by
  have e:Lib.join [] [44]=([]:List UInt8):=rfl;rw[e] at h;cases h
 | [p],h=>by rw[Lib.join_one] at h;exact .inr ⟨p,by simp,h⟩
 | p::q::t,h=>by
  rw[qi] at h;rcases List.mem_append.1 h with h | h
  · rcases List.mem_append.1 h with h | h
    · exact .inr ⟨p,by simp,h⟩
    · exact .inl (by simpa using h)
  · rcases mem_join h with h | ⟨z,hz,h⟩
    · exact .inl h
    · exact .inr ⟨z,by simp[hz],h⟩
theorem ZJ (ts:List ByteArray):(zZ ts).data.toList=Lib.join (ts.map fun x=>x.data.toList) [44]:=by
 unfold zZ;rfl
theorem Jk {x:ByteArray} (h:isName x=true):(32:UInt8) ∉ x.data.toList:=fun e=>absurd (Ya h _ e) (by decide)
theorem jld {l:Vec.V} (h:Vec.jm l=0):(32:UInt8) ∉ Vec.j7 l:=by
 intro e;by_cases h0:l=[]
 · subst h0;exact absurd e (by decide)
 · rw[Vec.je3 h h0] at e;rcases mem_join e with e | ⟨p,hp,e⟩
   · exact absurd e (by decide)
   · obtain⟨x,hx,rfl⟩:=List.mem_map.1 hp;have g:=Vec.Z5 h x hx;unfold Vec.partOf at e;rcases List.mem_append.1 e with e | e
     · exact Jk g.1 e
     · rcases List.mem_cons.1 e with e | e
       · exact absurd e (by decide)
       · have hi:Lib.itoa x.2=Lib.decDigits x.2.toNat:=by
          have:=g.2;unfold Lib.itoa;rw[if_neg (by omega)]
         rw[hi] at e;exact absurd (Vec.jax e) (by decide)
theorem jjQ {l:PL} (h:zE l=0):(32:UInt8) ∉ (zr l).data.toList:=by
 intro e;unfold zr at e;by_cases h0:l=[]
 · rw[if_pos h0] at e;exact absurd e (by decide)
 · rw[if_neg h0,ZJ,List.map_map] at e;rcases mem_join e with e | ⟨p,hp,e⟩
   · exact absurd e (by decide)
   · obtain⟨x,hx,rfl⟩:=List.mem_map.1 hp;have g:=jbY h x hx;have e':(32:UInt8) ∈ (zR x).data.toList:=e;unfold zR at e';rw[Zu] at e';rcases List.mem_append.1 e' with e | e
     · exact Jk g.1 e
     · rcases List.mem_cons.1 e with e | e
       · exact absurd e (by decide)
       · exact Jk g.2 e
theorem jnU {l:NL} (h:Jg l=0):(32:UInt8) ∉ (zS l).data.toList:=by
 intro e;unfold zS at e;by_cases h0:l=[]
 · rw[if_pos h0] at e;exact absurd e (by decide)
 · rw[if_neg h0,ZJ,List.map_map] at e;rcases mem_join e with e | ⟨p,hp,e⟩
   · exact absurd e (by decide)
   · obtain⟨x,hx,rfl⟩:=List.mem_map.1 hp;have g:=jaO h x hx;have e':(32:UInt8) ∈ (zh x).data.toList:=e;have key:(32:UInt8) ∉ (x.1++⟨#[58]⟩++x.2.1).data.toList:=by
      intro e;rw[Zu] at e;rcases List.mem_append.1 e with e | e
      · exact Jk g.1 e
      · rcases List.mem_cons.1 e with e | e
        · exact absurd e (by decide)
        · exact Jk g.2 e
     unfold zh at e';by_cases hb:x.2.2=true
     · rw[if_pos hb,ByteArray.data_append,Array.toList_append] at e';rcases List.mem_append.1 e' with e | e
       · exact key e
       · exact absurd e (by decide)
     · rw[if_neg hb] at e';exact key e'
theorem Z5 {n:Nod} (h:jU n=0):isName n.name=true∧Vec.jm n.cap=0∧zE n.labels=0∧Jg n.taints=0:=by
 unfold jU at h;by_cases h1:isName n.name=false
 · rw[if_pos h1] at h;cases h
 · rw[if_neg h1] at h;by_cases h2:Vec.jm n.cap=0
   · rw[if_neg (fun g=>g h2)] at h;by_cases h3:zE n.labels=0
     · rw[if_neg (fun g=>g h3)] at h;exact⟨by simpa using h1,h2,h3,h⟩
     · rw[if_pos h3] at h;exact absurd h h3
   · rw[if_pos h2] at h;exact absurd h h2
theorem jkP (c:Bool):XY (YX c).data.toList=true∧((YX c).data.toList==ZZ)=c∧(32:UInt8) ∉ (YX c).data.toList:=by
 cases c<;>decide
theorem jdi {n:Nod} (h:jU n=0) (hf:Vec.zp n.cap):zj (za n).data.toList=(0,n):=by
 obtain⟨g1,g2,g3,g4⟩:=Z5 h;obtain⟨t1,t2,t3⟩:=jkP n.cordon;have hd:(za n).data.toList=n.name.data.toList++32::(Vec.j7 n.cap++32::((zr n.labels).data.toList++32::((zS n.taints).data.toList++32::(YX n.cordon).data.toList))):=by
  unfold za;simp[ByteArray.data_append,bytes]
 have hp:je 32 (za n).data.toList=[n.name.data.toList,Vec.j7 n.cap,(zr n.labels).data.toList,(zS n.taints).data.toList,(YX n.cordon).data.toList]:=by
  rw[hd,Zi _ _ (Jk g1),Zi _ _ (jld g2),Zi _ _ (jjQ g3),Zi _ _ (jnU g4),jaR t3]
 have hm:qv n.name.data.toList (Vec.j7 n.cap) (zr n.labels).data.toList (zS n.taints).data.toList (YX n.cordon).data.toList=n:=by
  unfold qv;rw[Vec.YA g2 hf,YA g3,jdq g4,t2,jZ]
 unfold zj;rw[jl3 hp t1];show jb5 _ _ _ _ _=_;unfold jb5;rw[hm,Vec.YA g2 hf,YA g3,jdq g4,h,if_neg (fun g=>g rfl),if_neg (fun g=>g rfl),if_neg (fun g=>g rfl),if_neg (fun g=>g rfl)]
end Go.Proofs.YthmddloeggdohaaGreatDoor
