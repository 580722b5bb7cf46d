/- C. -/
import Derived.Test.YtnfojaidmnccoaaGreatDoorG0
import Derived.Test.YtnfojaidmnccoaaGreatDoorG1
import Derived.Test.YtnfojaidmnccoaaGreatDoorRows
import Derived.Stop.LaidErr
import Derived.Stop.Joined
import Derived.MakeChecks
import Derived.Deep.CutRange
import Derived.Handy
import Derived.Shelf.SlSortCmp.QuietGrown
set_option linter.unusedVariables false
set_option maxRecDepth 100000
set_option maxHeartbeats 25600000
namespace Go.Proofs.YtnfojaidmnccoaaGreatDoor.Vec
open Go.ChangeShapes Go.WideShapes Go.ChangeAt Go.RowKit Go.Deep
theorem jaG:Tryz.prog.cellsOf 204=1:=by kernel_rfl
theorem jaP:Tryz.prog.cellsOf 9=1:=by kernel_rfl
theorem star : "*" ++ "errors.errorString" = "*errors.errorString":=by decide
theorem qG (u:TypeId) (h:Tryz.prog.typeName? 3 u=some "*errors.errorString"):u=202 :=
 typeName_ptr_named (nm := "errors.errorString") (by rw[star];kernel_rfl) (by kernel_rfl) (by decide) u (by rw[star];exact h)
theorem qT:(Rows.laid_internal_strconv_uint64pow10:DataW Unit)=Lib.tabData .u64 Lib.pow10Tab:=by kernel_rfl
theorem ZS:Tryz.prog.globalNamed "strconv.ErrRange"=some 9:=by kernel_rfl
theorem jaI {W:World} (hL:laidMetH Tryz.prog Rows.ladderAnyRow.laid W) (hS:W.ShapedOpen Tryz.prog):jR W:=by
 rw[MakeChecks.laidMetH_plain _ _ _ (by kernel_rfl)] at hL;have h3:laidMet Tryz.prog (("internal/strconv.uint64pow10",Rows.laid_internal_strconv_uint64pow10)::_) W:=hL.tail.tail;rw[qT] at h3;refine⟨⟨?_,?_⟩,?_⟩
 · exact cell_of_shapedOpen_int (zero:=#[.int .i64 0]) (t:=3) hS (of_decide_eq_true (by kernel_rfl)) (by kernel_rfl) rfl (by kernel_rfl) (by kernel_rfl) Tryz.underlying3
 · have h5:laidMet Tryz.prog (("strconv.ErrRange",Rows.laid_strconv_ErrRange)::_) W:=hL.tail.tail.tail.tail;unfold Rows.laid_strconv_ErrRange at h5;obtain⟨a,s,hv,-⟩:=laid_sentinel h5 ZS (by kernel_rfl) Tryz.underlying108 qG Tryz.underlying202 Tryz.underlying204 rfl rfl Tryz.underlying9 jaG jaP;exact⟨_,by simpa using World.var?_cell ZS hv 0,.inr ⟨_,_,rfl⟩⟩
 · exact Lib.tabIs_of_head Xb (by kernel_rfl) Tryz.underlying170 Tryz.underlying138 (by kernel_rfl) (by kernel_rfl) h3
end Go.Proofs.YtnfojaidmnccoaaGreatDoor.Vec
namespace Go.Proofs.YtnfojaidmnccoaaGreatDoor
open Go.RowKit
def jb (c:UInt8):List UInt8→List (List UInt8)
 | []=>[[]]
 | b::t=>if b=c then []::jb c t else match jb c t with
  | []=>[[b]]
  | p::ps=>(b::p)::ps
theorem Zp (c:UInt8) (l:List UInt8):jb c l≠[]:=by
 cases l with
 | nil=>simp[jb]
 | cons b t=>unfold jb;split;simp;split<;>simp
def splitB (c:UInt8) (s:List UInt8):List ByteArray:=(jb c s).map bytes
theorem Zr (c:UInt8):∀s:List UInt8,(splitB c s).length≤s.length+1
 | []=>by simp[splitB,jb]
 | b::t=>by
  have ih:=Zr c t;unfold splitB at ih ⊢;rw[jb];rw[List.length_map] at ih ⊢;split
  · simp;omega
  · cases h:jb c t with
    | nil=>simp
    | cons p ps=>rw[h] at ih;simp at ih ⊢;omega
theorem jC (c:UInt8):∀(s:List UInt8) (p:List UInt8),p ∈ jb c s→p.length≤s.length
 | [],p,h=>by
  have:p=[]:=by simpa [jb] using h
  subst this;simp
 | b::t,p,h=>by
  rw[jb] at h;split at h
  · rcases List.mem_cons.1 h with rfl | h
    · simp
    · have:=jC c t p h;simp;omega
  · cases hp:jb c t with
    | nil=>exact absurd hp (Zp c t)
    | cons q qs =>
     rw[hp] at h;rcases List.mem_cons.1 h with rfl | h
     · have:=jC c t q (by rw[hp];simp);simp;omega
     · have:=jC c t p (by rw[hp];simp[h]);simp;omega
theorem index_one (c b:UInt8) (t:List UInt8):Lib.index (b::t) [c]=if b=c then 0 else if Lib.index t [c]==-1 then -1 else Lib.index t [c]+1:=by
 rw[Lib.index];by_cases h:b=c
 · subst h;rw[if_pos rfl,if_pos (by simp[List.isPrefixOf])]
 · rw[if_neg h,if_neg (by simp[List.isPrefixOf];exact fun e=>h e.symm)]
theorem jaz (c:UInt8):Lib.cut [] [c]=([],[],false):=by unfold Lib.cut;simp[Lib.index]
theorem qN (c b:UInt8) (t:List UInt8):Lib.cut (b::t) [c]=if b=c then ([],t,true) else (b::(Lib.cut t [c]).1,(Lib.cut t [c]).2.1,(Lib.cut t [c]).2.2):=by
 have hge:=Lib.index_ge t [c];unfold Lib.cut;rw[index_one];by_cases h:b=c
 · subst h;simp
 · rw[if_neg h,if_neg h];by_cases h1:Lib.index t [c]=-1
   · rw[h1];simp
   · have h2:0≤Lib.index t [c]:=by omega
     obtain⟨i,hi⟩:=Int.eq_ofNat_of_zero_le h2;rw[hi];have e1:((i:Int)==-1)=false:=beq_eq_false_iff_ne.2 (by omega);rw[e1];have e2:(0:Int)≤(i:Int)+1:=by omega
     have e3:((i:Int)+1).toNat=i+1:=by omega
     simp[e2,e3]
theorem JM (c:UInt8):∀p:List UInt8,jb c p=if (Lib.cut p [c]).2.2=true then (Lib.cut p [c]).1::jb c (Lib.cut p [c]).2.1 else [p]
 | []=>by rw[jaz];rfl
 | b::t=>by
  rw[jb,qN];by_cases h:b=c
  · rw[if_pos h,if_pos h];rfl
  · rw[if_neg h,if_neg h,JM c t];dsimp only;by_cases h1:(Lib.cut t [c]).2.2=true
    · rw[if_pos h1,if_pos h1]
    · rw[if_neg h1,if_neg h1]
theorem Y8 (c:UInt8) (s:List UInt8):((Lib.cut s [c]).2.2=false→Lib.index s [c]=-1)∧((Lib.cut s [c]).2.2=true→¬Lib.index s [c]=-1∧s.take ((Lib.index s [c]).toNat+0)=(Lib.cut s [c]).1∧s.drop ((Lib.index s [c]).toNat+[c].length)=(Lib.cut s [c]).2.1):=by
 have hge:=Lib.index_ge s [c];unfold Lib.cut;by_cases h:0≤Lib.index s [c]
 · rw[if_pos h];exact⟨(fun e=>by cases e),fun _=>⟨by omega,rfl,rfl⟩⟩
 · rw[if_neg h];exact⟨(fun _=>by omega),(fun e=>by cases e)⟩
theorem Jo (c:UInt8) (s:List UInt8) (h:(Lib.cut s [c]).2.2=true):jb c s=(Lib.cut s [c]).1::jb c (Lib.cut s [c]).2.1:=by rw[JM,if_pos h]
theorem zW (c:UInt8) (s:List UInt8) (h:(Lib.cut s [c]).2.2=false):jb c s=[s]:=by rw[JM,if_neg (by rw[h];decide)]
theorem X5 (c:UInt8) (s:List UInt8):1≤(jb c s).length:=List.length_pos_iff.2 (Zp c s)
theorem zi (c:UInt8):∀(k:Nat) (s:List UInt8),((jb c s).length≤k+1→Lib.splitK [c] 0 k s=jb c s)∧(k+1<(jb c s).length→(Lib.splitK [c] 0 k s).length=k+1)
 | 0,s=>by
  rw[Lib.splitK];refine⟨fun h=>?_,fun _=>rfl⟩
  cases hf:(Lib.cut s [c]).2.2 with
  | false=>rw[zW c s hf]
  | true =>
   rw[Jo c s hf] at h;have:=X5 c (Lib.cut s [c]).2.1;rw[List.length_cons] at h;omega
 | k+1,s=>by
  rw[Lib.splitK];obtain⟨h1,h2⟩:=Y8 c s
  cases hf:(Lib.cut s [c]).2.2 with
  | false =>
   rw[if_pos (beq_iff_eq.2 (h1 hf)),zW c s hf];exact⟨fun _=>rfl,fun h=>absurd h (by simp)⟩
  | true =>
   obtain⟨e0,e1,e2⟩:=h2 hf;rw[if_neg (fun e=>e0 (beq_iff_eq.1 e)),e1,e2,Jo c s hf];obtain⟨i1,i2⟩:=zi c k (Lib.cut s [c]).2.1;exact⟨fun h=>by rw[i1 (by simpa using h)],fun h=>by simp;exact i2 (by simpa using h)⟩
theorem Yu (c:UInt8) (s:List UInt8):(jb c s).length≤s.length+1:=by
 have:=Zr c s;unfold splitB at this;rwa [List.length_map] at this
theorem YE (c:UInt8) (k:Nat) (s:List UInt8):((jb c s).length=k→Lib.splitB ⟨#[c]⟩ 0 (min (k+1) ((bytes s).size+1)-1) (bytes s)=(jb c s).map bytes) ∧
 ((jb c s).length≠k→(Lib.splitB ⟨#[c]⟩ 0 (min (k+1) ((bytes s).size+1)-1) (bytes s)).length≠k):=by
 have hd:=Lib.splitB_data ⟨#[c]⟩ 0 (min (k+1) ((bytes s).size+1)-1) (bytes s);have hb:(bytes s).data.toList=s:=by simp[bytes]
 rw[hb] at hd;have hp:=Yu c s;have hsz:(bytes s).size=s.length:=je s;rw[hsz] at hd ⊢;obtain⟨i1,i2⟩:=zi c (min (k+1) (s.length+1)-1) s;refine⟨fun h=>?_,fun h h5=>?_⟩
 · have e:=i1 (by omega);have hd':(Lib.splitB ⟨#[c]⟩ 0 (min (k+1) (s.length+1)-1) (bytes s)).map (·.data.toList)=jb c s:=hd.trans e;rw[←hd',List.map_map];have:(bytes ∘ fun x:ByteArray=>x.data.toList)=id:=by
    funext x;cases x;simp[bytes]
   rw[this,List.map_id]
 · have hl:=congrArg List.length hd;rw[List.length_map,h5] at hl;by_cases hle:(jb c s).length≤min (k+1) (s.length+1)-1+1
   · have e:=i1 hle;have:(Lib.splitK [c] 0 (min (k+1) (s.length+1)-1) s).length=k:=hl.symm;rw[e] at this;exact h this
   · have:=i2 (by omega);have h3:(Lib.splitK [c] 0 (min (k+1) (s.length+1)-1) s).length=k:=hl.symm;omega
def JS (c:UInt8) (k:Nat) (s:List UInt8) (w:World) (e:Ending) (w':World):Prop :=
 ((jb c s).length=k→∃g cap,e=.returned (.slice (some ⟨g,0,none⟩) k cap)∧w.heap.size≤g∧∀j p,(jb c s)[j]?=some p→w'.cell? ⟨g,j,none⟩=some (.string (bytes p))) ∧
 ((jb c s).length≠k→e=.panicked [jq 2])∧Kept w w'
theorem Xu (s:List UInt8) (w:World) (hE:Env w) (hs:s.length≤1000000) :
 Calls Tryz.prog 94 #[.string (bytes s),.string ⟨#[47]⟩,.int .i64 2] w (JS 47 2 s w):=by
 obtain⟨m,hm⟩:=hE.most;have Vc:=lH (Tryz.strings_SplitN (bytes s) ⟨#[47]⟩ 3 m w (by rw[je];omega) hm (by decide) (by decide) (by decide));obtain⟨h5,hn5⟩:=YE 47 2 s;obtain⟨L,hL⟩:=eX (Lib.splitB ⟨#[47]⟩ 0 (min 3 ((bytes s).size+1)-1) (bytes s))
 obtain⟨n,hn⟩:=eX (min 3 ((bytes s).size+1))
 rw[hL] at h5 hn5 Vc;rw[hn] at Vc;have hcap:L.length≤n:=by
  rw[←hL,←hn];have:=Lib.splitB_length_le ⟨#[47]⟩ 0 (min 3 ((bytes s).size+1)-1) (bytes s);omega
 by_cases hp:(jb 47 s).length=2
 · have hLp:=h5 hp;have HP:=lH hp;obtain⟨ps,hps⟩:=eX (jb 47 s)
   have UA:=lH hps;rw[hps] at hp hLp;have hl5:L.length=2:=by rw[hLp,List.length_map,hp]
   rw[hl5] at Vc;have HC:=lH (show ∀j p,ps[j]?=some p→(w.alloc (.cells (Lib.cellsOf L n) 9)).cell? ⟨w.heap.size,j,none⟩=some (.string (bytes p)) from fun j p hj=>by
    have hh:=w.alloc_heap_new (.cells (Lib.cellsOf L n) 9);have hj5:j<L.length:=by have:=(List.getElem?_eq_some_iff.1 hj).1;omega
    have hLj:L[j]?=some (bytes p):=by rw[hLp,List.getElem?_map,hj];rfl
    rw[Lib.cell_of_heap hh];show (Lib.cellsOf L n)[j]?=some (.string (bytes p));unfold Lib.cellsOf;rw[List.getElem?_toArray,List.getElem?_append_left (by rw[List.length_map];exact hj5),List.getElem?_map,hLj];rfl)
   have hcap5:2≤n:=by omega
   clear h5 hn5 hcap hE hm hL hn hLp hl5 hp hps;go_enter Tryz.func94,Tryz.ntmps94;go_wp2_with fail
   refine Vc.out.mono ?_;rintro e w1 ⟨rfl,rfl⟩;go_wp2;go_ret;exact⟨fun _=>⟨_,_,rfl,Nat.le_refl _,by rw[UA.out];exact HC.out⟩,fun h=>absurd HP.out h,ja _ _⟩
 · obtain⟨k,hk⟩:=eX (L.length)
   have hk5:k≠2:=by rw[←hk];exact hn5 hp
   rw[hk] at Vc;have HP:=lH hp;have hb:((k:Int) != 2)=true:=by simp;omega
   clear h5 hn5 hcap hp hE hm hL hn hk hk5;go_enter Tryz.func94,Tryz.ntmps94;go_wp2_with fail
   refine Vc.out.mono ?_;rintro e w1 ⟨rfl,rfl⟩;go_wp2;exact⟨rfl,⟨fun h=>absurd h HP.out,fun _=>rfl,ja _ _⟩⟩
theorem XB (s:List UInt8) (w:World) (hE:Env w) (hs:s.length≤1000000) :
 Calls Tryz.prog 94 #[.string (bytes s),.string ⟨#[58]⟩,.int .i64 3] w (JS 58 3 s w):=by
 obtain⟨m,hm⟩:=hE.most;have Vc:=lH (Tryz.strings_SplitN (bytes s) ⟨#[58]⟩ 4 m w (by rw[je];omega) hm (by decide) (by decide) (by decide));obtain⟨h5,hn5⟩:=YE 58 3 s;obtain⟨L,hL⟩:=eX (Lib.splitB ⟨#[58]⟩ 0 (min 4 ((bytes s).size+1)-1) (bytes s))
 obtain⟨n,hn⟩:=eX (min 4 ((bytes s).size+1))
 rw[hL] at h5 hn5 Vc;rw[hn] at Vc;have hcap:L.length≤n:=by
  rw[←hL,←hn];have:=Lib.splitB_length_le ⟨#[58]⟩ 0 (min 4 ((bytes s).size+1)-1) (bytes s);omega
 by_cases hp:(jb 58 s).length=3
 · have hLp:=h5 hp;have HP:=lH hp;obtain⟨ps,hps⟩:=eX (jb 58 s)
   have UA:=lH hps;rw[hps] at hp hLp;have hl5:L.length=3:=by rw[hLp,List.length_map,hp]
   rw[hl5] at Vc;have HC:=lH (show ∀j p,ps[j]?=some p→(w.alloc (.cells (Lib.cellsOf L n) 9)).cell? ⟨w.heap.size,j,none⟩=some (.string (bytes p)) from fun j p hj=>by
    have hh:=w.alloc_heap_new (.cells (Lib.cellsOf L n) 9);have hj5:j<L.length:=by have:=(List.getElem?_eq_some_iff.1 hj).1;omega
    have hLj:L[j]?=some (bytes p):=by rw[hLp,List.getElem?_map,hj];rfl
    rw[Lib.cell_of_heap hh];show (Lib.cellsOf L n)[j]?=some (.string (bytes p));unfold Lib.cellsOf;rw[List.getElem?_toArray,List.getElem?_append_left (by rw[List.length_map];exact hj5),List.getElem?_map,hLj];rfl)
   have hcap5:3≤n:=by omega
   clear h5 hn5 hcap hE hm hL hn hLp hl5 hp hps;go_enter Tryz.func94,Tryz.ntmps94;go_wp2_with fail
   refine Vc.out.mono ?_;rintro e w1 ⟨rfl,rfl⟩;go_wp2;go_ret;exact⟨fun _=>⟨_,_,rfl,Nat.le_refl _,by rw[UA.out];exact HC.out⟩,fun h=>absurd HP.out h,ja _ _⟩
 · obtain⟨k,hk⟩:=eX (L.length)
   have hk5:k≠3:=by rw[←hk];exact hn5 hp
   rw[hk] at Vc;have HP:=lH hp;have hb:((k:Int) != 3)=true:=by simp;omega
   clear h5 hn5 hcap hp hE hm hL hn hk hk5;go_enter Tryz.func94,Tryz.ntmps94;go_wp2_with fail
   refine Vc.out.mono ?_;rintro e w1 ⟨rfl,rfl⟩;go_wp2;exact⟨rfl,⟨fun h=>absurd h HP.out,fun _=>rfl,ja _ _⟩⟩
structure jn (q:Nat) (vs:List Value) (W:World):Prop where
 at_:∀i v,vs[i]?=some v→W.cell? ⟨q,i,none⟩=some v
 free:∀i,W.frozen? ⟨q,i,none⟩=false
theorem jn.block {q:Nat} {vs:List Value} {W W':World} (h:jn q vs W) (e:W'.heap[q]?=W.heap[q]?):jn q vs W' :=
 ⟨fun i v hv=>(World.cell?_of_block (a:=⟨q,i,none⟩) e).trans (h.at_ i v hv),fun i=>(World.frozen?_of_block (a:=⟨q,i,none⟩) e).trans (h.free i)⟩
theorem jn.at3 {q:Nat} {a b c:Value} {r9:List Value} {W:World} (h:jn q (a::b::c::r9) W):W.cell? ⟨q,0,none⟩=some a∧W.cell? ⟨q,1,none⟩=some b∧W.cell? ⟨q,2,none⟩=some c:=⟨h.at_ 0 _ rfl,h.at_ 1 _ rfl,h.at_ 2 _ rfl⟩
theorem jn.at5 {q:Nat} {a b c d e:Value} {r9:List Value} {W:World} (h:jn q (a::b::c::d::e::r9) W):W.cell? ⟨q,0,none⟩=some a∧W.cell? ⟨q,1,none⟩=some b∧W.cell? ⟨q,2,none⟩=some c∧W.cell? ⟨q,3,none⟩=some d∧W.cell? ⟨q,4,none⟩=some e:=⟨h.at_ 0 _ rfl,h.at_ 1 _ rfl,h.at_ 2 _ rfl,h.at_ 3 _ rfl,h.at_ 4 _ rfl⟩
theorem jn.lt {q:Nat} {v:Value} {vs:List Value} {W:World} (h:jn q (v::vs) W):q<W.heap.size:=World.block_lt_of_cell? _ _ (h.at_ 0 v rfl)
theorem jn.kept {q:Nat} {v:Value} {vs:List Value} {W W':World} (h:jn q (v::vs) W) (k:Kept W W'):jn q (v::vs) W':=h.block (k.block q h.lt)
theorem jo (w:World) (v:Value) (vs:List Value) (T:TypeId) (W:World) (k:Kept (w.alloc (.cells (v::vs).toArray T)) W):jn w.heap.size (v::vs) W:=by
 have hh:=w.alloc_heap_new (.cells (v::vs).toArray T);have h:jn w.heap.size (v::vs) (w.alloc (.cells (v::vs).toArray T)):=⟨fun i u hu=>by rw[Lib.cell_of_heap hh];simpa using hu,fun i=>by
  unfold World.frozen?;rw[show (w.alloc (.cells (v::vs).toArray T)).heap[(⟨w.heap.size,i,none⟩:Addr).block]?=some (.cells (v::vs).toArray T) from hh];simp⟩
 exact h.kept k
theorem jn.set {q j:Nat} {u:Value} {vs:List Value} {W:World} (h:jn q vs W) (hj:j<vs.length):jn q (vs.set j u) (W.setCell ⟨q,j,none⟩ u):=by
 refine⟨fun i v hv=>?_,fun i=>by rw[World.frozen?_setCell];exact h.free i⟩;by_cases e:j=i
 · subst e;have hv':v=u:=by rw[List.getElem?_set_self hj] at hv;exact(Option.some.inj hv).symm
   subst hv';exact World.cell?_setCell_same _ _ _ (h.at_ j _ (List.getElem?_eq_getElem hj))
 · rw[List.getElem?_set_ne e] at hv;rw[World.cell?_setCell_other _ _ _ _ (by simp)];exact h.at_ i v hv
theorem Ju (q:Nat):∀(vs:List Value) (o:Nat) (W:World),(W.setCells q o vs).heap.size=W.heap.size
 | [],_,_=>rfl
 | v::r,o,W=>by rw[World.setCells,Ju q r];simp[World.setCell]
theorem z6 (q:Nat):∀(vs:List Value) (o:Nat) (W:World) (b:Nat),b≠q→(W.setCells q o vs).heap[b]?=W.heap[b]?
 | [],_,_,_,_=>rfl
 | v::r,o,W,b,h=>by rw[World.setCells,z6 q r _ _ b h];exact Below.heap_setCell W ⟨q,o,none⟩ v b h
theorem zZ (q:Nat):∀(vs:List Value) (o:Nat) (W:World) (B:Nat) (w:World),B≤q→Below B w W→Below B w (W.setCells q o vs)
 | [],_,_,_,_,_,k=>k
 | v::r,o,W,B,w,h,k=>by rw[World.setCells];exact zZ q r _ _ B w h (k.setCell (p:=⟨q,o,none⟩) h _)
structure ja4 (q:Nat) (vs:List Value) (W W':World):Prop where
 cells:jn q vs W'
 size:W'.heap.size=W.heap.size
 far:∀b,b≠q→W'.heap[b]?=W.heap[b]?
 below:∀B w,B≤q→Below B w W→Below B w W'
theorem Jq {q:Nat} {us vs:List Value} {W:World} (h:jn q us W) (hl:us.length=vs.length):ja4 q vs W (W.setCells q 0 vs):=by
 refine⟨⟨fun i v hv=>?_,fun i=>by rw[World.frozen?_setCells];exact h.free i⟩,Ju q vs 0 W,fun b hb=>z6 q vs 0 W b hb,fun B w hB k=>zZ q vs 0 W B w hB k⟩;have hi:i<vs.length:=(List.getElem?_eq_some_iff.1 hv).1;have:=World.cell?_setCells_in q vs 0 W (fun j hj=>by rw[Nat.zero_add,h.at_ j _ (List.getElem?_eq_getElem (by omega))];rfl) i hi;rw[Nat.zero_add] at this;rw[this];obtain⟨_,e⟩:=List.getElem?_eq_some_iff.1 hv;rw[e]
abbrev RL:Type:=List (Int×Int×Int)
def I64 (x:Int):Prop:=-9223372036854775808≤x∧x≤9223372036854775807
theorem jat (a b c:Int) (u:Value) (h:u ∈ [Value.int .i64 a,Value.int .i64 b,Value.int .i64 c]):u.oneCell'=true:=by
 have e:u=Value.int .i64 a∨u=Value.int .i64 b∨u=Value.int .i64 c:=by simpa using h
 rcases e with e | e | e<;>rw[e]<;>rfl
def jw:Lay (Int×Int×Int):={ m:=3,cs:=fun x=>[.int .i64 x.1,.int .i64 x.2.1,.int .i64 x.2.2],fine:=fun x=>I64 x.1∧I64 x.2.1∧I64 x.2.2,len:=fun _=>rfl,one:=fun x=>jat x.1 x.2.1 x.2.2,pos:=by decide }
theorem jM.rung {w:World} {b off len:Nat} {l:RL} {k:Nat} (h:jM jw w (some ⟨b,off,none⟩) len l) (hk:k<len) :
 ∃u c p:Int,l[k]?=some (u,c,p)∧l.drop k=(u,c,p)::l.drop (k+1)∧b<w.heap.size∧(I64 u∧I64 c∧I64 p) ∧
  w.cell? ⟨b,off+k*3,none⟩=some (.int .i64 u)∧w.cell? ⟨b,off+k*3+1,none⟩=some (.int .i64 c)∧w.cell? ⟨b,off+k*3+2,none⟩=some (.int .i64 p):=by
 obtain⟨⟨u,c,p⟩,h1,h2,h3,h4,h5⟩:=h.cells hk;exact⟨u,c,p,h1,h2,h3,h4,h5 0 _ rfl,h5 1 _ rfl,h5 2 _ rfl⟩
structure Lad where
 what:ByteArray
 unit:Vec.V
 rungs:RL
 lo:Int
 hi:Int
def Lad.zero:Lad:=⟨ByteArray.empty,[],[],0,0⟩
abbrev Z8 (n:Lad) (v1 v2:Value):Value:=.agg #[.string n.what,v1,v2,.int .i64 n.lo,.int .i64 n.hi]
structure jS (w:World) (v1 v2:Value) (n:Lad):Prop where
 size:n.what.size≤maxLen
 unit:Vec.Reads w v1 n.unit
 rungs:Reads jw w v2 n.rungs
 lo:I64 n.lo
 hi:I64 n.hi
theorem jS.kept {w w':World} {v1 v2:Value} {n:Lad} (h:jS w v1 v2 n) (k:Kept w w'):jS w' v1 v2 n:=⟨h.size,h.unit.kept k,h.rungs.kept k,h.lo,h.hi⟩
def ZG (w:World) (v:Value) (n:Lad):Prop:=∃v1 v2,v=Z8 n v1 v2∧jS w v1 v2 n
theorem ZG.kept {w w':World} {v:Value} {n:Lad} (h:ZG w v n) (k:Kept w w'):ZG w' v n:=by
 obtain⟨v1,v2,e,h⟩:=h;exact⟨v1,v2,e,h.kept k⟩
def orL:List Int→Int
 | []=>0
 | x::t=>if x≠0 then x else orL t
def zo (x:ByteArray):Int:=if isName x=true then 0 else 3
def jZ (lo hi:Int):Int:=if lo<0∨hi<lo∨128<hi then 1 else 0
def jr (u c p:Int):Int:=if u<0∨p<0∨1000000<p∨c<0∨128<c then 1 else 0
def Z7:Option Int→Int→Bool
 | none,_=>false
 | some q,u=>decide (u≤q)
def jm:Option Int→RL→Int
 | _,[]=>0
 | prev,n::t=>if jr n.1 n.2.1 n.2.2≠0 then jr n.1 n.2.1 n.2.2 else if Z7 prev n.1=true then 13 else jm (some n.1) t
def jP (l:RL):Int:=if 8<l.length then 4 else jm none l
def jO (n:Lad):Int:=orL [zo n.what,Vec.jf n.unit,jZ n.lo n.hi,jP n.rungs]
def zn (l:RL) (k:Nat):Option Int:=if k=0 then none else (l[k-1]?).map (·.1)
theorem qP {p:Option Int} {n:Int×Int×Int} {t:RL} (h:jr n.1 n.2.1 n.2.2≠0):jm p (n::t)=jr n.1 n.2.1 n.2.2:=by rw[jm,if_pos h]
theorem Xn {l:RL} {k:Nat} {n:Int×Int×Int} {t:RL} (hk:k=0) (h:jr n.1 n.2.1 n.2.2=0):jm (zn l k) (n::t)=jm (some n.1) t:=by
 unfold zn;rw[if_pos hk,jm,if_neg (by rw[h];decide),if_neg (by simp[Z7])]
theorem qx {l:RL} {k:Nat} {n q:Int×Int×Int} {t:RL} (hk:¬k=0) (hq:l[k-1]?=some q) (h:jr n.1 n.2.1 n.2.2=0):jm (zn l k) (n::t)=if n.1≤q.1 then 13 else jm (some n.1) t:=by
 unfold zn;rw[if_neg hk,hq,jm,if_neg (by rw[h];decide)];simp only[Option.map_some,Z7,decide_eq_true_eq]
theorem Xz {l:RL} {k:Nat} {n:Int×Int×Int} (hn:l[k]?=some n):zn l (k+1)=some n.1:=by unfold zn;rw[if_neg (by omega),Nat.add_sub_cancel,hn];rfl
def jG (c:UInt8) (k:Nat) (s:List UInt8):Bool:=decide ((jb c s).length=k)&&(jb c s).all Vec.jk
def J4 (c:UInt8) (k:Nat) (s:List UInt8) (w:World) (e:Ending) (w':World):Prop :=
 (jG c k s=true→∃g cap,e=.returned (.slice (some ⟨g,0,none⟩) k cap)∧∀j p,(jb c s)[j]?=some p→w'.cell? ⟨g,j,none⟩=some (.string (bytes p))) ∧
 (jG c k s=false→e=.panicked [jq 2])∧Kept w w'
theorem Yy {c:UInt8} {k:Nat} {s:List UInt8} (h:jG c k s=true):(jb c s).length=k∧∀p ∈ jb c s,Vec.jk p=true:=by
 unfold jG at h;rw[Bool.and_eq_true,decide_eq_true_eq,List.all_eq_true] at h;exact h
theorem ZP {c:UInt8} {k j:Nat} {s p:List UInt8} (h:jG c k s=((jb c s).drop j).all Vec.jk) (hp:(jb c s).drop j=p::(jb c s).drop (j+1)) (hd:Vec.jk p=true):jG c k s=((jb c s).drop (j+1)).all Vec.jk:=by
 rw[h,hp,List.all_cons,hd,Bool.true_and]
theorem YH {c:UInt8} {k j:Nat} {s p:List UInt8} (h:jG c k s=((jb c s).drop j).all Vec.jk) (hp:(jb c s).drop j=p::(jb c s).drop (j+1)) (hd:Vec.jk p=false):jG c k s=false:=by
 rw[h,hp,List.all_cons,hd,Bool.false_and]
theorem Yn (s:List UInt8) (w:World) (hE:Env w) (hs:s.length≤1000000) :
 Calls Tryz.prog 70 #[.string (bytes s),.string ⟨#[47]⟩,.int .i64 2] w (J4 47 2 s w):=by
 have Vc:=lH (Xu s w hE hs);unfold JS at Vc;have Vw:=lH (fun p (h:p ∈ jb 47 s)=>Nat.le_trans (jC 47 s p h) hs);clear hE hs;by_cases hp:(jb 47 s).length=2
 · have HP:=lH hp;have UB:=lH (show jG 47 2 s=((jb 47 s).drop 0).all Vec.jk by unfold jG;rw[hp];rfl);clear hp;go_enter Tryz.func70,Tryz.ntmps70;go_wp2_with fail
   refine Vc.out.mono ?_;rintro e w1 ⟨ha,-,hk⟩;obtain⟨g,cap,rfl,hg,hc⟩:=ha HP.out;have HC:=lH hc;have HK:=lH hk;clear ha hk hc hg Vc;go_wp2;go_loopw [16] (fun iv wr=>∃j:Nat,j≤2∧iv=.int .i64 j∧jG 47 2 s=((jb 47 s).drop j).all Vec.jk∧w1=wr) (fun iv _=>2-(intOf iv).toNat)
   case atStart=>exact⟨0,Nat.zero_le _,rfl,UB.out,rfl⟩
   case round =>
    obtain⟨j,hj,rfl,hd,rfl⟩:=hrel;have HD:=lH hd;clear hd;by_cases hlt:j<2
    · obtain⟨p,hpj⟩:∃p,(jb 47 s)[j]?=some p:=⟨_,List.getElem?_eq_getElem (by rw[HP.out];exact hlt)⟩
      have c0:=HC.out j p hpj;have V5:=lH (show (jb 47 s).drop j=p::(jb 47 s).drop (j+1) by
       obtain⟨hh,e⟩:=List.getElem?_eq_some_iff.1 hpj;rw[List.drop_eq_getElem_cons hh,e])
      have UC:=lH (Vw.out p (List.mem_of_getElem? hpj));have hkk:(j:Int)<2:=by omega
      obtain⟨q,hq⟩:=eX (Vec.jk p)
      have HQ:=lH hq;have V6:=lH (fun W=>show Calls Tryz.prog 95 #[.string (bytes p)] W fun e w'=>e=.returned (.bool q)∧W=w' by
       have:=Vec.zL (bytes p) W (by rw[je];have:=UC.out;unfold maxLen;omega);rw[Vec.zy,hq] at this;exact this)
      clear hpj hq
      cases q with
      | true =>
       go_wp2_with fail
       refine(V6.out _).mono ?_;rintro e w2 ⟨rfl,rfl⟩;go_wp2;go_roundw
       case rel=>exact⟨j+1,by omega,by go_num,ZP HD.out V5.out HQ.out,trivial⟩
       case measure=>simp[intOf];omega
      | false =>
       have HF:=lH (YH HD.out V5.out HQ.out);go_wp2_with fail
       refine(V6.out _).mono ?_;rintro e w2 ⟨rfl,rfl⟩;go_wp2;exact⟨rfl,⟨fun h=>(by rw[HF.out] at h;cases h),fun _=>rfl,HK.out⟩⟩
    · have HT:=lH (show jG 47 2 s=true by rw[HD.out,List.drop_of_length_le (by rw[HP.out];omega)];rfl);obtain rfl:j=2:=by omega
      go_wp2;go_ret;exact⟨fun _=>⟨_,_,rfl,HC.out⟩,fun h=>(by rw[HT.out] at h;cases h),HK.out⟩
 · have HP:=lH hp;have HF:=lH (show jG 47 2 s=false by unfold jG;rw[decide_eq_false hp];rfl);clear hp;go_enter Tryz.func70,Tryz.ntmps70;go_wp2_with fail
   refine Vc.out.mono ?_;rintro e w1 ⟨-,hb,hk⟩;obtain rfl:=hb HP.out;have HK:=lH hk;clear hb hk;go_wp2;exact⟨rfl,⟨fun h=>(by rw[HF.out] at h;cases h),fun _=>rfl,HK.out⟩⟩
theorem Yl (s:List UInt8) (w:World) (hE:Env w) (hs:s.length≤1000000) :
 Calls Tryz.prog 70 #[.string (bytes s),.string ⟨#[58]⟩,.int .i64 3] w (J4 58 3 s w):=by
 have Vc:=lH (XB s w hE hs);unfold JS at Vc;have Vw:=lH (fun p (h:p ∈ jb 58 s)=>Nat.le_trans (jC 58 s p h) hs);clear hE hs;by_cases hp:(jb 58 s).length=3
 · have HP:=lH hp;have UB:=lH (show jG 58 3 s=((jb 58 s).drop 0).all Vec.jk by unfold jG;rw[hp];rfl);clear hp;go_enter Tryz.func70,Tryz.ntmps70;go_wp2_with fail
   refine Vc.out.mono ?_;rintro e w1 ⟨ha,-,hk⟩;obtain⟨g,cap,rfl,hg,hc⟩:=ha HP.out;have HC:=lH hc;have HK:=lH hk;clear ha hk hc hg Vc;go_wp2;go_loopw [16] (fun iv wr=>∃j:Nat,j≤3∧iv=.int .i64 j∧jG 58 3 s=((jb 58 s).drop j).all Vec.jk∧w1=wr) (fun iv _=>3-(intOf iv).toNat)
   case atStart=>exact⟨0,Nat.zero_le _,rfl,UB.out,rfl⟩
   case round =>
    obtain⟨j,hj,rfl,hd,rfl⟩:=hrel;have HD:=lH hd;clear hd;by_cases hlt:j<3
    · obtain⟨p,hpj⟩:∃p,(jb 58 s)[j]?=some p:=⟨_,List.getElem?_eq_getElem (by rw[HP.out];exact hlt)⟩
      have c0:=HC.out j p hpj;have V5:=lH (show (jb 58 s).drop j=p::(jb 58 s).drop (j+1) by
       obtain⟨hh,e⟩:=List.getElem?_eq_some_iff.1 hpj;rw[List.drop_eq_getElem_cons hh,e])
      have UC:=lH (Vw.out p (List.mem_of_getElem? hpj));have hkk:(j:Int)<3:=by omega
      obtain⟨q,hq⟩:=eX (Vec.jk p)
      have HQ:=lH hq;have V6:=lH (fun W=>show Calls Tryz.prog 95 #[.string (bytes p)] W fun e w'=>e=.returned (.bool q)∧W=w' by
       have:=Vec.zL (bytes p) W (by rw[je];have:=UC.out;unfold maxLen;omega);rw[Vec.zy,hq] at this;exact this)
      clear hpj hq
      cases q with
      | true =>
       go_wp2_with fail
       refine(V6.out _).mono ?_;rintro e w2 ⟨rfl,rfl⟩;go_wp2;go_roundw
       case rel=>exact⟨j+1,by omega,by go_num,ZP HD.out V5.out HQ.out,trivial⟩
       case measure=>simp[intOf];omega
      | false =>
       have HF:=lH (YH HD.out V5.out HQ.out);go_wp2_with fail
       refine(V6.out _).mono ?_;rintro e w2 ⟨rfl,rfl⟩;go_wp2;exact⟨rfl,⟨fun h=>(by rw[HF.out] at h;cases h),fun _=>rfl,HK.out⟩⟩
    · have HT:=lH (show jG 58 3 s=true by rw[HD.out,List.drop_of_length_le (by rw[HP.out];omega)];rfl);obtain rfl:j=3:=by omega
      go_wp2;go_ret;exact⟨fun _=>⟨_,_,rfl,HC.out⟩,fun h=>(by rw[HT.out] at h;cases h),HK.out⟩
 · have HP:=lH hp;have HF:=lH (show jG 58 3 s=false by unfold jG;rw[decide_eq_false hp];rfl);clear hp;go_enter Tryz.func70,Tryz.ntmps70;go_wp2_with fail
   refine Vc.out.mono ?_;rintro e w1 ⟨-,hb,hk⟩;obtain rfl:=hb HP.out;have HK:=lH hk;clear hb hk;go_wp2;exact⟨rfl,⟨fun h=>(by rw[HF.out] at h;cases h),fun _=>rfl,HK.out⟩⟩
theorem zS (s:List UInt8) (w:World) (hE:Env w) (hs:s.length≤1000000):Calls Tryz.prog 96 #[.string (bytes s)] w (J4 58 3 s w):=by
 have H:=lH (Yl s w hE hs);unfold J4 at H;clear hE hs;obtain⟨q,hq⟩:=eX (jG 58 3 s)
 have HQ:=lH hq;clear hq
 cases q with
 | true =>
  go_enter Tryz.func96,Tryz.ntmps96;go_wp2_with fail
  refine H.out.mono ?_;rintro e w1 ⟨ha,-,hk⟩;obtain⟨g,cap,rfl,hc⟩:=ha HQ.out;have HC:=lH hc;have HK:=lH hk;clear ha hk hc;go_wp2;go_ret;exact⟨fun _=>⟨_,_,rfl,HC.out⟩,fun h=>(by rw[HQ.out] at h;cases h),HK.out⟩
 | false =>
  go_enter Tryz.func96,Tryz.ntmps96;go_wp2_with fail
  refine H.out.mono ?_;rintro e w1 ⟨-,hb,hk⟩;obtain rfl:=hb HQ.out;have HK:=lH hk;clear hb hk;go_wp2;exact⟨rfl,⟨fun h=>(by rw[HQ.out] at h;cases h),fun _=>rfl,HK.out⟩⟩
def inQ (p:List UInt8):Bool:=decide (Vec.valL p≤9223372036854775807)
def Ze (p:List UInt8) (w:World) (e:Ending) (w':World):Prop:=e=(if inQ p=true then .returned (.int .i64 (Vec.valL p:Int)) else .panicked [jq 5])∧Kept w w'
theorem Zg (p:List UInt8) (w:World) (hE:Vec.Env w) (hp:p.length≤1000000) (hd:Vec.jk p=true):Calls Tryz.prog 97 #[.string (bytes p)] w (Ze p w):=by
 by_cases h:Vec.valL p≤9223372036854775807
 · refine(Vec.Y6 p w hp hd h).mono ?_;rintro e w' ⟨rfl,k⟩;exact⟨by rw[if_pos (by unfold inQ;exact decide_eq_true h)],k⟩
 · refine(Vec.ZQ p w hE hp hd h).mono ?_;rintro e w' ⟨rfl,k⟩;exact⟨by rw[if_neg (by unfold inQ;rw[decide_eq_false h];decide)],k⟩
theorem zU (p:List UInt8) (w:World) (hE:Vec.Env w) (hp:p.length≤1000000) (hd:Vec.jk p=true):Calls Tryz.prog 72 #[.string (bytes p)] w (Ze p w):=by
 have H:=lH (Zg p w hE hp hd);unfold Ze at H;obtain⟨q,hq⟩:=eX (inQ p)
 rw[hq] at H;have HQ:=lH hq;obtain⟨v,hv⟩:=eX (Vec.valL p)
 rw[hv] at H;have HV:=lH hv;clear hE hp hd
 cases q with
 | true =>
  have hle:v≤9223372036854775807:=by unfold inQ at hq;rw[hv] at hq;exact of_decide_eq_true hq
  have hmn:min (v:Int) 9223372036854775807=(v:Int):=by omega
  clear hq hv;go_enter Tryz.func72,Tryz.ntmps72;go_wp2_with fail
  refine H.out.mono ?_;rintro e w1 ⟨he,hk⟩;obtain rfl:e=.returned (.int .i64 (v:Int)):=he;have HK:=lH hk;clear hk;go_wp2;go_ret;refine⟨?_,HK.out⟩;rw[HQ.out,HV.out];first | rfl | (simp;omega)
 | false =>
  clear hq hv;go_enter Tryz.func72,Tryz.ntmps72;go_wp2_with fail
  refine H.out.mono ?_;rintro e w1 ⟨he,hk⟩;obtain rfl:e=.panicked [jq 5]:=he;have HK:=lH hk;clear hk;go_wp2;refine⟨rfl,?_,HK.out⟩;rw[HQ.out];rfl
def jU (p:List UInt8) (i:Nat):List UInt8:=(jb 58 p).getD i []
def jD (p:List UInt8):Int×Int×Int:=((Vec.valL (jU p 0):Int),(Vec.valL (jU p 1):Int),(Vec.valL (jU p 2):Int))
def zD (p:List UInt8):Bool:=inQ (jU p 0)&&(inQ (jU p 1)&&inQ (jU p 2))
def Xa (p:List UInt8) (w:World) (e:Ending) (w':World):Prop:=(zD p=true→e=.returned (.agg #[.int .i64 (jD p).1,.int .i64 (jD p).2.1,.int .i64 (jD p).2.2]))∧(zD p=false→e=.panicked [jq 5])∧Kept w w'
theorem z7 {p:List UInt8} (h:(jb 58 p).length=3) (i:Nat) (hi:i<3):(jb 58 p)[i]?=some (jU p i):=by
 unfold jU;rw[List.getElem?_eq_getElem (by omega)];simp[List.getD,show i<(jb 58 p).length by omega]
theorem Y2 (p:List UInt8) (h:zD p=true):I64 (jD p).1∧I64 (jD p).2.1∧I64 (jD p).2.2:=by
 unfold zD inQ at h;simp only[Bool.and_eq_true,decide_eq_true_eq] at h;obtain⟨h1,h2,h3⟩:=h;unfold jD I64;exact⟨⟨by dsimp only;omega,by dsimp only;omega⟩,⟨by dsimp only;omega,by dsimp only;omega⟩,⟨by dsimp only;omega,by dsimp only;omega⟩⟩
theorem Xw (p:List UInt8) (w:World) (hE:Vec.Env w) (hp:p.length≤1000000) (hd:jG 58 3 p=true):Calls Tryz.prog 98 #[.string (bytes p)] w (Xa p w):=by
 obtain⟨W0,hW0⟩:=eX (w.alloc (.cells #[.int .i64 0,.int .i64 0,.int .i64 0] 46))
 have hk0:Kept w W0:=by rw[←hW0];exact ja _ _
 have HZ:=lH (jo w (.int .i64 0) [.int .i64 0,.int .i64 0] 46 W0 (by rw[hW0];exact Kept.refl _));obtain⟨zb,hzb⟩:=eX (w.heap.size)
 rw[hzb] at HZ;have Tq:=lH hzb;have HN:=lH (zS p W0 (hE.kept hk0).base hp);unfold J4 at HN;obtain⟨h3,hall⟩:=Yy hd;have HT:=lH hd;have HK:=lH hk0;have hm0:=List.mem_of_getElem? (z7 h3 0 (by decide));have H0:=lH (fun W (k:Kept w W)=>Zg (jU p 0) W (hE.kept k) (Nat.le_trans (jC 58 p _ hm0) hp) (hall _ hm0));have V1:=lH (z7 h3 0 (by decide));unfold Ze at H0;have hm1:=List.mem_of_getElem? (z7 h3 1 (by decide));have H1:=lH (fun W (k:Kept w W)=>zU (jU p 1) W (hE.kept k) (Nat.le_trans (jC 58 p _ hm1) hp) (hall _ hm1));have V7:=lH (z7 h3 1 (by decide));unfold Ze at H1;have hm2:=List.mem_of_getElem? (z7 h3 2 (by decide));have H2:=lH (fun W (k:Kept w W)=>Zg (jU p 2) W (hE.kept k) (Nat.le_trans (jC 58 p _ hm2) hp) (hall _ hm2));have VT:=lH (z7 h3 2 (by decide));unfold Ze at H2;have Vt:=lH (show zD p=(inQ (jU p 0)&&(inQ (jU p 1)&&inQ (jU p 2))) from rfl);have Vu:=lH (show jD p=((Vec.valL (jU p 0):Int),(Vec.valL (jU p 1):Int),(Vec.valL (jU p 2):Int)) from rfl);obtain⟨n0,hn0⟩:=eX (jU p 0)
 rw[hn0] at H0 V1 Vt Vu;obtain⟨q0,hq0⟩:=eX (inQ n0)
 obtain⟨v0,hv0⟩:=eX (Vec.valL n0)
 rw[hq0] at Vt H0;rw[hv0] at Vu H0;clear hn0 hq0 hv0 hm0;obtain⟨n1,hn1⟩:=eX (jU p 1)
 rw[hn1] at H1 V7 Vt Vu;obtain⟨q1,hq1⟩:=eX (inQ n1)
 obtain⟨v1,hv1⟩:=eX (Vec.valL n1)
 rw[hq1] at Vt H1;rw[hv1] at Vu H1;clear hn1 hq1 hv1 hm1;obtain⟨n2,hn2⟩:=eX (jU p 2)
 rw[hn2] at H2 VT Vt Vu;obtain⟨q2,hq2⟩:=eX (inQ n2)
 obtain⟨v2,hv2⟩:=eX (Vec.valL n2)
 rw[hq2] at Vt H2;rw[hv2] at Vu H2;clear hn2 hq2 hv2 hm2;clear hE hd h3 hall hk0;go_enter Tryz.func98,Tryz.ntmps98;go_wp2_with fail
 try rw[hW0]
 try rw[hzb]
 clear hW0 hzb;refine HN.out.mono ?_;rintro e w1 ⟨ha,-,hk⟩;obtain⟨g,cap,rfl,hc⟩:=ha HT.out;obtain⟨HC,HZ,HK⟩:=lH3 (show ∀W,Kept w1 W→W.cell? ⟨g,0,none⟩=some (.string (bytes n0))∧W.cell? ⟨g,1,none⟩=some (.string (bytes n1))∧W.cell? ⟨g,2,none⟩=some (.string (bytes n2)) from fun W k=>⟨cell_later k (hc 0 _ V1.out),cell_later k (hc 1 _ V7.out),cell_later k (hc 2 _ VT.out)⟩) (HZ.out.kept hk) (HK.out.trans hk);clear ha hk hc HN;go_upto_region 2 with fail
 have J:=lH (Kept.drew w1);refine wp_region_held_drew (S:=fun W=>W.cell? ⟨g,0,none⟩=some (.string (bytes n0))∧W.cell? ⟨g,1,none⟩=some (.string (bytes n1))∧W.cell? ⟨g,2,none⟩=some (.string (bytes n2))) (by kernel_rfl) (HC.out _ J.out) (fun hHeld=>?_);obtain⟨wd,hwd⟩:=eX (w1.drew)
 rw[hwd] at J hHeld;try rw[hwd]
 clear hwd;refine tR 0 rfl (by kernel_rfl) (fun _ _ _=>id) (Or.inl ⟨by rfl,by rintro W ⟨o0,o1,o2⟩;go_simp<;>with_reducible rfl⟩) ‹_› ?_;try simp only[nA,nB,nC,nD,nE]
 refine tR 1 rfl (by kernel_rfl) (fun _ _ _=>id) (Or.inl ⟨by rfl,by rintro W ⟨o0,o1,o2⟩;go_simp<;>with_reducible rfl⟩) ‹_› ?_;try simp only[nA,nB,nC,nD,nE]
 refine tR 2 rfl (by kernel_rfl) (fun _ _ _=>id) (Or.inl ⟨by rfl,by rintro W ⟨o0,o1,o2⟩;go_simp<;>with_reducible rfl⟩) ‹_› ?_;try simp only[nA,nB,nC,nD,nE]
 refine tR 4 rfl (by kernel_rfl) (fun _ _ _=>id) (Or.inl ⟨by rfl,by rintro W ⟨o0,o1,o2⟩;go_simp<;>with_reducible rfl⟩) ‹_› ?_;try simp only[nA,nB,nC,nD,nE]
 refine tR 5 rfl (by kernel_rfl) (fun _ _ _=>id) (Or.inl ⟨by rfl,by rintro W ⟨o0,o1,o2⟩;go_simp<;>with_reducible rfl⟩) ‹_› ?_;try simp only[nA,nB,nC,nD,nE]
 refine tR 6 rfl (by kernel_rfl) (fun _ _ _=>id) (Or.inl ⟨by rfl,by rintro W ⟨o0,o1,o2⟩;go_simp<;>with_reducible rfl⟩) ‹_› ?_;try simp only[nA,nB,nC,nD,nE]
 refine tR 8 rfl (by kernel_rfl) (fun _ _ _=>id) (Or.inl ⟨by rfl,by rintro W ⟨o0,o1,o2⟩;go_simp<;>with_reducible rfl⟩) ‹_› ?_;try simp only[nA,nB,nC,nD,nE]
 refine tR 9 rfl (by kernel_rfl) (fun _ _ _=>id) (Or.inl ⟨by rfl,by rintro W ⟨o0,o1,o2⟩;go_simp<;>with_reducible rfl⟩) ‹_› ?_;try simp only[nA,nB,nC,nD,nE]
 refine tR 10 rfl (by kernel_rfl) (fun _ _ _=>id) (Or.inl ⟨by rfl,by rintro W ⟨o0,o1,o2⟩;go_simp<;>with_reducible rfl⟩) ‹_› ?_;try simp only[nA,nB,nC,nD,nE]
 refine rd1 3 fun K9 Ky=>?_;go_simp;refine(H0.out _ (HK.out.trans J.out)).mono ?_;rintro e w2 ⟨he,kk⟩
 cases q0 with
 | false =>
  obtain rfl:e=.panicked [jq 5]:=he;exact⟨rfl,⟨fun h=>(by rw[Vt.out] at h;simp at h),fun _=>rfl,HK.out.trans (J.out.trans kk)⟩⟩
 | true =>
  obtain rfl:e=.returned (.int .i64 (v0:Int)):=he;have J:=lH (J.out.trans kk);clear kk;refine Ky.out _ _ (HC.out _ J.out) (fun _=>?_);clear Ky K9;try simp only[nA,nB,nC,nD,nE]
  refine rd1 7 fun K9 Ky=>?_;go_simp;refine(H1.out _ (HK.out.trans J.out)).mono ?_;rintro e w3 ⟨he,kk⟩
  cases q1 with
  | false =>
   obtain rfl:e=.panicked [jq 5]:=he;exact⟨rfl,⟨fun h=>(by rw[Vt.out] at h;simp at h),fun _=>rfl,HK.out.trans (J.out.trans kk)⟩⟩
  | true =>
   obtain rfl:e=.returned (.int .i64 (v1:Int)):=he;have J:=lH (J.out.trans kk);clear kk;refine Ky.out _ _ (HC.out _ J.out) (fun _=>?_);clear Ky K9;try simp only[nA,nB,nC,nD,nE]
   refine rd1 11 fun K9 Ky=>?_;go_simp;refine(H2.out _ (HK.out.trans J.out)).mono ?_;rintro e w4 ⟨he,kk⟩
   cases q2 with
   | false =>
    obtain rfl:e=.panicked [jq 5]:=he;exact⟨rfl,⟨fun h=>(by rw[Vt.out] at h;simp at h),fun _=>rfl,HK.out.trans (J.out.trans kk)⟩⟩
   | true =>
    obtain rfl:e=.returned (.int .i64 (v2:Int)):=he;have J:=lH (J.out.trans kk);clear kk;refine Ky.out _ _ (HC.out _ J.out) (fun _=>?_);clear Ky K9;try simp only[nA,nB,nC,nD,nE]
    refine tR 12 rfl (by kernel_rfl) (fun _ _ _=>id) (Or.inl ⟨by rfl,by rintro W ⟨o0,o1,o2⟩;go_simp<;>with_reducible rfl⟩) ‹_› ?_;try simp only[nA,nB,nC,nD,nE]
    have HZ:=lH (HZ.out.kept J.out);obtain⟨z0,z1,z2⟩:=HZ.out.at3;have f0:=HZ.out.free 0;have f1:=HZ.out.free 1;have f2:=HZ.out.free 2;have P:=lH (Jq (vs:=[.int .i64 (v0:Int),.int .i64 (v1:Int),.int .i64 (v2:Int)]) HZ.out rfl);refine rd1 13 fun K9 Ky=>?_;go_simp;obtain⟨WE,hWE⟩:=eX (w4.setCells zb 0 [.int .i64 (v0:Int),.int .i64 (v1:Int),.int .i64 (v2:Int)])
    have hWE2:(((w4.setCell ⟨zb,0,none⟩ (.int .i64 (v0:Int))).setCell ⟨zb,1,none⟩ (.int .i64 (v1:Int))).setCell ⟨zb,2,none⟩ (.int .i64 (v2:Int)))=WE:=hWE;rw[hWE] at P;try rw[hWE2]
    have hne:g≠zb:=fun e=>by
     obtain⟨c0,-,-⟩:=HC.out _ J.out;rw[e,z0] at c0
     cases c0
    have HG:=lH (show WE.cell? ⟨g,0,none⟩=some (.string (bytes n0))∧WE.cell? ⟨g,1,none⟩=some (.string (bytes n1))∧WE.cell? ⟨g,2,none⟩=some (.string (bytes n2)) by
     have e:∀j,WE.cell? ⟨g,j,none⟩=w4.cell? ⟨g,j,none⟩:=fun j=>World.cell?_of_block (a:=⟨g,j,none⟩) (P.out.far g hne);simp only[e];exact HC.out _ J.out)
    clear hWE hWE2 z0 z1 z2 f0 f1 f2 hne;refine Ky.out _ _ (HG.out) (fun _=>?_);clear Ky K9;try simp only[nA,nB,nC,nD,nE]
    refine wpAnyH_done (by kernel_rfl) ?_ _;go_wp2;have PC:=P.out.cells;refine bodyPost_ret (by simp[results,Tryz.results98,go_sem,PC.at_ 0 _ rfl,PC.at_ 1 _ rfl,PC.at_ 2 _ rfl];try rfl) rfl ?_;exact⟨fun _=>by rw[Vu.out],fun h=>(by rw[Vt.out] at h;cases h),P.out.below _ _ (by rw[Tq.out];exact Nat.le_refl _) (HK.out.trans J.out)⟩
open Go.RowKit Go.Shelf
theorem Yw (sep c:UInt8) (t:List UInt8):jb sep (c::t)=if c=sep then []::jb sep t else match jb sep t with
 | []=>[[c]]
 | p::ps=>(c::p)::ps:=rfl
theorem ZM (sep c:UInt8) (t:List UInt8):Lib.index (c::t) [sep]=if c=sep then 0 else if Lib.index t [sep]==-1 then -1 else Lib.index t [sep]+1:=by
 rw[Lib.index];by_cases h:c=sep
 · subst h;rw[if_pos rfl,if_pos (by simp[List.isPrefixOf])]
 · rw[if_neg h,if_neg (by simp[List.isPrefixOf];exact fun e=>h e.symm)]
theorem JU (sep:UInt8):∀(l:List UInt8),Lib.index l [sep]<0→jb sep l=[l]
 | [],_=>rfl
 | c::t,h=>by
  rw[ZM] at h;by_cases hc:c=sep
  · rw[if_pos hc] at h;omega
  · rw[if_neg hc] at h;have ht:Lib.index t [sep]<0:=by
     split at h
     · rename_i e;have:Lib.index t [sep]=-1:=by simpa using e
       omega
     · omega
    unfold jb;rw[if_neg hc,JU sep t ht]
theorem J3 (sep:UInt8):∀(l:List UInt8) (i:Nat),Lib.index l [sep]=(i:Int)→i<l.length∧jb sep l=l.take i::jb sep (l.drop (i+1))
 | [],i,h=>by simp[Lib.index] at h
 | c::t,i,h=>by
  rw[ZM] at h;by_cases hc:c=sep
  · rw[if_pos hc] at h;obtain rfl:i=0:=by omega
    refine⟨by simp,?_⟩;rw[Yw,if_pos hc];rfl
  · rw[if_neg hc] at h;split at h
    · omega
    · rename_i e;have hge:=Lib.index_ge t [sep];have hne:Lib.index t [sep]≠-1:=by simpa using e
      obtain⟨j,hj⟩:=Int.eq_ofNat_of_zero_le (show 0≤Lib.index t [sep] by omega);obtain⟨h1,h2⟩:=J3 sep t j hj;obtain rfl:i=j+1:=by omega
      refine⟨by simpa using h1,?_⟩;rw[jb,if_neg hc,h2];simp
theorem YW (sep:UInt8) (n:Nat) (hn:1≤n) (l b1 b2 b3:Nat) (s:List UInt8) (hs:s.length≤1000000) (J:Nat→World→Prop) (Jp:List PanicEntry→World→Prop)
 (hY:qv Fence.wide n l b1 b2 b3 (jb sep s) J Jp) (h12:b1≠b2) (h32:b3≠b2) (W:World)
 (c1:W.cell? ⟨b1,0,none⟩=some (.string ⟨#[sep]⟩)) (c2:W.cell? ⟨b2,0,none⟩=some (.string (bytes s))) (c3:W.cell? ⟨b3,0,none⟩=some (.int .i64 0))
 (z2:W.frozen? ⟨b2,0,none⟩=false) (h0:J 0 W) :
 CallsIn Fence.wide n Tryz.prog 128 #[.func (.yield l) #[] #[],.pointer (some ⟨b1,0,none⟩),.pointer (some ⟨b2,0,none⟩),.pointer (some ⟨b3,0,none⟩)] W (Zc (jb sep s).length J Jp):=by
 have HY:=lH hY;have H0:=lH h0;clear hY h0;refine callsIn_of_wp Tryz.func128 rfl trivial ?_ rfl;simp only[Tryz.ntmps128,List.size_toArray,List.length_cons,List.length_nil,Nat.reduceAdd,Nat.reduceSub,Array.replicate_succ,Array.replicate_zero,List.push_toArray,List.append_toArray,List.nil_append,List.cons_append];gi_wp2
 gi_loopw [7] (fun i wr=>∃(k:Nat) (rest:List UInt8),jb sep rest=(jb sep s).drop k∧rest.length≤s.length∧wr.cell? ⟨b1,0,none⟩=some (.string ⟨#[sep]⟩)∧wr.cell? ⟨b2,0,none⟩=some (.string (bytes rest))∧wr.cell? ⟨b3,0,none⟩=some (.int .i64 0)∧wr.frozen? ⟨b2,0,none⟩=false∧J k wr)
  (fun i wr=>Zq wr b2)
 case atStart=>exact⟨0,s,rfl,Nat.le_refl _,c1,c2,c3,z2,H0.out⟩
 case round =>
  obtain⟨k,rest,hp,hl,c1,c2,c3,z2,hJ⟩:=hrel;have HJ:=lH hJ;have HP:=lH hp;have hl6:rest.length≤1000000:=Nat.le_trans hl hs;have hsz:(bytes rest).size=rest.length:=by simp[bytes,ByteArray.size]
  have Vq:=lH hsz;obtain⟨m,hm⟩:=HY.out.env k wr hJ;by_cases hix:Lib.index rest [sep]<0
  · have hone:=JU sep rest hix;have IX:=lH (show Calls Tryz.prog 127 #[.string (bytes rest),.string ⟨#[sep]⟩] wr fun e w'=>e=.returned (.int .i64 (Lib.index rest [sep]))∧w'=wr from Tryz.strings_Index (bytes rest) ⟨#[sep]⟩ m wr (by omega) hm);have hk:(jb sep s)[k]?=some rest:=by
     have:=congrArg (fun x=>x[0]?) hp;rw[hone] at this;simpa using this.symm
    have HN:=lH (show k+1=(jb sep s).length by
     have:=congrArg List.length hp;rw[hone,List.length_drop] at this;simp only[List.length_cons,List.length_nil] at this;omega)
    obtain⟨fn,tmps,assign,body,hy,hR⟩:=HY.out.yields k rest wr hk hJ;have HR:=lH hR;obtain⟨ix,hixe⟩:=eX (Lib.index rest [sep])
    rw[hixe] at IX hix;clear hm hJ hp hone hk hR hsz hixe;gi_wp2_with (refine⟨trivial,?_⟩;gi_at_call 127;refine(callsIn_wide.2 IX.out).mono ?_;rintro e w' ⟨rfl,rfl⟩)
    refine HR.out.mono ?_;rintro e W' (⟨rfl,hJ',hk'⟩ | ⟨c,rfl,hp'⟩)
    · have HJ':=lH hJ';clear hJ' hk';gi_wp2
      go_end0
      exact .inl ⟨⟨_,rfl⟩,by rw[←HN.out];exact HJ'.out⟩
    · have HP':=lH hp';clear hp';gi_wp2
      exact⟨rfl,.inr ⟨c,rfl,HP'.out⟩⟩
  · obtain⟨i,hi⟩:=Int.eq_ofNat_of_zero_le (show 0≤Lib.index rest [sep] by omega);obtain⟨hlt,hsome⟩:=J3 sep rest i hi;have IX:=lH (show Calls Tryz.prog 127 #[.string (bytes rest),.string ⟨#[sep]⟩] wr fun e w'=>e=.returned (.int .i64 (i:Int))∧w'=wr by
     have:=Tryz.strings_Index (bytes rest) ⟨#[sep]⟩ m wr (by omega) hm;rw[show Lib.index (bytes rest).data.toList [sep]=(i:Int) from hi] at this;exact this)
    have hk:(jb sep s)[k]?=some (rest.take i):=by
     have:=congrArg (fun x=>x[0]?) hp;rw[hsome] at this;simpa using this.symm
    have HN:=lH (show jb sep (rest.drop (i+1))=(jb sep s).drop (k+1) by
     have:=congrArg (fun x=>x.drop 1) hp;rw[hsome] at this;simpa [List.drop_drop] using this)
    obtain⟨fn,tmps,assign,body,hy,hR⟩:=HY.out.yields k (rest.take i) wr hk hJ;have HR:=lH hR;have hfrag:(bytes rest).extract 0 i=bytes (rest.take i):=by
     apply Go.WideShapes.bytes_inj;simp[bytes,ByteArray.data_extract]
    have hrest:(bytes rest).extract (i+1) rest.length=bytes (rest.drop (i+1)):=by
     apply Go.WideShapes.bytes_inj;simp[bytes,ByteArray.data_extract,List.take_of_length_le]
    have Vb:=lH hrest;have Ut:=lH HY.out.store;clear hm hJ hp hsome hk hR hix hi hrest;have hi1:(i:Int)≤((bytes rest).size:Int):=by rw[hsz];omega
    gi_wp2_with (refine⟨trivial,?_⟩;gi_at_call 127;refine(callsIn_wide.2 IX.out).mono ?_;rintro e w' ⟨rfl,rfl⟩)
    refine HR.out.mono ?_;rintro e W' (⟨rfl,hJ',hk'⟩ | ⟨c,rfl,hp'⟩)
    · have HJ':=lH hJ';obtain⟨d1,y1⟩:=hk' b1 (.inl rfl);obtain⟨d2,y2⟩:=hk' b2 (.inr (.inl rfl));obtain⟨d3,y3⟩:=hk' b3 (.inr (.inr rfl));have e1:=d1.trans c1;have e2:=d2.trans c2;have e3:=d3.trans c3;have x2:=y2.trans z2;have hsz':=Vq.out;have hrest:=Vb.out;have hi2:((i:Int)+1)≤((bytes rest).size:Int):=by rw[hsz'];omega
      have hi3:((i:Int)+1).toNat=i+1:=by omega
      obtain⟨E1,E2,E3,X2,C2⟩:=lH5 e1 e2 e3 x2 c2;clear hJ' hk' d1 d2 d3 y1 y2 y3 c1 c2 c3 z2;gi_wp2
      go_roundw
      case rel =>
       exact⟨k+1,rest.drop (i+1),HN.out,by rw[List.length_drop];omega,
        by rw[World.cell?_setCell_other _ _ _ _ (by intro e;injection e with e;exact h12 e.symm)];exact E1.out,
        World.cell?_setCell_same' _ _ _ (by rw[E2.out];rfl),
        by rw[World.cell?_setCell_other _ _ _ _ (by intro e;injection e with e;exact h32 e.symm)];exact E3.out,
        by rw[World.frozen?_setCell];exact X2.out,Ut.out _ _ _ HJ'.out⟩
      case measure =>
       unfold Zq;rw[World.cell?_setCell_same' _ _ _ (by rw[E2.out];rfl),C2.out];simp[bytes,ByteArray.size];omega
    · have HP':=lH hp';clear hp';gi_wp2
      exact⟨rfl,.inr ⟨c,rfl,HP'.out⟩⟩
attribute [local go_sem] Oper.semAt_some
theorem zC {fid:FuncId} {P:Program} {Q:Exit→Act→World→Prop} {a:Act} {w:World} {id:Nat} {c:Code} (h:zf fid P c (Exit.inBlock id Q) a w):zf fid P (Code.block id c) Q a w:=by
 intro b k cs hb hro;have h0:=StepsIn.one (I:=Machine.fenced P Fence.wide) (fenced_wide P _) (stepR_block (P:=P) (b:=b) (a:=a) (k:=k) (cs:=cs) (w:=w) (id:=id) (c:=c));obtain⟨e,a₁,w₁,hq,harr⟩:=h b (.inBlock id::k) cs hb hro
 cases e with
 | normal=>exact⟨.normal,a₁,w₁,hq,(h0.trans harr).trans (.one (fenced_wide P _) stepR_inBlock)⟩
 | exit id' =>
  by_cases hid:id'=id
  · simp only[Exit.inBlock,hid,if_true] at hq;exact⟨.normal,a₁,w₁,hq,h0.trans (harr.1 k (by simp[exitTo,hid]))⟩
  · simp only[Exit.inBlock,hid,if_false] at hq;have this:(id==id')=false:=by simp;exact fun h=>hid h.symm
    have hx:exitTo id' (.inBlock id::k)=exitTo id' k:=by simp[exitTo,this]
    exact⟨.exit id',a₁,w₁,hq,fun k' hk=>h0.trans (harr.1 k' (by rw[hx];exact hk)),
     fun hr' hk=>let ⟨k₁,h1,h2⟩:=harr.2 hr' (by rw[hx];exact hk);⟨k₁,h1,h0.trans h2⟩⟩
 | goto l =>
  have hx:gotoIn l (.inBlock id::k)=gotoIn l k:=by simp[gotoIn]
  exact⟨_,a₁,w₁,hq,fun k' hk=>h0.trans (harr.1 k' (by rw[hx];exact hk)),
   fun hr' hk=>let ⟨k₁,h1,h2⟩:=harr.2 hr' (by rw[hx];exact hk);⟨k₁,h1,h0.trans h2⟩⟩
 | ret=>exact⟨_,a₁,w₁,hq,.of_steps h0 harr⟩
 | panic ch=>exact⟨_,a₁,w₁,hq,.of_steps h0 harr⟩
 | outgrown=>exact⟨_,a₁,w₁,hq,.of_steps h0 harr⟩
def zp (fid:FuncId) (P:Program) (c:Code) (Q:Exit→Act→World→Prop):Nat→Act→World→Prop
 | 0,_,_=>False
 | m+1,a,w=>zf fid P c (Exit.then (zp fid P c Q m) Q) a w
theorem ZO {fid:FuncId} {P:Program} {Q:Exit→Act→World→Prop} {a:Act} {w:World} {c:Code} (m:Nat) (h:zp fid P c Q m a w):zf fid P (Code.loop c) Q a w:=by
 intro b k cs hb hro;have key:∀m a w,zp fid P c Q m a w →
  ∃e a' w',Q e a' w'∧ArrivesIn (Machine.fenced P Fence.wide) P (lone (b.atR a (.code c::.inLoop c::k)) cs w) b k cs e a' w':=by
  intro m
  induction m with
  | zero=>intro a w h;exact h.elim
  | succ m ih =>
   intro a w h;obtain⟨e,a₁,w₁,hq,harr⟩:=h b (.inLoop c::k) cs hb hro
   cases e with
   | normal =>
    obtain⟨e₂,a₂,w₂,hq₂,harr₂⟩:=ih a₁ w₁ hq;exact⟨e₂,a₂,w₂,hq₂,.of_steps (StepsIn.trans harr (.one (fenced_wide P _) stepR_inLoop)) harr₂⟩
   | exit id=>exact⟨_,a₁,w₁,hq,.pass (x:=.inLoop c) rfl (fun _ _=>.inl (by simp)) harr⟩
   | goto l=>exact⟨_,a₁,w₁,hq,.pass (x:=.inLoop c) rfl (fun _ _=>.inl (by simp)) harr⟩
   | ret=>exact⟨_,a₁,w₁,hq,.pass (x:=.inLoop c) rfl (fun _ _=>.inl (by simp)) harr⟩
   | panic ch=>exact⟨_,a₁,w₁,hq,.pass (x:=.inLoop c) rfl (fun _ _=>.inl (by simp)) harr⟩
   | outgrown=>exact⟨_,a₁,w₁,hq,.pass (x:=.inLoop c) rfl (fun _ _=>.inl (by simp)) harr⟩
 obtain⟨e,a',w',hq,harr⟩:=key m a w h;exact⟨e,a',w',hq,.of_steps (.one (fenced_wide P _) stepR_loop) harr⟩
theorem RoundIn.inner {m m' l l2:Nat} {P:Program} {f:FuncId} {tmps:Array Value} {assign body:Code} {w:World} {R:Ending→World→Prop} (h:RoundIn Fence.wide m P l f tmps assign body w R):RoundIn (Fence.wide.inRound l2) m' P l f tmps assign body w R :=
 ⟨trivial,fun c cs _=>h.2 c cs (room_wide _)⟩
theorem YP (sep:UInt8) {g:Operand} {t:Tmp} {assign body:Code} {Q:Exit→Act→World→Prop} {a:Act} {w:World} {n fid:Nat} {fn:Func} (hfn:Tryz.prog.funcs[fid]?=some fn) (hn:2≤n)
 (b1 b2 b3:Nat) (hg:a.eval g=.func (.func 128) #[] #[.pointer (some ⟨b1,0,none⟩),.pointer (some ⟨b2,0,none⟩),.pointer (some ⟨b3,0,none⟩)])
 (s:List UInt8) (hs:s.length≤1000000) (h12:b1≠b2) (h32:b3≠b2) (hb1:b1<w.heap.size) (hb2:b2<w.heap.size) (hb3:b3<w.heap.size)
 (c1:w.cell? ⟨b1,0,none⟩=some (.string ⟨#[sep]⟩)) (c2:w.cell? ⟨b2,0,none⟩=some (.string (bytes s))) (c3:w.cell? ⟨b3,0,none⟩=some (.int .i64 0)) (z2:w.frozen? ⟨b2,0,none⟩=false)
 (I:Nat→World→Prop) (JP:List PanicEntry→World→Prop) (hI:∀k W W',I k W→St b2 w.heap.size W W'→I k W') (hE:∀k W,I k W→Env W) (h0:I 0 w) (a₁:ByteArray→Act)
 (hassign:∀(l:Nat) (x:ByteArray) (W:World) (K:Act→World→Prop),K (a₁ x) W →
   assign.wpIn (Fence.wide.inRound l) (n-1) Tryz.prog (Exit.then K (fun _ _ _=>False)) { tmps:=(#[t].zip #[Value.string x]).foldl (fun tt (p,v)=>tt.setIfInBounds p v) a.tmps,defers:=[] } W)
 (hbody:∀(l k:Nat) (p:List UInt8) (W:World),(jb sep s)[k]?=some p→I k W→w.heap.size+2≤W.heap.size→body.wpIn (Fence.wide.inRound l) (n-1) Tryz.prog (q9 b1 b2 b3 w.heap.size k I JP W) (a₁ (bytes p)) W)
 (hdone:∀(W:World),I (jb sep s).length W→W.heap[w.heap.size]?=some (.deferred (some []))→Q .normal { a with defers:={ target:=.collected w.heap.size,args:=#[] }::a.defers } W)
 (hpanic:∀(c:List PanicEntry) (W:World),JP c W→W.heap[w.heap.size]?=some (.deferred (some []))→Q (.panic c) { a with defers:={ target:=.collected w.heap.size,args:=#[] }::a.defers } W) :
 zf fid Tryz.prog (Code.rangeFunc g #[t] assign body) Q a w:=by
 obtain⟨rec,hrec⟩:∃rec:LoopState→Option Code→Loop,rec=fun st pe=>{ state:=st,pending:=pe,fn:=fid,tmps:=a.tmps,params:=#[t],assign,body,defers:=w.heap.size }:=⟨_,rfl⟩
 obtain⟨W1,hW1⟩:=eX ((w.alloc (.deferred (some []))).alloc (.loop (rec .ready none)))
 have hL1:W1.heap[w.heap.size+1]?=some (.loop (rec .ready none)):=by
  rw[←hW1];have:=World.alloc_heap_new (w.alloc (.deferred (some []))) (.loop (rec .ready none));rwa [World.size_alloc] at this
 have hK1:W1.heap[w.heap.size]?=some (.deferred (some [])):=by
  rw[←hW1];exact(Below.heap_alloc _ _ _ (by simp)).trans (World.alloc_heap_new w _)
 have hS1:St b2 w.heap.size w W1:=by rw[←hW1];exact St.begin b2 w _ _
 have hB1:Below w.heap.size w W1:=by rw[←hW1];exact(ja w _).trans (ja _ _)
 refine zu (n:=n) (l:=w.heap.size+1) (mark:=[{ target:=.collected w.heap.size,args:=#[] }]) (w₁:=W1) (d:={ target:=.fn (.func 128) #[.pointer (some ⟨b1,0,none⟩),.pointer (some ⟨b2,0,none⟩),.pointer (some ⟨b3,0,none⟩)],args:=#[.func (.yield (w.heap.size+1)) #[] #[]] })
  (f:=128) (args:=#[.func (.yield (w.heap.size+1)) #[] #[],.pointer (some ⟨b1,0,none⟩),.pointer (some ⟨b2,0,none⟩),.pointer (some ⟨b3,0,none⟩)]) ?_ ?_ ?_ ?_
 · rw[←hW1,hrec];exact run_enterLoop_outer _ _ _ _ _
 · simp only[resolve,hg];simp[go_sem]
 · have eg:=enters_of (P:=Tryz.prog) Tryz.func128 (by kernel_rfl) rfl;simp[invoke,go_sem,eg]
 · refine(YW sep n (by omega) (w.heap.size+1) b1 b2 b3 s hs
    (fun k W=>I k W∧W.heap[w.heap.size+1]?=some (.loop (rec .ready none))∧W.heap[w.heap.size]?=some (.deferred (some [])))
    (fun c W=>JP c W∧W.heap[w.heap.size]?=some (.deferred (some [])))
    ⟨?_,?_,?_,?_⟩ h12 h32 W1 ((hB1.cell (p:=⟨b1,0,none⟩) hb1).trans c1) ((hB1.cell (p:=⟨b2,0,none⟩) hb2).trans c2) ((hB1.cell (p:=⟨b3,0,none⟩) hb3).trans c3)
    ((hB1.frozen (p:=⟨b2,0,none⟩) hb2).trans z2) ⟨hI 0 w W1 h0 hS1,hL1,hK1⟩).mono ?_
   · rintro k p W hp ⟨hi,hl,hk⟩;have hlt:w.heap.size+1<W.heap.size:=(Array.getElem?_eq_some_iff.1 hl).1;have hy:=run_yield (P:=Tryz.prog) (args:=#[.string (bytes p)]) hl (by rw[hrec];rfl);rw[hrec] at hy;refine⟨fid,_,assign,body,hy,jT trivial hfn ?_⟩;refine hassign _ (bytes p) W _ ?_;refine⟨_,run_beginRound hl (by rw[hrec]),?_⟩;have hl2:(W.putObj (w.heap.size+1) (.loop { rec .ready none with state:=.busy })).heap[w.heap.size+1]?=some (.loop { rec .ready none with state:=.busy }):=World.putObj_heap_same hlt;have hk2:(W.putObj (w.heap.size+1) (.loop { rec .ready none with state:=.busy })).heap[w.heap.size]?=some (.deferred (some [])):=(World.putObj_heap_other (by omega)).trans hk;refine wpIn_mono (hbody _ k p _ hp (hI k _ _ hi (St.put W _)) (by simp;omega)) ?_;rintro e a3 W3 hp3
     cases e with
     | normal =>
      obtain⟨hk3,hi3⟩:=hp3;have hl3:=(hk3 (w.heap.size+1) (by simp)).trans hl2;have hr:=run_endRound (P:=Tryz.prog) none hl3;refine⟨_,_,hr,.inl ⟨rfl,⟨hI _ _ _ hi3 (St.put W3 _),?_,?_⟩,?_⟩⟩
      · rw[World.putObj_heap_same (Array.getElem?_eq_some_iff.1 hl3).1,hrec];rfl
      · exact((World.putObj_heap_other (by omega)).trans (hk3 w.heap.size (by simp))).trans hk2
      · refine JT fun b hb=>?_;have hbl:b≠w.heap.size+1:=by rcases hb with h | h | h<;>omega
        exact((World.putObj_heap_other hbl).trans (hk3 b (by rcases hb with h | h | h<;>simp[h]))).trans (World.putObj_heap_other hbl)
     | panic c =>
      obtain⟨hd,hk3,hj⟩:=hp3;exact⟨hd,.inr ⟨c,rfl,hj,(hk3 w.heap.size (by simp)).trans hk2⟩⟩
     | ret=>exact hp3.elim
     | exit id=>exact hp3.elim
     | goto t=>exact hp3.elim
     | outgrown=>exact hp3.elim
   · rintro k W x ⟨hi,hl,hk⟩;exact⟨hI _ _ _ hi (St.setCell W _),(Below.heap_setCell W ⟨b2,0,none⟩ _ _ (by simp;omega)).trans hl,(Below.heap_setCell W ⟨b2,0,none⟩ _ _ (by simp;omega)).trans hk⟩
   · rintro k W m ⟨hi,hl,hk⟩;exact⟨hI _ _ _ hi (St.drewN W _),hl,hk⟩
   · rintro k W ⟨hi,_,_⟩;exact(hE k W hi).most
   · rintro e W2 (⟨⟨v,rfl⟩,hi,hl,hk⟩ | ⟨c,rfl,hj,hk⟩)
     · exact⟨_,run_endLoop (P:=Tryz.prog) hl (by rw[hrec];simp) |>.trans (by rw[hrec]),hdone _ (hI _ _ _ hi (St.put W2 _)) ((World.putObj_heap_other (by omega)).trans hk)⟩
     · exact hpanic c W2 hj hk
end Go.Proofs.YtnfojaidmnccoaaGreatDoor
namespace Go.Proofs.YtnfojaidmnccoaaGreatDoor
open Go.RowKit Go.Shelf
attribute [local go_sem] Oper.semAt_some
structure StR (lo hi:Nat) (W W':World):Prop where
 os:W'.os=W.os
 tape:W'.tape=W.tape
 output:W'.output=W.output
 size:W.heap.size≤W'.heap.size
 block:∀b,b<lo∨hi≤b→W'.heap[b]?=W.heap[b]?
theorem StR.of {b2 D lo hi:Nat} {W W':World} (h:St b2 D W W') (h2:lo≤b2∧b2<hi) (hD:lo≤D∧D+1<hi):StR lo hi W W' :=
 ⟨h.os,h.tape,h.output,h.size,fun b hb=>h.block b (by omega) (by omega) (by omega)⟩
theorem StR.wider {lo hi lo' hi':Nat} {W W':World} (h:StR lo hi W W') (hl:lo'≤lo) (hh:hi≤hi'):StR lo' hi' W W':=⟨h.os,h.tape,h.output,h.size,fun b hb=>h.block b (by omega)⟩
theorem StR.put {lo hi D:Nat} (W:World) (o:Obj) (h:lo≤D∧D<hi):StR lo hi W (W.putObj D o):=⟨rfl,rfl,rfl,by simp,fun b hb=>World.putObj_heap_other (by omega)⟩
theorem StR.kept {lo hi:Nat} {W W':World} (h:Kept W W') (hl:lo≤W.heap.size) (hn:W'.heap.size≤hi):StR lo hi W W' :=
 ⟨h.os,h.tape,h.output,h.size,fun b hb=>by
  by_cases hlt:b<W.heap.size
  · exact h.block b hlt
  · have:=h.size;rw[Array.getElem?_eq_none (by omega),Array.getElem?_eq_none (by omega)]⟩
theorem StR.trans {lo hi:Nat} {A B C:World} (h:StR lo hi A B) (k:StR lo hi B C):StR lo hi A C:=⟨k.os.trans h.os,k.tape.trans h.tape,k.output.trans h.output,Nat.le_trans h.size k.size,fun b hb=>(k.block b hb).trans (h.block b hb)⟩
def Z2 (lo hi:Nat) (W W':World):Prop:=∀b,lo≤b→b<hi→W'.heap[b]?=W.heap[b]?
def jd:Option (List UInt8)→List (List UInt8)
 | none=>[]
 | some r=>jb 32 r
def zl (W:World) (bw bc:Nat):Option (List UInt8)→Prop
 | none=>W.cell? ⟨bc,0,none⟩=some (.int .i64 3)∧∃g cap,W.cell? ⟨bw,0,none⟩=some (.slice (some ⟨g,0,none⟩) 3 cap)∧3≤cap∧cap≤4
 | some r=>W.cell? ⟨bc,0,none⟩=some (.int .i64 3)∧∃g,W.cell? ⟨bw,0,none⟩=some (.slice (some ⟨g,0,none⟩) 4 4)∧W.cell? ⟨g,3,none⟩=some (.string (bytes r))
theorem zl.kept {W W':World} {bw bc:Nat} {r:Option (List UInt8)} (h:zl W bw bc r) (k:Kept W W'):zl W' bw bc r:=by
 cases r with
 | none=>obtain⟨h1,g,cap,h2,h3,h4⟩:=h;exact⟨cell_later k h1,g,cap,cell_later k h2,h3,h4⟩
 | some r=>obtain⟨h1,g,h2,h3⟩:=h;exact⟨cell_later k h1,g,cell_later k h2,cell_later k h3⟩
structure jad (l B:Nat) (ps:List (List UInt8)) (J:Nat→World→Prop) (Jp:List PanicEntry→World→Prop):Prop where
 yields:∀(k:Nat) (p:List UInt8) (W:World),ps[k]?=some p→J k W→B+6≤W.heap.size→YieldAt Fence.wide 4 Tryz.prog l #[.string (bytes p)] W fun e W' =>
  (e=.returned (.bool true)∧J (k+1) W'∧Z2 B (B+6) W W')∨(∃c,e=.panicked c∧Jp c W'∧Z2 B (B+6) W W')
 stable:∀(k:Nat) (W W':World),J k W→StR B (B+6) W W'→J k W'
 stableP:∀(c:List PanicEntry) (W W':World),Jp c W→StR B (B+6) W W'→Jp c W'
 env:∀(k:Nat) (W:World),J k W→Env W
def zc (w:World) (s:List UInt8):World:=((w.alloc (.cells #[.string (bytes s)] 9)).alloc (.cells #[.string ⟨#[32]⟩] 9)).alloc (.cells #[.int .i64 0] 3)
theorem Z0 (s:List UInt8) (w:World) :
 Calls Tryz.prog 93 #[.string (bytes s),.string ⟨#[32]⟩] w fun e w' =>
  e=.returned (.func (.func 128) #[] #[.pointer (some ⟨w.heap.size+1,0,none⟩),.pointer (some ⟨w.heap.size,0,none⟩),.pointer (some ⟨w.heap.size+2,0,none⟩)])∧w'=zc w s:=by
 have hmf:=hmfL (P:=Tryz.prog);go_enter Tryz.func93,Tryz.ntmps93;go_wp2;go_ret;exact⟨rfl,rfl⟩
theorem Y3 (w:World) (s:List UInt8):(zc w s).heap.size=w.heap.size+3:=by simp[zc]
theorem YZ (w:World) (s:List UInt8):Kept w (zc w s):=((ja w _).trans (ja _ _)).trans (ja _ _)
theorem Ya (w:World) (s:List UInt8):(zc w s).cell? ⟨w.heap.size+1,0,none⟩=some (.string ⟨#[32]⟩)∧(zc w s).cell? ⟨w.heap.size,0,none⟩=some (.string (bytes s))∧(zc w s).cell? ⟨w.heap.size+2,0,none⟩=some (.int .i64 0)∧(zc w s).frozen? ⟨w.heap.size,0,none⟩=false:=by
 unfold zc;refine⟨?_,?_,?_,?_⟩<;>go_simp
theorem X1 (l bw bc:Nat) (r:Option (List UInt8)) (W:World) (J:Nat→World→Prop) (Jp:List PanicEntry→World→Prop) (hr:zl W bw bc r) (hs:∀s,r=some s→s.length≤1000000)
 (hY:jad l W.heap.size (jd r) J Jp) (h0:J 0 W) :
 Calls Tryz.prog 92 #[.func (.yield l) #[] #[],.pointer (some ⟨bw,0,none⟩),.pointer (some ⟨bc,0,none⟩)] W (Zc (jd r).length J Jp):=by
 obtain⟨B,hB⟩:=eX (W.heap.size)
 rw[hB] at hY;obtain⟨HY,H0,HB⟩:=lH3 hY h0 hB;obtain⟨w1,hw1⟩:=eX (W.alloc (.cells #[.func (.yield l) #[] #[]] 60))
 have hk1:Kept W w1:=by rw[←hw1];exact ja _ _
 have hz1:w1.heap.size=B+1:=by rw[←hw1,World.size_alloc,hB]
 have hyb:w1.cell? ⟨B,0,none⟩=some (.func (.yield l) #[] #[]):=by rw[←hw1,←hB];exact(zK W _ _).1
 obtain⟨Vy,Vx,Tr⟩:=lH3 hk1 hz1 hyb;have hr1:=hr.kept hk1;clear hY h0 hr hz1 hyb hk1;refine zd (n:=6) Tryz.func92 rfl ?_;simp only[Tryz.ntmps92,List.size_toArray,List.length_cons,List.length_nil,Nat.reduceAdd,Nat.reduceSub,Array.replicate_succ,Array.replicate_zero,List.push_toArray,List.append_toArray,List.nil_append,List.cons_append];refine ji (jt (n:=6) ?_);gi_wp2
 try rw[hw1]
 try rw[hB]
 clear hB hw1
 cases r with
 | none =>
  obtain⟨hc,g,cap,hw,h3,h4⟩:=hr1;have HJ:=lH (HY.out.stable 0 W w1 H0.out (StR.kept Vy.out (by rw[HB.out];exact Nat.le_refl _) (by rw[Vx.out];omega)));obtain rfl | rfl:cap=3∨cap=4:=by omega
  all_goals
   refine ji (jt (n:=6) ?_);gi_wp2
   refine zC (ZO 1 ?_);unfold zp;refine ji (jt (n:=6) ?_);gi_wp2
   refine ji (jt (n:=6) ?_);gi_wp2
   exact⟨.tuple #[],(by simp[results,Tryz.results92,go_sem]),.inl ⟨⟨_,rfl⟩,HJ.out⟩⟩
 | some s =>
  obtain⟨hc,g,hw,hcell⟩:=hr1;have hs6:=hs s rfl;refine ji (jt (n:=6) ?_);gi_wp2
  refine zC (ZO 2 ?_);unfold zp;refine ji (jt (n:=6) ?_);gi_wp2
  refine ji (jt (n:=6) ?_);gi_wp2
  refine ji (zC (ji (jt (n:=6) ?_)));gi_wp2
  refine ji (jt (n:=6) ?_);gi_wp2_with (refine⟨trivial,?_⟩;gi_at_call 93;refine(callsIn_wide.2 (Z0 s _)).mono ?_;rintro e w2 ⟨rfl,rfl⟩)
  refine zC ?_;have bcl:=Ya w1 s;have bsz:=Y3 w1 s;have bk:=YZ w1 s;rw[Vx.out] at bcl bsz ⊢;obtain⟨w2,hw2⟩:=eX (zc w1 s)
  rw[hw2] at bcl bsz bk ⊢;have hyb:=cell_later bk Tr.out;obtain⟨HJ,TT,TU,VL⟩:=lH4 (HY.out.stable 0 W w2 H0.out (StR.kept (Vy.out.trans bk) (by rw[HB.out];exact Nat.le_refl _) (by omega))) bk (show w2.heap.size=B+4 from bsz) (show jd (some s)=jb 32 s from rfl);have bsz2:w2.heap.size=B+4:=bsz;clear hw hcell hc hs hw2 bk bsz
  refine YP 32 (n:=6) Tryz.func92 (by decide) (B+1+1) (B+1) (B+1+2) rfl s hs6 (by omega) (by omega) (by omega) (by omega) (by omega) bcl.1 bcl.2.1 bcl.2.2.1 bcl.2.2.2
   (fun k W'=>J k W'∧W'.cell? ⟨B,0,none⟩=some (.func (.yield l) #[] #[]))
   (fun c W'=>Jp c W')
   (fun k W1 W2 h st=>⟨HY.out.stable k W1 W2 h.1 (StR.of st (by omega) (by omega)),(World.cell?_of_block (a:=⟨B,0,none⟩) (st.block B (by omega) (by omega) (by omega))).trans h.2⟩) (fun k W' h=>HY.out.env k W' h.1) ⟨HJ.out,hyb⟩
   (fun x=>{ tmps:=#[.func (.yield l) #[] #[],.pointer (some ⟨bw,0,none⟩),.pointer (some ⟨bc,0,none⟩),.pointer (some ⟨B,0,none⟩),undef,.string (bytes s),.string x,.slice (some ⟨g,0,none⟩) 4 4,.int .i64 3,.slice (some ⟨g,3,none⟩) 1 1,.int .i64 1,.int .i64 0,.bool true,.pointer (some ⟨g,3,none⟩),.string (bytes s),.string (bytes s),
     .func (.func 128) #[] #[.pointer (some ⟨B+1+1,0,none⟩),.pointer (some ⟨B+1,0,none⟩),.pointer (some ⟨B+1+2,0,none⟩)],.string x,undef,undef,undef,undef,undef],defers:=[] }) ?assign ?body ?done ?panic
  case assign =>
   intro l2 x W' K hK;gi_wp2
   exact hK
  case body =>
   rintro l2 k p W' hp ⟨hJ,hyb'⟩ hlt;rw[bsz2] at hlt;obtain⟨fn,tmps,assign,body,hy,hR⟩:=HY.out.yields k p W' (by rw[VL.out];exact hp) hJ (by omega);have HR:=lH hR;clear hR bcl hJ;gi_wp2
   refine RoundIn.inner (HR.out.mono ?_);rintro e W3 (⟨rfl,hJ3,hk3⟩ | ⟨c,rfl,hp3,hk3⟩)
   · obtain⟨Ts,Vi,UD⟩:=lH3 hJ3 hk3 ((World.cell?_of_block (a:=⟨B,0,none⟩) (hk3 B (Nat.le_refl _) (by omega))).trans hyb');clear hJ3 hk3;gi_wp2
     refine⟨fun b hb=>Vi.out b ?_ ?_,Ts.out,UD.out⟩<;>(rcases hb with h | h | h | h | h<;>omega)
   · have Tt:=lH hp3;have Vi:=lH hk3;clear hp3 hk3;gi_wp2
     refine⟨rfl,fun b hb=>Vi.out b ?_ ?_,Tt.out⟩<;>(rcases hb with h | h | h | h | h<;>omega)
  case panic =>
   rintro c W' hJp hk;rw[bsz2] at hk ⊢;refine⟨by simp,.inl ⟨_,_,rfl,run_takeDeferred hk,?_⟩⟩;exact .inr ⟨c,rfl,HY.out.stableP c _ _ hJp (StR.put _ _ (by omega))⟩
  case done =>
   rintro W' ⟨hJ,-⟩ hk;rw[bsz2] at hk ⊢;have Tu:=lH (show J (jd (some s)).length W' from hJ);have V8:=lH hk;clear hJ hk bcl;refine jt (n:=6) ?_;gi_wp2
   unfold zp;refine ji (jt (n:=6) ?_);gi_wp2
   refine ji (jt (n:=6) ?_);gi_wp2
   refine⟨by simp,.inl ⟨_,_,rfl,run_takeDeferred V8.out,?_⟩⟩;exact⟨.tuple #[],by simp[results,Tryz.results92,go_sem],.inl ⟨⟨_,rfl⟩,HY.out.stable _ _ _ Tu.out (StR.put _ _ (by omega))⟩⟩
end Go.Proofs.YtnfojaidmnccoaaGreatDoor
namespace Go.Proofs.YtnfojaidmnccoaaGreatDoor
open Go.RowKit Go.Shelf
attribute [local go_sem] Oper.semAt_some
def jaM (D k:Nat) (I:Nat→World→Prop) (JP:List PanicEntry→World→Prop) (W:World):Exit→Act→World→Prop
 | .normal,_,W'=>Z2 D (D+8) W W'∧I (k+1) W'
 | .panic c,a,W'=>a.defers=[]∧Z2 D (D+8) W W'∧JP c W'
 | _,_,_=>False
theorem ZJ {g:Operand} {t:Tmp} {assign body:Code} {Q:Exit→Act→World→Prop} {a:Act} {w:World} {fid:Nat} {fn:Func} (hfn:Tryz.prog.funcs[fid]?=some fn)
 (bw bc:Nat) (hg:a.eval g=.func (.func 92) #[] #[.pointer (some ⟨bw,0,none⟩),.pointer (some ⟨bc,0,none⟩)])
 (r:Option (List UInt8)) (hs:∀s,r=some s→s.length≤1000000) (hr:zl w bw bc r)
 (I:Nat→World→Prop) (JP:List PanicEntry→World→Prop) (hI:∀k W W',I k W→StR w.heap.size (w.heap.size+8) W W'→I k W') (hJP:∀c W W',JP c W→StR w.heap.size (w.heap.size+8) W W'→JP c W')
 (hE:∀k W,I k W→Env W) (h0:I 0 w) (a₁:ByteArray→Act)
 (hassign:∀(l:Nat) (x:ByteArray) (W:World) (K:Act→World→Prop),K (a₁ x) W →
   assign.wpIn (Fence.wide.inRound l) 4 Tryz.prog (Exit.then K (fun _ _ _=>False)) { tmps:=(#[t].zip #[Value.string x]).foldl (fun tt (p,v)=>tt.setIfInBounds p v) a.tmps,defers:=[] } W)
 (hbody:∀(l k:Nat) (p:List UInt8) (W:World),(jd r)[k]?=some p→I k W→w.heap.size+8≤W.heap.size→body.wpIn (Fence.wide.inRound l) 4 Tryz.prog (jaM w.heap.size k I JP W) (a₁ (bytes p)) W)
 (hdone:∀(W:World),I (jd r).length W→W.heap[w.heap.size]?=some (.deferred (some []))→Q .normal { a with defers:={ target:=.collected w.heap.size,args:=#[] }::a.defers } W)
 (hpanic:∀(c:List PanicEntry) (W:World),JP c W→W.heap[w.heap.size]?=some (.deferred (some []))→Q (.panic c) { a with defers:={ target:=.collected w.heap.size,args:=#[] }::a.defers } W) :
 zf fid Tryz.prog (Code.rangeFunc g #[t] assign body) Q a w:=by
 obtain⟨rec,hrec⟩:∃rec:LoopState→Option Code→Loop,rec=fun st pe=>{ state:=st,pending:=pe,fn:=fid,tmps:=a.tmps,params:=#[t],assign,body,defers:=w.heap.size }:=⟨_,rfl⟩
 obtain⟨W1,hW1⟩:=eX ((w.alloc (.deferred (some []))).alloc (.loop (rec .ready none)))
 have hL1:W1.heap[w.heap.size+1]?=some (.loop (rec .ready none)):=by
  rw[←hW1];have:=World.alloc_heap_new (w.alloc (.deferred (some []))) (.loop (rec .ready none));rwa [World.size_alloc] at this
 have hK1:W1.heap[w.heap.size]?=some (.deferred (some [])):=by
  rw[←hW1];exact(Below.heap_alloc _ _ _ (by simp)).trans (World.alloc_heap_new w _)
 have hB1:Kept w W1:=by rw[←hW1];exact(ja w _).trans (ja _ _)
 have hz1:W1.heap.size=w.heap.size+2:=by rw[←hW1];simp
 have hS1:StR w.heap.size (w.heap.size+8) w W1:=StR.kept hB1 (Nat.le_refl _) (by omega)
 refine zu (n:=4) (l:=w.heap.size+1) (mark:=[{ target:=.collected w.heap.size,args:=#[] }]) (w₁:=W1) (d:={ target:=.fn (.func 92) #[.pointer (some ⟨bw,0,none⟩),.pointer (some ⟨bc,0,none⟩)],args:=#[.func (.yield (w.heap.size+1)) #[] #[]] })
  (f:=92) (args:=#[.func (.yield (w.heap.size+1)) #[] #[],.pointer (some ⟨bw,0,none⟩),.pointer (some ⟨bc,0,none⟩)]) ?_ ?_ ?_ ?_
 · rw[←hW1,hrec];exact run_enterLoop_outer _ _ _ _ _
 · simp only[resolve,hg];simp[go_sem]
 · have eg:=enters_of (P:=Tryz.prog) Tryz.func92 (by kernel_rfl) rfl;simp[invoke,go_sem,eg]
 · refine(callsIn_wide.2 (X1 (w.heap.size+1) bw bc r W1
    (fun k W=>I k W∧W.heap[w.heap.size+1]?=some (.loop (rec .ready none))∧W.heap[w.heap.size]?=some (.deferred (some [])))
    (fun c W=>JP c W∧W.heap[w.heap.size]?=some (.deferred (some [])))
    (hr.kept hB1) hs ?hY ⟨hI 0 w W1 h0 hS1,hL1,hK1⟩)).mono ?post
   case hY =>
    rw[hz1];refine⟨?_,?_,?_,?_⟩
    · rintro k p W hp ⟨hi,hl,hk⟩ hsz;have hlt:w.heap.size+1<W.heap.size:=(Array.getElem?_eq_some_iff.1 hl).1;have hy:=run_yield (P:=Tryz.prog) (args:=#[.string (bytes p)]) hl (by rw[hrec];rfl);rw[hrec] at hy;refine⟨fid,_,assign,body,hy,jT trivial hfn ?_⟩;refine hassign _ (bytes p) W _ ?_;refine⟨_,run_beginRound hl (by rw[hrec]),?_⟩;have hl2:(W.putObj (w.heap.size+1) (.loop { rec .ready none with state:=.busy })).heap[w.heap.size+1]?=some (.loop { rec .ready none with state:=.busy }):=World.putObj_heap_same hlt;have hk2:(W.putObj (w.heap.size+1) (.loop { rec .ready none with state:=.busy })).heap[w.heap.size]?=some (.deferred (some [])):=(World.putObj_heap_other (by omega)).trans hk;refine wpIn_mono (hbody _ k p _ hp (hI k _ _ hi (StR.put W _ (by omega))) (by simp;omega)) ?_;rintro e a3 W3 hp3
      cases e with
      | normal =>
       obtain⟨hk3,hi3⟩:=hp3;have hl3:=(hk3 (w.heap.size+1) (by omega) (by omega)).trans hl2;have hr:=run_endRound (P:=Tryz.prog) none hl3;refine⟨_,_,hr,.inl ⟨rfl,⟨hI _ _ _ hi3 (StR.put W3 _ (by omega)),?_,?_⟩,?_⟩⟩
       · rw[World.putObj_heap_same (Array.getElem?_eq_some_iff.1 hl3).1,hrec];rfl
       · exact((World.putObj_heap_other (by omega)).trans (hk3 w.heap.size (by omega) (by omega))).trans hk2
       · intro b hb1 hb2;exact((World.putObj_heap_other (by omega)).trans (hk3 b (by omega) (by omega))).trans (World.putObj_heap_other (by omega))
      | panic c =>
       obtain⟨hd,hk3,hj⟩:=hp3;exact⟨hd,.inr ⟨c,rfl,⟨hj,(hk3 w.heap.size (by omega) (by omega)).trans hk2⟩,fun b hb1 hb2=>(hk3 b (by omega) (by omega)).trans (World.putObj_heap_other (by omega))⟩⟩
      | ret=>exact hp3.elim
      | exit id=>exact hp3.elim
      | goto t=>exact hp3.elim
      | outgrown=>exact hp3.elim
    · rintro k W W' ⟨hi,hl,hk⟩ hst;exact⟨hI _ _ _ hi (hst.wider (by omega) (by omega)),(hst.block _ (by omega)).trans hl,(hst.block _ (by omega)).trans hk⟩
    · rintro c W W' ⟨hj,hk⟩ hst;exact⟨hJP _ _ _ hj (hst.wider (by omega) (by omega)),(hst.block _ (by omega)).trans hk⟩
    · rintro k W ⟨hi,_,_⟩;exact hE k W hi
   case post =>
    rintro e W2 (⟨⟨v,rfl⟩,hi,hl,hk⟩ | ⟨c,rfl,hj,hk⟩)
    · exact⟨_,run_endLoop (P:=Tryz.prog) hl (by rw[hrec];simp) |>.trans (by rw[hrec]),hdone _ (hI _ _ _ hi (StR.put W2 _ (by omega))) ((World.putObj_heap_other (by omega)).trans hk)⟩
    · exact hpanic c W2 hj hk
end Go.Proofs.YtnfojaidmnccoaaGreatDoor
namespace Go.Proofs.YtnfojaidmnccoaaGreatDoor
open Go.RowKit
theorem JV (c:UInt8):∀(k:Nat) (s:List UInt8),k+1≤(jb c s).length→∃r,Lib.splitK [c] 0 k s=(jb c s).take k++[r]∧jb c r=(jb c s).drop k∧r.length≤s.length
 | 0,s,_=>⟨s,by rw[Lib.splitK];rfl,rfl,Nat.le_refl _⟩
 | k+1,s,h=>by
  rw[Lib.splitK];obtain⟨h1,h2⟩:=Y8 c s
  cases hf:(Lib.cut s [c]).2.2 with
  | false=>rw[zW c s hf] at h;simp at h
  | true =>
   obtain⟨e0,e1,e2⟩:=h2 hf;rw[Jo c s hf] at h ⊢;obtain⟨r,i1,i2,i3⟩:=JV c k (Lib.cut s [c]).2.1 (by simpa using h);rw[if_neg (fun e=>e0 (beq_iff_eq.1 e)),e1,e2,i1];exact⟨r,rfl,i2,Nat.le_trans i3 (jaN s [c]).2⟩
theorem zN (c:UInt8) (k:Nat) (s:List UInt8) (L:List ByteArray) (q:List (List UInt8)) (h:Lib.splitB ⟨#[c]⟩ 0 k (bytes s)=L) (hq:Lib.splitK [c] 0 k s=q):L=q.map bytes:=by
 have hd:=Lib.splitB_data ⟨#[c]⟩ 0 k (bytes s);have hb:(bytes s).data.toList=s:=by simp[bytes]
 rw[hb,h] at hd;have hd':L.map (·.data.toList)=q:=hd.trans hq;rw[←hd',List.map_map];have:(bytes ∘ fun x:ByteArray=>x.data.toList)=id:=by
  funext x;cases x;simp[bytes]
 rw[this,List.map_id]
def Z9 (s:List UInt8) (w:World) (e:Ending) (w':World):Prop :=
 ((jb 32 s).length<3→e=.panicked [jq 2]) ∧
 (3≤(jb 32 s).length→∃g cap bw bc r,e=.returned (.tuple #[.slice (some ⟨g,0,none⟩) 3 cap,.func (.func 92) #[] #[.pointer (some ⟨bw,0,none⟩),.pointer (some ⟨bc,0,none⟩)]]) ∧
   (∀j p,j<3→(jb 32 s)[j]?=some p→w'.cell? ⟨g,j,none⟩=some (.string (bytes p)))∧zl w' bw bc r∧jd r=(jb 32 s).drop 3∧∀q,r=some q→q.length≤s.length)∧Kept w w'
theorem ZE (L:List ByteArray) (n:Nat) (w W:World) (T:TypeId) (q:List (List UInt8)) (hL:L=q.map bytes) (k:Kept (w.alloc (.cells (Lib.cellsOf L n) T)) W):∀j p,q[j]?=some p→W.cell? ⟨w.heap.size,j,none⟩=some (.string (bytes p)):=by
 intro j p hj;have hh:=w.alloc_heap_new (.cells (Lib.cellsOf L n) T);have hLj:L[j]?=some (bytes p):=by rw[hL,List.getElem?_map,hj];rfl
 have hj5:j<L.length:=(List.getElem?_eq_some_iff.1 hLj).1;refine cell_later k ?_;rw[Lib.cell_of_heap hh];show (Lib.cellsOf L n)[j]?=some (.string (bytes p));unfold Lib.cellsOf;rw[List.getElem?_toArray,List.getElem?_append_left (by rw[List.length_map];exact hj5),List.getElem?_map,hLj];rfl
theorem qE (s:List UInt8) (w:World) (hE:Env w) (hs:s.length≤1000000) :
 Calls Tryz.prog 69 #[.string (bytes s),.int .i64 3] w (Z9 s w):=by
 obtain⟨w1,hw1⟩:=eX (w.alloc (.cells #[.int .i64 3] 3))
 have hk1:Kept w w1:=by rw[←hw1];exact ja _ _
 have hz1:w1.heap.size=w.heap.size+1:=by rw[←hw1,World.size_alloc]
 have hc1:w1.cell? ⟨w.heap.size,0,none⟩=some (.int .i64 3):=by rw[←hw1];exact(zK w _ _).1
 obtain⟨m,hm⟩:=(hE.kept hk1).most;have hmf:=hmfL (P:=Tryz.prog);have Vc:=lH (Tryz.strings_SplitN (bytes s) ⟨#[32]⟩ 4 m w1 (by rw[je];omega) hm (by decide) (by decide) (by decide));obtain⟨n,hn⟩:=eX (min 4 ((bytes s).size+1))
 rw[hn] at Vc;obtain⟨L,hL⟩:=eX (Lib.splitB ⟨#[32]⟩ 0 (n-1) (bytes s))
 rw[hL] at Vc;have hsz:(bytes s).size=s.length:=je s;have hpl:=Yu 32 s;have hcap:L.length≤n:=by
  rw[←hL];have:=Lib.splitB_length_le ⟨#[32]⟩ 0 (n-1) (bytes s);omega
 obtain⟨Vy,Vx,U3⟩:=lH3 hk1 hz1 hc1;by_cases h3:(jb 32 s).length<3
 · have hq:=(zi 32 (n-1) s).1 (by omega);have hLq:=zN 32 (n-1) s L _ hL hq;obtain⟨k,hk⟩:=eX (L.length)
   have hk3:k<3:=by rw[←hk,hLq,List.length_map];exact h3
   rw[hk] at Vc;have H3:=lH h3;have hlt:(k:Int)<3:=by omega
   clear h3 hq hLq hk hk3 hcap hL hm hE hz1;go_enter Tryz.func69,Tryz.ntmps69;go_wp2_with fail
   refine Vc.out.mono ?_;rintro e w2 ⟨rfl,rfl⟩;have hc3:((w1.alloc (.cells (Lib.cellsOf L n) 9)).alloc (.cells #[.slice (some ⟨w1.heap.size,0,none⟩) k n] 87)).cell? ⟨w.heap.size,0,none⟩=some (.int .i64 3):=cell_later (jA _ _ _) U3.out;go_wp2;exact⟨rfl,⟨fun _=>rfl,fun h=>absurd H3.out (by omega),Vy.out.trans (jA _ _ _)⟩⟩
 · obtain⟨k,r,q,hk,hLq,hqt,hr,hrp,hrs⟩:∃(k:Nat) (r:Option (List UInt8)) (q:List (List UInt8)),L.length=k∧L=q.map bytes∧(∀j p,j<3→(jb 32 s)[j]?=some p→q[j]?=some p)∧(match r with | none=>k=3∧3≤n∧n≤4 | some x=>k=4∧n=4∧q[3]?=some x)∧jd r=(jb 32 s).drop 3∧∀x,r=some x→x.length≤s.length:=by
    by_cases h4:(jb 32 s).length=3
    · have hq:=(zi 32 (n-1) s).1 (by omega);have hLq:=zN 32 (n-1) s L _ hL hq;refine⟨3,none,jb 32 s,by rw[hLq,List.length_map,h4],hLq,fun j p _ h=>h,⟨rfl,by omega,by omega⟩,?_,fun x h=>by cases h⟩;rw[List.drop_of_length_le (by omega)];rfl
    · have hn4:n=4:=by omega
      subst hn4;obtain⟨x,e1,e2,e3⟩:=JV 32 3 s (by omega);have hLq:=zN 32 3 s L _ hL e1;have ht:((jb 32 s).take 3).length=3:=by rw[List.length_take];omega
      refine⟨4,some x,(jb 32 s).take 3++[x],by rw[hLq,List.length_map,List.length_append,ht];rfl,hLq,fun j p hj h=>?_,⟨rfl,rfl,?_⟩,e2,fun y h=>by cases h;exact e3⟩
      · rw[List.getElem?_append_left (by omega),List.getElem?_take_of_lt hj];exact h
      · rw[List.getElem?_append_right (by omega),ht];rfl
   rw[hk] at Vc
   have hcap3:3≤n:=by cases r with
    | none=>exact hr.2.1
    | some x=>obtain⟨_,h,_⟩:=hr;omega
   have hk3:¬(k:Int)<3:=by cases r with
    | none=>obtain⟨h,_⟩:=hr;omega
    | some x=>obtain⟨h,_⟩:=hr;omega
   have hkn:k≤n:=by rw[←hk];exact hcap
   have hn4:n≤4:=by omega
   obtain⟨H3,Tv,HR,VL,Ui,Tw⟩:=lH6 h3 hqt hr hrp hrs hLq;clear h3 hqt hr hrp hrs hLq hk hcap hL hm hE hn hz1;go_enter Tryz.func69,Tryz.ntmps69;go_wp2_with fail
   refine Vc.out.mono ?_;rintro e w2 ⟨rfl,rfl⟩;have hc3:((w1.alloc (.cells (Lib.cellsOf L n) 9)).alloc (.cells #[.slice (some ⟨w1.heap.size,0,none⟩) k n] 87)).cell? ⟨w.heap.size,0,none⟩=some (.int .i64 3):=cell_later (jA _ _ _) U3.out;have U4:=lH hc3;have U5:=lH (ZE L n w1 ((w1.alloc (.cells (Lib.cellsOf L n) 9)).alloc (.cells #[.slice (some ⟨w1.heap.size,0,none⟩) k n] 87)) 9 q Tw.out (ja _ _));have U6:=lH (show ((w1.alloc (.cells (Lib.cellsOf L n) 9)).alloc (.cells #[.slice (some ⟨w1.heap.size,0,none⟩) k n] 87)).cell? ⟨w1.heap.size+1,0,none⟩=some (.slice (some ⟨w1.heap.size,0,none⟩) k n) by
    have:=(zK (w1.alloc (.cells (Lib.cellsOf L n) 9)) (.slice (some ⟨w1.heap.size,0,none⟩) k n) 87).1;rwa [World.size_alloc] at this)
   go_wp2;go_ret2
   refine⟨fun h=>absurd h H3.out,fun _=>⟨w1.heap.size,n,w1.heap.size+1,w.heap.size,r,rfl,fun j p hj hp=>U5.out j p (Tv.out j p hj hp),?_,VL.out,Ui.out⟩,Vy.out.trans (jA _ _ _)⟩;have hr:=HR.out
   cases r with
   | none =>
    obtain⟨rfl,h1,h2⟩:=hr;exact⟨U4.out,_,_,U6.out,h1,h2⟩
   | some x =>
    obtain⟨rfl,rfl,h2⟩:=hr;exact⟨U4.out,_,U6.out,U5.out 3 x h2⟩
open Go.RowKit Go.Shelf
attribute [local go_sem] Oper.semAt_some
theorem Below.stR {B lo hi:Nat} {w W W':World} (h:Below B w W) (k:StR lo hi W W') (hl:B≤lo):Below B w W' :=
 ⟨k.os.trans h.os,k.tape.trans h.tape,k.output.trans h.output,Nat.le_trans h.size k.size,fun b hb=>(k.block b (by omega)).trans (h.block b hb)⟩
def j1 (ps:List (List UInt8)):Bool:=ps.all (jG 58 3)
def qy (ps:List (List UInt8)) (w:World) (e:Ending) (w':World):Prop:=(j1 ps=true→∃v,e=.returned v)∧(j1 ps=false→e=.panicked [jq 2])∧Kept w w'
theorem Zb {ps:List (List UInt8)} {k:Nat} {p:List UInt8} {f:List UInt8→Bool} (h:∀q ∈ ps.take k,f q=true) (hp:ps[k]?=some p) (hf:f p=true):∀q ∈ ps.take (k+1),f q=true:=by
 intro q hq;rw[List.take_add_one,hp] at hq;rcases List.mem_append.1 hq with g | g
 · exact h q g
 · have:q=p:=by simpa using g
   rw[this];exact hf
theorem Yb {r:Option (List UInt8)} (hs:∀s,r=some s→s.length≤1000000):∀p ∈ jd r,p.length≤1000000:=by
 intro p hp
 cases r with
 | none=>cases hp
 | some s=>exact Nat.le_trans (jC 32 s p hp) (hs s rfl)
theorem Zn (bw bc:Nat) (r:Option (List UInt8)) (w:World) (hE:Env w) (hr:zl w bw bc r) (hs:∀s,r=some s→s.length≤1000000) :
 Calls Tryz.prog 71 #[.func (.func 92) #[] #[.pointer (some ⟨bw,0,none⟩),.pointer (some ⟨bc,0,none⟩)]] w (qy (jd r) w):=by
 have HE:=lH hE;have Vw:=lH (Yb hs);refine zd (n:=6) Tryz.func71 rfl ?_;simp only[Tryz.ntmps71,List.size_toArray,List.length_cons,List.length_nil,Nat.reduceAdd,Nat.reduceSub,Array.replicate_succ,Array.replicate_zero,List.push_toArray,List.append_toArray,List.nil_append,List.cons_append];refine ji (jt (n:=6) ?_);gi_wp2
 refine zI ?_;refine ZJ Tryz.func71 bw bc rfl r hs hr
  (fun k W=>Below w.heap.size w W∧∀p ∈ (jd r).take k,jG 58 3 p=true)
  (fun c W=>c=[jq 2]∧Below w.heap.size w W∧j1 (jd r)=false)
  (fun k W W' h st=>⟨Below.stR h.1 st (Nat.le_refl _),h.2⟩) (fun c W W' h st=>⟨h.1,Below.stR h.2.1 st (Nat.le_refl _),h.2.2⟩) (fun k W h=>HE.out.kept h.1) ⟨Below.refl _ _,by simp⟩
  (fun x=>{ tmps:=#[.func (.func 92) #[] #[.pointer (some ⟨bw,0,none⟩),.pointer (some ⟨bc,0,none⟩)],undef,.string x,.func (.func 92) #[] #[.pointer (some ⟨bw,0,none⟩),.pointer (some ⟨bc,0,none⟩)],.string x,undef,undef],defers:=[] }) ?assign ?body ?done ?panic
 case assign =>
  intro l x W K hK;gi_wp2
  exact hK
 case body =>
  rintro l k p W hp ⟨hB,hd⟩ hsz;obtain⟨HB,HD,HP,HM,HR⟩:=lH5 hB hd hp (List.mem_of_getElem? hp) (zS p W (HE.out.kept hB) (Vw.out p (List.mem_of_getElem? hp)));unfold J4 at HR;have Vq:=lH hsz;obtain⟨q,hq⟩:=eX (jG 58 3 p)
  have HQ:=lH hq;clear hB hd hp hsz hE hr hq
  cases q with
  | true =>
   gi_wp2_with (refine⟨trivial,?_⟩;gi_at_call 96;refine(CallsIn.inRound l (callsIn_wide.2 HR.out)).mono ?_;rintro e W1 ⟨ha,-,hk⟩;obtain⟨g,cap,rfl,-⟩:=ha HQ.out;have HK:=lH hk;clear ha hk)
   exact⟨fun b h1 h2=>HK.out.block b (by have:=Vq.out;omega),HB.out.trans (Below.mono HK.out HB.out.size),Zb HD.out HP.out HQ.out⟩
  | false =>
   gi_wp2_with (refine⟨trivial,?_⟩;gi_at_call 96;refine(CallsIn.inRound l (callsIn_wide.2 HR.out)).mono ?_;rintro e W1 ⟨-,hb,hk⟩;obtain rfl:=hb HQ.out;have HK:=lH hk;clear hb hk)
   refine⟨rfl,fun b h1 h2=>HK.out.block b (by have:=Vq.out;omega),rfl,HB.out.trans (Below.mono HK.out HB.out.size),?_⟩;unfold j1;rw[List.all_eq_false];exact⟨p,HM.out,by rw[HQ.out];decide⟩
 case panic =>
  rintro c W ⟨rfl,hB,hbad⟩ hk;refine⟨by simp,.inl ⟨_,_,rfl,run_takeDeferred hk,?_⟩⟩;exact⟨fun h=>(by rw[hbad] at h;cases h),fun _=>rfl,jI hB (Nat.le_refl _)⟩
 case done =>
  rintro W ⟨hB,hd⟩ hk;have hT:j1 (jd r)=true:=by
   unfold j1;rw[List.all_eq_true];rw[List.take_length] at hd;exact hd
  refine⟨by simp,.inl ⟨_,_,rfl,run_takeDeferred hk,?_⟩⟩;exact⟨.tuple #[],by simp[results,Tryz.results71,go_sem],fun _=>⟨_,rfl⟩,fun h=>(by rw[hT] at h;cases h),jI hB (Nat.le_refl _)⟩
theorem Yr:(Tryz.prog.info? 46).map (fun i=>(i.zero,i.size,i.bytes))=some (some (.agg #[.int .i64 0,.int .i64 0,.int .i64 0]),3,24):=by kernel_rfl
theorem Own.stR {α:Type} {L:Lay α} {e:TypeId} {lo hi:Nat} {W W':World} {v:Value} {l:List α} (h:Own L e W hi v l) (k:StR lo hi W W'):Own L e W' hi v l:=by
 obtain⟨⟨h0,h1⟩,hf⟩:=h;refine⟨⟨h0,h1.imp id ?_⟩,hf⟩;rintro ⟨g,cap,cur,rfl,hbg,hg,hn,hm,hs,ht⟩;exact⟨g,cap,cur,rfl,hbg,(k.block g (.inr hbg)).trans hg,hn,hm,hs,ht⟩
theorem zF.stR {α:Type} {L:Lay α} {e:TypeId} {lo hi vb:Nat} {W W':World} {l:List α} (h:zF L e hi vb l W) (k:StR lo hi W W') (hv:vb<lo):zF L e hi vb l W':=by
 obtain⟨v,h1,h3,h4⟩:=h;have hb:=k.block vb (.inl hv);exact⟨v,(World.cell?_of_block (a:=⟨vb,0,none⟩) hb).trans h1,(World.frozen?_of_block (a:=⟨vb,0,none⟩) hb).trans h3,h4.stR k⟩
def j5 (ps:List (List UInt8)) (k:Nat):RL:=((ps.take k).map jD).take 9
theorem J5 {ps:List (List UInt8)} {k:Nat} (h:k≤ps.length):(j5 ps k).length=min 9 k:=by
 unfold j5;rw[List.length_take,List.length_map,List.length_take];omega
theorem Jw {ps:List (List UInt8)} {k:Nat} {p:List UInt8} (hp:ps[k]?=some p) (h:(j5 ps k).length≤8):j5 ps (k+1)=j5 ps k++[jD p]:=by
 have hk:k<ps.length:=(List.getElem?_eq_some_iff.1 hp).1;rw[J5 (by omega)] at h;unfold j5;have e:ps.take (k+1)=ps.take k++[p]:=by rw[List.take_add_one,hp];rfl
 rw[e,List.map_append,List.take_of_length_le (l:=(ps.take k).map jD) (by simp;omega),List.take_of_length_le (by simp;omega)];rfl
theorem qu {ps:List (List UInt8)} {k:Nat} {p:List UInt8} (hp:ps[k]?=some p) (h:¬(j5 ps k).length≤8):j5 ps (k+1)=j5 ps k:=by
 have hk:k<ps.length:=(List.getElem?_eq_some_iff.1 hp).1;rw[J5 (by omega)] at h;unfold j5;have e:ps.take (k+1)=ps.take k++[p]:=by rw[List.take_add_one,hp];rfl
 rw[e,List.map_append,List.take_append_of_le_length (by simp;omega)]
def j8 (ps:List (List UInt8)):Bool:=ps.all zD
def qq (ps:List (List UInt8)) (w:World) (e:Ending) (w':World):Prop:=(j8 ps=true→∃v,e=.returned v∧Own jw 46 w' w.heap.size v ((ps.map jD).take 9))∧(j8 ps=false→e=.panicked [jq 5])∧Kept w w'
theorem XO (w:World) (o:Obj) (a b c:Int) (T:TypeId):∀j u,[Value.int .i64 a,.int .i64 b,.int .i64 c][j]?=some u→((w.alloc o).alloc (.cells #[.int .i64 a,.int .i64 b,.int .i64 c] T)).cell? ((⟨w.heap.size+1,0,none⟩:Addr).add j)=some u:=jaU w o _ _ _ T
theorem YO (bw bc:Nat) (r:Option (List UInt8)) (w:World) (hE:Vec.Env w) (hr:zl w bw bc r) (hs:∀s,r=some s→s.length≤1000000) (hf:j1 (jd r)=true) :
 Calls Tryz.prog 73 #[.func (.func 92) #[] #[.pointer (some ⟨bw,0,none⟩),.pointer (some ⟨bc,0,none⟩)]] w (qq (jd r) w):=by
 obtain⟨HE,Vw,Tx⟩:=lH3 hE (Yb hs) (List.all_eq_true.1 (show (jd r).all (jG 58 3)=true from hf));obtain⟨w1,hw1⟩:=eX (w.alloc (.cells #[.slice none 0 0] 24))
 have k1:Kept w w1:=by rw[←hw1];exact ja _ _
 have hz1:w1.heap.size=w.heap.size+1:=by rw[←hw1,World.size_alloc]
 obtain⟨bx1,bx2⟩:=zK w (.slice none 0 0) 24;rw[hw1] at bx1 bx2;obtain⟨vb,hvb⟩:=eX (w.heap.size)
 rw[hvb] at bx1 bx2 hz1;have hr1:=hr.kept k1;obtain⟨Vy,VE,Vx⟩:=lH3 k1 hvb hz1;clear hE hr hf k1;refine zd (n:=6) Tryz.func73 rfl ?_;simp only[Tryz.ntmps73,List.size_toArray,List.length_cons,List.length_nil,Nat.reduceAdd,Nat.reduceSub,Array.replicate_succ,Array.replicate_zero,List.push_toArray,List.append_toArray,List.nil_append,List.cons_append];refine ji (jt (n:=6) ?_);gi_wp2
 refine ji (jt (n:=6) ?_);gi_wp2
 try rw[hw1]
 try rw[hvb]
 clear hw1 hvb hz1;refine ji (ji (jt (n:=6) ?_));gi_wp2
 refine zI ?_;refine ZJ Tryz.func73 bw bc rfl r hs hr1
  (fun k W=>Below w.heap.size w W∧(∀p ∈ (jd r).take k,zD p=true)∧zF jw 46 (w1.heap.size+8) vb (j5 (jd r) k) W)
  (fun c W=>c=[jq 5]∧Below w.heap.size w W∧j8 (jd r)=false)
  (fun k W W' h st=>⟨Below.stR h.1 st (by have:=VE.out;have:=Vx.out;omega),h.2.1,h.2.2.stR st (by have:=Vx.out;omega)⟩) (fun c W W' h st=>⟨h.1,Below.stR h.2.1 st (by have:=VE.out;have:=Vx.out;omega),h.2.2⟩) (fun k W h=>(HE.out.kept h.1).base) ⟨Vy.out,by simp,⟨.slice none 0 0,bx1,bx2,Own.nil _ _ _⟩⟩
  (fun x=>{ tmps:=#[.func (.func 92) #[] #[.pointer (some ⟨bw,0,none⟩),.pointer (some ⟨bc,0,none⟩)],undef,.slice none 0 0,.pointer (some ⟨vb,0,none⟩),.string x,undef,.func (.func 92) #[] #[.pointer (some ⟨bw,0,none⟩),.pointer (some ⟨bc,0,none⟩)],.string x,undef,undef,undef,undef,undef,undef,undef,undef,undef,undef],defers:=[] }) ?assign ?body ?done ?panic
 case assign =>
  intro l x W K hK;gi_wp2
  exact hK
 case body =>
  rintro l k p W hp ⟨hB,hd,v,hvc,hvf,hvo⟩ hlt;obtain⟨HB,HD,HP,HM,Vu⟩:=lH5 hB hd hp (List.mem_of_getElem? hp) (Xw p W (HE.out.kept hB) (Vw.out p (List.mem_of_getElem? hp)) (Tx.out p (List.mem_of_getElem? hp)));unfold Xa at Vu;have Vl:=lH hlt;have hvW:vb<W.heap.size:=by have:=Vx.out;omega
  obtain⟨q,hq⟩:=eX (zD p)
  have HQ:=lH hq;have VM:=lH (fun h=>Y2 p h);obtain⟨⟨u,c,d⟩,hru⟩:∃x,jD p=x:=⟨_,rfl⟩
  have U7:=lH hru;rw[hru] at Vu VM;dsimp only at Vu VM;clear hB hd hq hru bx1 bx2 hr1 hlt
  cases q with
  | true =>
   obtain⟨av,cv,rfl,q1,q2,q3⟩:=hvo.at_;obtain⟨n,hn⟩:=eX ((j5 (jd r) k).length)
   have hn9:n≤9:=by
    have:=J5 (show k≤(jd r).length from Nat.le_of_lt (List.getElem?_eq_some_iff.1 hp).1);omega
   rw[hn] at hvo hvc;have Vs:=lH hvo;have HN:=lH hn;clear hvo hn q1 q2 q3 hp;gi_wp2_with (refine⟨trivial,?_⟩;gi_at_call 98;refine(CallsIn.inRound l (callsIn_wide.2 Vu.out)).mono ?_;rintro e W1 ⟨ha,-,k1⟩;obtain rfl:=ha HQ.out;have K1:=lH k1;have hvc1:=cell_later k1 hvc;have hvf1:=(k1.frozen (p:=⟨vb,0,none⟩) hvW).trans hvf;have hm1:vb<W1.heap.size:=Nat.lt_of_lt_of_le hvW k1.size;clear ha k1 hvc hvf;refine Hid.out ?_)
   refine lH ?_;by_cases h8:n≤8
   · obtain⟨i0,hi,hz0,hz1,hz2⟩:=info_parts Yr;gi_wp2_with (gi_at_builtin;go_must (refine wpListIn_append_own _ rfl (.tmp 13) (.tmp 15) _ rfl (w1.heap.size+8) 46 i0 _ 3 24 Tryz.underlying24 hi hz0 hz1 hz2 rfl (by decide) _ n (ju jw (j5 (jd r) k)) rfl (((Vs.out.kept K1.out).kept (jA W1 (.cells #[.int .i64 u,.int .i64 c,.int .i64 d] 46) (.cells #[.int .i64 u,.int .i64 c,.int .i64 d] 46))).row HN.out) ⟨W1.heap.size+1,0,none⟩ 1 1 [.int .i64 u,.int .i64 c,.int .i64 d] rfl rfl (XO _ _ _ _ _ _) (Jx jw [(u,c,d)]) (by unfold maxLen;omega) (by omega) (by rw[World.size_alloc,World.size_alloc];have:=Vl.out;have:=K1.out.size;omega) ?_);intro v' w2 hown' hgrow _;refine Hid.out ?_)
     refine lH ?_;obtain⟨g',cap',rfl⟩:=ownsRow_succ hown';have KA:=lH (show Kept W ((W1.alloc (.cells #[.int .i64 u,.int .i64 c,.int .i64 d] 46)).alloc (.cells #[.int .i64 u,.int .i64 c,.int .i64 d] 46)) from K1.out.trans (jA W1 _ _));have hrow:∀r,(Value.slice av n cv).ownBlock=some r→w1.heap.size+8≤r:=fun r hr=>(Vs.out.1.lt r hr).1;have V4:=lH (show ∀b,b<w1.heap.size+8→w2.heap[b]?=W.heap[b]? from fun b hb=>(hgrow.block b (Nat.lt_of_lt_of_le hb (Nat.le_trans Vl.out KA.out.size)) (fun e=>by have:=hrow b e.symm;omega)).trans (KA.out.block b (Nat.lt_of_lt_of_le hb Vl.out)));have hv8:vb<w1.heap.size:=by have:=Vx.out;omega
     have hvc2:w2.cell? ⟨vb,0,none⟩=some (.slice av n cv):=(World.cell?_of_block (a:=⟨vb,0,none⟩) (hgrow.block vb (by simp;omega) (fun e=>by have:=hrow vb e.symm;omega))).trans (cell_later (jA W1 _ _) hvc1);have hvf2:w2.frozen? ⟨vb,0,none⟩=false:=(World.frozen?_of_block (a:=⟨vb,0,none⟩) (hgrow.block vb (by simp;omega) (fun e=>by have:=hrow vb e.symm;omega))).trans (((jA W1 _ _).frozen (p:=⟨vb,0,none⟩) hm1).trans hvf1);have VS:=lH hown';have Uz:=lH (show Below w.heap.size w w2 from⟨hgrow.os.trans (KA.out.os.trans HB.out.os),hgrow.tape.trans (KA.out.tape.trans HB.out.tape),hgrow.output.trans (KA.out.output.trans HB.out.output),Nat.le_trans HB.out.size (Nat.le_trans KA.out.size hgrow.size),fun b hb=>(V4.out b (by have:=VE.out;omega)).trans (HB.out.block b hb)⟩);clear hvc1 hvf1 hown' hgrow hrow hi hz0 hz1 hz2;gi_wp2
     refine⟨fun b h1 h2=>(Below.heap_setCell w2 ⟨vb,0,none⟩ _ b (by show b≠vb;omega)).trans (V4.out b (by omega)),Uz.out.setCell (p:=⟨vb,0,none⟩) (by have:=VE.out;show w.heap.size≤vb;omega) _,Zb HD.out HP.out HQ.out,⟨_,World.cell?_setCell_same' _ _ _ (by rw[hvc2];rfl),by rw[World.frozen?_setCell];exact hvf2,?_⟩⟩;have hl:(j5 (jd r) (k+1)).length=n+1:=by rw[Jw HP.out (by rw[HN.out];exact h8),List.length_append,HN.out];rfl
     have ho:Own jw 46 w2 (w1.heap.size+8) (.slice (some ⟨g',0,none⟩) (n+1) cap') (j5 (jd r) (k+1)):=by
      refine⟨?_,?_⟩
      · rw[hl,Jw HP.out (by rw[HN.out];exact h8),U7.out,zR];exact VS.out
      · rw[Jw HP.out (by rw[HN.out];exact h8),U7.out];intro x hx;rcases List.mem_append.1 hx with h | h
        · exact Vs.out.2 x h
        · obtain rfl:x=(u,c,d):=by simpa using h
          exact VM.out HQ.out
     exact ho.setCell_below (a:=⟨vb,0,none⟩) (by show vb<w1.heap.size+8;omega) _
   · have Vz:=lH (qu HP.out (by rw[HN.out];exact h8));have h9:8<n:=by omega
     clear h8;gi_wp2
     refine⟨fun b h1 h2=>(Kept.trans K1.out (ja W1 _)).block b (by have:=Vl.out;omega),HB.out.trans (Below.mono (Kept.trans K1.out (ja W1 _)) HB.out.size),Zb HD.out HP.out HQ.out,⟨.slice av n cv,cell_later (ja W1 _) hvc1,((ja W1 _).frozen (p:=⟨vb,0,none⟩) hm1).trans hvf1,?_⟩⟩;rw[Vz.out];exact Vs.out.kept (Kept.trans K1.out (ja W1 _))
  | false =>
   clear hp hvo hvc hvf;gi_wp2_with (refine⟨trivial,?_⟩;gi_at_call 98;refine(CallsIn.inRound l (callsIn_wide.2 Vu.out)).mono ?_;rintro e W1 ⟨-,hb,k1⟩;obtain rfl:=hb HQ.out;have K1:=lH k1;clear hb k1)
   refine⟨rfl,fun b h1 h2=>K1.out.block b (by have:=Vl.out;omega),rfl,HB.out.trans (Below.mono K1.out HB.out.size),?_⟩;unfold j8;rw[List.all_eq_false];exact⟨p,HM.out,by rw[HQ.out];decide⟩
 case panic =>
  rintro c W ⟨rfl,hB,hbad⟩ hk;refine⟨by simp,.inl ⟨_,_,rfl,run_takeDeferred hk,?_⟩⟩;exact⟨fun h=>(by rw[hbad] at h;cases h),fun _=>rfl,jI hB (by have:=VE.out;have:=Vx.out;omega)⟩
 case done =>
  rintro W ⟨hB,hd,v,hvc,hvf,hvo⟩ hk;have HT:=lH (show j8 (jd r)=true by
   unfold j8;rw[List.all_eq_true];rw[List.take_length] at hd;exact hd)
  obtain⟨Vs,HB,Ty⟩:=lH3 hvo hB hk;obtain⟨av,cv,rfl,q1,q2,q3⟩:=hvo.at_;have Tz:=lH (show j5 (jd r) (jd r).length=((jd r).map jD).take 9 by unfold j5;rw[List.take_length]);clear hd hk hvo hB q1 q2 q3 bx1 bx2 hr1;refine jt (n:=6) ?_;gi_wp2
  refine⟨by simp,.inl ⟨_,_,rfl,run_takeDeferred Ty.out,?_⟩⟩;refine⟨_,results_tmp rfl _ _ _,?_⟩;refine⟨fun _=>⟨_,rfl,?_⟩,fun h=>(by rw[HT.out] at h;cases h),jI HB.out (by have:=VE.out;have:=Vx.out;omega)⟩;rw[←Tz.out];exact(Vs.out.put (by omega) _).base_le (by have:=VE.out;have:=Vx.out;omega)
end Go.Proofs.YtnfojaidmnccoaaGreatDoor
namespace Go.Proofs.YtnfojaidmnccoaaGreatDoor
open Go.RowKit
theorem JC:∀(l:Vec.V) (b:Bool),(∀x ∈ l,x.1.size≤50∧-9223372036854775808≤x.2∧x.2≤9223372036854775807)→(Vec.jy b l).length≤80*l.length
 | [],b,_=>by rw[Vec.jy];simp
 | x::t,b,h=>by
  have ih:=JC t false (fun y hy=>h y (List.mem_cons_of_mem _ hy));obtain⟨h1,h2,h3⟩:=h x (List.mem_cons_self ..);have hi:=Lib.itoa_length_le x.2 h2 h3;have hx:x.1.data.toList.length=x.1.size:=by rw[Array.length_toList,ByteArray.size_data]
  rw[Vec.jy];simp only[List.length_append,List.length_cons,List.length_nil,hx]
  cases b<;>simp<;>omega
theorem XU {l:Vec.V} (h:Vec.ZC l=true) (hf:Vec.jQ l):(Vec.jV l).length≤2000:=by
 unfold Vec.ZC at h;simp only[Bool.and_eq_true,decide_eq_true_eq] at h;unfold Vec.jV;split
 · decide
 · have:=JC l true (fun x hx=>by
    obtain⟨k,hk,rfl⟩:=List.getElem_of_mem hx;have e:l.getD k (ByteArray.empty,0)=l[k]:=by simp[List.getD,hk]
    have h1:=Vec.Jj h.2 hk;have h2:=(hf k hk).2;unfold Vec.nm at h1;unfold Vec.qn at h2;rw[e] at h1 h2;exact⟨h1,h2⟩)
   omega
abbrev PL:=List (ByteArray×ByteArray)
abbrev NT:=ByteArray×ByteArray×Bool
abbrev NL:=List NT
theorem jaj (x y:ByteArray) (b:Bool) (u:Value) (h:u ∈ [Value.string x,Value.string y,Value.bool b]):u.oneCell'=true:=by
 have e:u=Value.string x∨u=Value.string y∨u=Value.bool b:=by simpa using h
 rcases e with e | e | e<;>rw[e]<;>rfl
def q8:Lay NT:={ m:=3,cs:=fun x=>[.string x.1,.string x.2.1,.bool x.2.2],fine:=fun x=>x.1.size≤maxLen∧x.2.1.size≤maxLen,len:=fun _=>rfl,one:=fun x=>jaj x.1 x.2.1 x.2.2,pos:=by decide }
theorem qk (v:Value) (w:World):Calls Tryz.prog 75 #[v,.int .i64 0] w fun e w'=>e=.returned v∧w=w':=by
 go_enter Tryz.func75,Tryz.ntmps75;go_wp2;go_ret;exact⟨rfl,rfl⟩
theorem Xp (v:Value) (x:Int) (w:World) (h:x≠0):Calls Tryz.prog 75 #[v,.int .i64 x] w fun e w'=>e=.panicked [jq x]∧w=w':=by
 have h3:(x != 0)=true:=by simpa using h
 clear h;go_enter Tryz.func75,Tryz.ntmps75;go_wp2;exact⟨rfl,rfl,rfl⟩
open Go.RowKit Go.Shelf
attribute [local go_sem] Oper.semAt_some
end Go.Proofs.YtnfojaidmnccoaaGreatDoor
namespace Go.Proofs.YtnfojaidmnccoaaGreatDoor
open Go.RowKit Go.Shelf
attribute [local go_sem] Oper.semAt_some
end Go.Proofs.YtnfojaidmnccoaaGreatDoor
namespace Go.Proofs.YtnfojaidmnccoaaGreatDoor
open Go.RowKit Go.Sort
def Grw (w w':World):Prop:=∃q os,w'=grow (w.drewN q) os
theorem Grw.refl (w:World):Grw w w:=⟨0,#[],by rw[grow_empty];rfl⟩
theorem Grw.grown {w W:World} (h:Grw w W) (n:Nat) (os:Array Obj):Grw w (grow (W.drewN n) os):=by
 obtain⟨q,os0,rfl⟩:=h;exact⟨q+n,os0++os,by show grow (grow ((w.drewN q).drewN n) os0) os=_;rw[grow_grow,World.drewN_drewN]⟩
theorem Grw.trans {a b c:World} (h:Grw a b) (k:Grw b c):Grw a c:=by
 obtain⟨q,os,rfl⟩:=k;exact h.grown q os
theorem Grw.alloc (w:World) (o:Obj):Grw w (w.alloc o):=⟨0,#[o],alloc_eq_grow _ _⟩
theorem Grw.drewN (w:World) (n:Nat):Grw w (w.drewN n):=⟨n,#[],by rw[grow_empty]⟩
theorem XL (w:World) (n:Nat) (os:Array Obj):Kept w (grow (w.drewN n) os):=Go.Lib.below_grow w.heap.size w (Nat.le_refl _) n os
theorem Grw.kept {w w':World} (h:Grw w w'):Kept w w':=by
 obtain⟨q,os,rfl⟩:=h;exact XL w q os
def Zi (w:World) (c:Nat) (t:NT):Prop:=w.cell? ⟨c,0,none⟩=some (.string t.1)∧w.cell? ⟨c,1,none⟩=some (.string t.2.1)∧w.cell? ⟨c,2,none⟩=some (.bool t.2.2)
theorem Zi.kept {w w':World} {c:Nat} {t:NT} (h:Zi w c t) (k:Kept w w'):Zi w' c t:=⟨cell_later k h.1,cell_later k h.2.1,cell_later k h.2.2⟩
theorem Zi.new (w:World) (x y:ByteArray) (m:Bool) (T:TypeId):Zi (w.alloc (.cells #[.string x,.string y,.bool m] T)) w.heap.size (x,y,m):=by
 have hh:=w.alloc_heap_new (.cells #[.string x,.string y,.bool m] T);exact⟨by rw[Lib.cell_of_heap hh];rfl,by rw[Lib.cell_of_heap hh];rfl,by rw[Lib.cell_of_heap hh];rfl⟩
open Go.RowKit Go.Shelf
attribute [local go_sem] Oper.semAt_some
end Go.Proofs.YtnfojaidmnccoaaGreatDoor
