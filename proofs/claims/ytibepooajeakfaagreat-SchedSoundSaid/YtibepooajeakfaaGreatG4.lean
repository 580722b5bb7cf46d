/- C. -/
import Derived.Test.YtibepooajeakfaaGreatG0
import Derived.Test.YtibepooajeakfaaGreatG1
import Derived.Test.YtibepooajeakfaaGreatG2
import Derived.Test.YtibepooajeakfaaGreatG3
set_option linter.unusedVariables false
set_option maxRecDepth 100000
set_option maxHeartbeats 25600000
namespace Go.Proofs.YtibepooajeakfaaGreat
open Go.RowKit
theorem jgU (n m:Nod) (v1 v2 v3 u1 u2 u3:Value) (w:World) (h:zp w v1 v2 v3 n) (g:zp w u1 u2 u3 m) :
 Calls Tryz.prog 49 #[zj n v1 v2 v3,zj m u1 u2 u3] w (Say (.bool (Jj n m)) w):=by
 have HH:=lH h;have GG:=lH g;obtain⟨b1,hb1⟩:=eX (eqS n.name m.name)
 obtain⟨b2,hb2⟩:=eX ((n.cordon==m.cordon))
 obtain⟨b3,hb3⟩:=eX (Vec.jY n.cap m.cap)
 obtain⟨b4,hb4⟩:=eX (Jc n.labels m.labels)
 obtain⟨b5,hb5⟩:=eX (jU n.taints m.taints)
 have VI:=lH (show Jj n m=(b1&&(b2&&(b3&&(b4&&b5)))) by unfold Jj;rw[hb1,hb2,hb3,hb4,hb5]);have t1:(n.name.toList==m.name.toList)=b1:=hb1;obtain⟨B3,B4,B5⟩:=lH3 hb3 hb4 hb5;obtain⟨W0,hW0⟩:=eX ((w.alloc (.cells #[.string n.name,v1,v2,v3,.bool n.cordon] 78)).alloc (.cells #[.string m.name,u1,u2,u3,.bool m.cordon] 78))
 have hk0:Kept w W0:=by rw[←hW0];exact jn _ _ _
 have Va:=lH hk0;have HC:=lH (show ∀W,Kept W0 W→(W.cell? ⟨w.heap.size,0,none⟩=some (.string n.name)∧W.cell? ⟨w.heap.size,4,none⟩=some (.bool n.cordon)∧W.cell? ⟨w.heap.size,1,none⟩=some v1∧W.cell? ⟨w.heap.size,2,none⟩=some v2∧W.cell? ⟨w.heap.size,3,none⟩=some v3)∧(W.cell? ⟨w.heap.size+1,0,none⟩=some (.string m.name)∧W.cell? ⟨w.heap.size+1,4,none⟩=some (.bool m.cordon)∧W.cell? ⟨w.heap.size+1,1,none⟩=some u1∧W.cell? ⟨w.heap.size+1,2,none⟩=some u2∧W.cell? ⟨w.heap.size+1,3,none⟩=some u3) from fun W k=>by
  have hh:=(w.alloc (.cells #[.string n.name,v1,v2,v3,.bool n.cordon] 78)).alloc_heap_new (.cells #[.string m.name,u1,u2,u3,.bool m.cordon] 78);have h9:=w.alloc_heap_new (.cells #[.string n.name,v1,v2,v3,.bool n.cordon] 78);have kk:Kept (w.alloc (.cells #[.string n.name,v1,v2,v3,.bool n.cordon] 78)) W0:=by rw[←hW0];exact ja _ _
  rw[hW0,World.size_alloc] at hh;have k2:=kk.trans k;exact⟨⟨cell_later k2 (by rw[Lib.cell_of_heap h9];rfl),cell_later k2 (by rw[Lib.cell_of_heap h9];rfl),cell_later k2 (by rw[Lib.cell_of_heap h9];rfl),cell_later k2 (by rw[Lib.cell_of_heap h9];rfl),cell_later k2 (by rw[Lib.cell_of_heap h9];rfl)⟩,⟨cell_later k (by rw[Lib.cell_of_heap hh];rfl),cell_later k (by rw[Lib.cell_of_heap hh];rfl),cell_later k (by rw[Lib.cell_of_heap hh];rfl),cell_later k (by rw[Lib.cell_of_heap hh];rfl),cell_later k (by rw[Lib.cell_of_heap hh];rfl)⟩⟩)
 obtain⟨⟨c0,c4,c1,c2,c3⟩,d0,d4,d1,d2,d3⟩:=HC.out _ (Kept.refl _);clear hb1 hb3 hb4 hb5 hk0 h g;unfold zj;by_cases z1:b1=true
 · subst z1;by_cases z2:b2=true
   · subst z2;by_cases z3:b3=true
     · subst z3;by_cases z4:b4=true
       · subst z4;by_cases z5:b5=true
         · subst z5;have HV:=lH (show Jj n m=true by rw[VI.out];rfl);go_enter Tryz.func49,Tryz.ntmps49;have K:=lH (Kept.refl W0);go_wp2_with fail
           refine(Vec.Yi (HH.out.cap.kept (Va.out.trans K.out)) (GG.out.cap.kept (Va.out.trans K.out)) B3.out).mono ?_;rintro e w1 ⟨rfl,k1⟩;have K:=lH (K.out.trans k1);clear k1;obtain⟨⟨c0,c4,c1,c2,c3⟩,d0,d4,d1,d2,d3⟩:=HC.out _ K.out;go_wp2_with fail
           refine(Zq (HH.out.labels.kept (Va.out.trans K.out)) (GG.out.labels.kept (Va.out.trans K.out)) B4.out).mono ?_;rintro e w2 ⟨rfl,k2⟩;have K:=lH (K.out.trans k2);clear k2;obtain⟨⟨c0,c4,c1,c2,c3⟩,d0,d4,d1,d2,d3⟩:=HC.out _ K.out;go_wp2_with fail
           refine(jhn (HH.out.taints.kept (Va.out.trans K.out)) (GG.out.taints.kept (Va.out.trans K.out)) B5.out).mono ?_;rintro e w3 ⟨rfl,k3⟩;have K:=lH (K.out.trans k3);clear k3;go_wp2;go_ret;exact⟨jd HV.out.symm,Va.out.trans K.out⟩
         · obtain rfl:b5=false:=by simpa using z5
           clear z5;have HV:=lH (show Jj n m=false by rw[VI.out];simp);go_enter Tryz.func49,Tryz.ntmps49;have K:=lH (Kept.refl W0);go_wp2_with fail
           refine(Vec.Yi (HH.out.cap.kept (Va.out.trans K.out)) (GG.out.cap.kept (Va.out.trans K.out)) B3.out).mono ?_;rintro e w1 ⟨rfl,k1⟩;have K:=lH (K.out.trans k1);clear k1;obtain⟨⟨c0,c4,c1,c2,c3⟩,d0,d4,d1,d2,d3⟩:=HC.out _ K.out;go_wp2_with fail
           refine(Zq (HH.out.labels.kept (Va.out.trans K.out)) (GG.out.labels.kept (Va.out.trans K.out)) B4.out).mono ?_;rintro e w2 ⟨rfl,k2⟩;have K:=lH (K.out.trans k2);clear k2;obtain⟨⟨c0,c4,c1,c2,c3⟩,d0,d4,d1,d2,d3⟩:=HC.out _ K.out;go_wp2_with fail
           refine(jhn (HH.out.taints.kept (Va.out.trans K.out)) (GG.out.taints.kept (Va.out.trans K.out)) B5.out).mono ?_;rintro e w3 ⟨rfl,k3⟩;have K:=lH (K.out.trans k3);clear k3;go_wp2;go_ret;exact⟨jd HV.out.symm,Va.out.trans K.out⟩
       · obtain rfl:b4=false:=by simpa using z4
         clear z4;have HV:=lH (show Jj n m=false by rw[VI.out];simp);go_enter Tryz.func49,Tryz.ntmps49;have K:=lH (Kept.refl W0);go_wp2_with fail
         refine(Vec.Yi (HH.out.cap.kept (Va.out.trans K.out)) (GG.out.cap.kept (Va.out.trans K.out)) B3.out).mono ?_;rintro e w1 ⟨rfl,k1⟩;have K:=lH (K.out.trans k1);clear k1;obtain⟨⟨c0,c4,c1,c2,c3⟩,d0,d4,d1,d2,d3⟩:=HC.out _ K.out;go_wp2_with fail
         refine(Zq (HH.out.labels.kept (Va.out.trans K.out)) (GG.out.labels.kept (Va.out.trans K.out)) B4.out).mono ?_;rintro e w2 ⟨rfl,k2⟩;have K:=lH (K.out.trans k2);clear k2;go_wp2;go_ret;exact⟨jd HV.out.symm,Va.out.trans K.out⟩
     · obtain rfl:b3=false:=by simpa using z3
       clear z3;have HV:=lH (show Jj n m=false by rw[VI.out];simp);go_enter Tryz.func49,Tryz.ntmps49;have K:=lH (Kept.refl W0);go_wp2_with fail
       refine(Vec.Yi (HH.out.cap.kept (Va.out.trans K.out)) (GG.out.cap.kept (Va.out.trans K.out)) B3.out).mono ?_;rintro e w1 ⟨rfl,k1⟩;have K:=lH (K.out.trans k1);clear k1;go_wp2;go_ret;exact⟨jd HV.out.symm,Va.out.trans K.out⟩
   · obtain rfl:b2=false:=by simpa using z2
     clear z2;have HV:=lH (show Jj n m=false by rw[VI.out];simp);go_enter Tryz.func49,Tryz.ntmps49;go_wp2;go_ret;exact⟨jd HV.out.symm,Va.out⟩
 · obtain rfl:b1=false:=by simpa using z1
   clear z1;have HV:=lH (show Jj n m=false by rw[VI.out];simp);go_enter Tryz.func49,Tryz.ntmps49;go_wp2;go_ret;exact⟨jd HV.out.symm,Va.out⟩
theorem jmt {v u:Value} {n m:Nod} {b:Bool} {w:World} (h:jae w v n) (g:jae w u m) (hb:Jj n m=b):Calls Tryz.prog 49 #[v,u] w (Say (.bool b) w):=by
 subst hb;obtain⟨v1,v2,v3,rfl,h⟩:=h;obtain⟨u1,u2,u3,rfl,g⟩:=g;exact jgU n m v1 v2 v3 u1 u2 u3 w h g
structure jf (q:Nat) (vs:List Value) (W:World):Prop where
 at_:∀i v,vs[i]?=some v→W.cell? ⟨q,i,none⟩=some v
 free:∀i,W.frozen? ⟨q,i,none⟩=false
theorem jf.block {q:Nat} {vs:List Value} {W W':World} (h:jf q vs W) (e:W'.heap[q]?=W.heap[q]?):jf q vs W' :=
 ⟨fun i v hv=>(World.cell?_of_block (a:=⟨q,i,none⟩) e).trans (h.at_ i v hv),fun i=>(World.frozen?_of_block (a:=⟨q,i,none⟩) e).trans (h.free i)⟩
theorem jf.at3 {q:Nat} {a b c:Value} {r9:List Value} {W:World} (h:jf q (a::b::c::r9) W):W.cell? ⟨q,0,none⟩=some a∧W.cell? ⟨q,1,none⟩=some b∧W.cell? ⟨q,2,none⟩=some c:=⟨h.at_ 0 _ rfl,h.at_ 1 _ rfl,h.at_ 2 _ rfl⟩
theorem jf.at4 {q:Nat} {a b c d:Value} {r9:List Value} {W:World} (h:jf q (a::b::c::d::r9) W):W.cell? ⟨q,0,none⟩=some a∧W.cell? ⟨q,1,none⟩=some b∧W.cell? ⟨q,2,none⟩=some c∧W.cell? ⟨q,3,none⟩=some d:=⟨h.at_ 0 _ rfl,h.at_ 1 _ rfl,h.at_ 2 _ rfl,h.at_ 3 _ rfl⟩
theorem jf.at5 {q:Nat} {a b c d e:Value} {r9:List Value} {W:World} (h:jf q (a::b::c::d::e::r9) W):W.cell? ⟨q,0,none⟩=some a∧W.cell? ⟨q,1,none⟩=some b∧W.cell? ⟨q,2,none⟩=some c∧W.cell? ⟨q,3,none⟩=some d∧W.cell? ⟨q,4,none⟩=some e:=⟨h.at_ 0 _ rfl,h.at_ 1 _ rfl,h.at_ 2 _ rfl,h.at_ 3 _ rfl,h.at_ 4 _ rfl⟩
theorem jf.at11 {q:Nat} {a b c d e f g i j k l:Value} {r9:List Value} {W:World} (h:jf q (a::b::c::d::e::f::g::i::j::k::l::r9) W):W.cell? ⟨q,0,none⟩=some a∧W.cell? ⟨q,1,none⟩=some b∧W.cell? ⟨q,2,none⟩=some c∧W.cell? ⟨q,3,none⟩=some d∧W.cell? ⟨q,4,none⟩=some e∧W.cell? ⟨q,5,none⟩=some f∧W.cell? ⟨q,6,none⟩=some g∧W.cell? ⟨q,7,none⟩=some i∧W.cell? ⟨q,8,none⟩=some j∧W.cell? ⟨q,9,none⟩=some k∧W.cell? ⟨q,10,none⟩=some l:=⟨h.at_ 0 _ rfl,h.at_ 1 _ rfl,h.at_ 2 _ rfl,h.at_ 3 _ rfl,h.at_ 4 _ rfl,h.at_ 5 _ rfl,h.at_ 6 _ rfl,h.at_ 7 _ rfl,h.at_ 8 _ rfl,h.at_ 9 _ rfl,h.at_ 10 _ rfl⟩
theorem jf.lt {q:Nat} {v:Value} {vs:List Value} {W:World} (h:jf q (v::vs) W):q<W.heap.size:=World.block_lt_of_cell? _ _ (h.at_ 0 v rfl)
theorem jf.kept {q:Nat} {v:Value} {vs:List Value} {W W':World} (h:jf q (v::vs) W) (k:Kept W W'):jf q (v::vs) W':=h.block (k.block q h.lt)
theorem jf.other {q p j:Nat} {u:Value} {vs:List Value} {W:World} (h:jf q vs W) (hp:q≠p):jf q vs (W.setCell ⟨p,j,none⟩ u):=h.block (Below.heap_setCell W ⟨p,j,none⟩ u q hp)
theorem jc (w:World) (v:Value) (vs:List Value) (T:TypeId) (W:World) (k:Kept (w.alloc (.cells (v::vs).toArray T)) W):jf w.heap.size (v::vs) W:=by
 have hh:=w.alloc_heap_new (.cells (v::vs).toArray T);have h:jf w.heap.size (v::vs) (w.alloc (.cells (v::vs).toArray T)):=⟨fun i u hu=>by rw[Lib.cell_of_heap hh];simpa using hu,fun i=>by
  unfold World.frozen?;rw[show (w.alloc (.cells (v::vs).toArray T)).heap[(⟨w.heap.size,i,none⟩:Addr).block]?=some (.cells (v::vs).toArray T) from hh];simp⟩
 exact h.kept k
theorem jf.set {q j:Nat} {u:Value} {vs:List Value} {W:World} (h:jf q vs W) (hj:j<vs.length):jf q (vs.set j u) (W.setCell ⟨q,j,none⟩ u):=by
 refine⟨fun i v hv=>?_,fun i=>by rw[World.frozen?_setCell];exact h.free i⟩;by_cases e:j=i
 · subst e;have hv':v=u:=by rw[List.getElem?_set_self hj] at hv;exact(Option.some.inj hv).symm
   subst hv';exact World.cell?_setCell_same _ _ _ (h.at_ j _ (List.getElem?_eq_getElem hj))
 · rw[List.getElem?_set_ne e] at hv;rw[World.cell?_setCell_other _ _ _ _ (by simp)];exact h.at_ i v hv
theorem jaC (q:Nat):∀(vs:List Value) (o:Nat) (W:World),(W.setCells q o vs).heap.size=W.heap.size
 | [],_,_=>rfl
 | v::r,o,W=>by rw[World.setCells,jaC q r];simp[World.setCell]
theorem Yg (q:Nat):∀(vs:List Value) (o:Nat) (W:World) (b:Nat),b≠q→(W.setCells q o vs).heap[b]?=W.heap[b]?
 | [],_,_,_,_=>rfl
 | v::r,o,W,b,h=>by rw[World.setCells,Yg q r _ _ b h];exact Below.heap_setCell W ⟨q,o,none⟩ v b h
theorem jt (q:Nat):∀(vs:List Value) (o:Nat) (W:World) (B:Nat) (w:World),B≤q→Below B w W→Below B w (W.setCells q o vs)
 | [],_,_,_,_,_,k=>k
 | v::r,o,W,B,w,h,k=>by rw[World.setCells];exact jt q r _ _ B w h (k.setCell (p:=⟨q,o,none⟩) h _)
structure joG (q:Nat) (vs:List Value) (W W':World):Prop where
 cells:jf q vs W'
 size:W'.heap.size=W.heap.size
 far:∀b,b≠q→W'.heap[b]?=W.heap[b]?
 below:∀B w,B≤q→Below B w W→Below B w W'
theorem j6 {q:Nat} {us vs:List Value} {W:World} (h:jf q us W) (hl:us.length=vs.length):joG q vs W (W.setCells q 0 vs):=by
 refine⟨⟨fun i v hv=>?_,fun i=>by rw[World.frozen?_setCells];exact h.free i⟩,jaC q vs 0 W,fun b hb=>Yg q vs 0 W b hb,fun B w hB k=>jt q vs 0 W B w hB k⟩;have hi:i<vs.length:=(List.getElem?_eq_some_iff.1 hv).1;have:=World.cell?_setCells_in q vs 0 W (fun j hj=>by rw[Nat.zero_add,h.at_ j _ (List.getElem?_eq_getElem (by omega))];rfl) i hi;rw[Nat.zero_add] at this;rw[this];obtain⟨_,e⟩:=List.getElem?_eq_some_iff.1 hv;rw[e]
theorem qm (n:Nod) (v1 v2 v3:Value) (w:World):Calls Tryz.prog 138 #[zj n v1 v2 v3] w fun e w'=>e=.returned (.string n.name)∧Kept w w':=by
 unfold zj;go_enter Tryz.func138,Tryz.ntmps138;go_wp2;go_ret;exact⟨rfl,ja _ _⟩
theorem jhf (n:Nod) (v1 v2 v3:Value) (p q:Addr) (x:ByteArray) (w:World) (hp:w.cell? p=some (.func (.func 138) #[] #[])) (hq:w.cell? q=some (.string x)) :
 Calls Tryz.prog 217 #[zj n v1 v2 v3,.pointer (some p),.pointer (some q)] w fun e w'=>e=.returned (.bool (eqS n.name x))∧Kept w w':=by
 have HB:=lH (show ∀W,Kept (w.alloc (.cells #[.string n.name,v1,v2,v3,.bool n.cordon] 78)) W→W.cell? p=some (.func (.func 138) #[] #[])∧W.cell? q=some (.string x)∧W.cell? ⟨w.heap.size,0,none⟩=some (.string n.name)∧W.cell? ⟨w.heap.size,1,none⟩=some (v1)∧W.cell? ⟨w.heap.size,2,none⟩=some (v2)∧W.cell? ⟨w.heap.size,3,none⟩=some (v3)∧W.cell? ⟨w.heap.size,4,none⟩=some (.bool n.cordon) from fun W k=>⟨cell_later ((ja _ _).trans k) hp,cell_later ((ja _ _).trans k) hq,(jc w (.string n.name) [v1,v2,v3,.bool n.cordon] 78 W k).at_ 0 _ rfl,(jc w (.string n.name) [v1,v2,v3,.bool n.cordon] 78 W k).at_ 1 _ rfl,(jc w (.string n.name) [v1,v2,v3,.bool n.cordon] 78 W k).at_ 2 _ rfl,(jc w (.string n.name) [v1,v2,v3,.bool n.cordon] 78 W k).at_ 3 _ rfl,(jc w (.string n.name) [v1,v2,v3,.bool n.cordon] 78 W k).at_ 4 _ rfl⟩);have HN:=lH (fun W=>qm n v1 v2 v3 W);unfold zj at HN ⊢;obtain⟨b,hb⟩:=eX (eqS n.name x)
 have t1:(n.name.toList==x.toList)=b:=hb;rw[hb];clear hp hq hb;go_enter Tryz.func217,Tryz.ntmps217;go_wp2
 go_region_held3 (fun W=>W.cell? p=some (.func (.func 138) #[] #[])∧W.cell? q=some (.string x)∧W.cell? ⟨w.heap.size,0,none⟩=some (.string n.name)∧W.cell? ⟨w.heap.size,1,none⟩=some (v1)∧W.cell? ⟨w.heap.size,2,none⟩=some (v2)∧W.cell? ⟨w.heap.size,3,none⟩=some (v3)∧W.cell? ⟨w.heap.size,4,none⟩=some (.bool n.cordon))
  (first | exact HB.out _ (Kept.drew _) | exact HB.out _ K1.out)
  (first | (go_at_call 138;refine(HN.out _).mono ?_;rintro e1 w1 ⟨rfl,k1⟩;have K1:=lH ((Kept.drew _).trans k1);clear k1))
 go_wp2;go_ret;exact⟨jd rfl,(ja _ _).trans K1.out⟩
def jl (l:List Nod) (x:ByteArray):Option Nod:=l.find? fun n=>eqS n.name x
def jnl (l:List Nod) (x:ByteArray) (i:Int):Prop:=(∃(k:Nat) (n:Nod),i=(k:Int)∧l[k]?=some n∧jl l x=some n)∨(i=-1∧jl l x=none)
theorem jih (a:Option Addr) (len cap:Nat) (l:List Nod) (x:ByteArray) (p q:Addr) (w:World) (hr:jo w a len l) (hp:w.cell? p=some (.func (.func 138) #[] #[])) (hq:w.cell? q=some (.string x)) :
 Calls Tryz.prog 216 #[.slice a len cap,.func (.func 217) #[] #[.pointer (some p),.pointer (some q)]] w fun e w'=>∃i,e=.returned (.int .i64 i)∧jnl l x i∧Kept w w':=by
 have hl:=hr.1;have hm:=hr.2.1;unfold maxLen at hm;have HL:=lH hl;by_cases h0:len=0
 · subst h0;have hl0:l=[]:=List.eq_nil_of_length_eq_zero hl;have HF:=lH (show jl l x=none by rw[hl0];rfl);clear hr hl hp hq;go_enter Tryz.func216,Tryz.ntmps216;go_wp2;refine wp_loop_rounds 1 ?_;rw[rounds_succ];go_wp2;go_ret;exact⟨-1,rfl,.inr ⟨rfl,HF.out⟩,Kept.refl _⟩
 · obtain⟨b,off,rfl⟩:=hr.form.resolve_left h0;obtain⟨HR,HP,HQ⟩:=lH3 hr hp hq;clear hr hl hp hq h0;go_enter Tryz.func216,Tryz.ntmps216;go_wp2;go_loopw [8] (fun i wr=>∃k:Nat,k≤len∧i=.int .i64 k∧jl (l.drop k) x=jl l x∧Kept w wr) (fun i _=>len-(intOf i).toNat)
   case atStart=>exact⟨0,Nat.zero_le _,rfl,rfl,Kept.refl _⟩
   case round =>
    obtain⟨k,hk,rfl,hrest,hK⟩:=hrel;have HS:=lH hrest;have HK:=lH hK;by_cases hlt:k<len
    · obtain⟨n,a1,m1,c1,a2,m2,c2,a3,m3,c3,hn,hd,hb,p0,p1,p2,p3,p4,hat⟩:=(HR.out.kept hK).at_ hlt;obtain⟨HN,HD,HC⟩:=lH3 hn hd (jhf n (.slice a1 m1 c1) (.slice a2 m2 c2) (.slice a3 m3 c3) p q x wr (cell_later hK HP.out) (cell_later hK HQ.out));unfold zj at HC;obtain⟨t,ht⟩:=eX (eqS n.name x)
      have HT:=lH ht;rw[ht] at HC;clear hrest hK hat hd hn ht
      cases t with
      | true =>
       have HF:=lH (show jl l x=some n by rw[←HS.out,HD.out];unfold jl;rw[List.find?_cons,HT.out]);go_wp2_with fail
       refine HC.out.mono ?_;rintro e w1 ⟨rfl,k1⟩;have K1:=lH (HK.out.trans k1);clear k1;go_wp2;go_ret;exact⟨(k:Int),rfl,.inl ⟨k,n,rfl,HN.out,HF.out⟩,K1.out⟩
      | false =>
       have HE:=lH (show jl (l.drop k) x=jl (l.drop (k+1)) x by rw[HD.out];unfold jl;rw[List.find?_cons,HT.out]);go_wp2_with fail
       refine HC.out.mono ?_;rintro e w1 ⟨rfl,k1⟩;have K1:=lH (HK.out.trans k1);clear k1;go_wp2;go_roundw
       case rel=>exact⟨k+1,by omega,by go_num,HE.out.symm.trans HS.out,K1.out⟩
       case measure=>simp[intOf];omega
    · have HF:=lH (show jl l x=none by rw[←hrest,List.drop_of_length_le (by rw[HL.out];omega)];rfl);clear hrest hK;go_wp2;go_ret;exact⟨-1,rfl,.inr ⟨rfl,HF.out⟩,HK.out⟩
theorem jeu (a:Option Addr) (len cap:Nat) (l:List Nod) (x:ByteArray) (w:World) (hr:jo w a len l) (hlow:∀n ∈ l,zP n) :
 Calls Tryz.prog 186 #[.slice a len cap,.string x,.func (.func 138) #[] #[],.func (.func 187) #[] #[]] w fun e w'=>∃v,e=.returned (.tuple #[v,.bool (jl l x).isSome])∧JL w.heap.size w' v ((jl l x).getD Nod.zero)∧Kept w w':=by
 have hmf:=hmfL (P:=Tryz.prog);have hl:=hr.1;have hm:=hr.2.1;unfold maxLen at hm;obtain⟨Z,hZ⟩:=eX (((w.alloc (.cells #[.string x] 9)).alloc (.cells #[.func (.func 138) #[] #[]] 211)).alloc (.cells #[.string ⟨#[]⟩,.slice none 0 0,.slice none 0 0,.slice none 0 0,.bool false] 78))
 have hkz:Kept w Z:=by rw[←hZ];exact(jn _ _ _).trans (ja _ _)
 have hzs:Z.heap.size=w.heap.size+3:=by rw[←hZ];simp
 have hq:=(jc w (.string x) [] 9 Z (by rw[←hZ];exact jn _ _ _)).at_ 0 _ rfl;have hp:Z.cell? ⟨w.heap.size+1,0,none⟩=some (.func (.func 138) #[] #[]):=by
  have:=(jc (w.alloc (.cells #[.string x] 9)) (.func (.func 138) #[] #[]) [] 211 Z (by rw[←hZ];exact ja _ _)).at_ 0 _ rfl;rw[World.size_alloc] at this;exact this
 have UN:=lH (show jf (w.heap.size+2) [.string ⟨#[]⟩,.slice none 0 0,.slice none 0 0,.slice none 0 0,.bool false] Z by
  have:=jc ((w.alloc (.cells #[.string x] 9)).alloc (.cells #[.func (.func 138) #[] #[]] 211)) (.string ⟨#[]⟩) [.slice none 0 0,.slice none 0 0,.slice none 0 0,.bool false] 78 Z (by rw[hZ];exact Kept.refl _);rw[World.size_alloc,World.size_alloc] at this;exact this)
 obtain⟨Nl,Vc,Vf,HR,Vo,HL⟩:=lH6 (jih a len cap l x ⟨w.heap.size+1,0,none⟩ ⟨w.heap.size,0,none⟩ Z (hr.kept hkz) hp hq) hkz hzs (hr.kept hkz) hlow hl;clear hr hl hlow hkz hq hp hzs;go_enter Tryz.func186,Tryz.ntmps186;go_wp2_with fail
 try rw[hZ]
 clear hZ;refine Nl.out.mono ?_;rintro e w1 ⟨i,rfl,hs,k1⟩;have K1:=lH k1;rcases hs with ⟨k,n9,rfl,hn9,hf⟩ | ⟨rfl,hf⟩
 · have HF:=lH hf;have hkl:k<len:=by have:=(List.getElem?_eq_some_iff.1 hn9).1;rw[HL.out] at this;exact this
   have hk0:decide ((k:Int)<0)=false:=by simp
   have hkk:(k:Int)<(len:Int):=by omega
   obtain⟨b,off,rfl⟩:=HR.out.form.resolve_left (by omega);obtain⟨n,a1,m1,c1,a2,m2,c2,a3,m3,c3,hn,hd,hb,p0,p1,p2,p3,p4,hat⟩:=(HR.out.kept k1).at_ hkl;obtain rfl:n9=n:=by rw[hn9] at hn;exact Option.some.inj hn
   obtain⟨U7,VH,VJ,Tk⟩:=lH4 (Vo.out n9 (List.mem_of_getElem? hn9)) hat (UN.out.kept k1) (show w.heap.size+3≤w1.heap.size by have:=k1.size;rw[Vf.out] at this;exact this);have VK:=lH (jkP n9 a1 a2 a3 m1 c1 m2 c2 m3 c3 w1 VH.out U7.out);clear hn9 hn hd hat hf k1;go_wp2_with fail
   refine VK.out.mono ?_;rintro e w2 ⟨v,rfl,hn,k2⟩;obtain⟨HN,KW,VJ⟩:=lH3 hn (Vc.out.trans (K1.out.trans k2)) (VJ.out.kept k2);obtain⟨b1,n1,d1,b2,n2,d2,b3,n3,d3,rfl,-⟩:=hn;obtain⟨z,hz⟩:=eX (n9.name)
   obtain⟨cd,hcd⟩:=eX (n9.cordon)
   rw[hz,hcd];rw[hz,hcd] at HN;clear k2 p0 p1 p2 p3 p4 hb hkl hk0 hkk;obtain⟨y0,y1,y2,y3,y4⟩:=VJ.out.at5;have x0:=VJ.out.free 0;have x1:=VJ.out.free 1;have x2:=VJ.out.free 2;have x3:=VJ.out.free 3;have x4:=VJ.out.free 4;have P:=lH (j6 (vs:=[.string z,.slice b1 n1 d1,.slice b2 n2 d2,.slice b3 n3 d3,.bool cd]) VJ.out rfl);clear VJ;go_wp2;obtain⟨WE,hWE⟩:=eX (w2.setCells (w.heap.size+2) 0 [.string z,.slice b1 n1 d1,.slice b2 n2 d2,.slice b3 n3 d3,.bool cd])
   have hWE2:(((((w2.setCell ⟨(w.heap.size+2),0,none⟩ (.string z)).setCell ⟨(w.heap.size+2),1,none⟩ (.slice b1 n1 d1)).setCell ⟨(w.heap.size+2),2,none⟩ (.slice b2 n2 d2)).setCell ⟨(w.heap.size+2),3,none⟩ (.slice b3 n3 d3)).setCell ⟨(w.heap.size+2),4,none⟩ (.bool cd))=WE:=hWE;rw[hWE] at P;rw[hWE2];clear hWE hWE2;obtain⟨PC,hsz,hbl,hkp⟩:=P.out;refine bodyPost_ret (by simp[results,Tryz.results186,go_sem,PC.at_ 0 _ rfl,PC.at_ 1 _ rfl,PC.at_ 2 _ rfl,PC.at_ 3 _ rfl,PC.at_ 4 _ rfl];try rfl) rfl ?_;rw[HF.out];exact⟨_,rfl,(HN.out.far hsz (fun b hb=>hbl b (by have:=Tk.out;omega))).less (by have:=Tk.out;omega),hkp _ _ (by omega) KW.out⟩
 · obtain⟨HF,VJ,KW⟩:=lH3 hf (UN.out.kept k1) (Vc.out.trans k1);clear hf k1;obtain⟨y0,y1,y2,y3,y4⟩:=VJ.out.at5;have x0:=VJ.out.free 0;have x1:=VJ.out.free 1;have x2:=VJ.out.free 2;have x3:=VJ.out.free 3;have x4:=VJ.out.free 4;have P:=lH (j6 (vs:=[.string ⟨#[]⟩,.slice none 0 0,.slice none 0 0,.slice none 0 0,.bool false]) VJ.out rfl);clear VJ;go_wp2;obtain⟨WE,hWE⟩:=eX (w1.setCells (w.heap.size+2) 0 [.string ⟨#[]⟩,.slice none 0 0,.slice none 0 0,.slice none 0 0,.bool false])
   have hWE2:(((((w1.setCell ⟨(w.heap.size+2),0,none⟩ (.string ⟨#[]⟩)).setCell ⟨(w.heap.size+2),1,none⟩ (.slice none 0 0)).setCell ⟨(w.heap.size+2),2,none⟩ (.slice none 0 0)).setCell ⟨(w.heap.size+2),3,none⟩ (.slice none 0 0)).setCell ⟨(w.heap.size+2),4,none⟩ (.bool false))=WE:=hWE;rw[hWE] at P;rw[hWE2];clear hWE hWE2;obtain⟨PC,hsz,hbl,hkp⟩:=P.out;refine bodyPost_ret (by simp[results,Tryz.results186,go_sem,PC.at_ 0 _ rfl,PC.at_ 1 _ rfl,PC.at_ 2 _ rfl,PC.at_ 3 _ rfl,PC.at_ 4 _ rfl];try rfl) rfl ?_;rw[HF.out];exact⟨_,rfl,qN _ _,hkp _ _ (by omega) KW.out⟩
theorem jkX (a:Option Addr) (len cap:Nat) (l:List Nod) (x:ByteArray) (w:World) (hr:jo w a len l) (hlow:∀n ∈ l,zP n) :
 Calls Tryz.prog 146 #[.slice a len cap,.string x] w fun e w'=>∃v,e=.returned (.tuple #[v,.bool (jl l x).isSome])∧JL w.heap.size w' v ((jl l x).getD Nod.zero)∧Kept w w':=by
 obtain⟨Z,hZ⟩:=eX (w.alloc (.cells #[.string ⟨#[]⟩,.slice none 0 0,.slice none 0 0,.slice none 0 0,.bool false] 78))
 have hkz:Kept w Z:=by rw[←hZ];exact ja _ _
 have hzs:Z.heap.size=w.heap.size+1:=by rw[←hZ];simp
 obtain⟨UN,RI,Vc,Vf⟩:=lH4 (show jf w.heap.size [.string ⟨#[]⟩,.slice none 0 0,.slice none 0 0,.slice none 0 0,.bool false] Z from jc w (.string ⟨#[]⟩) [.slice none 0 0,.slice none 0 0,.slice none 0 0,.bool false] 78 Z (by rw[hZ];exact Kept.refl _)) (jeu a len cap l x Z (hr.kept hkz) hlow) hkz hzs;obtain⟨n9,hn9⟩:=eX ((jl l x).getD Nod.zero)
 obtain⟨is,his⟩:=eX ((jl l x).isSome)
 rw[hn9,his] at RI;rw[hn9,his];clear hr hlow hkz hzs hn9 his;go_enter Tryz.func146,Tryz.ntmps146;go_wp2_with fail
 try rw[hZ]
 clear hZ;refine RI.out.mono ?_;rintro e w1 ⟨v,rfl,hn,k1⟩;obtain⟨HN,VJ,KW⟩:=lH3 hn (UN.out.kept k1) (Vc.out.trans k1);obtain⟨b1,n1,d1,b2,n2,d2,b3,n3,d3,rfl,-⟩:=hn;obtain⟨z,hz⟩:=eX (n9.name)
 obtain⟨cd,hcd⟩:=eX (n9.cordon)
 rw[hz,hcd];rw[hz,hcd] at HN;clear k1;obtain⟨y0,y1,y2,y3,y4⟩:=VJ.out.at5;have x0:=VJ.out.free 0;have x1:=VJ.out.free 1;have x2:=VJ.out.free 2;have x3:=VJ.out.free 3;have x4:=VJ.out.free 4;have P:=lH (j6 (vs:=[.string z,.slice b1 n1 d1,.slice b2 n2 d2,.slice b3 n3 d3,.bool cd]) VJ.out rfl);clear VJ;go_wp2;obtain⟨WE,hWE⟩:=eX (w1.setCells w.heap.size 0 [.string z,.slice b1 n1 d1,.slice b2 n2 d2,.slice b3 n3 d3,.bool cd])
 have hWE2:(((((w1.setCell ⟨w.heap.size,0,none⟩ (.string z)).setCell ⟨w.heap.size,1,none⟩ (.slice b1 n1 d1)).setCell ⟨w.heap.size,2,none⟩ (.slice b2 n2 d2)).setCell ⟨w.heap.size,3,none⟩ (.slice b3 n3 d3)).setCell ⟨w.heap.size,4,none⟩ (.bool cd))=WE:=hWE;rw[hWE] at P;rw[hWE2];clear hWE hWE2;obtain⟨PC,hsz,hbl,hkp⟩:=P.out;refine bodyPost_ret (by simp[results,Tryz.results146,go_sem,PC.at_ 0 _ rfl,PC.at_ 1 _ rfl,PC.at_ 2 _ rfl,PC.at_ 3 _ rfl,PC.at_ 4 _ rfl];try rfl) rfl ?_;exact⟨_,rfl,(HN.out.far hsz (fun b hb=>hbl b (by have:=Vf.out;omega))).less (by have:=Vf.out;omega),hkp _ _ (Nat.le_refl _) KW.out⟩
def j7:Option ByteArray→List Nod→Int
 | _,[]=>0
 | prev,n::t=>if zk n≠0 then zk n else if Vec.jK prev n.name=true then 13 else j7 (some n.name) t
def jI (l:List Nod):Int:=if 32<l.length then 4 else j7 none l
def Yv (l:List Nod) (k:Nat):Option ByteArray:=if k=0 then none else (l[k-1]?).map Nod.name
theorem jcy {l:List Nod} {k:Nat} (h:k=0) (s:ByteArray):Vec.jK (Yv l k) s=false:=by unfold Yv;rw[if_pos h];rfl
theorem jcV {l:List Nod} {k:Nat} {n:Nod} (h:¬k=0) (hn:l[k-1]?=some n) (s:ByteArray):Vec.jK (Yv l k) s=leS s n.name:=by unfold Yv;rw[if_neg h,hn];rfl
theorem jcK {l:List Nod} {k:Nat} {n:Nod} (hn:l[k]?=some n):Yv l (k+1)=some n.name:=by unfold Yv;rw[if_neg (by omega),Nat.add_sub_cancel,hn];rfl
theorem jb4 {p:Option ByteArray} {n:Nod} {t:List Nod} (h:zk n≠0):j7 p (n::t)=zk n:=by rw[j7,if_pos h]
theorem jas {p:Option ByteArray} {n:Nod} {t:List Nod} (h:zk n=0) (b:Vec.jK p n.name=true):j7 p (n::t)=13:=by rw[j7,if_neg (by rw[h];decide),if_pos b]
theorem Xp {p:Option ByteArray} {n:Nod} {t:List Nod} (h:zk n=0) (b:Vec.jK p n.name=false):j7 p (n::t)=j7 (some n.name) t:=by rw[j7,if_neg (by rw[h];decide),if_neg (by rw[b];decide)]
theorem jdl (a:Option Addr) (len cap:Nat) (l:List Nod) (w:World) (hr:jo w a len l) :
 Calls Tryz.prog 137 #[.slice a len cap,.int .i64 32,.func (.func 138) #[] #[],.func (.func 139) #[] #[]] w (Say (.int .i64 (jI l)) w):=by
 have hl:=hr.1;have hm:=hr.2.1;unfold maxLen at hm;by_cases h32:32<len
 · have HV:=lH (show jI l=4 by unfold jI;rw[if_pos (by omega)]);clear hr hl;go_enter Tryz.func137,Tryz.ntmps137;go_wp2;go_ret;exact⟨jb HV.out.symm,Kept.refl _⟩
 · have HV:=lH (show jI l=j7 none l by unfold jI;rw[if_neg (by omega)]);have h32':len≤32:=by omega
   by_cases h0:len=0
   · subst h0;have HE:=lH (show jI l=0 by rw[HV.out,List.eq_nil_of_length_eq_zero hl];rfl);clear hr hl h32;go_enter Tryz.func137,Tryz.ntmps137;go_wp2;refine wp_loop_rounds 1 ?_;rw[rounds_succ];go_wp2;go_ret;exact⟨jb HE.out.symm,Kept.refl _⟩
   · obtain⟨b,off,rfl⟩:=hr.form.resolve_left h0;have HR:=lH hr;have HL:=lH hl;clear hr hl h0 h32;go_enter Tryz.func137,Tryz.ntmps137;go_wp2;go_loopw [18] (fun i wr=>∃k:Nat,k≤len∧i=.int .i64 k∧j7 (Yv l k) (l.drop k)=j7 none l∧Kept w wr) (fun i _=>len-(intOf i).toNat)
     case atStart=>exact⟨0,Nat.zero_le _,rfl,rfl,Kept.refl _⟩
     case round =>
      obtain⟨k,hk,rfl,hrest,hK⟩:=hrel;obtain⟨HS,HT,HK⟩:=lH3 (HV.out.trans hrest.symm) hrest hK;by_cases hlt:k<len
      · obtain⟨n,a1,m1,c1,a2,m2,c2,a3,m3,c3,hn,hd,hb,p0,p1,p2,p3,p4,hat⟩:=(HR.out.kept hK).at_ hlt;obtain⟨VH,HD,VD⟩:=lH3 hat hd (jcK hn);have VE:=lH (fun W (kk:Kept wr W)=>jh9 n (.slice a1 m1 c1) (.slice a2 m2 c2) (.slice a3 m3 c3) W (VH.out.kept kk));have Uu:=lH (fun W=>qm n (.slice a1 m1 c1) (.slice a2 m2 c2) (.slice a3 m3 c3) W);unfold zj at VE Uu;obtain⟨ck,hck⟩:=eX (zk n)
        have VG:=lH hck;rw[hck] at VE;have hkk:(k:Int)<(len:Int):=by omega
        clear hrest hK hat hd hck;by_cases z1:ck=0
        · subst z1;by_cases h0:k=0
          · have hd0:decide (0<k)=false:=by subst h0;decide
            have HP:=lH (jcy (l:=l) h0 n.name);clear h0;go_wp2_with fail
            refine(VE.out _ (ja _ _)).mono ?_;rintro e w1 ⟨rfl,kk⟩;have KW:=lH (Kept.trans (ja _ _) kk);have Vd:=lH (fun W k=>jc wr (.string n.name) [.slice a1 m1 c1,.slice a2 m2 c2,.slice a3 m3 c3,.bool n.cordon] 78 W (Kept.trans kk k));have y0:=(Vd.out w1 (Kept.refl _)).at_ 0 _ rfl;have y1:=(Vd.out w1 (Kept.refl _)).at_ 1 _ rfl;have y2:=(Vd.out w1 (Kept.refl _)).at_ 2 _ rfl;have y3:=(Vd.out w1 (Kept.refl _)).at_ 3 _ rfl;have y4:=(Vd.out w1 (Kept.refl _)).at_ 4 _ rfl;clear kk;go_wp2;go_quiet (fail)
            go_wp2;go_roundw
            case rel=>exact⟨k+1,by omega,by go_num,(show j7 (Yv l (k+1)) (l.drop (k+1))=j7 none l by rw[←HT.out,HD.out,Xp VG.out HP.out,VD.out]),HK.out.trans (KW.out.trans (Kept.drewN _ _))⟩
            case measure=>simp[intOf];omega
          · have hd0:decide (0<k)=true:=by simp;omega
            obtain⟨q,hqk⟩:∃q,k=q+1:=⟨k-1,by omega⟩
            have g1:(k:Int)-1=(q:Int):=by omega
            have gw:IntKind.i64.wrap (q:Int)=(q:Int):=by rw[IntKind.wrap_i64];omega
            have g2:(q:Int)<(len:Int):=by omega
            obtain⟨n9,b1,h1,d1,b2,h2,d2,b3,h3,d3,hn9,-,hb9,q0,q1,q2,q3,q4,-⟩:=(HR.out.kept HK.out).at_ (show q<len by omega);have RJ:=lH hqk;have hqk1:k-1=q:=by omega
            have HP:=lH (jcV (l:=l) h0 (show l[k-1]?=some n9 by rw[hqk1];exact hn9) n.name);clear hqk hqk1;have Vv:=lH (fun W=>qm n9 (.slice b1 h1 d1) (.slice b2 h2 d2) (.slice b3 h3 d3) W);unfold zj at Vv;clear h0 hn9;by_cases n3:leS n.name n9.name=true
            · have n3':(Op.bytesLess n.name.toList n9.name.toList||n.name.toList==n9.name.toList)=true:=n3;have N3:=lH n3;clear n3;go_wp2_with fail
              refine(VE.out _ (ja _ _)).mono ?_;rintro e w1 ⟨rfl,kk⟩;have KW:=lH (Kept.trans (ja _ _) kk);have Vd:=lH (fun W k=>jc wr (.string n.name) [.slice a1 m1 c1,.slice a2 m2 c2,.slice a3 m3 c3,.bool n.cordon] 78 W (Kept.trans kk k));have y0:=(Vd.out w1 (Kept.refl _)).at_ 0 _ rfl;have y1:=(Vd.out w1 (Kept.refl _)).at_ 1 _ rfl;have y2:=(Vd.out w1 (Kept.refl _)).at_ 2 _ rfl;have y3:=(Vd.out w1 (Kept.refl _)).at_ 3 _ rfl;have y4:=(Vd.out w1 (Kept.refl _)).at_ 4 _ rfl;have HO:=lH (show ∀W,Kept w1 W→(W.cell? ⟨wr.heap.size,0,none⟩=some (.string n.name)∧W.cell? ⟨wr.heap.size,1,none⟩=some (.slice a1 m1 c1)∧W.cell? ⟨wr.heap.size,2,none⟩=some (.slice a2 m2 c2)∧W.cell? ⟨wr.heap.size,3,none⟩=some (.slice a3 m3 c3)∧W.cell? ⟨wr.heap.size,4,none⟩=some (.bool n.cordon))∧(W.cell? ⟨b,off+q*5,none⟩=some (.string n9.name)∧W.cell? ⟨b,off+q*5+1,none⟩=some (.slice b1 h1 d1)∧W.cell? ⟨b,off+q*5+2,none⟩=some (.slice b2 h2 d2)∧W.cell? ⟨b,off+q*5+3,none⟩=some (.slice b3 h3 d3)∧W.cell? ⟨b,off+q*5+4,none⟩=some (.bool n9.cordon)) from fun W k=>⟨⟨(Vd.out W k).at_ 0 _ rfl,(Vd.out W k).at_ 1 _ rfl,(Vd.out W k).at_ 2 _ rfl,(Vd.out W k).at_ 3 _ rfl,(Vd.out W k).at_ 4 _ rfl⟩,⟨cell_later (KW.out.trans k) q0,cell_later (KW.out.trans k) q1,cell_later (KW.out.trans k) q2,cell_later (KW.out.trans k) q3,cell_later (KW.out.trans k) q4⟩⟩);clear kk q0 q1 q2 q3 q4;go_wp2
              go_region_held3 (fun W=>(W.cell? ⟨wr.heap.size,0,none⟩=some (.string n.name)∧W.cell? ⟨wr.heap.size,1,none⟩=some (.slice a1 m1 c1)∧W.cell? ⟨wr.heap.size,2,none⟩=some (.slice a2 m2 c2)∧W.cell? ⟨wr.heap.size,3,none⟩=some (.slice a3 m3 c3)∧W.cell? ⟨wr.heap.size,4,none⟩=some (.bool n.cordon))∧(W.cell? ⟨b,off+q*5,none⟩=some (.string n9.name)∧W.cell? ⟨b,off+q*5+1,none⟩=some (.slice b1 h1 d1)∧W.cell? ⟨b,off+q*5+2,none⟩=some (.slice b2 h2 d2)∧W.cell? ⟨b,off+q*5+3,none⟩=some (.slice b3 h3 d3)∧W.cell? ⟨b,off+q*5+4,none⟩=some (.bool n9.cordon)))
               (first | exact HO.out _ (Kept.drew _) | exact HO.out _ J1.out | exact HO.out _ J2.out)
               (first | (go_at_call 138;refine(Uu.out _).mono ?_;rintro e1 w2 ⟨rfl,k1⟩;have J1:=lH ((Kept.drew _).trans k1);clear k1)
                      | (go_at_call 138;refine(Vv.out _).mono ?_;rintro e2 w3 ⟨rfl,k1⟩;have J2:=lH (J1.out.trans k1);clear k1))
              go_wp2;go_ret;exact⟨jb (show (13:Int)=jI l by rw[HS.out,HD.out,jas VG.out (HP.out.trans N3.out)]),HK.out.trans (KW.out.trans J2.out)⟩
            · have n3:leS n.name n9.name=false:=by simpa using n3
              have n3':(Op.bytesLess n.name.toList n9.name.toList||n.name.toList==n9.name.toList)=false:=n3;have N3:=lH n3;clear n3;go_wp2_with fail
              refine(VE.out _ (ja _ _)).mono ?_;rintro e w1 ⟨rfl,kk⟩;have KW:=lH (Kept.trans (ja _ _) kk);have Vd:=lH (fun W k=>jc wr (.string n.name) [.slice a1 m1 c1,.slice a2 m2 c2,.slice a3 m3 c3,.bool n.cordon] 78 W (Kept.trans kk k));have y0:=(Vd.out w1 (Kept.refl _)).at_ 0 _ rfl;have y1:=(Vd.out w1 (Kept.refl _)).at_ 1 _ rfl;have y2:=(Vd.out w1 (Kept.refl _)).at_ 2 _ rfl;have y3:=(Vd.out w1 (Kept.refl _)).at_ 3 _ rfl;have y4:=(Vd.out w1 (Kept.refl _)).at_ 4 _ rfl;have HO:=lH (show ∀W,Kept w1 W→(W.cell? ⟨wr.heap.size,0,none⟩=some (.string n.name)∧W.cell? ⟨wr.heap.size,1,none⟩=some (.slice a1 m1 c1)∧W.cell? ⟨wr.heap.size,2,none⟩=some (.slice a2 m2 c2)∧W.cell? ⟨wr.heap.size,3,none⟩=some (.slice a3 m3 c3)∧W.cell? ⟨wr.heap.size,4,none⟩=some (.bool n.cordon))∧(W.cell? ⟨b,off+q*5,none⟩=some (.string n9.name)∧W.cell? ⟨b,off+q*5+1,none⟩=some (.slice b1 h1 d1)∧W.cell? ⟨b,off+q*5+2,none⟩=some (.slice b2 h2 d2)∧W.cell? ⟨b,off+q*5+3,none⟩=some (.slice b3 h3 d3)∧W.cell? ⟨b,off+q*5+4,none⟩=some (.bool n9.cordon)) from fun W k=>⟨⟨(Vd.out W k).at_ 0 _ rfl,(Vd.out W k).at_ 1 _ rfl,(Vd.out W k).at_ 2 _ rfl,(Vd.out W k).at_ 3 _ rfl,(Vd.out W k).at_ 4 _ rfl⟩,⟨cell_later (KW.out.trans k) q0,cell_later (KW.out.trans k) q1,cell_later (KW.out.trans k) q2,cell_later (KW.out.trans k) q3,cell_later (KW.out.trans k) q4⟩⟩);clear kk q0 q1 q2 q3 q4;go_wp2
              go_region_held3 (fun W=>(W.cell? ⟨wr.heap.size,0,none⟩=some (.string n.name)∧W.cell? ⟨wr.heap.size,1,none⟩=some (.slice a1 m1 c1)∧W.cell? ⟨wr.heap.size,2,none⟩=some (.slice a2 m2 c2)∧W.cell? ⟨wr.heap.size,3,none⟩=some (.slice a3 m3 c3)∧W.cell? ⟨wr.heap.size,4,none⟩=some (.bool n.cordon))∧(W.cell? ⟨b,off+q*5,none⟩=some (.string n9.name)∧W.cell? ⟨b,off+q*5+1,none⟩=some (.slice b1 h1 d1)∧W.cell? ⟨b,off+q*5+2,none⟩=some (.slice b2 h2 d2)∧W.cell? ⟨b,off+q*5+3,none⟩=some (.slice b3 h3 d3)∧W.cell? ⟨b,off+q*5+4,none⟩=some (.bool n9.cordon)))
               (first | exact HO.out _ (Kept.drew _) | exact HO.out _ J1.out | exact HO.out _ J2.out)
               (first | (go_at_call 138;refine(Uu.out _).mono ?_;rintro e1 w2 ⟨rfl,k1⟩;have J1:=lH ((Kept.drew _).trans k1);clear k1)
                      | (go_at_call 138;refine(Vv.out _).mono ?_;rintro e2 w3 ⟨rfl,k1⟩;have J2:=lH (J1.out.trans k1);clear k1))
              go_wp2;go_roundw
              case rel=>exact⟨k+1,by omega,by go_num,(show j7 (Yv l (k+1)) (l.drop (k+1))=j7 none l by rw[←HT.out,HD.out,Xp VG.out (HP.out.trans N3.out),VD.out]),HK.out.trans (KW.out.trans J2.out)⟩
              case measure=>simp[intOf];omega
        · have z1':(ck != 0)=true:=by simpa using z1
          have HB:=lH (show jI l=ck by rw[HS.out,HD.out,jb4 (by rw[VG.out];exact z1),VG.out]);clear z1;go_wp2_with fail
          refine(VE.out _ (ja _ _)).mono ?_;rintro e w1 ⟨rfl,kk⟩;have KW:=lH (Kept.trans (ja _ _) kk);clear kk;go_wp2;go_ret;exact⟨jb HB.out.symm,HK.out.trans KW.out⟩
      · have HE:=lH (show jI l=0 by rw[HS.out,List.drop_of_length_le (by rw[HL.out];omega)];rfl);clear hrest hK;go_wp2;go_ret;exact⟨jb HE.out.symm,HK.out⟩
theorem je0 (a:Option Addr) (len cap:Nat) (l:List Nod) (w:World) (hr:jo w a len l) :
 Calls Tryz.prog 91 #[.slice a len cap] w (Say (.int .i64 (jI l)) w):=by
 have H:=lH (jdl a len cap l w hr);clear hr;go_enter Tryz.func91,Tryz.ntmps91;go_wp2_with fail
 refine H.out.mono ?_;rintro e w1 ⟨rfl,k⟩;have K:=lH k;clear k;go_wp2;go_ret;exact⟨rfl,K.out⟩
theorem jeJ (a:Option Addr) (len cap:Nat) (l:List Nod) (w:World) (hr:jo w a len l) :
 Calls Tryz.prog 60 #[.slice a len cap] w (Say (.int .i64 (jI l)) w):=by
 have hl:=hr.1;have hm:=hr.2.1;unfold maxLen at hm;by_cases h32:32<len
 · have HV:=lH (show jI l=4 by unfold jI;rw[if_pos (by omega)]);clear hr hl;go_enter Tryz.func60,Tryz.ntmps60;go_wp2;go_ret;exact⟨jb HV.out.symm,Kept.refl _⟩
 · have HV:=lH (show jI l=j7 none l by unfold jI;rw[if_neg (by omega)]);have h32':len≤32:=by omega
   by_cases h0:len=0
   · subst h0;have HE:=lH (show jI l=0 by rw[HV.out,List.eq_nil_of_length_eq_zero hl];rfl);clear hr hl h32;go_enter Tryz.func60,Tryz.ntmps60;go_wp2;refine wp_loop_rounds 1 ?_;rw[rounds_succ];go_wp2;go_ret;exact⟨jb HE.out.symm,Kept.refl _⟩
   · obtain⟨b,off,rfl⟩:=hr.form.resolve_left h0;have HR:=lH hr;have HL:=lH hl;clear hr hl h0 h32;go_enter Tryz.func60,Tryz.ntmps60;go_wp2;go_loopw [3] (fun i wr=>∃k:Nat,k≤len∧i=.int .i64 k∧j7 (Yv l k) (l.drop k)=j7 none l∧Kept w wr) (fun i _=>len-(intOf i).toNat)
     case atStart=>exact⟨0,Nat.zero_le _,rfl,rfl,Kept.refl _⟩
     case round =>
      obtain⟨k,hk,rfl,hrest,hK⟩:=hrel;obtain⟨HS,HT,HK⟩:=lH3 (HV.out.trans hrest.symm) hrest hK;by_cases hlt:k<len
      · obtain⟨n,a1,m1,c1,a2,m2,c2,a3,m3,c3,hn,hd,hb,p0,p1,p2,p3,p4,hat⟩:=(HR.out.kept hK).at_ hlt;obtain⟨VH,HD,VD⟩:=lH3 hat hd (jcK hn);have VE:=lH (fun W (kk:Kept wr W)=>jgw n (.slice a1 m1 c1) (.slice a2 m2 c2) (.slice a3 m3 c3) W (VH.out.kept kk));unfold zj at VE;obtain⟨ck,hck⟩:=eX (zk n)
        have VG:=lH hck;rw[hck] at VE;have hkk:(k:Int)<(len:Int):=by omega
        clear hrest hK hat hd hck;by_cases z1:ck=0
        · subst z1;by_cases h0:k=0
          · have hd0:decide (0<k)=false:=by subst h0;decide
            have HP:=lH (jcy (l:=l) h0 n.name);clear h0;go_wp2_with fail
            refine(VE.out _ (Kept.refl _)).mono ?_;rintro e w1 ⟨rfl,kk⟩;have KW:=lH kk;clear kk;go_wp2;go_quiet (fail)
            go_wp2;go_roundw
            case rel=>exact⟨k+1,by omega,by go_num,(show j7 (Yv l (k+1)) (l.drop (k+1))=j7 none l by rw[←HT.out,HD.out,Xp VG.out HP.out,VD.out]),HK.out.trans (KW.out.trans (Kept.drewN _ _))⟩
            case measure=>simp[intOf];omega
          · have hd0:decide (0<k)=true:=by simp;omega
            have g1:0≤(k:Int)-1:=by omega
            have g2:(k:Int)-1<(len:Int):=by omega
            have g3:((k:Int)-1).toNat=k-1:=by omega
            obtain⟨n9,_,_,_,_,_,_,_,_,_,hn9,-,hb9,o0,-⟩:=(HR.out.kept HK.out).at_ (show k-1<len by omega);have HP:=lH (jcV (l:=l) h0 hn9 n.name);clear h0 hn9;by_cases n3:leS n.name n9.name=true
            · have n3':(Op.bytesLess n.name.toList n9.name.toList||n.name.toList==n9.name.toList)=true:=n3;have N3:=lH n3;clear n3;go_wp2_with fail
              refine(VE.out _ (Kept.refl _)).mono ?_;rintro e w1 ⟨rfl,kk⟩;have KW:=lH kk;have o1:=cell_later kk o0;have p9:=cell_later kk p0;clear kk;go_wp2;go_quiet (fail)
              go_wp2;go_ret;exact⟨jb (show (13:Int)=jI l by rw[HS.out,HD.out,jas VG.out (HP.out.trans N3.out)]),HK.out.trans (KW.out.trans (Kept.drewN _ _))⟩
            · have n3:leS n.name n9.name=false:=by simpa using n3
              have n3':(Op.bytesLess n.name.toList n9.name.toList||n.name.toList==n9.name.toList)=false:=n3;have N3:=lH n3;clear n3;go_wp2_with fail
              refine(VE.out _ (Kept.refl _)).mono ?_;rintro e w1 ⟨rfl,kk⟩;have KW:=lH kk;have o1:=cell_later kk o0;have p9:=cell_later kk p0;clear kk;go_wp2;go_quiet (fail)
              go_wp2;go_roundw
              case rel=>exact⟨k+1,by omega,by go_num,(show j7 (Yv l (k+1)) (l.drop (k+1))=j7 none l by rw[←HT.out,HD.out,Xp VG.out (HP.out.trans N3.out),VD.out]),HK.out.trans (KW.out.trans (Kept.drewN _ _))⟩
              case measure=>simp[intOf];omega
        · have z1':(ck != 0)=true:=by simpa using z1
          have HB:=lH (show jI l=ck by rw[HS.out,HD.out,jb4 (by rw[VG.out];exact z1),VG.out]);clear z1;go_wp2_with fail
          refine(VE.out _ (Kept.refl _)).mono ?_;rintro e w1 ⟨rfl,kk⟩;have KW:=lH kk;clear kk;go_wp2;go_ret;exact⟨jb HB.out.symm,HK.out.trans KW.out⟩
      · have HE:=lH (show jI l=0 by rw[HS.out,List.drop_of_length_le (by rw[HL.out];omega)];rfl);clear hrest hK;go_wp2;go_ret;exact⟨jb HE.out.symm,HK.out⟩
theorem ji0 {v:Value} {l:List Nod} {c:Int} {w:World} (h:JB w v l) (hc:jI l=c):Calls Tryz.prog 60 #[v] w (Say (.int .i64 c) w):=by
 subst hc;obtain⟨a,cap,rfl,_,_,hr⟩:=h;exact jeJ a _ cap l w hr
def JO (x:NT):Bool:=decide (x.1.size≤50)&&decide (x.2.1.size≤50)
def Zj (l:NL):Bool:=decide (l.length≤20)&&l.all JO
theorem jlk (a:Option Addr) (len cap:Nat) (l:NL) (w:World) (hr:jk ju w a len l) :
 Calls Tryz.prog 110 #[.slice a len cap] w fun e w'=>e=.returned (.bool (Zj l))∧w=w':=by
 have hl:=hr.1;have hm:=hr.2.1;unfold maxLen at hm;by_cases h20:len≤20
 · have HV:=lH (show Zj l=l.all JO by unfold Zj;rw[decide_eq_true (by omega)];rfl);rcases hr.form with h0 | ⟨b,off,rfl⟩
   · subst h0;have HE:=lH (show Zj l=true by rw[HV.out,List.eq_nil_of_length_eq_zero hl];rfl);clear hr hl;go_enter Tryz.func110,Tryz.ntmps110;go_wp2;refine wp_loop_rounds 1 ?_;rw[rounds_succ];go_wp2;go_ret;exact⟨jd HE.out.symm,rfl⟩
   · have HR:=lH hr;have HL:=lH hl;clear hr hl;go_enter Tryz.func110,Tryz.ntmps110;go_wp2;go_loop [3] (fun i=>∃k:Nat,k≤len∧i=.int .i64 k∧(l.drop k).all JO=l.all JO) (fun i=>len-(intOf i).toNat)
     case atStart=>exact⟨0,Nat.zero_le _,rfl,rfl⟩
     case round =>
      obtain⟨k,hk,rfl,hrest⟩:=hrel;by_cases hlt:k<len
      · obtain⟨x,y,m,hx,hd,hb,hz,hz2,c1,c2,c3⟩:=HR.out.tri hlt;have HT:=lH (hrest.symm.trans ((congrArg (fun z=>z.all JO) hd).trans (all_cons _ _ _)));clear hrest hx hd;unfold maxLen at hz hz2;by_cases e:x.size≤50
        · by_cases e2:y.size≤50
          · have E:=lH (show JO (x,y,m)=true by unfold JO;rw[decide_eq_true e,decide_eq_true e2];rfl);go_wp2;go_round
            case rel=>exact⟨k+1,by omega,by go_num,(HT.out.trans (by rw[E.out];exact Bool.true_and _)).symm⟩
            case measure=>simp[intOf];omega
          · have E:=lH (show JO (x,y,m)=false by unfold JO;rw[decide_eq_false e2];exact Bool.and_false _);have e2':50<y.size:=by omega
            clear e2;go_wp2;go_ret;exact⟨jd (HV.out.trans (HT.out.trans (by rw[E.out];exact Bool.false_and _))).symm,rfl⟩
        · have E:=lH (show JO (x,y,m)=false by unfold JO;rw[decide_eq_false e];exact Bool.false_and _);have e':50<x.size:=by omega
          clear e;go_wp2;go_ret;exact⟨jd (HV.out.trans (HT.out.trans (by rw[E.out];exact Bool.false_and _))).symm,rfl⟩
      · have HS:=lH ((HV.out.trans hrest.symm).trans (congrArg (fun z=>z.all JO) (zB (by rw[HL.out];exact hlt))));clear hrest;go_wp2;go_ret;exact⟨jd (HS.out.trans rfl).symm,rfl⟩
 · have HV:=lH (show Zj l=false by unfold Zj;rw[decide_eq_false (by omega)];rfl);have h9:20<len:=by omega
   clear h20 hr hl;go_enter Tryz.func110,Tryz.ntmps110;go_wp2;go_ret;exact⟨jd HV.out.symm,rfl⟩
theorem jld (a:Option Addr) (len cap:Nat) (l:NL) (w:World) (hr:jk ju w a len l) :
 Calls Tryz.prog 111 #[.slice a len cap] w fun e w'=>e=.returned (.bool (Zj l))∧w=w':=by
 have hl:=hr.1;have hm:=hr.2.1;unfold maxLen at hm;by_cases h20:len≤20
 · have HV:=lH (show Zj l=l.all JO by unfold Zj;rw[decide_eq_true (by omega)];rfl);rcases hr.form with h0 | ⟨b,off,rfl⟩
   · subst h0;have HE:=lH (show Zj l=true by rw[HV.out,List.eq_nil_of_length_eq_zero hl];rfl);clear hr hl;go_enter Tryz.func111,Tryz.ntmps111;go_wp2;refine wp_loop_rounds 1 ?_;rw[rounds_succ];go_wp2;go_ret;exact⟨jd HE.out.symm,rfl⟩
   · have HR:=lH hr;have HL:=lH hl;clear hr hl;go_enter Tryz.func111,Tryz.ntmps111;go_wp2;go_loop [3] (fun i=>∃k:Nat,k≤len∧i=.int .i64 k∧(l.drop k).all JO=l.all JO) (fun i=>len-(intOf i).toNat)
     case atStart=>exact⟨0,Nat.zero_le _,rfl,rfl⟩
     case round =>
      obtain⟨k,hk,rfl,hrest⟩:=hrel;by_cases hlt:k<len
      · obtain⟨x,y,m,hx,hd,hb,hz,hz2,c1,c2,c3⟩:=HR.out.tri hlt;have HT:=lH (hrest.symm.trans ((congrArg (fun z=>z.all JO) hd).trans (all_cons _ _ _)));clear hrest hx hd;unfold maxLen at hz hz2;by_cases e:x.size≤50
        · by_cases e2:y.size≤50
          · have E:=lH (show JO (x,y,m)=true by unfold JO;rw[decide_eq_true e,decide_eq_true e2];rfl);go_wp2;go_round
            case rel=>exact⟨k+1,by omega,by go_num,(HT.out.trans (by rw[E.out];exact Bool.true_and _)).symm⟩
            case measure=>simp[intOf];omega
          · have E:=lH (show JO (x,y,m)=false by unfold JO;rw[decide_eq_false e2];exact Bool.and_false _);have e2':50<y.size:=by omega
            clear e2;go_wp2;go_ret;exact⟨jd (HV.out.trans (HT.out.trans (by rw[E.out];exact Bool.false_and _))).symm,rfl⟩
        · have E:=lH (show JO (x,y,m)=false by unfold JO;rw[decide_eq_false e];exact Bool.false_and _);have e':50<x.size:=by omega
          clear e;go_wp2;go_ret;exact⟨jd (HV.out.trans (HT.out.trans (by rw[E.out];exact Bool.false_and _))).symm,rfl⟩
      · have HS:=lH ((HV.out.trans hrest.symm).trans (congrArg (fun z=>z.all JO) (zB (by rw[HL.out];exact hlt))));clear hrest;go_wp2;go_ret;exact⟨jd (HS.out.trans rfl).symm,rfl⟩
 · have HV:=lH (show Zj l=false by unfold Zj;rw[decide_eq_false (by omega)];rfl);have h9:20<len:=by omega
   clear h20 hr hl;go_enter Tryz.func111,Tryz.ntmps111;go_wp2;go_ret;exact⟨jd HV.out.symm,rfl⟩
theorem jog {v:Value} {l:NL} {w:World} (h:Reads ju w v l):Calls Tryz.prog 110 #[v] w fun e w'=>e=.returned (.bool (Zj l))∧w=w':=by
 obtain⟨a,cap,rfl,_,_,hr⟩:=h;exact jlk a _ cap l w hr
theorem jod {v:Value} {l:NL} {w:World} (h:Reads ju w v l):Calls Tryz.prog 111 #[v] w fun e w'=>e=.returned (.bool (Zj l))∧w=w':=by
 obtain⟨a,cap,rfl,_,_,hr⟩:=h;exact jld a _ cap l w hr
theorem jho {s:NL} (h:Zj s=true):s.length≤20∧∀x ∈ s,x.1.size≤50∧x.2.1.size≤50:=by
 unfold Zj at h;simp only[Bool.and_eq_true,decide_eq_true_eq,List.all_eq_true] at h;refine⟨h.1,fun x hx=>?_⟩;have:=h.2 x hx;unfold JO at this;simpa using this
theorem jme:(Tryz.prog.info? 238).map (fun i=>(i.zero,i.size,i.bytes))=some (some (.agg #[.string ByteArray.empty,.string ByteArray.empty,.bool false]),3,40):=by kernel_rfl
theorem jmX (a:Option Addr) (len cap:Nat) (l:NL) (w:World) (hr:jk ju w a len l) (hlen:len≤1000000) :
 Calls Tryz.prog 117 #[.slice a len cap] w (fun e w'=>∃x,e=.returned x∧Own ju 238 w' w.heap.size x l∧Kept w w'):=by
 have hl:=hr.1;obtain⟨i0,hi,hz0,hz1,hz2'⟩:=info_parts jme;rcases hr.form with h0 | ⟨b,off,rfl⟩
 · subst h0;have hl0:l=[]:=List.eq_nil_of_length_eq_zero hl;subst hl0;clear hr hl hi hz0 hz1 hz2';go_enter Tryz.func117,Tryz.ntmps117;go_wp2;refine wp_loop_rounds 1 ?_;rw[rounds_succ];go_wp2;go_ret;exact⟨_,rfl,Own.nil _ _ _,Kept.refl _⟩
 · have HR:=lH hr;have HL:=lH hl;clear hr hl;go_enter Tryz.func117,Tryz.ntmps117;go_wp2;go_loopw [3,4] (fun v i wr=>∃k:Nat,k≤len∧i=.int .i64 k∧Own ju 238 wr w.heap.size v (l.take k)∧Below w.heap.size w wr) (fun _ i _=>len-(intOf i).toNat)
   case atStart=>exact⟨0,Nat.zero_le _,rfl,Own.nil _ _ _,Below.refl _ _⟩
   case round =>
    obtain⟨k,hk,rfl,ho,hB⟩:=hrel;obtain⟨HO,HB,HT⟩:=lH3 ho hB (show (l.take k).length=k by rw[List.length_take,HL.out];omega);have Vk:=lH (show wr.ownsRow w.heap.size 238 3 u3 k (je ju (l.take k)) by have:=HO.out.1;rw[HT.out] at this;exact this);by_cases hlt:k<len
    · obtain⟨x,y,m,hx,hd,hb,hz,hz2,c0,c1,c2⟩:=(HR.out.kept hB).tri hlt;have HX:=lH hx;have hbw:b<w.heap.size:=by obtain⟨z,_,_,h,_⟩:=HR.out.cells hlt;exact h
      have hbase:w.heap.size≤wr.heap.size:=hB.size;have V0:=lH (show u3.ownBlock≠some b by
       intro e;have:=(Vk.out.lt b e).1;omega)
      have VL:=lH (show w.heap.size≤(wr.alloc (.cells #[.string x,.string y,.bool m] 238)).drew.heap.size by simp;omega);have UJ:=lH (show Below w.heap.size w ((wr.alloc (.cells #[.string x,.string y,.bool m] 238)).drew) from HB.out.trans (Below.mono ((ja wr _).trans (Kept.drewN _ 1)) hbase));have hk1:(k:Int)<(len:Int):=by omega
      have Ur:=lH (show ju.fine (x,y,m) from⟨hz,hz2⟩);clear ho hB hx hd hz hz2;go_wp2_with fail
      go_region_held3 (fun W=>W.cell? ⟨b,off+k*3,none⟩=some (.string x)∧W.cell? ⟨b,off+k*3+1,none⟩=some (.string y)∧W.cell? ⟨b,off+k*3+2,none⟩=some (.bool m))
       (first
         | go_keep
         | (go_split_ands
            refine⟨?_,?_,?_⟩
            · (refine(hgrow.cell_far ⟨b,off+k*3,none⟩ (by simp;omega) (Ne.symm V0.out)).trans ?_;assumption)
            · (refine(hgrow.cell_far ⟨b,off+k*3+1,none⟩ (by simp;omega) (Ne.symm V0.out)).trans ?_;assumption)
            · (refine(hgrow.cell_far ⟨b,off+k*3+2,none⟩ (by simp;omega) (Ne.symm V0.out)).trans ?_;assumption)))
       ((refine step_append_lies _ (by rfl) _ _ _ (by rfl) w.heap.size 238 i0 _ 3 40 Tryz.underlying120 hi hz0 hz1 hz2' rfl (by decide) u3 k (je ju (l.take k)) (by rfl) ((Vk.out.alloc _).drew)
          ⟨wr.heap.size,0,none⟩ 1 1 [.string x,.string y,.bool m] (by rfl) (by rfl) (World.news_of_block (cs:=#[.string x,.string y,.bool m]) (t:=238) (fr:=(0,0)) (heap_alloc_new wr _)) (jdj x y m)
          (by decide) (by unfold maxLen;omega) (by omega) (by simp;omega) (wr.heap.size+1) (by simp) ?_;intro gg cap1 w1 hown1 hgrow hat hlt1))
      all_goals
       go_wp2;go_roundw
       case rel=>exact⟨k+1,by omega,by go_num,by rw[zI HX.out];exact Own.snoc hown1 (by rw[HT.out]) HO.out.2 Ur.out,UJ.out.grown hgrow VL.out (fun j hj=>(Vk.out.lt j hj).1)⟩
       case measure=>simp[intOf];omega
    · have HK:=lH (show l.take k=l by rw[List.take_of_length_le (by rw[HL.out];omega)]);clear ho hB;go_wp2;go_ret;exact⟨_,rfl,by have h:=HO.out;rw[HK.out] at h;exact h,HB.out⟩
theorem jmb:(Tryz.prog.info? 147).map (fun i=>(i.zero,i.size,i.bytes))=some (some (.agg #[.string ByteArray.empty,.string ByteArray.empty,.bool false]),3,40):=by kernel_rfl
theorem jmF (a:Option Addr) (len cap:Nat) (l:NL) (w:World) (hr:jk ju w a len l) (hlen:len≤1000000) :
 Calls Tryz.prog 38 #[.slice a len cap] w (fun e w'=>∃x,e=.returned x∧Own ju 147 w' w.heap.size x l∧Kept w w'):=by
 have hl:=hr.1;obtain⟨i0,hi,hz0,hz1,hz2'⟩:=info_parts jmb;rcases hr.form with h0 | ⟨b,off,rfl⟩
 · subst h0;have hl0:l=[]:=List.eq_nil_of_length_eq_zero hl;subst hl0;clear hr hl hi hz0 hz1 hz2';go_enter Tryz.func38,Tryz.ntmps38;go_wp2;refine wp_loop_rounds 1 ?_;rw[rounds_succ];go_wp2;go_ret;exact⟨_,rfl,Own.nil _ _ _,Kept.refl _⟩
 · have HR:=lH hr;have HL:=lH hl;clear hr hl;go_enter Tryz.func38,Tryz.ntmps38;go_wp2;go_loopw [3,4] (fun v i wr=>∃k:Nat,k≤len∧i=.int .i64 k∧Own ju 147 wr w.heap.size v (l.take k)∧Below w.heap.size w wr) (fun _ i _=>len-(intOf i).toNat)
   case atStart=>exact⟨0,Nat.zero_le _,rfl,Own.nil _ _ _,Below.refl _ _⟩
   case round =>
    obtain⟨k,hk,rfl,ho,hB⟩:=hrel;obtain⟨HO,HB,HT⟩:=lH3 ho hB (show (l.take k).length=k by rw[List.length_take,HL.out];omega);have Vk:=lH (show wr.ownsRow w.heap.size 147 3 u3 k (je ju (l.take k)) by have:=HO.out.1;rw[HT.out] at this;exact this);by_cases hlt:k<len
    · obtain⟨x,y,m,hx,hd,hb,hz,hz2,c0,c1,c2⟩:=(HR.out.kept hB).tri hlt;have HX:=lH hx;have hbw:b<w.heap.size:=by obtain⟨z,_,_,h,_⟩:=HR.out.cells hlt;exact h
      have hbase:w.heap.size≤wr.heap.size:=hB.size;have V0:=lH (show u3.ownBlock≠some b by
       intro e;have:=(Vk.out.lt b e).1;omega)
      have VL:=lH (show w.heap.size≤(wr.alloc (.cells #[.string x,.string y,.bool m] 147)).drew.heap.size by simp;omega);have UJ:=lH (show Below w.heap.size w ((wr.alloc (.cells #[.string x,.string y,.bool m] 147)).drew) from HB.out.trans (Below.mono ((ja wr _).trans (Kept.drewN _ 1)) hbase));have hk1:(k:Int)<(len:Int):=by omega
      have Ur:=lH (show ju.fine (x,y,m) from⟨hz,hz2⟩);clear ho hB hx hd hz hz2;go_wp2_with fail
      go_region_held3 (fun W=>W.cell? ⟨b,off+k*3,none⟩=some (.string x)∧W.cell? ⟨b,off+k*3+1,none⟩=some (.string y)∧W.cell? ⟨b,off+k*3+2,none⟩=some (.bool m))
       (first
         | go_keep
         | (go_split_ands
            refine⟨?_,?_,?_⟩
            · (refine(hgrow.cell_far ⟨b,off+k*3,none⟩ (by simp;omega) (Ne.symm V0.out)).trans ?_;assumption)
            · (refine(hgrow.cell_far ⟨b,off+k*3+1,none⟩ (by simp;omega) (Ne.symm V0.out)).trans ?_;assumption)
            · (refine(hgrow.cell_far ⟨b,off+k*3+2,none⟩ (by simp;omega) (Ne.symm V0.out)).trans ?_;assumption)))
       ((refine step_append_lies _ (by rfl) _ _ _ (by rfl) w.heap.size 147 i0 _ 3 40 Tryz.underlying40 hi hz0 hz1 hz2' rfl (by decide) u3 k (je ju (l.take k)) (by rfl) ((Vk.out.alloc _).drew)
          ⟨wr.heap.size,0,none⟩ 1 1 [.string x,.string y,.bool m] (by rfl) (by rfl) (World.news_of_block (cs:=#[.string x,.string y,.bool m]) (t:=147) (fr:=(0,0)) (heap_alloc_new wr _)) (jdj x y m)
          (by decide) (by unfold maxLen;omega) (by omega) (by simp;omega) (wr.heap.size+1) (by simp) ?_;intro gg cap1 w1 hown1 hgrow hat hlt1))
      all_goals
       go_wp2;go_roundw
       case rel=>exact⟨k+1,by omega,by go_num,by rw[zI HX.out];exact Own.snoc hown1 (by rw[HT.out]) HO.out.2 Ur.out,UJ.out.grown hgrow VL.out (fun j hj=>(Vk.out.lt j hj).1)⟩
       case measure=>simp[intOf];omega
    · have HK:=lH (show l.take k=l by rw[List.take_of_length_le (by rw[HL.out];omega)]);clear ho hB;go_wp2;go_ret;exact⟨_,rfl,by have h:=HO.out;rw[HK.out] at h;exact h,HB.out⟩
def jcv (W:World) (N:Nat):Prop:=∀o x u,W.cell? ⟨N,o,none⟩=some (.string x)→W.cell? ⟨N,o+1,none⟩=some u→∃a n c,u=.slice a n c
theorem jkq {W:World} {N:Nat} {x:ByteArray} {a1 a2 a3:Option Addr} {m1 c1 m2 c2 m3 c3:Nat} {b:Bool} {T:TypeId} {fr:Nat×Nat} (hh:W.heap[N]?=some (.cells #[.string x,.slice a1 m1 c1,.slice a2 m2 c2,.slice a3 m3 c3,.bool b] T fr)):jcv W N:=by
 intro o y u h1 h2;rw[Lib.cell_of_heap hh] at h1 h2
 match o,h1,h2 with
 | 0,_,h2=>exact⟨a1,m1,c1,by simpa using h2.symm⟩
 | 1,h1,_=>simp at h1
 | 2,h1,_=>simp at h1
 | 3,h1,_=>simp at h1
 | 4,h1,_=>simp at h1
 | o+5,h1,_=>simp at h1
theorem jgm {w w':World} {v:Value} {l:Vec.V} {N:Nat} (h:Vec.Reads w v l) (hs:w'.heap.size=w.heap.size) (hb:∀b,b≠N→w'.heap[b]?=w.heap[b]?) (hn:jcv w N):Vec.Reads w' v l:=by
 obtain⟨a,cap,rfl,h1,h2,h3,h4,h5,h6⟩:=h;refine⟨a,cap,rfl,h1,h2,h3,h4,h5,?_⟩;rcases h6 with h6 | ⟨b,off,rfl,hlt,hc⟩
 · exact .inl h6
 · by_cases h0:l.length=0
   · exact .inl h0
   · have hne:b≠N:=by
      rintro rfl;obtain⟨c0,c1⟩:=hc 0 (by omega);obtain⟨_,_,_,e⟩:=hn _ _ _ c0 c1
      cases e
     exact .inr ⟨b,off,rfl,by rw[hs];exact hlt,fun i hi=>⟨(World.cell?_of_block (a:=⟨b,off+i*2,none⟩) (hb b hne)).trans (hc i hi).1,(World.cell?_of_block (a:=⟨b,off+i*2+1,none⟩) (hb b hne)).trans (hc i hi).2⟩⟩
theorem jcE {α:Type} {L:Lay α} {w w':World} {v:Value} {l:List α} {N:Nat} (hL:∀x,∃s t,(L.cs x)[0]?=some (.string s)∧(L.cs x)[1]?=some (.string t)) (h:Reads L w v l) (hs:w'.heap.size=w.heap.size) (hb:∀b,b≠N→w'.heap[b]?=w.heap[b]?) (hn:jcv w N):Reads L w' v l:=by
 obtain⟨a,cap,rfl,h1,h2,h3,h4,h5,h6⟩:=h;refine⟨a,cap,rfl,h1,h2,h3,h4,h5,?_⟩;rcases h6 with h6 | ⟨b,off,rfl,hlt,hc⟩
 · exact .inl h6
 · cases l with
   | nil=>exact .inl rfl
   | cons x t =>
    have hne:b≠N:=by
     rintro rfl;obtain⟨s,u,g0,g1⟩:=hL x;have c0:=hc 0 x 0 _ rfl g0;have c1:=hc 0 x 1 _ rfl g1;obtain⟨_,_,_,e⟩:=hn _ _ _ c0 c1
     cases e
    exact .inr ⟨b,off,rfl,by rw[hs];exact hlt,fun i x j u hi hj=>(World.cell?_of_block (a:=⟨b,off+i*L.m+j,none⟩) (hb b hne)).trans (hc i x j u hi hj)⟩
theorem jnH (x:ByteArray×ByteArray):∃s t,(jz.cs x)[0]?=some (.string s)∧(jz.cs x)[1]?=some (.string t):=⟨x.1,x.2,rfl,rfl⟩
theorem jnK (x:NT):∃s t,(ju.cs x)[0]?=some (.string s)∧(ju.cs x)[1]?=some (.string t):=⟨x.1,x.2.1,rfl,rfl⟩
theorem jbo {w w':World} {v1 v2 v3:Value} {n:Nod} {N:Nat} (h:zp w v1 v2 v3 n) (hs:w'.heap.size=w.heap.size) (hb:∀b,b≠N→w'.heap[b]?=w.heap[b]?) (hn:jcv w N):zp w' v1 v2 v3 n :=
 ⟨h.size,jgm h.cap hs hb hn,jcE jnH h.labels hs hb hn,jcE jnK h.taints hs hb hn⟩
abbrev SX:=Option Addr×Nat×Nat
abbrev NX:=Nod×SX×SX×SX
abbrev slV (x:SX):Value:=.slice x.1 x.2.1 x.2.2
abbrev joH (z:NX):Value:=.agg #[.string z.1.name,slV z.2.1,slV z.2.2.1,slV z.2.2.2,.bool z.1.cordon]
def At3 (w:World) (z:NX):Prop:=zp w (slV z.2.1) (slV z.2.2.1) (slV z.2.2.2) z.1
def XF (lo hi:Nat) (z:NX):Prop:=(∀b off sp,z.2.1.1=some ⟨b,off,sp⟩→lo≤b∧b<hi)∧(∀b off sp,z.2.2.1.1=some ⟨b,off,sp⟩→lo≤b∧b<hi)∧(∀b off sp,z.2.2.2.1=some ⟨b,off,sp⟩→lo≤b∧b<hi)
theorem jd6 {T:TypeId} {w w':World} {e:Ending} {l:Vec.V} (h:∃x,e=.returned x∧Vec.jT T w' w.heap.size x l∧Kept w w'):∃a m c,e=.returned (.slice a m c)∧Vec.Reads w' (.slice a m c) l∧(∀b off sp,a=some ⟨b,off,sp⟩→w.heap.size≤b∧b<w'.heap.size)∧Kept w w':=by
 obtain⟨x,rfl,ho,k⟩:=h;obtain⟨a,cap,rfl,h⟩:=ho.at_;exact⟨a,_,cap,rfl,⟨a,cap,rfl,h⟩,fun b off sp e=>ho.1.lt b (by subst e;rfl),k⟩
theorem YF {α:Type} {L:Lay α} {T:TypeId} {w w':World} {e:Ending} {l:List α} (h:∃x,e=.returned x∧Own L T w' w.heap.size x l∧Kept w w'):∃a m c,e=.returned (.slice a m c)∧Reads L w' (.slice a m c) l∧(∀b off sp,a=some ⟨b,off,sp⟩→w.heap.size≤b∧b<w'.heap.size)∧Kept w w':=by
 obtain⟨x,rfl,ho,k⟩:=h;obtain⟨a,cap,rfl,h⟩:=ho.at_;exact⟨a,_,cap,rfl,⟨a,cap,rfl,h⟩,fun b off sp e=>ho.1.lt b (by subst e;rfl),k⟩
theorem jnG {v:Value} {l:Vec.V} {w:World} (h:Vec.Reads w v l) (hf:l.length≤1000000) :
 Calls Tryz.prog 35 #[v] w (fun e w'=>∃x,e=.returned x∧Vec.jT 138 w' w.heap.size x l∧Kept w w'):=by
 obtain⟨a,cap,rfl,h1,h2,h3⟩:=h;exact Vec.jfN a _ cap l w h3 hf
theorem jnx {v:Value} {l:PL} {w:World} (h:Reads jz w v l) (hf:l.length≤1000000) :
 Calls Tryz.prog 36 #[v] w (fun e w'=>∃x,e=.returned x∧Own jz 141 w' w.heap.size x l∧Kept w w'):=by
 obtain⟨a,cap,rfl,h1,h2,h3⟩:=h;exact jfN a _ cap l w h3 hf
theorem jow {v:Value} {l:NL} {w:World} (h:Reads ju w v l) (hf:l.length≤1000000) :
 Calls Tryz.prog 117 #[v] w (fun e w'=>∃x,e=.returned x∧Own ju 238 w' w.heap.size x l∧Kept w w'):=by
 obtain⟨a,cap,rfl,h1,h2,h3⟩:=h;exact jmX a _ cap l w h3 hf
theorem jjt {W:World} {q p:Nat} {v0 v1 v2 v3 v4 u0 u1 u2 u3 u4:Value} (h:W.cell? ⟨p,0,none⟩=some v0∧W.cell? ⟨p,1,none⟩=some v1∧W.cell? ⟨p,2,none⟩=some v2∧W.cell? ⟨p,3,none⟩=some v3∧W.cell? ⟨p,4,none⟩=some v4) (hne:p≠q) :
 ((((((W.setCell ⟨q,0,none⟩ u0).setCell ⟨q,1,none⟩ u1).setCell ⟨q,2,none⟩ u2).setCell ⟨q,3,none⟩ u3).setCell ⟨q,4,none⟩ u4).cell? ⟨p,0,none⟩=some v0∧(((((W.setCell ⟨q,0,none⟩ u0).setCell ⟨q,1,none⟩ u1).setCell ⟨q,2,none⟩ u2).setCell ⟨q,3,none⟩ u3).setCell ⟨q,4,none⟩ u4).cell? ⟨p,1,none⟩=some v1∧(((((W.setCell ⟨q,0,none⟩ u0).setCell ⟨q,1,none⟩ u1).setCell ⟨q,2,none⟩ u2).setCell ⟨q,3,none⟩ u3).setCell ⟨q,4,none⟩ u4).cell? ⟨p,2,none⟩=some v2∧(((((W.setCell ⟨q,0,none⟩ u0).setCell ⟨q,1,none⟩ u1).setCell ⟨q,2,none⟩ u2).setCell ⟨q,3,none⟩ u3).setCell ⟨q,4,none⟩ u4).cell? ⟨p,3,none⟩=some v3∧(((((W.setCell ⟨q,0,none⟩ u0).setCell ⟨q,1,none⟩ u1).setCell ⟨q,2,none⟩ u2).setCell ⟨q,3,none⟩ u3).setCell ⟨q,4,none⟩ u4).cell? ⟨p,4,none⟩=some v4):=by
 have hb:=jcF W q u0 u1 u2 u3 u4 p hne;exact⟨(World.cell?_of_block (a:=⟨p,0,none⟩) hb).trans h.1,(World.cell?_of_block (a:=⟨p,1,none⟩) hb).trans h.2.1,(World.cell?_of_block (a:=⟨p,2,none⟩) hb).trans h.2.2.1,(World.cell?_of_block (a:=⟨p,3,none⟩) hb).trans h.2.2.2.1,(World.cell?_of_block (a:=⟨p,4,none⟩) hb).trans h.2.2.2.2⟩
theorem jmR (n:Nod) (v1 v2 v3:Value) (w:World) (h:zp w v1 v2 v3 n) (hl:zP n) :
 Calls Tryz.prog 67 #[zj n v1 v2 v3] w fun e w'=>∃z:NX,e=.returned (joH z)∧z.1=n∧At3 w' z∧XF w.heap.size w'.heap.size z∧Kept w w':=by
 obtain⟨W0,hW0⟩:=eX ((w.alloc (.cells #[.string n.name,v1,v2,v3,.bool n.cordon] 78)).alloc (.cells #[.string ⟨#[]⟩,.slice none 0 0,.slice none 0 0,.slice none 0 0,.bool false] 122))
 have hk0:Kept w W0:=by rw[←hW0];exact jn _ _ _
 have HB:=lH (show ∀W,Kept W0 W→W.cell? ⟨w.heap.size,0,none⟩=some (.string n.name)∧W.cell? ⟨w.heap.size,1,none⟩=some v1∧W.cell? ⟨w.heap.size,2,none⟩=some v2∧W.cell? ⟨w.heap.size,3,none⟩=some v3∧W.cell? ⟨w.heap.size,4,none⟩=some (.bool n.cordon) from fun W k=>(Xo w _ _ _ _ _ 78 W ((by rw[←hW0];exact ja _ _:Kept (w.alloc (.cells #[.string n.name,v1,v2,v3,.bool n.cordon] 78)) W0).trans k)).1);have HQ:=lH (show ∀W,Kept W0 W→zA (w.heap.size+1) (.string ⟨#[]⟩) (.slice none 0 0) (.slice none 0 0) (.slice none 0 0) (.bool false) W from fun W k=>by
  have:=Xo (w.alloc (.cells #[.string n.name,v1,v2,v3,.bool n.cordon] 78)) (.string ⟨#[]⟩) (.slice none 0 0) (.slice none 0 0) (.slice none 0 0) (.bool false) 122 W (by rw[hW0];exact k);rw[World.size_alloc] at this;exact this)
 have HH:=lH (show W0.heap[w.heap.size+1]?=some (.cells #[.string ⟨#[]⟩,.slice none 0 0,.slice none 0 0,.slice none 0 0,.bool false] 122) by
  have:=(w.alloc (.cells #[.string n.name,v1,v2,v3,.bool n.cordon] 78)).alloc_heap_new (.cells #[.string ⟨#[]⟩,.slice none 0 0,.slice none 0 0,.slice none 0 0,.bool false] 122);rw[hW0,World.size_alloc] at this;exact this)
 obtain⟨H1,H2,H3,TU,Va⟩:=lH5 (fun W (k:Kept W0 W)=>(jnG (h.cap.kept (hk0.trans k)) hl.cap).mono fun _ _=>jd6) (fun W (k:Kept W0 W)=>(jnx (h.labels.kept (hk0.trans k)) hl.labels).mono fun _ _=>YF) (fun W (k:Kept W0 W)=>(jow (h.taints.kept (hk0.trans k)) hl.taints).mono fun _ _=>YF) h.size hk0;obtain⟨⟨nm,l1,l2,l3,cd⟩,hnn⟩:∃m,m=n:=⟨n,rfl⟩
 subst hnn;dsimp only at H1 H2 H3 TU HB hW0;obtain⟨b0,b1,b2,b3,b4⟩:=HB.out _ (Kept.refl _);clear h hl hk0;unfold zj;dsimp only;go_enter Tryz.func67,Tryz.ntmps67;go_wp2;try rw[hW0]
 clear hW0
 go_region_held3 (fun W=>(W.cell? ⟨w.heap.size,0,none⟩=some (.string nm)∧W.cell? ⟨w.heap.size,1,none⟩=some v1∧W.cell? ⟨w.heap.size,2,none⟩=some v2∧W.cell? ⟨w.heap.size,3,none⟩=some v3∧W.cell? ⟨w.heap.size,4,none⟩=some (.bool cd)))
  (first | exact HB.out _ (Kept.drew _) | exact HB.out _ K1.out | exact HB.out _ K2.out | exact HB.out _ K3.out | exact jjt (HB.out _ K3.out) (by omega))
  (first | (go_at_call 35;refine(H1.out _ (Kept.drew _)).mono ?_;rintro e1 w1 ⟨a1,m1,c1,rfl,r1,g1,k1⟩;obtain⟨G1,K1,R1⟩:=lH3 (show ∀b off sp,a1=some ⟨b,off,sp⟩→w.heap.size≤b∧b<w1.heap.size from fun b o s e=>⟨Nat.le_trans Va.out.size (g1 b o s e).1,(g1 b o s e).2⟩) ((Kept.drew _).trans k1) r1;clear k1 r1 g1)
         | (go_at_call 36;refine(H2.out _ K1.out).mono ?_;rintro e2 w2 ⟨a2,m2,c2,rfl,r2,g2,k2⟩;obtain⟨G2,G1,R1,K2,R2⟩:=lH5 (show ∀b off sp,a2=some ⟨b,off,sp⟩→w.heap.size≤b∧b<w2.heap.size from fun b o s e=>⟨Nat.le_trans Va.out.size (Nat.le_trans K1.out.size (g2 b o s e).1),(g2 b o s e).2⟩) (show ∀b off sp,a1=some ⟨b,off,sp⟩→w.heap.size≤b∧b<w2.heap.size from fun b o s e=>⟨(G1.out b o s e).1,Nat.lt_of_lt_of_le (G1.out b o s e).2 k2.size⟩) (R1.out.kept k2) (K1.out.trans k2) r2;clear k2 r2 g2)
         | (go_at_call 117;refine(H3.out _ K2.out).mono ?_;rintro e3 w3 ⟨a3,m3,c3,rfl,r3,g3,k3⟩;obtain⟨G3,G1,G2,R1,R2,K3,R3⟩:=lH7 (show ∀b off sp,a3=some ⟨b,off,sp⟩→w.heap.size≤b∧b<w3.heap.size from fun b o s e=>⟨Nat.le_trans Va.out.size (Nat.le_trans K2.out.size (g3 b o s e).1),(g3 b o s e).2⟩) (show ∀b off sp,a1=some ⟨b,off,sp⟩→w.heap.size≤b∧b<w3.heap.size from fun b o s e=>⟨(G1.out b o s e).1,Nat.lt_of_lt_of_le (G1.out b o s e).2 k3.size⟩) (show ∀b off sp,a2=some ⟨b,off,sp⟩→w.heap.size≤b∧b<w3.heap.size from fun b o s e=>⟨(G2.out b o s e).1,Nat.lt_of_lt_of_le (G2.out b o s e).2 k3.size⟩) (R1.out.kept k3) (R2.out.kept k3) (K2.out.trans k3) r3;clear k3 r3 g3;obtain⟨⟨y0,y1,y2,y3,y4⟩,x0,x1,x2,x3,x4⟩:=HQ.out _ K3.out))
 have P:=lH (ZC ⟨y0,y1,y2,y3,y4⟩ nm a1 a2 a3 m1 c1 m2 c2 m3 c3 cd);have HZ:=lH ((K3.out.block (w.heap.size+1) (Array.getElem?_eq_some_iff.1 HH.out).1).trans HH.out);go_wp2;obtain⟨WE,hWE⟩:=eX ((((((w3.setCell ⟨w.heap.size+1,0,none⟩ (.string nm)).setCell ⟨w.heap.size+1,1,none⟩ (.slice a1 m1 c1)).setCell ⟨w.heap.size+1,2,none⟩ (.slice a2 m2 c2)).setCell ⟨w.heap.size+1,3,none⟩ (.slice a3 m3 c3)).setCell ⟨w.heap.size+1,4,none⟩ (.bool cd)))
 rw[hWE] at P ⊢;clear hWE y0 y1 y2 y3 y4 x0 x1 x2 x3 x4;obtain⟨⟨d0,d1,d2,d3,d4⟩,hsz,hbl,hkp⟩:=P.out;refine bodyPost_ret (by simp[results,Tryz.results67,go_sem,d0,d1,d2,d3,d4];try rfl) rfl ?_;exact⟨(⟨nm,l1,l2,l3,cd⟩,(a1,m1,c1),(a2,m2,c2),(a3,m3,c3)),rfl,rfl,jbo (n:=⟨nm,l1,l2,l3,cd⟩) ⟨TU.out,R1.out,R2.out,R3.out⟩ hsz hbl (jkq HZ.out),⟨fun b o s e=>by rw[hsz];exact G1.out b o s e,fun b o s e=>by rw[hsz];exact G2.out b o s e,fun b o s e=>by rw[hsz];exact G3.out b o s e⟩,hkp _ _ (Nat.le_succ _) (Va.out.trans K3.out)⟩
open Go.ChangeShapes Go.WideShapes Go.ChangeAt Go.RowKit Go.Deep
theorem ZF:Tryz.prog.cellsOf 9=1:=by kernel_rfl
theorem zJ {α:Type} (L:Lay α) {t e:TypeId} (ht:Tryz.prog.underlying t=some (.slice e)) (hc:Tryz.prog.cellsOf e=L.m) {H:Type} {enc:TypeId×Value→H} {w:World} {base fuel:Nat} {sp:Nat→Bool} {held:Bool} {v:Value} {x:DataW H×List MemPlace}
 (el:∀(m:Nat) (cs:List Value) (x:DataW H×List MemPlace),DataW.trod enc Tryz.prog w base sp held m e cs=some x→∃a,cs=L.cs a∧L.fine a)
 (h:DataW.trod enc Tryz.prog w base sp held fuel t [v]=some x):∃l,Reads L w v l:=by
 rcases open_slice ht h with ⟨hcs,-⟩ | ⟨a,len,cap,m,n,D,Pl,hcs,hb,hl,hm,hmm,hx,hi⟩
 · cases hcs;exact⟨[],Reads.nil w⟩
 · cases hcs
   have hlm:len≤m:=by rw[hmm];split<;>omega
   have key:∀k,k≤len→∃l:List α,l.length=k∧(∀z ∈ l,L.fine z)∧∀i z j u,l[i]?=some z→(L.cs z)[j]?=some u→w.cell? ((a.add (i*L.m)).add j)=some u:=by
    intro k
    induction k with
    | zero=>exact fun _=>⟨[],rfl,(fun z hz=>by cases hz),(fun i z j u hi _=>by simp at hi)⟩
    | succ k ih =>
     intro hk;obtain⟨l,e,hfine,hall⟩:=ih (by omega);obtain⟨cs',hcc,ht'⟩:=hi k (by omega);obtain⟨z0,rfl,hz0⟩:=el _ _ _ ht';rw[hc] at hcc;obtain⟨-,-,hat⟩:=World.cells?_some hcc;refine⟨l++[z0],by simp[e],fun z hz=>?_,fun i z j u hi' hj=>?_⟩
     · rcases List.mem_append.1 hz with g | g
       · exact hfine z g
       · have:z=z0:=by simpa using g
         rw[this];exact hz0
     · by_cases e2:i=k
       · subst e2;have:z0=z:=by simpa [e] using hi'
         subst this;have hjl:j<L.m:=by have:=(List.getElem?_eq_some_iff.1 hj).1;rw[L.len] at this;exact this
         rw[hat j hjl];exact hj
       · have hik:i<l.length:=by have:=(List.getElem?_eq_some_iff.1 hi').1;simp at this;omega
         rw[List.getElem?_append_left hik] at hi';exact hall i z j u hi' hj
   obtain⟨l,e,hfine,hall⟩:=key len (Nat.le_refl _);subst e;refine⟨l,_,cap,rfl,hl,hm,rfl,Nat.le_trans hl hm,hfine,?_⟩;by_cases h0:l.length=0
   · exact .inl h0
   · obtain⟨b,off,spot⟩:=a;have hg:l[0]?=some (l[0]'(by omega)):=List.getElem?_eq_getElem (by omega);have hlz:=L.len (l[0]'(by omega));have hcz:(L.cs (l[0]'(by omega)))[0]?=some ((L.cs (l[0]'(by omega)))[0]'(by rw[hlz];exact L.pos)):=List.getElem?_eq_getElem (by rw[hlz];exact L.pos);have hcell0:=hall 0 _ 0 _ hg hcz;have hspot:spot=none:=by simpa [Addr.add] using World.cell?_spot hcell0
     subst hspot;have hcell:∀i z j u,l[i]?=some z→(L.cs z)[j]?=some u→w.cell? ⟨b,off+i*L.m+j,none⟩=some u:=fun i z j u hi' hj=>by
      have c:=hall i z j u hi' hj;have e:((⟨b,off,none⟩:Addr).add (i*L.m)).add j=⟨b,off+i*L.m+j,none⟩:=by
       unfold Addr.add;split<;>split<;>simp_all
      rw[e] at c;exact c
     exact .inr ⟨b,off,rfl,World.block_lt_of_cell? _ _ (hcell 0 _ 0 _ hg hcz),hcell⟩
theorem jkz:Tryz.prog.cellsOf 140=2:=by kernel_rfl
theorem jjJ:Tryz.prog.cellsOf 143=3:=by kernel_rfl
theorem qy:Tryz.prog.cellsOf 3=1:=by kernel_rfl
theorem jfj {H:Type} {enc:TypeId×Value→H} {w:World} {base fuel:Nat} {sp:Nat→Bool} {held:Bool} {cs:List Value} {x:DataW H×List MemPlace} (h:DataW.trod enc Tryz.prog w base sp held fuel 140 cs=some x) :
 ∃a:ByteArray×ByteArray,cs=jz.cs a∧jz.fine a:=by
 obtain⟨ys,m,-,-,hlen,hyl,hf⟩:=DataW.trod_struct Tryz.underlying140 h;rw[jkz] at hlen
 match cs,hlen with
 | [c0,c1],_ =>
  have h0:DataW.trod enc Tryz.prog w base sp held m 9 (([c0,c1].drop 0).take (Tryz.prog.cellsOf 9))=ys[0]?:=hf 0 _ rfl;have h1:DataW.trod enc Tryz.prog w base sp held m 9 (([c0,c1].drop 1).take (Tryz.prog.cellsOf 9))=ys[1]?:=hf 1 _ rfl;rw[ZF] at h0 h1;obtain⟨y0,e0⟩:∃y,ys[0]?=some y:=⟨_,List.getElem?_eq_getElem (by rw[hyl];decide)⟩
  obtain⟨y1,e1⟩:∃y,ys[1]?=some y:=⟨_,List.getElem?_eq_getElem (by rw[hyl];decide)⟩
  rw[e0] at h0;rw[e1] at h1;obtain⟨s,q0,-,hs⟩:=DataW.trod_string Tryz.underlying9 h0;obtain⟨t,q1,-,ht⟩:=DataW.trod_string Tryz.underlying9 h1;simp only[List.drop_zero,List.take_succ_cons,List.take_zero,List.cons.injEq,and_true,List.drop_succ_cons] at q0 q1;subst q0;subst q1;exact⟨(s,t),rfl,hs,ht⟩
theorem jfg {H:Type} {enc:TypeId×Value→H} {w:World} {base fuel:Nat} {sp:Nat→Bool} {held:Bool} {cs:List Value} {x:DataW H×List MemPlace} (h:DataW.trod enc Tryz.prog w base sp held fuel 143 cs=some x) :
 ∃a:Int×ByteArray×ByteArray,cs=jQ.cs a∧jQ.fine a:=by
 obtain⟨ys,m,-,-,hlen,hyl,hf⟩:=DataW.trod_struct Tryz.underlying143 h;rw[jjJ] at hlen
 match cs,hlen with
 | [c0,c1,c2],_ =>
  have h0:DataW.trod enc Tryz.prog w base sp held m 3 (([c0,c1,c2].drop 0).take (Tryz.prog.cellsOf 3))=ys[0]?:=hf 0 _ rfl;have h1:DataW.trod enc Tryz.prog w base sp held m 9 (([c0,c1,c2].drop 1).take (Tryz.prog.cellsOf 9))=ys[1]?:=hf 1 _ rfl;have h2:DataW.trod enc Tryz.prog w base sp held m 9 (([c0,c1,c2].drop 2).take (Tryz.prog.cellsOf 9))=ys[2]?:=hf 2 _ rfl;rw[ZF] at h1 h2;rw[qy] at h0;obtain⟨y0,e0⟩:∃y,ys[0]?=some y:=⟨_,List.getElem?_eq_getElem (by rw[hyl];decide)⟩
  obtain⟨y1,e1⟩:∃y,ys[1]?=some y:=⟨_,List.getElem?_eq_getElem (by rw[hyl];decide)⟩
  obtain⟨y2,e2⟩:∃y,ys[2]?=some y:=⟨_,List.getElem?_eq_getElem (by rw[hyl];decide)⟩
  rw[e0] at h0;rw[e1] at h1;rw[e2] at h2;obtain⟨n,q0,-,hn⟩:=DataW.trod_int Tryz.underlying3 h0;obtain⟨s,q1,-,hs⟩:=DataW.trod_string Tryz.underlying9 h1;obtain⟨t,q2,-,ht⟩:=DataW.trod_string Tryz.underlying9 h2;simp only[List.drop_zero,List.take_succ_cons,List.take_zero,List.cons.injEq,and_true,List.drop_succ_cons] at q0 q1 q2;subst q0;subst q1;subst q2;exact⟨(n,s,t),rfl,bounds_i64 hn,hs,ht⟩
theorem jbF {H:Type} {enc:TypeId×Value→H} {w:World} {base fuel:Nat} {sp:Nat→Bool} {held:Bool} {v:Value} {x:DataW H×List MemPlace} (h:DataW.trod enc Tryz.prog w base sp held fuel 47 [v]=some x):∃l,Reads jz w v l :=
 zJ jz Tryz.underlying47 jkz (fun _ _ _ h=>jfj h) h
theorem jb1 {H:Type} {enc:TypeId×Value→H} {w:World} {base fuel:Nat} {sp:Nat→Bool} {held:Bool} {v:Value} {x:DataW H×List MemPlace} (h:DataW.trod enc Tryz.prog w base sp held fuel 49 [v]=some x):∃l,Reads jQ w v l :=
 zJ jQ Tryz.underlying49 jjJ (fun _ _ _ h=>jfg h) h
theorem jdg:Tryz.prog.cellsOf 4=1:=by kernel_rfl
theorem jk5:Tryz.prog.cellsOf 172=3:=by kernel_rfl
theorem je8 {H:Type} {enc:TypeId×Value→H} {w:World} {base fuel:Nat} {sp:Nat→Bool} {held:Bool} {cs:List Value} {x:DataW H×List MemPlace} (h:DataW.trod enc Tryz.prog w base sp held fuel 172 cs=some x) :
 ∃a:NT,cs=ju.cs a∧ju.fine a:=by
 obtain⟨ys,m,-,-,hlen,hyl,hf⟩:=DataW.trod_struct Tryz.underlying172 h;rw[jk5] at hlen
 match cs,hlen with
 | [c0,c1,c2],_ =>
  have h0:DataW.trod enc Tryz.prog w base sp held m 9 (([c0,c1,c2].drop 0).take (Tryz.prog.cellsOf 9))=ys[0]?:=hf 0 _ rfl;have h1:DataW.trod enc Tryz.prog w base sp held m 9 (([c0,c1,c2].drop 1).take (Tryz.prog.cellsOf 9))=ys[1]?:=hf 1 _ rfl;have h2:DataW.trod enc Tryz.prog w base sp held m 4 (([c0,c1,c2].drop 2).take (Tryz.prog.cellsOf 4))=ys[2]?:=hf 2 _ rfl;rw[ZF] at h0 h1;rw[jdg] at h2;obtain⟨y0,e0⟩:∃y,ys[0]?=some y:=⟨_,List.getElem?_eq_getElem (by rw[hyl];decide)⟩
  obtain⟨y1,e1⟩:∃y,ys[1]?=some y:=⟨_,List.getElem?_eq_getElem (by rw[hyl];decide)⟩
  obtain⟨y2,e2⟩:∃y,ys[2]?=some y:=⟨_,List.getElem?_eq_getElem (by rw[hyl];decide)⟩
  rw[e0] at h0;rw[e1] at h1;rw[e2] at h2;obtain⟨s,q0,-,hs⟩:=DataW.trod_string Tryz.underlying9 h0;obtain⟨t,q1,-,ht⟩:=DataW.trod_string Tryz.underlying9 h1;obtain⟨b,q2,-⟩:=DataW.trod_bool Tryz.underlying4 h2;simp only[List.drop_zero,List.take_succ_cons,List.take_zero,List.cons.injEq,and_true,List.drop_succ_cons] at q0 q1 q2;subst q0;subst q1;subst q2;exact⟨(s,t,b),rfl,hs,ht⟩
theorem jgd {H:Type} {enc:TypeId×Value→H} {w:World} {base fuel:Nat} {sp:Nat→Bool} {held:Bool} {v:Value} {x:DataW H×List MemPlace} (h:DataW.trod enc Tryz.prog w base sp held fuel 76 [v]=some x):∃l,Reads ju w v l :=
 zJ ju Tryz.underlying76 jk5 (fun _ _ _ h=>je8 h) h
theorem jkl:Tryz.prog.cellsOf 146=3:=by kernel_rfl
theorem jfR {H:Type} {enc:TypeId×Value→H} {w:World} {base fuel:Nat} {sp:Nat→Bool} {held:Bool} {cs:List Value} {x:DataW H×List MemPlace} (h:DataW.trod enc Tryz.prog w base sp held fuel 146 cs=some x) :
 ∃a:NT,cs=ju.cs a∧ju.fine a:=by
 obtain⟨ys,m,-,-,hlen,hyl,hf⟩:=DataW.trod_struct Tryz.underlying146 h;rw[jkl] at hlen
 match cs,hlen with
 | [c0,c1,c2],_ =>
  have h0:DataW.trod enc Tryz.prog w base sp held m 9 (([c0,c1,c2].drop 0).take (Tryz.prog.cellsOf 9))=ys[0]?:=hf 0 _ rfl;have h1:DataW.trod enc Tryz.prog w base sp held m 9 (([c0,c1,c2].drop 1).take (Tryz.prog.cellsOf 9))=ys[1]?:=hf 1 _ rfl;have h2:DataW.trod enc Tryz.prog w base sp held m 4 (([c0,c1,c2].drop 2).take (Tryz.prog.cellsOf 4))=ys[2]?:=hf 2 _ rfl;rw[ZF] at h0 h1;rw[jdg] at h2;obtain⟨y0,e0⟩:∃y,ys[0]?=some y:=⟨_,List.getElem?_eq_getElem (by rw[hyl];decide)⟩
  obtain⟨y1,e1⟩:∃y,ys[1]?=some y:=⟨_,List.getElem?_eq_getElem (by rw[hyl];decide)⟩
  obtain⟨y2,e2⟩:∃y,ys[2]?=some y:=⟨_,List.getElem?_eq_getElem (by rw[hyl];decide)⟩
  rw[e0] at h0;rw[e1] at h1;rw[e2] at h2;obtain⟨s,q0,-,hs⟩:=DataW.trod_string Tryz.underlying9 h0;obtain⟨t,q1,-,ht⟩:=DataW.trod_string Tryz.underlying9 h1;obtain⟨b,q2,-⟩:=DataW.trod_bool Tryz.underlying4 h2;simp only[List.drop_zero,List.take_succ_cons,List.take_zero,List.cons.injEq,and_true,List.drop_succ_cons] at q0 q1 q2;subst q0;subst q1;subst q2;exact⟨(s,t,b),rfl,hs,ht⟩
theorem je7 {H:Type} {enc:TypeId×Value→H} {w:World} {base fuel:Nat} {sp:Nat→Bool} {held:Bool} {v:Value} {x:DataW H×List MemPlace} (h:DataW.trod enc Tryz.prog w base sp held fuel 50 [v]=some x):∃l,Reads ju w v l :=
 zJ ju Tryz.underlying50 jkl (fun _ _ _ h=>jfR h) h
end Go.Proofs.YtibepooajeakfaaGreat
