/- C. -/
import Derived.Test.YtibepooajeakfaaGreatG2
import Derived.Test.YtibepooajeakfaaGreatG3
import Derived.Test.YtibepooajeakfaaGreatG4
import Derived.Test.YtibepooajeakfaaGreatG5
set_option linter.unusedVariables false
set_option maxRecDepth 100000
set_option maxHeartbeats 25600000
namespace Go.Proofs.YtibepooajeakfaaGreat
open Go.RowKit
theorem jj8:(Tryz.prog.info? 238).map (fun i=>(i.zero,i.size,i.bytes))=some (some (.agg #[.string ByteArray.empty,.string ByteArray.empty,.bool false]),3,40):=by kernel_rfl
theorem jlD (a:Option Addr) (len cap:Nat) (l:NL) (w:World) (hr:jn jz w a len l) (hlen:len≤1000000) :
 Calls Tryz.prog 117 #[.slice a len cap] w (fun e w'=>∃x,e=.returned x∧Own jz 238 w' w.heap.size x l∧Kept w w'):=by
 have hl:=hr.1;obtain⟨i0,hi,hz0,hz1,hz2'⟩:=info_parts jj8;rcases hr.form with h0 | ⟨b,off,rfl⟩
 · subst h0;have hl0:l=[]:=List.eq_nil_of_length_eq_zero hl;subst hl0;clear hr hl hi hz0 hz1 hz2';go_enter Tryz.func117,Tryz.ntmps117;go_wp2;refine wp_loop_rounds 1 ?_;rw[rounds_succ];go_wp2;go_ret;exact⟨_,rfl,Own.nil _ _ _,Kept.refl _⟩
 · have HR:=lH hr;have HL:=lH hl;clear hr hl;go_enter Tryz.func117,Tryz.ntmps117;go_wp2;go_loopw [3,4] (fun v i wr=>∃k:Nat,k≤len∧i=.int .i64 k∧Own jz 238 wr w.heap.size v (l.take k)∧Below w.heap.size w wr) (fun _ i _=>len-(intOf i).toNat)
   case atStart=>exact⟨0,Nat.zero_le _,rfl,Own.nil _ _ _,Below.refl _ _⟩
   case round =>
    obtain⟨k,hk,rfl,ho,hB⟩:=hrel;obtain⟨HO,HB,HT⟩:=lH3 ho hB (show (l.take k).length=k by rw[List.length_take,HL.out];omega);have Vj:=lH (show wr.ownsRow w.heap.size 238 3 u3 k (jd jz (l.take k)) by have:=HO.out.1;rw[HT.out] at this;exact this);by_cases hlt:k<len
    · obtain⟨x,y,m,hx,hd,hb,hz,hz2,c0,c1,c2⟩:=(HR.out.kept hB).tri hlt;have HX:=lH hx;have hbw:b<w.heap.size:=by obtain⟨z,_,_,h,_⟩:=HR.out.cells hlt;exact h
      have hbase:w.heap.size≤wr.heap.size:=hB.size;have VY:=lH (show u3.ownBlock≠some b by
       intro e;have:=(Vj.out.lt b e).1;omega)
      have VI:=lH (show w.heap.size≤(wr.alloc (.cells #[.string x,.string y,.bool m] 238)).drew.heap.size by simp;omega);have UB:=lH (show Below w.heap.size w ((wr.alloc (.cells #[.string x,.string y,.bool m] 238)).drew) from HB.out.trans (Below.mono ((ja wr _).trans (Kept.drewN _ 1)) hbase));have hk1:(k:Int)<(len:Int):=by omega
      have Ul:=lH (show jz.fine (x,y,m) from⟨hz,hz2⟩);clear ho hB hx hd hz hz2;go_wp2_with fail
      go_region_held3 (fun W=>W.cell? ⟨b,off+k*3,none⟩=some (.string x)∧W.cell? ⟨b,off+k*3+1,none⟩=some (.string y)∧W.cell? ⟨b,off+k*3+2,none⟩=some (.bool m))
       (first
         | go_keep
         | (go_split_ands
            refine⟨?_,?_,?_⟩
            · (refine(hgrow.cell_far ⟨b,off+k*3,none⟩ (by simp;omega) (Ne.symm VY.out)).trans ?_;assumption)
            · (refine(hgrow.cell_far ⟨b,off+k*3+1,none⟩ (by simp;omega) (Ne.symm VY.out)).trans ?_;assumption)
            · (refine(hgrow.cell_far ⟨b,off+k*3+2,none⟩ (by simp;omega) (Ne.symm VY.out)).trans ?_;assumption)))
       ((refine step_append_lies _ (by rfl) _ _ _ (by rfl) w.heap.size 238 i0 _ 3 40 Tryz.underlying120 hi hz0 hz1 hz2' rfl (by decide) u3 k (jd jz (l.take k)) (by rfl) ((Vj.out.alloc _).drew)
          ⟨wr.heap.size,0,none⟩ 1 1 [.string x,.string y,.bool m] (by rfl) (by rfl) (World.news_of_block (cs:=#[.string x,.string y,.bool m]) (t:=238) (fr:=(0,0)) (heap_alloc_new wr _)) (jcK x y m)
          (by decide) (by unfold maxLen;omega) (by omega) (by simp;omega) (wr.heap.size+1) (by simp) ?_;intro gg cap1 w1 hown1 hgrow hat hlt1))
      all_goals
       go_wp2;go_roundw
       case rel=>exact⟨k+1,by omega,by go_num,by rw[zF HX.out];exact Own.snoc hown1 (by rw[HT.out]) HO.out.2 Ul.out,UB.out.grown hgrow VI.out (fun j hj=>(Vj.out.lt j hj).1)⟩
       case measure=>simp[intOf];omega
    · have HK:=lH (show l.take k=l by rw[List.take_of_length_le (by rw[HL.out];omega)]);clear ho hB;go_wp2;go_ret;exact⟨_,rfl,by have h:=HO.out;rw[HK.out] at h;exact h,HB.out⟩
theorem jj4:(Tryz.prog.info? 147).map (fun i=>(i.zero,i.size,i.bytes))=some (some (.agg #[.string ByteArray.empty,.string ByteArray.empty,.bool false]),3,40):=by kernel_rfl
theorem jk1 (a:Option Addr) (len cap:Nat) (l:NL) (w:World) (hr:jn jz w a len l) (hlen:len≤1000000) :
 Calls Tryz.prog 38 #[.slice a len cap] w (fun e w'=>∃x,e=.returned x∧Own jz 147 w' w.heap.size x l∧Kept w w'):=by
 have hl:=hr.1;obtain⟨i0,hi,hz0,hz1,hz2'⟩:=info_parts jj4;rcases hr.form with h0 | ⟨b,off,rfl⟩
 · subst h0;have hl0:l=[]:=List.eq_nil_of_length_eq_zero hl;subst hl0;clear hr hl hi hz0 hz1 hz2';go_enter Tryz.func38,Tryz.ntmps38;go_wp2;refine wp_loop_rounds 1 ?_;rw[rounds_succ];go_wp2;go_ret;exact⟨_,rfl,Own.nil _ _ _,Kept.refl _⟩
 · have HR:=lH hr;have HL:=lH hl;clear hr hl;go_enter Tryz.func38,Tryz.ntmps38;go_wp2;go_loopw [3,4] (fun v i wr=>∃k:Nat,k≤len∧i=.int .i64 k∧Own jz 147 wr w.heap.size v (l.take k)∧Below w.heap.size w wr) (fun _ i _=>len-(intOf i).toNat)
   case atStart=>exact⟨0,Nat.zero_le _,rfl,Own.nil _ _ _,Below.refl _ _⟩
   case round =>
    obtain⟨k,hk,rfl,ho,hB⟩:=hrel;obtain⟨HO,HB,HT⟩:=lH3 ho hB (show (l.take k).length=k by rw[List.length_take,HL.out];omega);have Vj:=lH (show wr.ownsRow w.heap.size 147 3 u3 k (jd jz (l.take k)) by have:=HO.out.1;rw[HT.out] at this;exact this);by_cases hlt:k<len
    · obtain⟨x,y,m,hx,hd,hb,hz,hz2,c0,c1,c2⟩:=(HR.out.kept hB).tri hlt;have HX:=lH hx;have hbw:b<w.heap.size:=by obtain⟨z,_,_,h,_⟩:=HR.out.cells hlt;exact h
      have hbase:w.heap.size≤wr.heap.size:=hB.size;have VY:=lH (show u3.ownBlock≠some b by
       intro e;have:=(Vj.out.lt b e).1;omega)
      have VI:=lH (show w.heap.size≤(wr.alloc (.cells #[.string x,.string y,.bool m] 147)).drew.heap.size by simp;omega);have UB:=lH (show Below w.heap.size w ((wr.alloc (.cells #[.string x,.string y,.bool m] 147)).drew) from HB.out.trans (Below.mono ((ja wr _).trans (Kept.drewN _ 1)) hbase));have hk1:(k:Int)<(len:Int):=by omega
      have Ul:=lH (show jz.fine (x,y,m) from⟨hz,hz2⟩);clear ho hB hx hd hz hz2;go_wp2_with fail
      go_region_held3 (fun W=>W.cell? ⟨b,off+k*3,none⟩=some (.string x)∧W.cell? ⟨b,off+k*3+1,none⟩=some (.string y)∧W.cell? ⟨b,off+k*3+2,none⟩=some (.bool m))
       (first
         | go_keep
         | (go_split_ands
            refine⟨?_,?_,?_⟩
            · (refine(hgrow.cell_far ⟨b,off+k*3,none⟩ (by simp;omega) (Ne.symm VY.out)).trans ?_;assumption)
            · (refine(hgrow.cell_far ⟨b,off+k*3+1,none⟩ (by simp;omega) (Ne.symm VY.out)).trans ?_;assumption)
            · (refine(hgrow.cell_far ⟨b,off+k*3+2,none⟩ (by simp;omega) (Ne.symm VY.out)).trans ?_;assumption)))
       ((refine step_append_lies _ (by rfl) _ _ _ (by rfl) w.heap.size 147 i0 _ 3 40 Tryz.underlying40 hi hz0 hz1 hz2' rfl (by decide) u3 k (jd jz (l.take k)) (by rfl) ((Vj.out.alloc _).drew)
          ⟨wr.heap.size,0,none⟩ 1 1 [.string x,.string y,.bool m] (by rfl) (by rfl) (World.news_of_block (cs:=#[.string x,.string y,.bool m]) (t:=147) (fr:=(0,0)) (heap_alloc_new wr _)) (jcK x y m)
          (by decide) (by unfold maxLen;omega) (by omega) (by simp;omega) (wr.heap.size+1) (by simp) ?_;intro gg cap1 w1 hown1 hgrow hat hlt1))
      all_goals
       go_wp2;go_roundw
       case rel=>exact⟨k+1,by omega,by go_num,by rw[zF HX.out];exact Own.snoc hown1 (by rw[HT.out]) HO.out.2 Ul.out,UB.out.grown hgrow VI.out (fun j hj=>(Vj.out.lt j hj).1)⟩
       case measure=>simp[intOf];omega
    · have HK:=lH (show l.take k=l by rw[List.take_of_length_le (by rw[HL.out];omega)]);clear ho hB;go_wp2;go_ret;exact⟨_,rfl,by have h:=HO.out;rw[HK.out] at h;exact h,HB.out⟩
def jbD (W:World) (N:Nat):Prop:=∀o x u,W.cell? ⟨N,o,none⟩=some (.string x)→W.cell? ⟨N,o+1,none⟩=some u→∃a n c,u=.slice a n c
theorem jia {W:World} {N:Nat} {x:ByteArray} {a1 a2 a3:Option Addr} {m1 c1 m2 c2 m3 c3:Nat} {b:Bool} {T:TypeId} {fr:Nat×Nat} (hh:W.heap[N]?=some (.cells #[.string x,.slice a1 m1 c1,.slice a2 m2 c2,.slice a3 m3 c3,.bool b] T fr)):jbD W N:=by
 intro o y u h1 h2;rw[Lib.cell_of_heap hh] at h1 h2
 match o,h1,h2 with
 | 0,_,h2=>exact⟨a1,m1,c1,by simpa using h2.symm⟩
 | 1,h1,_=>simp at h1
 | 2,h1,_=>simp at h1
 | 3,h1,_=>simp at h1
 | 4,h1,_=>simp at h1
 | o+5,h1,_=>simp at h1
theorem jee {w w':World} {v:Value} {l:Vec.V} {N:Nat} (h:Vec.Reads w v l) (hs:w'.heap.size=w.heap.size) (hb:∀b,b≠N→w'.heap[b]?=w.heap[b]?) (hn:jbD w N):Vec.Reads w' v l:=by
 obtain⟨a,cap,rfl,h1,h2,h3,h4,h5,h6⟩:=h;refine⟨a,cap,rfl,h1,h2,h3,h4,h5,?_⟩;rcases h6 with h6 | ⟨b,off,rfl,hlt,hc⟩
 · exact .inl h6
 · by_cases h0:l.length=0
   · exact .inl h0
   · have hne:b≠N:=by
      rintro rfl;obtain⟨c0,c1⟩:=hc 0 (by omega);obtain⟨_,_,_,e⟩:=hn _ _ _ c0 c1
      cases e
     exact .inr ⟨b,off,rfl,by rw[hs];exact hlt,fun i hi=>⟨(World.cell?_of_block (a:=⟨b,off+i*2,none⟩) (hb b hne)).trans (hc i hi).1,(World.cell?_of_block (a:=⟨b,off+i*2+1,none⟩) (hb b hne)).trans (hc i hi).2⟩⟩
theorem jb4 {α:Type} {L:Lay α} {w w':World} {v:Value} {l:List α} {N:Nat} (hL:∀x,∃s t,(L.cs x)[0]?=some (.string s)∧(L.cs x)[1]?=some (.string t)) (h:Reads L w v l) (hs:w'.heap.size=w.heap.size) (hb:∀b,b≠N→w'.heap[b]?=w.heap[b]?) (hn:jbD w N):Reads L w' v l:=by
 obtain⟨a,cap,rfl,h1,h2,h3,h4,h5,h6⟩:=h;refine⟨a,cap,rfl,h1,h2,h3,h4,h5,?_⟩;rcases h6 with h6 | ⟨b,off,rfl,hlt,hc⟩
 · exact .inl h6
 · cases l with
   | nil=>exact .inl rfl
   | cons x t =>
    have hne:b≠N:=by
     rintro rfl;obtain⟨s,u,g0,g1⟩:=hL x;have c0:=hc 0 x 0 _ rfl g0;have c1:=hc 0 x 1 _ rfl g1;obtain⟨_,_,_,e⟩:=hn _ _ _ c0 c1
     cases e
    exact .inr ⟨b,off,rfl,by rw[hs];exact hlt,fun i x j u hi hj=>(World.cell?_of_block (a:=⟨b,off+i*L.m+j,none⟩) (hb b hne)).trans (hc i x j u hi hj)⟩
theorem jlY (x:ByteArray×ByteArray):∃s t,(jy.cs x)[0]?=some (.string s)∧(jy.cs x)[1]?=some (.string t):=⟨x.1,x.2,rfl,rfl⟩
theorem jlZ (x:NT):∃s t,(jz.cs x)[0]?=some (.string s)∧(jz.cs x)[1]?=some (.string t):=⟨x.1,x.2.1,rfl,rfl⟩
theorem jax {w w':World} {v1 v2 v3:Value} {n:Nod} {N:Nat} (h:zl w v1 v2 v3 n) (hs:w'.heap.size=w.heap.size) (hb:∀b,b≠N→w'.heap[b]?=w.heap[b]?) (hn:jbD w N):zl w' v1 v2 v3 n :=
 ⟨h.size,jee h.cap hs hb hn,jb4 jlY h.labels hs hb hn,jb4 jlZ h.taints hs hb hn⟩
abbrev SX:=Option Addr×Nat×Nat
abbrev NX:=Nod×SX×SX×SX
abbrev slV (x:SX):Value:=.slice x.1 x.2.1 x.2.2
abbrev jm9 (z:NX):Value:=.agg #[.string z.1.name,slV z.2.1,slV z.2.2.1,slV z.2.2.2,.bool z.1.cordon]
def At3 (w:World) (z:NX):Prop:=zl w (slV z.2.1) (slV z.2.2.1) (slV z.2.2.2) z.1
def Xf (lo hi:Nat) (z:NX):Prop:=(∀b off sp,z.2.1.1=some ⟨b,off,sp⟩→lo≤b∧b<hi)∧(∀b off sp,z.2.2.1.1=some ⟨b,off,sp⟩→lo≤b∧b<hi)∧(∀b off sp,z.2.2.2.1=some ⟨b,off,sp⟩→lo≤b∧b<hi)
theorem jc4 {T:TypeId} {w w':World} {e:Ending} {l:Vec.V} (h:∃x,e=.returned x∧Vec.jQ T w' w.heap.size x l∧Kept w w'):∃a m c,e=.returned (.slice a m c)∧Vec.Reads w' (.slice a m c) l∧(∀b off sp,a=some ⟨b,off,sp⟩→w.heap.size≤b∧b<w'.heap.size)∧Kept w w':=by
 obtain⟨x,rfl,ho,k⟩:=h;obtain⟨a,cap,rfl,h⟩:=ho.at_;exact⟨a,_,cap,rfl,⟨a,cap,rfl,h⟩,fun b off sp e=>ho.1.lt b (by subst e;rfl),k⟩
theorem Z7 {α:Type} {L:Lay α} {T:TypeId} {w w':World} {e:Ending} {l:List α} (h:∃x,e=.returned x∧Own L T w' w.heap.size x l∧Kept w w'):∃a m c,e=.returned (.slice a m c)∧Reads L w' (.slice a m c) l∧(∀b off sp,a=some ⟨b,off,sp⟩→w.heap.size≤b∧b<w'.heap.size)∧Kept w w':=by
 obtain⟨x,rfl,ho,k⟩:=h;obtain⟨a,cap,rfl,h⟩:=ho.at_;exact⟨a,_,cap,rfl,⟨a,cap,rfl,h⟩,fun b off sp e=>ho.1.lt b (by subst e;rfl),k⟩
theorem jlW {v:Value} {l:Vec.V} {w:World} (h:Vec.Reads w v l) (hf:l.length≤1000000) :
 Calls Tryz.prog 35 #[v] w (fun e w'=>∃x,e=.returned x∧Vec.jQ 138 w' w.heap.size x l∧Kept w w'):=by
 obtain⟨a,cap,rfl,h1,h2,h3⟩:=h;exact Vec.jfg a _ cap l w h3 hf
theorem jmt {v:Value} {l:PL} {w:World} (h:Reads jy w v l) (hf:l.length≤1000000) :
 Calls Tryz.prog 36 #[v] w (fun e w'=>∃x,e=.returned x∧Own jy 141 w' w.heap.size x l∧Kept w w'):=by
 obtain⟨a,cap,rfl,h1,h2,h3⟩:=h;exact jfg a _ cap l w h3 hf
theorem jmY {v:Value} {l:NL} {w:World} (h:Reads jz w v l) (hf:l.length≤1000000) :
 Calls Tryz.prog 117 #[v] w (fun e w'=>∃x,e=.returned x∧Own jz 238 w' w.heap.size x l∧Kept w w'):=by
 obtain⟨a,cap,rfl,h1,h2,h3⟩:=h;exact jlD a _ cap l w h3 hf
theorem jjs {W:World} {q p:Nat} {v0 v1 v2 v3 v4 u0 u1 u2 u3 u4:Value} (h:W.cell? ⟨p,0,none⟩=some v0∧W.cell? ⟨p,1,none⟩=some v1∧W.cell? ⟨p,2,none⟩=some v2∧W.cell? ⟨p,3,none⟩=some v3∧W.cell? ⟨p,4,none⟩=some v4) (hne:p≠q) :
 ((((((W.setCell ⟨q,0,none⟩ u0).setCell ⟨q,1,none⟩ u1).setCell ⟨q,2,none⟩ u2).setCell ⟨q,3,none⟩ u3).setCell ⟨q,4,none⟩ u4).cell? ⟨p,0,none⟩=some v0∧(((((W.setCell ⟨q,0,none⟩ u0).setCell ⟨q,1,none⟩ u1).setCell ⟨q,2,none⟩ u2).setCell ⟨q,3,none⟩ u3).setCell ⟨q,4,none⟩ u4).cell? ⟨p,1,none⟩=some v1∧(((((W.setCell ⟨q,0,none⟩ u0).setCell ⟨q,1,none⟩ u1).setCell ⟨q,2,none⟩ u2).setCell ⟨q,3,none⟩ u3).setCell ⟨q,4,none⟩ u4).cell? ⟨p,2,none⟩=some v2∧(((((W.setCell ⟨q,0,none⟩ u0).setCell ⟨q,1,none⟩ u1).setCell ⟨q,2,none⟩ u2).setCell ⟨q,3,none⟩ u3).setCell ⟨q,4,none⟩ u4).cell? ⟨p,3,none⟩=some v3∧(((((W.setCell ⟨q,0,none⟩ u0).setCell ⟨q,1,none⟩ u1).setCell ⟨q,2,none⟩ u2).setCell ⟨q,3,none⟩ u3).setCell ⟨q,4,none⟩ u4).cell? ⟨p,4,none⟩=some v4):=by
 have hb:=jb2 W q u0 u1 u2 u3 u4 p hne;exact⟨(World.cell?_of_block (a:=⟨p,0,none⟩) hb).trans h.1,(World.cell?_of_block (a:=⟨p,1,none⟩) hb).trans h.2.1,(World.cell?_of_block (a:=⟨p,2,none⟩) hb).trans h.2.2.1,(World.cell?_of_block (a:=⟨p,3,none⟩) hb).trans h.2.2.2.1,(World.cell?_of_block (a:=⟨p,4,none⟩) hb).trans h.2.2.2.2⟩
theorem jlF (n:Nod) (v1 v2 v3:Value) (w:World) (h:zl w v1 v2 v3 n) (hl:zW n) :
 Calls Tryz.prog 67 #[zC n v1 v2 v3] w fun e w'=>∃z:NX,e=.returned (jm9 z)∧z.1=n∧At3 w' z∧Xf w.heap.size w'.heap.size z∧Kept w w':=by
 obtain⟨W0,hW0⟩:=eX ((w.alloc (.cells #[.string n.name,v1,v2,v3,.bool n.cordon] 78)).alloc (.cells #[.string ⟨#[]⟩,.slice none 0 0,.slice none 0 0,.slice none 0 0,.bool false] 122))
 have hk0:Kept w W0:=by rw[←hW0];exact jm _ _ _
 have HB:=lH (show ∀W,Kept W0 W→W.cell? ⟨w.heap.size,0,none⟩=some (.string n.name)∧W.cell? ⟨w.heap.size,1,none⟩=some v1∧W.cell? ⟨w.heap.size,2,none⟩=some v2∧W.cell? ⟨w.heap.size,3,none⟩=some v3∧W.cell? ⟨w.heap.size,4,none⟩=some (.bool n.cordon) from fun W k=>(YS w _ _ _ _ _ 78 W ((by rw[←hW0];exact ja _ _:Kept (w.alloc (.cells #[.string n.name,v1,v2,v3,.bool n.cordon] 78)) W0).trans k)).1);have HQ:=lH (show ∀W,Kept W0 W→zi (w.heap.size+1) (.string ⟨#[]⟩) (.slice none 0 0) (.slice none 0 0) (.slice none 0 0) (.bool false) W from fun W k=>by
  have:=YS (w.alloc (.cells #[.string n.name,v1,v2,v3,.bool n.cordon] 78)) (.string ⟨#[]⟩) (.slice none 0 0) (.slice none 0 0) (.slice none 0 0) (.bool false) 122 W (by rw[hW0];exact k);rw[World.size_alloc] at this;exact this)
 have HH:=lH (show W0.heap[w.heap.size+1]?=some (.cells #[.string ⟨#[]⟩,.slice none 0 0,.slice none 0 0,.slice none 0 0,.bool false] 122) by
  have:=(w.alloc (.cells #[.string n.name,v1,v2,v3,.bool n.cordon] 78)).alloc_heap_new (.cells #[.string ⟨#[]⟩,.slice none 0 0,.slice none 0 0,.slice none 0 0,.bool false] 122);rw[hW0,World.size_alloc] at this;exact this)
 obtain⟨H1,H2,H3,TM,Vd⟩:=lH5 (fun W (k:Kept W0 W)=>(jlW (h.cap.kept (hk0.trans k)) hl.cap).mono fun _ _=>jc4) (fun W (k:Kept W0 W)=>(jmt (h.labels.kept (hk0.trans k)) hl.labels).mono fun _ _=>Z7) (fun W (k:Kept W0 W)=>(jmY (h.taints.kept (hk0.trans k)) hl.taints).mono fun _ _=>Z7) h.size hk0;obtain⟨⟨nm,l1,l2,l3,cd⟩,hnn⟩:∃m,m=n:=⟨n,rfl⟩
 subst hnn;dsimp only at H1 H2 H3 TM HB hW0;obtain⟨b0,b1,b2,b3,b4⟩:=HB.out _ (Kept.refl _);clear h hl hk0;unfold zC;dsimp only;go_enter Tryz.func67,Tryz.ntmps67;go_wp2;try rw[hW0]
 clear hW0
 go_region_held3 (fun W=>(W.cell? ⟨w.heap.size,0,none⟩=some (.string nm)∧W.cell? ⟨w.heap.size,1,none⟩=some v1∧W.cell? ⟨w.heap.size,2,none⟩=some v2∧W.cell? ⟨w.heap.size,3,none⟩=some v3∧W.cell? ⟨w.heap.size,4,none⟩=some (.bool cd)))
  (first | exact HB.out _ (Kept.drew _) | exact HB.out _ K1.out | exact HB.out _ K2.out | exact HB.out _ K3.out | exact jjs (HB.out _ K3.out) (by omega))
  (first | (go_at_call 35;refine(H1.out _ (Kept.drew _)).mono ?_;rintro e1 w1 ⟨a1,m1,c1,rfl,r1,g1,k1⟩;obtain⟨G1,K1,R1⟩:=lH3 (show ∀b off sp,a1=some ⟨b,off,sp⟩→w.heap.size≤b∧b<w1.heap.size from fun b o s e=>⟨Nat.le_trans Vd.out.size (g1 b o s e).1,(g1 b o s e).2⟩) ((Kept.drew _).trans k1) r1;clear k1 r1 g1)
         | (go_at_call 36;refine(H2.out _ K1.out).mono ?_;rintro e2 w2 ⟨a2,m2,c2,rfl,r2,g2,k2⟩;obtain⟨G2,G1,R1,K2,R2⟩:=lH5 (show ∀b off sp,a2=some ⟨b,off,sp⟩→w.heap.size≤b∧b<w2.heap.size from fun b o s e=>⟨Nat.le_trans Vd.out.size (Nat.le_trans K1.out.size (g2 b o s e).1),(g2 b o s e).2⟩) (show ∀b off sp,a1=some ⟨b,off,sp⟩→w.heap.size≤b∧b<w2.heap.size from fun b o s e=>⟨(G1.out b o s e).1,Nat.lt_of_lt_of_le (G1.out b o s e).2 k2.size⟩) (R1.out.kept k2) (K1.out.trans k2) r2;clear k2 r2 g2)
         | (go_at_call 117;refine(H3.out _ K2.out).mono ?_;rintro e3 w3 ⟨a3,m3,c3,rfl,r3,g3,k3⟩;obtain⟨G3,G1,G2,R1,R2,K3,R3⟩:=lH7 (show ∀b off sp,a3=some ⟨b,off,sp⟩→w.heap.size≤b∧b<w3.heap.size from fun b o s e=>⟨Nat.le_trans Vd.out.size (Nat.le_trans K2.out.size (g3 b o s e).1),(g3 b o s e).2⟩) (show ∀b off sp,a1=some ⟨b,off,sp⟩→w.heap.size≤b∧b<w3.heap.size from fun b o s e=>⟨(G1.out b o s e).1,Nat.lt_of_lt_of_le (G1.out b o s e).2 k3.size⟩) (show ∀b off sp,a2=some ⟨b,off,sp⟩→w.heap.size≤b∧b<w3.heap.size from fun b o s e=>⟨(G2.out b o s e).1,Nat.lt_of_lt_of_le (G2.out b o s e).2 k3.size⟩) (R1.out.kept k3) (R2.out.kept k3) (K2.out.trans k3) r3;clear k3 r3 g3;obtain⟨⟨y0,y1,y2,y3,y4⟩,x0,x1,x2,x3,x4⟩:=HQ.out _ K3.out))
 have P:=lH (Zc ⟨y0,y1,y2,y3,y4⟩ nm a1 a2 a3 m1 c1 m2 c2 m3 c3 cd);have HZ:=lH ((K3.out.block (w.heap.size+1) (Array.getElem?_eq_some_iff.1 HH.out).1).trans HH.out);go_wp2;obtain⟨WE,hWE⟩:=eX ((((((w3.setCell ⟨w.heap.size+1,0,none⟩ (.string nm)).setCell ⟨w.heap.size+1,1,none⟩ (.slice a1 m1 c1)).setCell ⟨w.heap.size+1,2,none⟩ (.slice a2 m2 c2)).setCell ⟨w.heap.size+1,3,none⟩ (.slice a3 m3 c3)).setCell ⟨w.heap.size+1,4,none⟩ (.bool cd)))
 rw[hWE] at P ⊢;clear hWE y0 y1 y2 y3 y4 x0 x1 x2 x3 x4;obtain⟨⟨d0,d1,d2,d3,d4⟩,hsz,hbl,hkp⟩:=P.out;refine bodyPost_ret (by simp[results,Tryz.results67,go_sem,d0,d1,d2,d3,d4];try rfl) rfl ?_;exact⟨(⟨nm,l1,l2,l3,cd⟩,(a1,m1,c1),(a2,m2,c2),(a3,m3,c3)),rfl,rfl,jax (n:=⟨nm,l1,l2,l3,cd⟩) ⟨TM.out,R1.out,R2.out,R3.out⟩ hsz hbl (jia HZ.out),⟨fun b o s e=>by rw[hsz];exact G1.out b o s e,fun b o s e=>by rw[hsz];exact G2.out b o s e,fun b o s e=>by rw[hsz];exact G3.out b o s e⟩,hkp _ _ (Nat.le_succ _) (Vd.out.trans K3.out)⟩
open Go.ChangeShapes Go.WideShapes Go.ChangeAt Go.RowKit Go.Deep
theorem Zd:Tryz.prog.cellsOf 9=1:=by kernel_rfl
theorem zu {α:Type} (L:Lay α) {t e:TypeId} (ht:Tryz.prog.underlying t=some (.slice e)) (hc:Tryz.prog.cellsOf e=L.m) {H:Type} {enc:TypeId×Value→H} {w:World} {base fuel:Nat} {sp:Nat→Bool} {held:Bool} {v:Value} {x:DataW H×List MemPlace}
 (el:∀(m:Nat) (cs:List Value) (x:DataW H×List MemPlace),DataW.trod enc Tryz.prog w base sp held m e cs=some x→∃a,cs=L.cs a∧L.fine a)
 (h:DataW.trod enc Tryz.prog w base sp held fuel t [v]=some x):∃l,Reads L w v l:=by
 rcases open_slice ht h with ⟨hcs,-⟩ | ⟨a,len,cap,m,n,D,Pl,hcs,hb,hl,hm,hmm,hx,hi⟩
 · cases hcs;exact⟨[],Reads.nil w⟩
 · cases hcs
   have hlm:len≤m:=by rw[hmm];split<;>omega
   have key:∀k,k≤len→∃l:List α,l.length=k∧(∀z ∈ l,L.fine z)∧∀i z j u,l[i]?=some z→(L.cs z)[j]?=some u→w.cell? ((a.add (i*L.m)).add j)=some u:=by
    intro k
    induction k with
    | zero=>exact fun _=>⟨[],rfl,(fun z hz=>by cases hz),(fun i z j u hi _=>by simp at hi)⟩
    | succ k ih =>
     intro hk;obtain⟨l,e,hfine,hall⟩:=ih (by omega);obtain⟨cs',hcc,ht'⟩:=hi k (by omega);obtain⟨z0,rfl,hz0⟩:=el _ _ _ ht';rw[hc] at hcc;obtain⟨-,-,hat⟩:=World.cells?_some hcc;refine⟨l++[z0],by simp[e],fun z hz=>?_,fun i z j u hi' hj=>?_⟩
     · rcases List.mem_append.1 hz with g | g
       · exact hfine z g
       · have:z=z0:=by simpa using g
         rw[this];exact hz0
     · by_cases e2:i=k
       · subst e2;have:z0=z:=by simpa [e] using hi'
         subst this;have hjl:j<L.m:=by have:=(List.getElem?_eq_some_iff.1 hj).1;rw[L.len] at this;exact this
         rw[hat j hjl];exact hj
       · have hik:i<l.length:=by have:=(List.getElem?_eq_some_iff.1 hi').1;simp at this;omega
         rw[List.getElem?_append_left hik] at hi';exact hall i z j u hi' hj
   obtain⟨l,e,hfine,hall⟩:=key len (Nat.le_refl _);subst e;refine⟨l,_,cap,rfl,hl,hm,rfl,Nat.le_trans hl hm,hfine,?_⟩;by_cases h0:l.length=0
   · exact .inl h0
   · obtain⟨b,off,spot⟩:=a;have hg:l[0]?=some (l[0]'(by omega)):=List.getElem?_eq_getElem (by omega);have hlz:=L.len (l[0]'(by omega));have hcz:(L.cs (l[0]'(by omega)))[0]?=some ((L.cs (l[0]'(by omega)))[0]'(by rw[hlz];exact L.pos)):=List.getElem?_eq_getElem (by rw[hlz];exact L.pos);have hcell0:=hall 0 _ 0 _ hg hcz;have hspot:spot=none:=by simpa [Addr.add] using World.cell?_spot hcell0
     subst hspot;have hcell:∀i z j u,l[i]?=some z→(L.cs z)[j]?=some u→w.cell? ⟨b,off+i*L.m+j,none⟩=some u:=fun i z j u hi' hj=>by
      have c:=hall i z j u hi' hj;have e:((⟨b,off,none⟩:Addr).add (i*L.m)).add j=⟨b,off+i*L.m+j,none⟩:=by
       unfold Addr.add;split<;>split<;>simp_all
      rw[e] at c;exact c
     exact .inr ⟨b,off,rfl,World.block_lt_of_cell? _ _ (hcell 0 _ 0 _ hg hcz),hcell⟩
theorem jiD:Tryz.prog.cellsOf 140=2:=by kernel_rfl
theorem jis:Tryz.prog.cellsOf 143=3:=by kernel_rfl
theorem XZ:Tryz.prog.cellsOf 3=1:=by kernel_rfl
theorem je3 {H:Type} {enc:TypeId×Value→H} {w:World} {base fuel:Nat} {sp:Nat→Bool} {held:Bool} {cs:List Value} {x:DataW H×List MemPlace} (h:DataW.trod enc Tryz.prog w base sp held fuel 140 cs=some x) :
 ∃a:ByteArray×ByteArray,cs=jy.cs a∧jy.fine a:=by
 obtain⟨ys,m,-,-,hlen,hyl,hf⟩:=DataW.trod_struct Tryz.underlying140 h;rw[jiD] at hlen
 match cs,hlen with
 | [c0,c1],_ =>
  have h0:DataW.trod enc Tryz.prog w base sp held m 9 (([c0,c1].drop 0).take (Tryz.prog.cellsOf 9))=ys[0]?:=hf 0 _ rfl;have h1:DataW.trod enc Tryz.prog w base sp held m 9 (([c0,c1].drop 1).take (Tryz.prog.cellsOf 9))=ys[1]?:=hf 1 _ rfl;rw[Zd] at h0 h1;obtain⟨y0,e0⟩:∃y,ys[0]?=some y:=⟨_,List.getElem?_eq_getElem (by rw[hyl];decide)⟩
  obtain⟨y1,e1⟩:∃y,ys[1]?=some y:=⟨_,List.getElem?_eq_getElem (by rw[hyl];decide)⟩
  rw[e0] at h0;rw[e1] at h1;obtain⟨s,q0,-,hs⟩:=DataW.trod_string Tryz.underlying9 h0;obtain⟨t,q1,-,ht⟩:=DataW.trod_string Tryz.underlying9 h1;simp only[List.drop_zero,List.take_succ_cons,List.take_zero,List.cons.injEq,and_true,List.drop_succ_cons] at q0 q1;subst q0;subst q1;exact⟨(s,t),rfl,hs,ht⟩
theorem jdV {H:Type} {enc:TypeId×Value→H} {w:World} {base fuel:Nat} {sp:Nat→Bool} {held:Bool} {cs:List Value} {x:DataW H×List MemPlace} (h:DataW.trod enc Tryz.prog w base sp held fuel 143 cs=some x) :
 ∃a:Int×ByteArray×ByteArray,cs=jS.cs a∧jS.fine a:=by
 obtain⟨ys,m,-,-,hlen,hyl,hf⟩:=DataW.trod_struct Tryz.underlying143 h;rw[jis] at hlen
 match cs,hlen with
 | [c0,c1,c2],_ =>
  have h0:DataW.trod enc Tryz.prog w base sp held m 3 (([c0,c1,c2].drop 0).take (Tryz.prog.cellsOf 3))=ys[0]?:=hf 0 _ rfl;have h1:DataW.trod enc Tryz.prog w base sp held m 9 (([c0,c1,c2].drop 1).take (Tryz.prog.cellsOf 9))=ys[1]?:=hf 1 _ rfl;have h2:DataW.trod enc Tryz.prog w base sp held m 9 (([c0,c1,c2].drop 2).take (Tryz.prog.cellsOf 9))=ys[2]?:=hf 2 _ rfl;rw[Zd] at h1 h2;rw[XZ] at h0;obtain⟨y0,e0⟩:∃y,ys[0]?=some y:=⟨_,List.getElem?_eq_getElem (by rw[hyl];decide)⟩
  obtain⟨y1,e1⟩:∃y,ys[1]?=some y:=⟨_,List.getElem?_eq_getElem (by rw[hyl];decide)⟩
  obtain⟨y2,e2⟩:∃y,ys[2]?=some y:=⟨_,List.getElem?_eq_getElem (by rw[hyl];decide)⟩
  rw[e0] at h0;rw[e1] at h1;rw[e2] at h2;obtain⟨n,q0,-,hn⟩:=DataW.trod_int Tryz.underlying3 h0;obtain⟨s,q1,-,hs⟩:=DataW.trod_string Tryz.underlying9 h1;obtain⟨t,q2,-,ht⟩:=DataW.trod_string Tryz.underlying9 h2;simp only[List.drop_zero,List.take_succ_cons,List.take_zero,List.cons.injEq,and_true,List.drop_succ_cons] at q0 q1 q2;subst q0;subst q1;subst q2;exact⟨(n,s,t),rfl,bounds_i64 hn,hs,ht⟩
theorem jaP {H:Type} {enc:TypeId×Value→H} {w:World} {base fuel:Nat} {sp:Nat→Bool} {held:Bool} {v:Value} {x:DataW H×List MemPlace} (h:DataW.trod enc Tryz.prog w base sp held fuel 47 [v]=some x):∃l,Reads jy w v l :=
 zu jy Tryz.underlying47 jiD (fun _ _ _ h=>je3 h) h
theorem ja0 {H:Type} {enc:TypeId×Value→H} {w:World} {base fuel:Nat} {sp:Nat→Bool} {held:Bool} {v:Value} {x:DataW H×List MemPlace} (h:DataW.trod enc Tryz.prog w base sp held fuel 49 [v]=some x):∃l,Reads jS w v l :=
 zu jS Tryz.underlying49 jis (fun _ _ _ h=>jdV h) h
theorem jbE:Tryz.prog.cellsOf 4=1:=by kernel_rfl
theorem jiG:Tryz.prog.cellsOf 172=3:=by kernel_rfl
theorem jd9 {H:Type} {enc:TypeId×Value→H} {w:World} {base fuel:Nat} {sp:Nat→Bool} {held:Bool} {cs:List Value} {x:DataW H×List MemPlace} (h:DataW.trod enc Tryz.prog w base sp held fuel 172 cs=some x) :
 ∃a:NT,cs=jz.cs a∧jz.fine a:=by
 obtain⟨ys,m,-,-,hlen,hyl,hf⟩:=DataW.trod_struct Tryz.underlying172 h;rw[jiG] at hlen
 match cs,hlen with
 | [c0,c1,c2],_ =>
  have h0:DataW.trod enc Tryz.prog w base sp held m 9 (([c0,c1,c2].drop 0).take (Tryz.prog.cellsOf 9))=ys[0]?:=hf 0 _ rfl;have h1:DataW.trod enc Tryz.prog w base sp held m 9 (([c0,c1,c2].drop 1).take (Tryz.prog.cellsOf 9))=ys[1]?:=hf 1 _ rfl;have h2:DataW.trod enc Tryz.prog w base sp held m 4 (([c0,c1,c2].drop 2).take (Tryz.prog.cellsOf 4))=ys[2]?:=hf 2 _ rfl;rw[Zd] at h0 h1;rw[jbE] at h2;obtain⟨y0,e0⟩:∃y,ys[0]?=some y:=⟨_,List.getElem?_eq_getElem (by rw[hyl];decide)⟩
  obtain⟨y1,e1⟩:∃y,ys[1]?=some y:=⟨_,List.getElem?_eq_getElem (by rw[hyl];decide)⟩
  obtain⟨y2,e2⟩:∃y,ys[2]?=some y:=⟨_,List.getElem?_eq_getElem (by rw[hyl];decide)⟩
  rw[e0] at h0;rw[e1] at h1;rw[e2] at h2;obtain⟨s,q0,-,hs⟩:=DataW.trod_string Tryz.underlying9 h0;obtain⟨t,q1,-,ht⟩:=DataW.trod_string Tryz.underlying9 h1;obtain⟨b,q2,-⟩:=DataW.trod_bool Tryz.underlying4 h2;simp only[List.drop_zero,List.take_succ_cons,List.take_zero,List.cons.injEq,and_true,List.drop_succ_cons] at q0 q1 q2;subst q0;subst q1;subst q2;exact⟨(s,t,b),rfl,hs,ht⟩
theorem jef {H:Type} {enc:TypeId×Value→H} {w:World} {base fuel:Nat} {sp:Nat→Bool} {held:Bool} {v:Value} {x:DataW H×List MemPlace} (h:DataW.trod enc Tryz.prog w base sp held fuel 76 [v]=some x):∃l,Reads jz w v l :=
 zu jz Tryz.underlying76 jiG (fun _ _ _ h=>jd9 h) h
theorem jjt:Tryz.prog.cellsOf 146=3:=by kernel_rfl
theorem jen {H:Type} {enc:TypeId×Value→H} {w:World} {base fuel:Nat} {sp:Nat→Bool} {held:Bool} {cs:List Value} {x:DataW H×List MemPlace} (h:DataW.trod enc Tryz.prog w base sp held fuel 146 cs=some x) :
 ∃a:NT,cs=jz.cs a∧jz.fine a:=by
 obtain⟨ys,m,-,-,hlen,hyl,hf⟩:=DataW.trod_struct Tryz.underlying146 h;rw[jjt] at hlen
 match cs,hlen with
 | [c0,c1,c2],_ =>
  have h0:DataW.trod enc Tryz.prog w base sp held m 9 (([c0,c1,c2].drop 0).take (Tryz.prog.cellsOf 9))=ys[0]?:=hf 0 _ rfl;have h1:DataW.trod enc Tryz.prog w base sp held m 9 (([c0,c1,c2].drop 1).take (Tryz.prog.cellsOf 9))=ys[1]?:=hf 1 _ rfl;have h2:DataW.trod enc Tryz.prog w base sp held m 4 (([c0,c1,c2].drop 2).take (Tryz.prog.cellsOf 4))=ys[2]?:=hf 2 _ rfl;rw[Zd] at h0 h1;rw[jbE] at h2;obtain⟨y0,e0⟩:∃y,ys[0]?=some y:=⟨_,List.getElem?_eq_getElem (by rw[hyl];decide)⟩
  obtain⟨y1,e1⟩:∃y,ys[1]?=some y:=⟨_,List.getElem?_eq_getElem (by rw[hyl];decide)⟩
  obtain⟨y2,e2⟩:∃y,ys[2]?=some y:=⟨_,List.getElem?_eq_getElem (by rw[hyl];decide)⟩
  rw[e0] at h0;rw[e1] at h1;rw[e2] at h2;obtain⟨s,q0,-,hs⟩:=DataW.trod_string Tryz.underlying9 h0;obtain⟨t,q1,-,ht⟩:=DataW.trod_string Tryz.underlying9 h1;obtain⟨b,q2,-⟩:=DataW.trod_bool Tryz.underlying4 h2;simp only[List.drop_zero,List.take_succ_cons,List.take_zero,List.cons.injEq,and_true,List.drop_succ_cons] at q0 q1 q2;subst q0;subst q1;subst q2;exact⟨(s,t,b),rfl,hs,ht⟩
theorem jeg {H:Type} {enc:TypeId×Value→H} {w:World} {base fuel:Nat} {sp:Nat→Bool} {held:Bool} {v:Value} {x:DataW H×List MemPlace} (h:DataW.trod enc Tryz.prog w base sp held fuel 50 [v]=some x):∃l,Reads jz w v l :=
 zu jz Tryz.underlying50 jjt (fun _ _ _ h=>jen h) h
theorem jkQ (x:NX) (u:Value) (h:u ∈ [Value.string x.1.name,slV x.2.1,slV x.2.2.1,slV x.2.2.2,.bool x.1.cordon]):u.oneCell'=true:=by
 simp only[List.mem_cons,List.not_mem_nil,or_false] at h;rcases h with rfl | rfl | rfl | rfl | rfl<;>rfl
def jdW (w:World):Lay NX:={ m:=5,cs:=fun x=>[.string x.1.name,slV x.2.1,slV x.2.2.1,slV x.2.2.2,.bool x.1.cordon],fine:=fun x=>zl w (slV x.2.1) (slV x.2.2.1) (slV x.2.2.2) x.1,len:=fun _=>rfl,one:=jkQ,pos:=by decide }
theorem jiY:Tryz.prog.cellsOf 45=1:=by kernel_rfl
theorem jje:Tryz.prog.cellsOf 47=1:=by kernel_rfl
theorem jlJ:Tryz.prog.cellsOf 76=1:=by kernel_rfl
theorem jh7:Tryz.prog.cellsOf 78=5:=by kernel_rfl
theorem jeC {H:Type} {enc:TypeId×Value→H} {w:World} {base fuel:Nat} {sp:Nat→Bool} {held:Bool} {cs:List Value} {x:DataW H×List MemPlace} (h:DataW.trod enc Tryz.prog w base sp held fuel 78 cs=some x) :
 ∃a:NX,cs=(jdW w).cs a∧(jdW w).fine a:=by
 obtain⟨ys,m,-,-,hlen,hyl,hf⟩:=DataW.trod_struct Tryz.underlying78 h;rw[jh7] at hlen
 match cs,hlen with
 | [c0,c1,c2,c3,c4],_ =>
  have h0:DataW.trod enc Tryz.prog w base sp held m 9 (([c0,c1,c2,c3,c4].drop 0).take (Tryz.prog.cellsOf 9))=ys[0]?:=hf 0 _ rfl;have h1:DataW.trod enc Tryz.prog w base sp held m 45 (([c0,c1,c2,c3,c4].drop 1).take (Tryz.prog.cellsOf 45))=ys[1]?:=hf 1 _ rfl;have h2:DataW.trod enc Tryz.prog w base sp held m 47 (([c0,c1,c2,c3,c4].drop 2).take (Tryz.prog.cellsOf 47))=ys[2]?:=hf 2 _ rfl;have h3:DataW.trod enc Tryz.prog w base sp held m 76 (([c0,c1,c2,c3,c4].drop 3).take (Tryz.prog.cellsOf 76))=ys[3]?:=hf 3 _ rfl;have h4:DataW.trod enc Tryz.prog w base sp held m 4 (([c0,c1,c2,c3,c4].drop 4).take (Tryz.prog.cellsOf 4))=ys[4]?:=hf 4 _ rfl;rw[Zd] at h0;rw[jiY] at h1;rw[jje] at h2;rw[jlJ] at h3;rw[jbE] at h4;obtain⟨y0,e0⟩:∃y,ys[0]?=some y:=⟨_,List.getElem?_eq_getElem (by rw[hyl];decide)⟩
  obtain⟨y1,e1⟩:∃y,ys[1]?=some y:=⟨_,List.getElem?_eq_getElem (by rw[hyl];decide)⟩
  obtain⟨y2,e2⟩:∃y,ys[2]?=some y:=⟨_,List.getElem?_eq_getElem (by rw[hyl];decide)⟩
  obtain⟨y3,e3⟩:∃y,ys[3]?=some y:=⟨_,List.getElem?_eq_getElem (by rw[hyl];decide)⟩
  obtain⟨y4,e4⟩:∃y,ys[4]?=some y:=⟨_,List.getElem?_eq_getElem (by rw[hyl];decide)⟩
  rw[e0] at h0;rw[e1] at h1;rw[e2] at h2;rw[e3] at h3;rw[e4] at h4;simp only[List.drop_zero,List.take_succ_cons,List.take_zero,List.drop_succ_cons] at h0 h1 h2 h3 h4;obtain⟨s,q0,-,hs⟩:=DataW.trod_string Tryz.underlying9 h0;obtain⟨b,q4,-⟩:=DataW.trod_bool Tryz.underlying4 h4;obtain⟨l1,r1⟩:=Vec.zu h1;obtain⟨l2,r2⟩:=jaP h2;obtain⟨l3,r3⟩:=jef h3;have r1':=r1;have r2':=r2;have r3':=r3;obtain⟨a1,d1,rfl,-⟩:=r1';obtain⟨a2,d2,rfl,-⟩:=r2';obtain⟨a3,d3,rfl,-⟩:=r3';simp only[List.cons.injEq,and_true] at q0 q4;subst q0;subst q4;exact⟨(⟨s,l1,l2,l3,b⟩,(a1,l1.length,d1),(a2,l2.length,d2),(a3,l3.length,d3)),rfl,⟨hs,r1,r2,r3⟩⟩
theorem jdL {H:Type} {enc:TypeId×Value→H} {w:World} {base fuel:Nat} {sp:Nat→Bool} {held:Bool} {v:Value} {x:DataW H×List MemPlace} (h:DataW.trod enc Tryz.prog w base sp held fuel 22 [v]=some x):∃l,Jg w v l:=by
 obtain⟨l,a,cap,rfl,h1,h2,h3⟩:=zu (jdW w) Tryz.underlying22 jh7 (fun _ _ _ h=>jeC h) h;obtain⟨g0,g1,g2,g3⟩:=h3;refine⟨l.map (fun z=>z.1),a,cap,by rw[List.length_map],by rw[List.length_map];exact h1,h2,rfl,by rw[List.length_map];exact g1,?_⟩;rw[List.length_map];rcases g3 with g3 | ⟨b,off,rfl,hb,hc⟩
 · exact .inl g3
 · refine .inr ⟨b,off,rfl,hb,fun i n hi=>?_⟩;rw[List.getElem?_map] at hi;obtain⟨z,hz,rfl⟩:=Option.map_eq_some_iff.1 hi;exact⟨_,_,_,_,_,_,_,_,_,hc i z 0 _ hz rfl,hc i z 1 _ hz rfl,hc i z 2 _ hz rfl,hc i z 3 _ hz rfl,hc i z 4 _ hz rfl,g2 z (List.mem_of_getElem? hz)⟩
structure Pd where
 name:ByteArray
 owner:ByteArray
 prio:Int
 need:Vec.V
 labels:PL
 sel:TL
 tols:NL
 key:ByteArray
 most:Int
 node:ByteArray
 hold:Bool
def Pd.zero:Pd:=⟨ByteArray.empty,ByteArray.empty,0,[],[],[],[],ByteArray.empty,0,ByteArray.empty,false⟩
abbrev jw (n:Pd) (v1 v2 v3 v4:Value):Value:=.agg #[.string n.name,.string n.owner,.int .i64 n.prio,v1,v2,v3,v4,.string n.key,.int .i64 n.most,.string n.node,.bool n.hold]
structure ji (w:World) (v1 v2 v3 v4:Value) (n:Pd):Prop where
 name:n.name.size≤maxLen
 owner:n.owner.size≤maxLen
 key:n.key.size≤maxLen
 node:n.node.size≤maxLen
 prio:-9223372036854775808≤n.prio∧n.prio≤9223372036854775807
 most:-9223372036854775808≤n.most∧n.most≤9223372036854775807
 need:Vec.Reads w v1 n.need
 labels:Reads jy w v2 n.labels
 sel:Reads jS w v3 n.sel
 tols:Reads jz w v4 n.tols
theorem ji.kept {w w':World} {v1 v2 v3 v4:Value} {n:Pd} (h:ji w v1 v2 v3 v4 n) (k:Kept w w'):ji w' v1 v2 v3 v4 n:=⟨h.name,h.owner,h.key,h.node,h.prio,h.most,h.need.kept k,h.labels.kept k,h.sel.kept k,h.tols.kept k⟩
def jcs (w:World) (v:Value) (n:Pd):Prop:=∃v1 v2 v3 v4,v=jw n v1 v2 v3 v4∧ji w v1 v2 v3 v4 n
theorem jcs.kept {w w':World} {v:Value} {n:Pd} (h:jcs w v n) (k:Kept w w'):jcs w' v n:=by
 obtain⟨v1,v2,v3,v4,e,h⟩:=h;exact⟨v1,v2,v3,v4,e,h.kept k⟩
def XX (s:ByteArray):Bool:=zD s||isName s
def qv (x y:ByteArray):Int:=if isName x=true∧XX y=true then 0 else 3
def jgJ (p:Int) (b:Bool):Bool:=decide (p < -1)||(decide (1000000<p)||(decide (p=-1) != b))
def jaG (p:Int) (b:Bool):Int:=if jgJ p b=true then 1 else 0
def jde (k:ByteArray) (m:Int):Bool:=if zD k=true then decide (m≠0) else decide (m<1)||decide (128<m)
def Xz (k:ByteArray) (m:Int):Int:=if XX k=false then 3 else if jde k m=true then 1 else 0
def X5 (x:ByteArray):Int:=if XX x=true then 0 else 3
def orL:List Int→Int
 | []=>0
 | x::t=>if x≠0 then x else orL t
def jaD (n:Pd):List Int:=[qv n.name n.owner,jaG n.prio n.hold,Vec.jv n.need,YV n.labels,Xq n.sel,ZX n.tols,Xz n.key n.most,X5 n.node]
def zN (n:Pd):Int:=orL (jaD n)
theorem jf7 (b len:Nat) (l:List Int) (w:World) (hl:l.length=len) (hm:len≤1000) (hc:∀(i:Nat) (x:Int),l[i]?=some x→w.cell? ⟨b,i,none⟩=some (.int .i64 x)) :
 Calls Tryz.prog 71 #[.slice (some ⟨b,0,none⟩) len len] w fun e w'=>e=.returned (.int .i64 (orL l))∧w=w':=by
 have HC:=lH hc;have HL:=lH hl;clear hc hl;go_enter Tryz.func71,Tryz.ntmps71;go_wp2;go_loopw [8] (fun i wr=>∃k:Nat,k≤len∧i=.int .i64 k∧orL (l.drop k)=orL l∧w=wr) (fun i _=>len-(intOf i).toNat)
 case atStart=>exact⟨0,Nat.zero_le _,rfl,rfl,rfl⟩
 case round =>
  obtain⟨k,hk,rfl,hrest,rfl⟩:=hrel;have HS:=lH hrest;by_cases hlt:k<len
  · have hkl:k<l.length:=by rw[HL.out];exact hlt
    obtain⟨x,hx⟩:=eX (l[k])
    have hx':l[k]?=some x:=by rw[List.getElem?_eq_getElem hkl,hx]
    have c0:=HC.out k x hx';have HD:=lH (show l.drop k=x::l.drop (k+1) by rw[List.drop_eq_getElem_cons hkl,hx]);clear hrest hx hx' hkl;by_cases z:x=0
    · subst z;have HE:=lH (show orL (l.drop k)=orL (l.drop (k+1)) by rw[HD.out];rfl);go_wp2;go_roundw
      case rel=>exact⟨k+1,by omega,by go_num,HE.out.symm.trans HS.out,trivial⟩
      case measure=>simp[intOf];omega
    · have HE:=lH (show orL l=x by rw[←HS.out,HD.out];show (if x≠0 then x else _)=x;rw[if_pos z]);have z':(x != 0)=true:=by simpa using z
      clear z;go_wp2;go_ret;exact⟨jc HE.out.symm,rfl⟩
  · have HE:=lH (show orL l=0 by rw[←hrest,List.drop_of_length_le (by rw[HL.out];omega)];rfl);clear hrest;go_wp2;go_ret;exact⟨jc HE.out.symm,rfl⟩
theorem jmP:Kind 50 146 3 40:=by
 obtain⟨i,hi,hz,h1,h2⟩:=info_parts (show (Tryz.prog.info? 146).map (fun i=>(i.zero,i.size,i.bytes))=some (some (.agg #[.string ByteArray.empty,.string ByteArray.empty,.bool false]),3,40) by kernel_rfl);exact⟨i,_,Tryz.underlying50,hi,hz,h1,h2,rfl,by decide⟩
theorem jmF:Kind 49 143 3 40:=by
 obtain⟨i,hi,hz,h1,h2⟩:=info_parts (show (Tryz.prog.info? 143).map (fun i=>(i.zero,i.size,i.bytes))=some (some (.agg #[.int .i64 0,.string ByteArray.empty,.string ByteArray.empty]),3,40) by kernel_rfl);exact⟨i,_,Tryz.underlying49,hi,hz,h1,h2,rfl,by decide⟩
theorem jhw (a:Option Addr) (len cap:Nat) (l:NL) (w:World) (hr:jn jz w a len l) (hc:len≤cap) (hm:cap≤maxLen) (hn:len≤1000000) :
 Calls Tryz.prog 135 #[.slice a len cap] w fun e w'=>∃a' m' c',e=.returned (.slice a' m' c')∧Reads jz w' (.slice a' m' c') l∧(∀b off sp,a'=some ⟨b,off,sp⟩→w.heap.size≤b)∧Kept w w':=by
 have hl:=hr.1;have q22:∀(w:World) (a:Option Addr) (n c n' c':Nat),(binOp .eql 50 (.slice a n c) (.slice none n' c')).run Tryz.prog w=.ok (.bool a.isNone) w:=fun w a n c n' c'=>Lib.run_eql_slice_nil w _ _ a n c n' c' Tryz.underlying50
 cases a with
 | none =>
  have h0:len=0:=by
   rcases hr.form with h | ⟨b,off,h⟩
   · exact h
   · cases h
  subst h0;have hl0:l=[]:=List.eq_nil_of_length_eq_zero hl;subst hl0;clear hr hl;go_enter Tryz.func135,Tryz.ntmps135;go_wp2;go_ret;exact⟨none,0,0,rfl,Reads.nil _,(fun b o s e=>by cases e),Kept.refl _⟩
 | some ad =>
  have HR:=lH hr;have HL:=lH hl;have hrl:(jd jz l).length=len*3:=by rw[jR,hl];rfl
  have hb1:0+len≤maxLen:=by unfold maxLen;omega
  have hb2:((0+len)+(0+len) / 4+192)*40≤281474976710656:=by omega
  clear hr hl;go_enter Tryz.func135,Tryz.ntmps135;go_wp2_with (at_builtin;refine zK jmP _ rfl (.tmp 5) (.tmp 6) rfl w.heap.size (by simp) w.heap.size 0 0 [] rfl (JZ w w.heap.size 3 _ (Nat.le_refl _)) _ len (jd jz l) rfl hrl (zR _ _) (jn.src (HR.out.kept (ja _ _))) hb1 hb2 ?_;intro g1 k1 W1 ho hd hg;have HO:=lH ho;have HD:=lH hd;clear ho hd hg;refine Hid.out ?_)
  refine lH ?_;simp only[Nat.zero_add,List.nil_append] at HO ⊢;go_wp2;go_ret;exact⟨_,_,_,rfl,Own.reads (⟨by rw[HL.out];exact HO.out,HR.out.2.2.1⟩:Own jz 146 W1 w.heap.size (.slice (some ⟨g1,0,none⟩) len k1) l),(fun b o s e=>by cases e;exact(HO.out.lt g1 rfl).1),Below.trans (ja w _) HD.out⟩
theorem jb6 (a:Option Addr) (len cap:Nat) (l:TL) (w:World) (hr:jn jS w a len l) (hc:len≤cap) (hm:cap≤maxLen) (hn:len≤1000000) :
 Calls Tryz.prog 134 #[.slice a len cap] w fun e w'=>∃a' m' c',e=.returned (.slice a' m' c')∧Reads jS w' (.slice a' m' c') l∧(∀b off sp,a'=some ⟨b,off,sp⟩→w.heap.size≤b)∧Kept w w':=by
 have hl:=hr.1;have q22:∀(w:World) (a:Option Addr) (n c n' c':Nat),(binOp .eql 49 (.slice a n c) (.slice none n' c')).run Tryz.prog w=.ok (.bool a.isNone) w:=fun w a n c n' c'=>Lib.run_eql_slice_nil w _ _ a n c n' c' Tryz.underlying49
 cases a with
 | none =>
  have h0:len=0:=by
   rcases hr.form with h | ⟨b,off,h⟩
   · exact h
   · cases h
  subst h0;have hl0:l=[]:=List.eq_nil_of_length_eq_zero hl;subst hl0;clear hr hl;go_enter Tryz.func134,Tryz.ntmps134;go_wp2;go_ret;exact⟨none,0,0,rfl,Reads.nil _,(fun b o s e=>by cases e),Kept.refl _⟩
 | some ad =>
  have HR:=lH hr;have HL:=lH hl;have hrl:(jd jS l).length=len*3:=by rw[jR,hl];rfl
  have hb1:0+len≤maxLen:=by unfold maxLen;omega
  have hb2:((0+len)+(0+len) / 4+192)*40≤281474976710656:=by omega
  clear hr hl;go_enter Tryz.func134,Tryz.ntmps134;go_wp2_with (at_builtin;refine zK jmF _ rfl (.tmp 5) (.tmp 6) rfl w.heap.size (by simp) w.heap.size 0 0 [] rfl (JZ w w.heap.size 3 _ (Nat.le_refl _)) _ len (jd jS l) rfl hrl (zR _ _) (jn.src (HR.out.kept (ja _ _))) hb1 hb2 ?_;intro g1 k1 W1 ho hd hg;have HO:=lH ho;have HD:=lH hd;clear ho hd hg;refine Hid.out ?_)
  refine lH ?_;simp only[Nat.zero_add,List.nil_append] at HO ⊢;go_wp2;go_ret;exact⟨_,_,_,rfl,Own.reads (⟨by rw[HL.out];exact HO.out,HR.out.2.2.1⟩:Own jS 143 W1 w.heap.size (.slice (some ⟨g1,0,none⟩) len k1) l),(fun b o s e=>by cases e;exact(HO.out.lt g1 rfl).1),Below.trans (ja w _) HD.out⟩
def jU (B:Nat) (a:Option Addr):Prop:=∀b off sp,a=some ⟨b,off,sp⟩→B≤b
theorem jU.less {B B':Nat} {a:Option Addr} (h:jU B a) (hb:B'≤B):jU B' a:=fun b o s e=>Nat.le_trans hb (h b o s e)
theorem jU.none (B:Nat):jU B none:=fun _ _ _ e=>by cases e
def ZH (B:Nat) (w:World) (v:Value) (n:Pd):Prop:=∃b1 n1 d1 b2 n2 d2 b3 n3 d3 b4 n4 d4,v=jw n (.slice b1 n1 d1) (.slice b2 n2 d2) (.slice b3 n3 d3) (.slice b4 n4 d4)∧ji w (.slice b1 n1 d1) (.slice b2 n2 d2) (.slice b3 n3 d3) (.slice b4 n4 d4) n∧jU B b1∧jU B b2∧jU B b3∧jU B b4
theorem ZH.toR {B:Nat} {w:World} {v:Value} {n:Pd} (h:ZH B w v n):jcs w v n:=by
 obtain⟨b1,n1,d1,b2,n2,d2,b3,n3,d3,b4,n4,d4,e,h,_⟩:=h;exact⟨_,_,_,_,e,h⟩
theorem ji.far {B:Nat} {w w':World} {n:Pd} {b1 b2 b3 b4:Option Addr} {n1 d1 n2 d2 n3 d3 n4 d4:Nat} (h:ji w (.slice b1 n1 d1) (.slice b2 n2 d2) (.slice b3 n3 d3) (.slice b4 n4 d4) n) (hs:w'.heap.size=w.heap.size) (hb:∀b,B≤b→w'.heap[b]?=w.heap[b]?) (g1:jU B b1) (g2:jU B b2) (g3:jU B b3) (g4:jU B b4):ji w' (.slice b1 n1 d1) (.slice b2 n2 d2) (.slice b3 n3 d3) (.slice b4 n4 d4) n :=
 ⟨h.name,h.owner,h.key,h.node,h.prio,h.most,h.need.far hs (fun b o s e=>hb b (g1 b o s e)),h.labels.far hs (fun b o s e=>hb b (g2 b o s e)),h.sel.far hs (fun b o s e=>hb b (g3 b o s e)),h.tols.far hs (fun b o s e=>hb b (g4 b o s e))⟩
theorem ZH.far {B:Nat} {w w':World} {v:Value} {n:Pd} (h:ZH B w v n) (hs:w'.heap.size=w.heap.size) (hb:∀b,B≤b→w'.heap[b]?=w.heap[b]?):ZH B w' v n:=by
 obtain⟨b1,n1,d1,b2,n2,d2,b3,n3,d3,b4,n4,d4,e,h,g1,g2,g3,g4⟩:=h;exact⟨b1,n1,d1,b2,n2,d2,b3,n3,d3,b4,n4,d4,e,h.far hs hb g1 g2 g3 g4,g1,g2,g3,g4⟩
theorem ZH.less {B B':Nat} {w:World} {v:Value} {n:Pd} (h:ZH B w v n) (hb:B'≤B):ZH B' w v n:=by
 obtain⟨b1,n1,d1,b2,n2,d2,b3,n3,d3,b4,n4,d4,e,h,g1,g2,g3,g4⟩:=h;exact⟨b1,n1,d1,b2,n2,d2,b3,n3,d3,b4,n4,d4,e,h,g1.less hb,g2.less hb,g3.less hb,g4.less hb⟩
theorem ZH.kept {B:Nat} {w w':World} {v:Value} {n:Pd} (h:ZH B w v n) (k:Kept w w'):ZH B w' v n:=by
 obtain⟨b1,n1,d1,b2,n2,d2,b3,n3,d3,b4,n4,d4,e,h,g1,g2,g3,g4⟩:=h;exact⟨b1,n1,d1,b2,n2,d2,b3,n3,d3,b4,n4,d4,e,h.kept k,g1,g2,g3,g4⟩
theorem ji.spelt {w:World} {v1 v2 v3 v4:Value} {n:Pd} (h:ji w v1 v2 v3 v4 n):∃b1 n1 d1 b2 n2 d2 b3 n3 d3 b4 n4 d4,v1=.slice b1 n1 d1∧v2=.slice b2 n2 d2∧v3=.slice b3 n3 d3∧v4=.slice b4 n4 d4:=by
 obtain⟨a1,c1,e1,_⟩:=h.need;obtain⟨a2,c2,e2,_⟩:=h.labels;obtain⟨a3,c3,e3,_⟩:=h.sel;obtain⟨a4,c4,e4,_⟩:=h.tols;exact⟨_,_,_,_,_,_,_,_,_,_,_,_,e1,e2,e3,e4⟩
structure Jq (n:Pd):Prop where
 need:n.need.length≤1000000
 labels:n.labels.length≤1000000
 sel:n.sel.length≤1000000
 tols:n.tols.length≤1000000
def jC (w:World) (a:Option Addr) (len:Nat) (l:List Pd):Prop :=
 l.length=len∧len≤maxLen∧(len=0∨∃b off,a=some ⟨b,off,none⟩∧b<w.heap.size∧∀i n,l[i]?=some n→∃v1 v2 v3 v4,
  w.cell? ⟨b,off+i*11,none⟩=some (.string n.name)∧w.cell? ⟨b,off+i*11+1,none⟩=some (.string n.owner)∧w.cell? ⟨b,off+i*11+2,none⟩=some (.int .i64 n.prio)∧w.cell? ⟨b,off+i*11+3,none⟩=some (v1)∧w.cell? ⟨b,off+i*11+4,none⟩=some (v2)∧w.cell? ⟨b,off+i*11+5,none⟩=some (v3)∧w.cell? ⟨b,off+i*11+6,none⟩=some (v4)∧w.cell? ⟨b,off+i*11+7,none⟩=some (.string n.key)∧w.cell? ⟨b,off+i*11+8,none⟩=some (.int .i64 n.most)∧w.cell? ⟨b,off+i*11+9,none⟩=some (.string n.node)∧w.cell? ⟨b,off+i*11+10,none⟩=some (.bool n.hold)∧ji w v1 v2 v3 v4 n)
theorem jC.kept {w w':World} {a:Option Addr} {len:Nat} {l:List Pd} (h:jC w a len l) (k:Kept w w'):jC w' a len l:=by
 obtain⟨h0,h1,h2⟩:=h;refine⟨h0,h1,h2.imp id ?_⟩;rintro ⟨b,off,rfl,hb,hc⟩;refine⟨b,off,rfl,Nat.lt_of_lt_of_le hb k.size,fun i n hi=>?_⟩;obtain⟨v1,v2,v3,v4,p0,p1,p2,p3,p4,p5,p6,p7,p8,p9,p10,hn⟩:=hc i n hi;exact⟨v1,v2,v3,v4,cell_later k p0,cell_later k p1,cell_later k p2,cell_later k p3,cell_later k p4,cell_later k p5,cell_later k p6,cell_later k p7,cell_later k p8,cell_later k p9,cell_later k p10,hn.kept k⟩
theorem jC.form {w:World} {a:Option Addr} {len:Nat} {l:List Pd} (h:jC w a len l):len=0∨∃b off,a=some ⟨b,off,none⟩:=by
 obtain⟨_,_,h2⟩:=h;exact h2.imp id fun ⟨b,off,e,_⟩=>⟨b,off,e⟩
theorem jC.at_ {w:World} {b off len:Nat} {l:List Pd} {k:Nat} (h:jC w (some ⟨b,off,none⟩) len l) (hk:k<len):∃n a1 m1 c1 a2 m2 c2 a3 m3 c3 a4 m4 c4,l[k]?=some n∧l.drop k=n::l.drop (k+1)∧b<w.heap.size ∧
 w.cell? ⟨b,off+k*11,none⟩=some (.string n.name)∧w.cell? ⟨b,off+k*11+1,none⟩=some (.string n.owner)∧w.cell? ⟨b,off+k*11+2,none⟩=some (.int .i64 n.prio)∧w.cell? ⟨b,off+k*11+3,none⟩=some (.slice a1 m1 c1)∧w.cell? ⟨b,off+k*11+4,none⟩=some (.slice a2 m2 c2)∧w.cell? ⟨b,off+k*11+5,none⟩=some (.slice a3 m3 c3)∧w.cell? ⟨b,off+k*11+6,none⟩=some (.slice a4 m4 c4)∧w.cell? ⟨b,off+k*11+7,none⟩=some (.string n.key)∧w.cell? ⟨b,off+k*11+8,none⟩=some (.int .i64 n.most)∧w.cell? ⟨b,off+k*11+9,none⟩=some (.string n.node)∧w.cell? ⟨b,off+k*11+10,none⟩=some (.bool n.hold)∧ji w (.slice a1 m1 c1) (.slice a2 m2 c2) (.slice a3 m3 c3) (.slice a4 m4 c4) n:=by
 obtain⟨h0,_,h3⟩:=h;have hkl:k<l.length:=by omega
 rcases h3 with h3 | ⟨b',off',e,hb,hc⟩
 · omega
 · injection e with e;injection e with e1 e2 e3;subst e1;subst e2;have he:l[k]?=some l[k]:=List.getElem?_eq_getElem hkl;obtain⟨v1,v2,v3,v4,r⟩:=hc k _ he;obtain⟨a1,m1,c1,a2,m2,c2,a3,m3,c3,a4,m4,c4,rfl,rfl,rfl,rfl⟩:=ji.spelt r.2.2.2.2.2.2.2.2.2.2.2;exact⟨l[k],a1,m1,c1,a2,m2,c2,a3,m3,c3,a4,m4,c4,he,List.drop_eq_getElem_cons hkl,hb,r⟩
def zU (w:World) (v:Value) (l:List Pd):Prop:=∃a cap,v=.slice a l.length cap∧l.length≤cap∧cap≤maxLen∧jC w a l.length l
theorem zU.kept {w w':World} {v:Value} {l:List Pd} (h:zU w v l) (k:Kept w w'):zU w' v l:=by
 obtain⟨a,cap,e,h1,h2,h3⟩:=h;exact⟨a,cap,e,h1,h2,h3.kept k⟩
end Go.Proofs.YtibepooajeakfaaGreat
