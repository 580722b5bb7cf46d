/- What serves all packages,and package by package the contracts of the functions that the law calls. -/
import Derived.Test.YtgfoenfaohhjcaaGreatG0
import Derived.Shelf.SlSortCmp.QuietGrown
import Derived.Handy
import Derived.Deep.CutRange
import Derived.Deep.AppendSrc
import Derived.Deep.DeepAppendWide
set_option linter.unusedVariables false
set_option maxRecDepth 100000
set_option maxHeartbeats 25600000
namespace Go.Proofs.YtgfoenfaohhjcaaGreat
open Go.RowKit
theorem jcA:(Tryz.prog.info? 153).map (fun i=>(i.zero,i.size,i.bytes))=some (some (.agg #[.string ByteArray.empty,.string ByteArray.empty]),2,32):=by kernel_rfl
theorem qp (a:Option Addr) (len cap:Nat) (l:PL) (w:World) (hr:jh jm w a len l) (hlen:len≤1000000) :
 Calls Tryz.prog 46 #[.slice a len cap] w (fun e w'=>∃x,e=.returned x∧Own jm 153 w' w.heap.size x l∧Kept w w'):=by
 have hl:=hr.1;obtain⟨i0,hi,hz0,hz1,hz2'⟩:=info_parts jcA;rcases hr.form with h0 | ⟨b,off,rfl⟩
 · subst h0;have hl0:l=[]:=List.eq_nil_of_length_eq_zero hl;subst hl0;clear hr hl hi hz0 hz1 hz2';go_enter Tryz.func46,Tryz.ntmps46;go_wp2;refine wp_loop_rounds 1 ?_;rw[rounds_succ];go_wp2;go_ret;exact⟨_,rfl,Own.nil _ _ _,Kept.refl _⟩
 · have HR:=lH hr;have HL:=lH hl;clear hr hl;go_enter Tryz.func46,Tryz.ntmps46;go_wp2;go_loopw [3,4] (fun v i wr=>∃k:Nat,k≤len∧i=.int .i64 k∧Own jm 153 wr w.heap.size v (l.take k)∧Below w.heap.size w wr) (fun _ i _=>len-(intOf i).toNat)
   case atStart=>exact⟨0,Nat.zero_le _,rfl,Own.nil _ _ _,Below.refl _ _⟩
   case round =>
    obtain⟨k,hk,rfl,ho,hB⟩:=hrel;have HO:=lH ho;have HB:=lH hB;have HT:=lH (show (l.take k).length=k by rw[List.length_take,HL.out];omega);have HOWN:=lH (show wr.ownsRow w.heap.size 153 2 u3 k (jc jm (l.take k)) by have:=HO.out.1;rw[HT.out] at this;exact this);by_cases hlt:k<len
    · obtain⟨x,y,hx,hd,hb,hz,hz2,c1,c2⟩:=(HR.out.kept hB).pair hlt;have HX:=lH hx;have hbw:b<w.heap.size:=by obtain⟨z,_,_,h,_⟩:=HR.out.cells hlt;exact h
      have hbase:w.heap.size≤wr.heap.size:=hB.size;have HNE:=lH (show u3.ownBlock≠some b by
       intro e;have:=(HOWN.out.lt b e).1;omega)
      have HBASE:=lH (show w.heap.size≤(wr.alloc (.cells #[.string x,.string y] 153)).drew.heap.size by simp;omega);have HBD:=lH (show Below w.heap.size w ((wr.alloc (.cells #[.string x,.string y] 153)).drew) from HB.out.trans (Below.mono ((ja wr _).trans (Kept.drewN _ 1)) hbase));have hk1:(k:Int)<(len:Int):=by omega
      have HFK:=lH (show jm.fine (x,y) from⟨hz,hz2⟩);clear ho hB hx hd hz hz2;go_wp2_with fail
      go_region_held3 (fun W=>W.cell? ⟨b,off+k*2,none⟩=some (.string x)∧W.cell? ⟨b,off+k*2+1,none⟩=some (.string y))
       (first
         | go_keep
         | (go_split_ands
            refine⟨?_,?_⟩
            · (refine(hgrow.cell_far ⟨b,off+k*2,none⟩ (by simp;omega) (Ne.symm HNE.out)).trans ?_;assumption)
            · (refine(hgrow.cell_far ⟨b,off+k*2+1,none⟩ (by simp;omega) (Ne.symm HNE.out)).trans ?_;assumption)))
       ((refine step_append_lies _ (by rfl) _ _ _ (by rfl) w.heap.size 153 i0 _ 2 32 Tryz.underlying46 hi hz0 hz1 hz2' rfl (by decide) u3 k (jc jm (l.take k)) (by rfl) ((HOWN.out.alloc _).drew)
          ⟨wr.heap.size,0,none⟩ 1 1 [.string x,.string y] (by rfl) (by rfl) (World.news_of_block (cs:=#[.string x,.string y]) (t:=153) (fr:=(0,0)) (heap_alloc_new wr _)) (jcs x y)
          (by decide) (by unfold maxLen;omega) (by omega) (by simp;omega) (wr.heap.size+1) (by simp) ?_;intro gg cap1 w1 hown1 hgrow hat hlt1))
      all_goals
       go_wp2;go_roundw
       case rel=>exact⟨k+1,by omega,by go_num,by rw[jZ HX.out];exact Own.snoc hown1 (by rw[HT.out]) HO.out.2 HFK.out,HBD.out.grown hgrow HBASE.out (fun j hj=>(HOWN.out.lt j hj).1)⟩
       case measure=>simp[intOf];omega
    · have HK:=lH (show l.take k=l by rw[List.take_of_length_le (by rw[HL.out];omega)]);clear ho hB;go_wp2;go_ret;exact⟨_,rfl,by have h:=HO.out;rw[HK.out] at h;exact h,HB.out⟩
theorem jdf:(Tryz.prog.info? 154).map (fun i=>(i.zero,i.size,i.bytes))=some (some (.agg #[.int .i64 0,.string ByteArray.empty,.string ByteArray.empty]),3,40):=by kernel_rfl
theorem jbS (a:Option Addr) (len cap:Nat) (l:TL) (w:World) (hr:jh ju w a len l) (hlen:len≤1000000) :
 Calls Tryz.prog 47 #[.slice a len cap] w (fun e w'=>∃x,e=.returned x∧Own ju 154 w' w.heap.size x l∧Kept w w'):=by
 have hl:=hr.1;obtain⟨i0,hi,hz0,hz1,hz2'⟩:=info_parts jdf;rcases hr.form with h0 | ⟨b,off,rfl⟩
 · subst h0;have hl0:l=[]:=List.eq_nil_of_length_eq_zero hl;subst hl0;clear hr hl hi hz0 hz1 hz2';go_enter Tryz.func47,Tryz.ntmps47;go_wp2;refine wp_loop_rounds 1 ?_;rw[rounds_succ];go_wp2;go_ret;exact⟨_,rfl,Own.nil _ _ _,Kept.refl _⟩
 · have HR:=lH hr;have HL:=lH hl;clear hr hl;go_enter Tryz.func47,Tryz.ntmps47;go_wp2;go_loopw [3,4] (fun v i wr=>∃k:Nat,k≤len∧i=.int .i64 k∧Own ju 154 wr w.heap.size v (l.take k)∧Below w.heap.size w wr) (fun _ i _=>len-(intOf i).toNat)
   case atStart=>exact⟨0,Nat.zero_le _,rfl,Own.nil _ _ _,Below.refl _ _⟩
   case round =>
    obtain⟨k,hk,rfl,ho,hB⟩:=hrel;have HO:=lH ho;have HB:=lH hB;have HT:=lH (show (l.take k).length=k by rw[List.length_take,HL.out];omega);have HOWN:=lH (show wr.ownsRow w.heap.size 154 3 u3 k (jc ju (l.take k)) by have:=HO.out.1;rw[HT.out] at this;exact this);by_cases hlt:k<len
    · obtain⟨o,x,y,hx,hd,hb,ho9,hz,hz2,c0,c1,c2⟩:=(HR.out.kept hB).term hlt;have HX:=lH hx;have hbw:b<w.heap.size:=by obtain⟨z,_,_,h,_⟩:=HR.out.cells hlt;exact h
      have hbase:w.heap.size≤wr.heap.size:=hB.size;have HNE:=lH (show u3.ownBlock≠some b by
       intro e;have:=(HOWN.out.lt b e).1;omega)
      have HBASE:=lH (show w.heap.size≤(wr.alloc (.cells #[.int .i64 o,.string x,.string y] 154)).drew.heap.size by simp;omega);have HBD:=lH (show Below w.heap.size w ((wr.alloc (.cells #[.int .i64 o,.string x,.string y] 154)).drew) from HB.out.trans (Below.mono ((ja wr _).trans (Kept.drewN _ 1)) hbase));have hk1:(k:Int)<(len:Int):=by omega
      have HFK:=lH (show ju.fine (o,x,y) from⟨ho9,hz,hz2⟩);clear ho hB hx hd hz hz2;go_wp2_with fail
      go_region_held3 (fun W=>W.cell? ⟨b,off+k*3,none⟩=some (.int .i64 o)∧W.cell? ⟨b,off+k*3+1,none⟩=some (.string x)∧W.cell? ⟨b,off+k*3+2,none⟩=some (.string y))
       (first
         | go_keep
         | (go_split_ands
            refine⟨?_,?_,?_⟩
            · (refine(hgrow.cell_far ⟨b,off+k*3,none⟩ (by simp;omega) (Ne.symm HNE.out)).trans ?_;assumption)
            · (refine(hgrow.cell_far ⟨b,off+k*3+1,none⟩ (by simp;omega) (Ne.symm HNE.out)).trans ?_;assumption)
            · (refine(hgrow.cell_far ⟨b,off+k*3+2,none⟩ (by simp;omega) (Ne.symm HNE.out)).trans ?_;assumption)))
       ((refine step_append_lies _ (by rfl) _ _ _ (by rfl) w.heap.size 154 i0 _ 3 40 Tryz.underlying47 hi hz0 hz1 hz2' rfl (by decide) u3 k (jc ju (l.take k)) (by rfl) ((HOWN.out.alloc _).drew)
          ⟨wr.heap.size,0,none⟩ 1 1 [.int .i64 o,.string x,.string y] (by rfl) (by rfl) (World.news_of_block (cs:=#[.int .i64 o,.string x,.string y]) (t:=154) (fr:=(0,0)) (heap_alloc_new wr _)) (jaH o x y)
          (by decide) (by unfold maxLen;omega) (by omega) (by simp;omega) (wr.heap.size+1) (by simp) ?_;intro gg cap1 w1 hown1 hgrow hat hlt1))
      all_goals
       go_wp2;go_roundw
       case rel=>exact⟨k+1,by omega,by go_num,by rw[jZ HX.out];exact Own.snoc hown1 (by rw[HT.out]) HO.out.2 HFK.out,HBD.out.grown hgrow HBASE.out (fun j hj=>(HOWN.out.lt j hj).1)⟩
       case measure=>simp[intOf];omega
    · have HK:=lH (show l.take k=l by rw[List.take_of_length_le (by rw[HL.out];omega)]);clear ho hB;go_wp2;go_ret;exact⟨_,rfl,by have h:=HO.out;rw[HK.out] at h;exact h,HB.out⟩
theorem X9 {v:Value} {l:PL} {w:World} (h:Reads jm w v l):Calls Tryz.prog 37 #[v] w fun e w'=>e=.returned (.bool (Jh l))∧w=w':=by
 obtain⟨a,cap,rfl,_,_,hr⟩:=h;exact Xc a _ cap l w hr
theorem Y7 {v:Value} {l:TL} {w:World} (h:Reads ju w v l):Calls Tryz.prog 38 #[v] w fun e w'=>e=.returned (.bool (Jg l))∧w=w':=by
 obtain⟨a,cap,rfl,_,_,hr⟩:=h;exact jba a _ cap l w hr
theorem zu {v:Value} {l:PL} {c:Int} {w:World} (h:Reads jm w v l) (hc:JQ l=c):Calls Tryz.prog 42 #[v] w (Say (.int .i64 c) w):=by
 obtain⟨a,cap,rfl,_,_,hr⟩:=h;exact(Yy a _ cap l w hr).mono fun e w' ⟨he,k⟩=>⟨by rw[he,hc],k⟩
theorem ZV {v:Value} {l:TL} {c:Int} {w:World} (h:Reads ju w v l) (hc:JZ l=c):Calls Tryz.prog 43 #[v] w (Say (.int .i64 c) w):=by
 obtain⟨a,cap,rfl,_,_,hr⟩:=h;exact(YY a _ cap l w hr).mono fun e w' ⟨he,k⟩=>⟨by rw[he,hc],k⟩
open Go.RowKit Go.Sort
def Grw (w w':World):Prop:=∃q os,w'=grow (w.drewN q) os
theorem Grw.refl (w:World):Grw w w:=⟨0,#[],by rw[grow_empty];rfl⟩
theorem Grw.grown {w W:World} (h:Grw w W) (n:Nat) (os:Array Obj):Grw w (grow (W.drewN n) os):=by
 obtain⟨q,os0,rfl⟩:=h;exact⟨q+n,os0++os,by show grow (grow ((w.drewN q).drewN n) os0) os=_;rw[grow_grow,World.drewN_drewN]⟩
theorem Grw.trans {a b c:World} (h:Grw a b) (k:Grw b c):Grw a c:=by
 obtain⟨q,os,rfl⟩:=k;exact h.grown q os
theorem Grw.alloc (w:World) (o:Obj):Grw w (w.alloc o):=⟨0,#[o],alloc_eq_grow _ _⟩
theorem Grw.drewN (w:World) (n:Nat):Grw w (w.drewN n):=⟨n,#[],by rw[grow_empty]⟩
theorem jbP (w:World) (n:Nat) (os:Array Obj):Kept w (grow (w.drewN n) os):=Go.Lib.below_grow w.heap.size w (Nat.le_refl _) n os
theorem Grw.kept {w w':World} (h:Grw w w'):Kept w w':=by
 obtain⟨q,os,rfl⟩:=h;exact jbP w q os
def YX (w:World) (c:Nat) (t:NT):Prop:=w.cell? ⟨c,0,none⟩=some (.string t.1)∧w.cell? ⟨c,1,none⟩=some (.string t.2.1)∧w.cell? ⟨c,2,none⟩=some (.bool t.2.2)
theorem YX.kept {w w':World} {c:Nat} {t:NT} (h:YX w c t) (k:Kept w w'):YX w' c t:=⟨cell_later k h.1,cell_later k h.2.1,cell_later k h.2.2⟩
theorem YX.new (w:World) (x y:ByteArray) (m:Bool) (T:TypeId):YX (w.alloc (.cells #[.string x,.string y,.bool m] T)) w.heap.size (x,y,m):=by
 have hh:=w.alloc_heap_new (.cells #[.string x,.string y,.bool m] T);exact⟨by rw[Lib.cell_of_heap hh];rfl,by rw[Lib.cell_of_heap hh];rfl,by rw[Lib.cell_of_heap hh];rfl⟩
theorem jbu {x:NT} {t:NL}:(x::t).all zc=(zc x&&t.all zc):=rfl
open Go.RowKit Go.Shelf
attribute [local go_sem] Oper.semAt_some
end Go.Proofs.YtgfoenfaohhjcaaGreat
namespace Go.Proofs.YtgfoenfaohhjcaaGreat
open Go.RowKit Go.Shelf
attribute [local go_sem] Oper.semAt_some
end Go.Proofs.YtgfoenfaohhjcaaGreat
namespace Go.Proofs.YtgfoenfaohhjcaaGreat
open Go.RowKit Go.Sort
theorem XF (a:Option Addr) (len cap:Nat) (l:NL) (w:World) (hr:jh jk w a len l) :
 Calls Tryz.prog 44 #[.slice a len cap] w fun e w'=>e=.returned (.int .i64 (Ji l))∧Kept w w':=by
 have hl:=hr.1;have hm:=hr.2.1;unfold maxLen at hm;by_cases h8:len≤8
 · have HV:=lH (show Ji l=if l.all zc=true then 0 else 3 by unfold Ji;rw[if_neg (by omega)]);rcases hr.form with h0 | ⟨b,off,rfl⟩
   · subst h0;have HE:=lH (show Ji l=0 by rw[HV.out];rw[List.eq_nil_of_length_eq_zero hl];rfl);clear hr hl;go_enter Tryz.func44,Tryz.ntmps44;go_wp2;refine wp_loop_rounds 1 ?_;rw[rounds_succ];go_wp2;go_ret;exact⟨jb HE.out.symm,Kept.refl _⟩
   · have HR:=lH hr;have HL:=lH hl;clear hr hl;go_enter Tryz.func44,Tryz.ntmps44;go_wp2;go_loopw [3] (fun i wr=>∃k:Nat,k≤len∧i=.int .i64 k∧(l.drop k).all zc=l.all zc∧Kept w wr) (fun i _=>len-(intOf i).toNat)
     case atStart=>exact⟨0,Nat.zero_le _,rfl,rfl,Kept.refl _⟩
     case round =>
      obtain⟨k,hk,rfl,hrest,hK⟩:=hrel;by_cases hlt:k<len
      · obtain⟨x,y,m,hx,hd,hb,hz,hz2,c1,c2,c3⟩:=(HR.out.kept hK).tri hlt;have HK:=lH hK;have HS:=lH (hrest.symm.trans ((congrArg (fun z=>z.all zc) hd).trans jbu));obtain⟨q0,hq0⟩:∃q,(x.toList==([]:List UInt8))=q:=⟨_,rfl⟩
        obtain⟨q2,hq2⟩:∃q,(y.toList==([]:List UInt8))=q:=⟨_,rfl⟩
        obtain⟨n1,hn1⟩:∃q,isName x=q:=⟨_,rfl⟩
        obtain⟨n2,hn2⟩:∃q,isName y=q:=⟨_,rfl⟩
        have HN:=lH (show zc (x,y,m)=((q0||n1)&&(if m=true then q2 else n2)) by unfold zc;rw[zQ,zQ,hq0,hq2,hn1,hn2]);clear hK hrest hx hd
        cases q0 with
        | true =>
         cases m with
         | true =>
          cases q2 with
          | true =>
           have HQ:=lH (show zc (x,y,true)=true by rw[HN.out];rfl);go_wp2_with (go_at_call 40;refine(jf _ _ (by assumption)).mono ?_;rintro e w' ⟨rfl,rfl⟩)
           go_roundw
           case rel=>exact⟨k+1,by omega,by go_num,(HS.out.trans (by rw[HQ.out];exact Bool.true_and _)).symm,HK.out.trans (ja _ _)⟩
           case measure=>simp[intOf];omega
          | false =>
           have HQ:=lH (show Ji l=3 by rw[HV.out,HS.out,HN.out];rfl);go_wp2_with (go_at_call 40;refine(jf _ _ (by assumption)).mono ?_;rintro e w' ⟨rfl,rfl⟩)
           go_ret;exact⟨jb HQ.out.symm,HK.out.trans (ja _ _)⟩
         | false =>
          cases n2 with
          | true =>
           have HQ:=lH (show zc (x,y,false)=true by rw[HN.out];rfl);go_wp2_with (go_at_call 40;refine(jf _ _ (by assumption)).mono ?_;rintro e w' ⟨rfl,rfl⟩)
           go_roundw
           case rel=>exact⟨k+1,by omega,by go_num,(HS.out.trans (by rw[HQ.out];exact Bool.true_and _)).symm,HK.out.trans (ja _ _)⟩
           case measure=>simp[intOf];omega
          | false =>
           have HQ:=lH (show Ji l=3 by rw[HV.out,HS.out,HN.out];rfl);go_wp2_with (go_at_call 40;refine(jf _ _ (by assumption)).mono ?_;rintro e w' ⟨rfl,rfl⟩)
           go_ret;exact⟨jb HQ.out.symm,HK.out.trans (ja _ _)⟩
        | false =>
         cases n1 with
         | true =>
          cases m with
          | true =>
           cases q2 with
           | true =>
            have HQ:=lH (show zc (x,y,true)=true by rw[HN.out];rfl);go_wp2_with (go_at_call 40;refine(jf _ _ (by assumption)).mono ?_;rintro e w' ⟨rfl,rfl⟩)
            go_roundw
            case rel=>exact⟨k+1,by omega,by go_num,(HS.out.trans (by rw[HQ.out];exact Bool.true_and _)).symm,HK.out.trans (ja _ _)⟩
            case measure=>simp[intOf];omega
           | false =>
            have HQ:=lH (show Ji l=3 by rw[HV.out,HS.out,HN.out];rfl);go_wp2_with (go_at_call 40;refine(jf _ _ (by assumption)).mono ?_;rintro e w' ⟨rfl,rfl⟩)
            go_ret;exact⟨jb HQ.out.symm,HK.out.trans (ja _ _)⟩
          | false =>
           cases n2 with
           | true =>
            have HQ:=lH (show zc (x,y,false)=true by rw[HN.out];rfl);go_wp2_with (go_at_call 40;refine(jf _ _ (by assumption)).mono ?_;rintro e w' ⟨rfl,rfl⟩)
            go_roundw
            case rel=>exact⟨k+1,by omega,by go_num,(HS.out.trans (by rw[HQ.out];exact Bool.true_and _)).symm,HK.out.trans (ja _ _)⟩
            case measure=>simp[intOf];omega
           | false =>
            have HQ:=lH (show Ji l=3 by rw[HV.out,HS.out,HN.out];rfl);go_wp2_with (go_at_call 40;refine(jf _ _ (by assumption)).mono ?_;rintro e w' ⟨rfl,rfl⟩)
            go_ret;exact⟨jb HQ.out.symm,HK.out.trans (ja _ _)⟩
         | false =>
          have HQ:=lH (show Ji l=3 by rw[HV.out,HS.out,HN.out];rfl);go_wp2_with (go_at_call 40;refine(jf _ _ (by assumption)).mono ?_;rintro e w' ⟨rfl,rfl⟩)
          go_ret;exact⟨jb HQ.out.symm,HK.out.trans (ja _ _)⟩
      · have HK:=lH hK;have HS:=lH (hrest.symm.trans (congrArg (fun z=>z.all zc) (zA (by rw[HL.out];exact hlt))));have HF:=lH (show Ji l=0 by rw[HV.out,HS.out];rfl);clear hK hrest;go_wp2;go_ret;exact⟨jb HF.out.symm,HK.out⟩
 · have HV:=lH (show Ji l=4 by unfold Ji;rw[if_pos (by omega)]);have h9:8<len:=by omega
   clear h8 hr hl;go_enter Tryz.func44,Tryz.ntmps44;go_wp2;go_ret;exact⟨jb HV.out.symm,Kept.refl _⟩
theorem jaQ {l:NL} {k j:Nat} {t z:NT} (hj:j<k) (hz:l[j]?=some z) (h:Jo t z=true):(l.take k).any (Jo t)=true:=by
 rw[List.any_eq_true];refine⟨z,List.mem_of_getElem? (i:=j) ?_,h⟩;rw[List.getElem?_take,if_pos hj];exact hz
theorem Xq {l:NL} {j:Nat} {t z:NT} (hz:l[j]?=some z) (h:(l.take j).any (Jo t)=false) (g:Jo t z=false):(l.take (j+1)).any (Jo t)=false:=by
 rw[jZ hz,List.any_append,h];simp[g]
theorem XD (a:Option Addr) (len cap:Nat) (l:NL) (w:World) (hr:jh jk w a len l) :
 Calls Tryz.prog 137 #[.slice a len cap] w fun e w'=>e=.returned (.int .i64 (Zt l))∧Kept w w':=by
 have hl:=hr.1;have hm:=hr.2.1;unfold maxLen at hm;by_cases h8:len≤8
 · have HV:=lH (show Zt l=zL [] l by unfold Zt;rw[if_neg (by omega)]);rcases hr.form with h0 | ⟨b,off,rfl⟩
   · subst h0;have HE:=lH (show Zt l=0 by rw[HV.out];rw[List.eq_nil_of_length_eq_zero hl];rfl);clear hr hl;go_enter Tryz.func137,Tryz.ntmps137;go_wp2;refine wp_loop_rounds 1 ?_;rw[rounds_succ];go_wp2;go_ret;exact⟨jb HE.out.symm,Kept.refl _⟩
   · have HR:=lH hr;have HL:=lH hl;clear hr hl;go_enter Tryz.func137,Tryz.ntmps137;go_wp2;go_loopw [3] (fun i wr=>∃k:Nat,k≤len∧i=.int .i64 k∧zL (l.take k) (l.drop k)=zL [] l∧Kept w wr) (fun i _=>len-(intOf i).toNat)
     case atStart=>exact⟨0,Nat.zero_le _,rfl,rfl,Kept.refl _⟩
     case round =>
      obtain⟨k,hk,rfl,hrest,hK⟩:=hrel;by_cases hlt:k<len
      · obtain⟨x,y,m,hx,hd,hb,hz,hz2,c1,c2,c3⟩:=(HR.out.kept hK).tri hlt;have HX:=lH hx;have HK:=lH hK;have HT:=lH (hrest.symm.trans (congrArg (zL (l.take k)) hd));have HS:=lH (HV.out.trans HT.out);clear hK hrest hx hd;by_cases n1:isName x=true
        · by_cases n2:isName y=true
          · have N1:=lH n1;have N2:=lH n2;go_wp2_with (go_at_call 40;refine(jf _ _ (by assumption)).mono ?_;rintro e w' ⟨rfl,rfl⟩)
            go_loopw [4] (fun i wr2=>∃j:Nat,j≤k∧i=.int .i64 j∧(l.take j).any (Jo (x,y,m))=false∧Kept w wr2) (fun i _=>k-(intOf i).toNat)
            case atStart=>exact⟨0,Nat.zero_le _,rfl,rfl,HK.out⟩
            case round =>
             obtain⟨j,hj,rfl,hnone,hK2⟩:=hrel;have HK2:=lH hK2;have HNO:=lH hnone;by_cases hjk:j<k
             · obtain⟨x',y',m',hx',_,hb',_,_,d1,d2,d3⟩:=(HR.out.kept hK2).tri (show j<len by omega);obtain⟨x9,y9,m9,hx9,_,_,_,_,e1,e2,e3⟩:=(HR.out.kept hK2).tri hlt;obtain⟨rfl,rfl,rfl⟩:x=x9∧y=y9∧m=m9:=by rw[HX.out] at hx9;simpa using hx9
               have HX':=lH hx';obtain⟨q1,hq1⟩:∃q,(x'.toList==x.toList)=q:=⟨_,rfl⟩
               obtain⟨q2,hq2⟩:∃q,(y'.toList==y.toList)=q:=⟨_,rfl⟩
               have HTW:=lH (show Jo (x,y,m) (x',y',m')=(q1&&q2) by unfold Jo eqS;rw[hq1,hq2]);have hjl:(j:Int)<(len:Int):=by omega
               clear hx9 hx' hnone hK2
               cases q1 with
               | true =>
                cases q2 with
                | true =>
                 go_wp2_with fail
                 go_quiet (fail)
                 go_wp2;go_ret;exact⟨jb (HS.out.trans (jaP N1.out N2.out (jaQ hjk HX'.out HTW.out))).symm,HK2.out.trans (Kept.drewN _ _)⟩
                | false =>
                 go_wp2_with fail
                 go_quiet (fail)
                 go_wp2;go_roundw
                 case rel=>exact⟨j+1,by omega,by go_num,Xq HX'.out HNO.out HTW.out,HK2.out.trans (Kept.drewN _ _)⟩
                 case measure=>simp[intOf];omega
               | false =>
                go_wp2_with fail
                go_quiet (fail)
                go_wp2;go_roundw
                case rel=>exact⟨j+1,by omega,by go_num,Xq HX'.out HNO.out HTW.out,HK2.out.trans (Kept.drewN _ _)⟩
                case measure=>simp[intOf];omega
             · obtain rfl:j=k:=by omega
               clear hnone hK2;go_wp2;go_roundw
               case rel=>exact⟨j+1,by omega,by go_num,by rw[jZ HX.out];exact(jbR N1.out N2.out HNO.out).symm.trans HT.out.symm,HK2.out⟩
               case measure=>simp[intOf];omega
          · have n2:isName y=false:=by simpa using n2
            have N:=lH (show (isName x&&isName y)=false by rw[n2,Bool.and_false]);go_wp2_with (go_at_call 40;refine(jf _ _ (by assumption)).mono ?_;rintro e w' ⟨rfl,rfl⟩)
            go_ret;exact⟨jb (HS.out.trans (Xl N.out)).symm,HK.out⟩
        · have n1:isName x=false:=by simpa using n1
          have N:=lH (show (isName x&&isName y)=false by rw[n1,Bool.false_and]);go_wp2_with (go_at_call 40;refine(jf _ _ (by assumption)).mono ?_;rintro e w' ⟨rfl,rfl⟩)
          go_ret;exact⟨jb (HS.out.trans (Xl N.out)).symm,HK.out⟩
      · have HK:=lH hK;have HS:=lH ((HV.out.trans hrest.symm).trans (congrArg (zL (l.take k)) (zA (by rw[HL.out];exact hlt))));clear hK hrest;go_wp2;go_ret;exact⟨jb (HS.out.trans rfl).symm,HK.out⟩
 · have HV:=lH (show Zt l=4 by unfold Zt;rw[if_pos (by omega)]);have h9:8<len:=by omega
   clear h8 hr hl;go_enter Tryz.func137,Tryz.ntmps137;go_wp2;go_ret;exact⟨jb HV.out.symm,Kept.refl _⟩
theorem jaL {v:Value} {l:NL} {c:Int} {w:World} (h:Reads jk w v l) (hc:Zt l=c):Calls Tryz.prog 137 #[v] w (Say (.int .i64 c) w):=by
 obtain⟨a,cap,rfl,_,_,hr⟩:=h;exact(XD a _ cap l w hr).mono fun e w' ⟨he,k⟩=>⟨by rw[he,hc],k⟩
theorem jbn {v:Value} {l:NL} {c:Int} {w:World} (h:Reads jk w v l) (hc:Ji l=c):Calls Tryz.prog 44 #[v] w (Say (.int .i64 c) w):=by
 obtain⟨a,cap,rfl,_,_,hr⟩:=h;exact(XF a _ cap l w hr).mono fun e w' ⟨he,k⟩=>⟨by rw[he,hc],k⟩
end Go.Proofs.YtgfoenfaohhjcaaGreat
namespace Go.Proofs.YtgfoenfaohhjcaaGreat.Vec
open Go.RowKit Go.Proofs.YtgfoenfaohhjcaaGreat
def Zd (w:World) (v:Value) (vs:List (Nat×Nat)) (ps:List (List UInt8)):Prop :=
 ∀(i:Nat) (x:Nat×Nat) (p:List UInt8),vs[i]?=some x→ps[i]?=some p→x.1<w.heap.size∧v.ownBlock≠some x.1 ∧
  w.cell? ⟨x.1,0,none⟩=some (.string (bytes (nameOf p)))∧w.cell? ⟨x.1,1,none⟩=some (.string (bytes (jb2 p)))
theorem Zd.nil (w:World) (v:Value) (ps:List (List UInt8)):Zd w v [] ps:=fun i x p h=>by simp at h
theorem Zd.kept {w w':World} {v:Value} {vs:List (Nat×Nat)} {ps:List (List UInt8)} (h:Zd w v vs ps) (k:Kept w w'):Zd w' v vs ps:=fun i x p hx hp=>by
 obtain⟨h1,h2,h3,h4⟩:=h i x p hx hp;exact⟨Nat.lt_of_lt_of_le h1 k.size,h2,cell_later k h3,cell_later k h4⟩
theorem Zd.snoc {w w':World} {v:Value} {vs:List (Nat×Nat)} {ps:List (List UInt8)} {g n cap b c:Nat} {p:List UInt8} (h:Zd w v vs ps) (hg:w.grownBy w' v.ownBlock) (hgo:v.ownBlock=some g∨g=w.heap.size)
 (hp:ps[vs.length]?=some p) (hb:b<w.heap.size) (hne:v.ownBlock≠some b)
 (c0:w.cell? ⟨b,0,none⟩=some (.string (bytes (nameOf p)))) (c1:w.cell? ⟨b,1,none⟩=some (.string (bytes (jb2 p)))) :
 Zd w' (.slice (some ⟨g,0,none⟩) n cap) (vs++[(b,c)]) ps:=by
 have far:∀d,d<w.heap.size→v.ownBlock≠some d→d<w'.heap.size∧(Value.slice (some ⟨g,0,none⟩) n cap).ownBlock≠some d∧∀j,w'.cell? ⟨d,j,none⟩=w.cell? ⟨d,j,none⟩:=fun d hd hn=>by
  refine⟨Nat.lt_of_lt_of_le hd hg.size,?_,fun j=>hg.cell_far ⟨d,j,none⟩ hd (fun e=>hn e.symm)⟩;show some g≠some d;intro e;have e':g=d:=Option.some.inj e;rcases hgo with h1 | h1
  · exact hn (by rw[h1,e'])
  · omega
 intro i x q hx hq;by_cases hi:i<vs.length
 · rw[List.getElem?_append_left hi] at hx;obtain⟨h1,h2,h3,h4⟩:=h i x q hx hq;obtain⟨f1,f2,f3⟩:=far x.1 h1 h2;exact⟨f1,f2,(f3 0).trans h3,(f3 1).trans h4⟩
 · have hi2:i=vs.length:=by
    have:=(List.getElem?_eq_some_iff.1 hx).1;simp at this;omega
   subst hi2;have hxx:(b,c)=x:=by simpa using hx
   have hqq:q=p:=Option.some.inj (hq.symm.trans hp);subst hxx;subst hqq;obtain⟨f1,f2,f3⟩:=far b hb hne;exact⟨f1,f2,(f3 0).trans c0,(f3 1).trans c1⟩
open Go.RowKit
theorem jb6 (a b:Int) (w:World) (ha:0≤a) (hb:0≤b) (hb':b≤9223372036854775807) (h:9223372036854775807<a+b):Calls Tryz.prog 138 #[.int .i64 a,.int .i64 b] w (Ya 0 5 w):=by
 go_enter Tryz.func138,Tryz.ntmps138;go_wp2;go_ret2
 exact⟨rfl,rfl⟩
theorem jdG (a b:Int) (w:World) (ha:0≤a) (hb:0≤b) (h:a+b≤9223372036854775807):Calls Tryz.prog 138 #[.int .i64 a,.int .i64 b] w (Ya (a+b) 0 w):=by
 go_enter Tryz.func138,Tryz.ntmps138;go_wp2;go_ret2
 exact⟨rfl,rfl⟩
def Told (c:Int) (m:V) (w:World) (e:Ending) (w':World):Prop:=∃x,e=.returned (.tuple #[x,.int .i64 c])∧jT 152 w' w.heap.size x m∧Kept w w'
theorem Told.none {c:Int} {w w':World} (k:Kept w w'):Told c [] w (.returned (.tuple #[.slice none 0 0,.int .i64 c])) w':=⟨_,rfl,jT.nil _ _ _,k⟩
theorem JA (a:Option Addr) (len cap:Nat) (l:V) (n:ByteArray) (w:World) (hr:jw w a len l) :
 Calls Tryz.prog 95 #[.slice a len cap,.string n] w fun e w'=>e=.returned (.int .i64 (jl l n))∧Kept w w':=by
 have hl:=hr.1;have hm:=hr.2.1;unfold maxLen at hm;rcases hr.form with h0 | ⟨b,off,rfl⟩
 · subst h0;have HE:=lH (show jl l n=0 by rw[List.eq_nil_of_length_eq_zero hl];rfl);clear hr hl;go_enter Tryz.func95,Tryz.ntmps95;go_wp2;refine wp_loop_rounds 1 ?_;rw[rounds_succ];go_wp2;go_ret;exact⟨jb HE.out.symm,Kept.refl _⟩
 · have HR:=lH hr;have HL:=lH hl;clear hr hl;go_enter Tryz.func95,Tryz.ntmps95;go_wp2;go_loopw [5] (fun i wr=>∃k:Nat,k≤len∧i=.int .i64 k∧jl (l.drop k) n=jl l n∧Kept w wr) (fun i _=>len-(intOf i).toNat)
   case atStart=>exact⟨0,Nat.zero_le _,rfl,rfl,Kept.refl _⟩
   case round =>
    obtain⟨k,hk,rfl,hrest,hK⟩:=hrel;have HK:=lH hK;have HS:=lH hrest;by_cases hlt:k<len
    · obtain⟨hb,c1,c2⟩:=(HR.out.kept hK).cells hlt;clear hK hrest;have HI:=lH (show k<l.length by rw[HL.out];exact hlt);by_cases e:eqS (nm l k) n=true
      · have E:=lH e;have e':((nm l k).toList==n.toList)=true:=e;clear e;go_wp2;go_ret;exact⟨jb (HS.out.symm.trans (qh HI.out E.out)).symm,HK.out⟩
      · have e:eqS (nm l k) n=false:=by simpa using e
        have E:=lH e;have e':((nm l k).toList==n.toList)=false:=e;clear e;go_wp2;go_roundw
        case rel=>exact⟨k+1,by omega,by go_num,(qq HI.out E.out).symm.trans HS.out,HK.out⟩
        case measure=>simp[intOf];omega
    · have HI:=lH (show ¬k<l.length by rw[HL.out];exact hlt);clear hK hrest;go_wp2;go_ret;exact⟨jb (HS.out.symm.trans (jar HI.out)).symm,HK.out⟩
theorem jby (a a':Option Addr) (len cap len' cap':Nat) (l l':V) (w:World) (hr:jw w a len l) (hr':jw w a' len' l') :
 Calls Tryz.prog 59 #[.slice a len cap,.slice a' len' cap'] w fun e w'=>e=.returned (.bool (jR l' l))∧Kept w w':=by
 have hl:=hr.1;have hm:=hr.2.1;unfold maxLen at hm;rcases hr.form with h0 | ⟨b,off,rfl⟩
 · subst h0;have HE:=lH (show jR l' l=true by rw[List.eq_nil_of_length_eq_zero hl];rfl);clear hr hl hr';go_enter Tryz.func59,Tryz.ntmps59;go_wp2;refine wp_loop_rounds 1 ?_;rw[rounds_succ];go_wp2;go_ret;exact⟨jd HE.out.symm,Kept.refl _⟩
 · have HR:=lH hr;have HL:=lH hl;have HR':=lH hr';clear hr hl hr';go_enter Tryz.func59,Tryz.ntmps59;go_wp2;go_loopw [5] (fun i wr=>∃k:Nat,k≤len∧i=.int .i64 k∧jR l' (l.drop k)=jR l' l∧Kept w wr) (fun i _=>len-(intOf i).toNat)
   case atStart=>exact⟨0,Nat.zero_le _,rfl,rfl,Kept.refl _⟩
   case round =>
    obtain⟨k,hk,rfl,hrest,hK⟩:=hrel;have HS:=lH hrest;have HK:=lH hK;by_cases hlt:k<len
    · obtain⟨hb,c1,c2⟩:=(HR.out.kept hK).cells hlt;clear hrest hK;have HI:=lH (show k<l.length by rw[HL.out];exact hlt);by_cases e:qn l k≤jl l' (nm l k)
      · have E:=lH (show jR l' (l.drop k)=jR l' (l.drop (k+1)) by rw[drop_cons HI.out,jR,decide_eq_true e];rfl);go_wp2;have f1:wr.drew.cell? ⟨b,off+k*2,none⟩=some (.string (nm l k)):=c1;have f2:wr.drew.cell? ⟨b,off+k*2+1,none⟩=some (.int .i64 (qn l k)):=c2;have f3:Kept w wr.drew:=HK.out.trans (Kept.drewN _ 1);go_region_held3 (fun W=>W.cell? ⟨b,off+k*2,none⟩=some (.string (nm l k))∧W.cell? ⟨b,off+k*2+1,none⟩=some (.int .i64 (qn l k))∧Kept w W) (first | exact⟨f1,f2,f3⟩ | assumption | exact Xe (by assumption) (by assumption))
         (first | (go_at_call 95;refine(JA _ _ _ l' _ _ (HR'.out.kept (Zf (by assumption)))).mono ?_;rintro e W2 ⟨rfl,hk2⟩))
        all_goals
         go_wp2;go_roundw
         case rel=>exact⟨k+1,by omega,by go_num,E.out.symm.trans HS.out,Zf (by assumption)⟩
         case measure=>simp[intOf];omega
      · have E:=lH (show jR l' (l.drop k)=false by rw[drop_cons HI.out,jR,decide_eq_false e];rfl);have e':jl l' (nm l k)<qn l k:=by omega
        clear e;go_wp2;have f1:wr.drew.cell? ⟨b,off+k*2,none⟩=some (.string (nm l k)):=c1;have f2:wr.drew.cell? ⟨b,off+k*2+1,none⟩=some (.int .i64 (qn l k)):=c2;have f3:Kept w wr.drew:=HK.out.trans (Kept.drewN _ 1);go_region_held3 (fun W=>W.cell? ⟨b,off+k*2,none⟩=some (.string (nm l k))∧W.cell? ⟨b,off+k*2+1,none⟩=some (.int .i64 (qn l k))∧Kept w W) (first | exact⟨f1,f2,f3⟩ | assumption | exact Xe (by assumption) (by assumption))
         (first | (go_at_call 95;refine(JA _ _ _ l' _ _ (HR'.out.kept (Zf (by assumption)))).mono ?_;rintro e W2 ⟨rfl,hk2⟩))
        all_goals
         go_wp2;go_ret;exact⟨jd (HS.out.symm.trans E.out).symm,Zf (by assumption)⟩
    · have E:=lH (show jR l' (l.drop k)=true by rw[List.drop_of_length_le (by rw[HL.out];omega),jR]);clear hrest hK;go_wp2;go_ret;exact⟨jd (HS.out.symm.trans E.out).symm,HK.out⟩
theorem jT.reads {e:TypeId} {w:World} {B:Nat} {v:Value} {l:V} (h:jT e w B v l):Reads w v l:=h.at_
theorem Jy {n:ByteArray} {c:Bool} {w:World} (h:n.size≤maxLen) (e:isName n=c) :
 Calls Tryz.prog 40 #[.string n] w fun x w'=>x=.returned (.bool c)∧w=w':=by
 subst e;exact jf n w h
end Go.Proofs.YtgfoenfaohhjcaaGreat.Vec
namespace Go.Proofs.YtgfoenfaohhjcaaGreat
open Go.RowKit
structure Nod where
 name:ByteArray
 cap:Vec.V
 labels:PL
 taints:NL
 cordon:Bool
def Nod.zero:Nod:=⟨ByteArray.empty,[],[],[],false⟩
abbrev Ja (n:Nod) (v1 v2 v3:Value):Value:=.agg #[.string n.name,v1,v2,v3,.bool n.cordon]
structure j2 (w:World) (v1 v2 v3:Value) (n:Nod):Prop where
 size:n.name.size≤maxLen
 cap:Vec.Reads w v1 n.cap
 labels:Reads jm w v2 n.labels
 taints:Reads jk w v3 n.taints
theorem j2.kept {w w':World} {v1 v2 v3:Value} {n:Nod} (h:j2 w v1 v2 v3 n) (k:Kept w w'):j2 w' v1 v2 v3 n:=⟨h.size,h.cap.kept k,h.labels.kept k,h.taints.kept k⟩
def Yv (w:World) (v:Value) (n:Nod):Prop:=∃v1 v2 v3,v=Ja n v1 v2 v3∧j2 w v1 v2 v3 n
theorem Yv.kept {w w':World} {v:Value} {n:Nod} (h:Yv w v n) (k:Kept w w'):Yv w' v n:=by
 obtain⟨v1,v2,v3,e,h⟩:=h;exact⟨v1,v2,v3,e,h.kept k⟩
def j8 (n:Nod):Int:=if isName n.name=false then 3 else if Vec.jr n.cap≠0 then Vec.jr n.cap else if JQ n.labels≠0 then JQ n.labels else Zt n.taints
def or3 (a b c:Int):Int:=if a≠0 then a else if b≠0 then b else c
theorem qV (n:Nod) (v1 v2 v3:Value) (w:World) (h:j2 w v1 v2 v3 n) :
 Calls Tryz.prog 100 #[Ja n v1 v2 v3] w (Say (.int .i64 (j8 n)) w):=by
 have hsz:=h.size;have HH:=lH h;by_cases h1:isName n.name=true
 · obtain⟨x1,hx1⟩:∃x,Vec.jr n.cap=x:=⟨_,rfl⟩
   obtain⟨x2,hx2⟩:∃x,JQ n.labels=x:=⟨_,rfl⟩
   obtain⟨x3,hx3⟩:∃x,Zt n.taints=x:=⟨_,rfl⟩
   have HX1:=lH hx1;have HX2:=lH hx2;have HX3:=lH hx3;have HV0:=lH (show j8 n=if x1≠0 then x1 else if x2≠0 then x2 else x3 by unfold j8;rw[if_neg (by rw[h1];decide),hx1,hx2,hx3]);clear hx1 hx2 hx3 h;by_cases z1:x1=0
   · subst z1;by_cases z2:x2=0
     · subst z2;have HV:=lH (show j8 n=x3 from HV0.out);unfold Ja;go_enter Tryz.func100,Tryz.ntmps100;go_wp2_with fail
       refine(Vec.Jy hsz h1).mono ?_;rintro e w' ⟨rfl,rfl⟩;go_wp2_with fail
       have K:=lH (ja w (.cells #[.string n.name,v1,v2,v3,.bool n.cordon] 107));have hh:=w.alloc_heap_new (.cells #[.string n.name,v1,v2,v3,.bool n.cordon] 107);have c2:(w.alloc (.cells #[.string n.name,v1,v2,v3,.bool n.cordon] 107)).cell? ⟨w.heap.size,2,none⟩=some v2:=by rw[Lib.cell_of_heap hh];rfl
       have c3:(w.alloc (.cells #[.string n.name,v1,v2,v3,.bool n.cordon] 107)).cell? ⟨w.heap.size,3,none⟩=some v3:=by rw[Lib.cell_of_heap hh];rfl
       clear hh;refine(Vec.zu (HH.out.cap.kept K.out) HX1.out).mono ?_;rintro e w1 ⟨rfl,k1⟩;have K:=lH (K.out.trans k1);have c2:=cell_later k1 c2;have c3:=cell_later k1 c3;clear k1;go_wp2_with fail
       refine(zu (HH.out.labels.kept K.out) HX2.out).mono ?_;rintro e w2 ⟨rfl,k2⟩;have K:=lH (K.out.trans k2);have c2:=cell_later k2 c2;have c3:=cell_later k2 c3;clear k2;go_wp2_with fail
       refine(jaL (HH.out.taints.kept K.out) HX3.out).mono ?_;rintro e w3 ⟨rfl,k3⟩;have K:=lH (K.out.trans k3);clear k3;go_wp2;go_ret;exact⟨jb HV.out.symm,K.out⟩
     · have HV:=lH (show j8 n=x2 by rw[HV0.out,if_neg (by decide),if_pos z2]);have z2':(x2 != 0)=true:=by simpa using z2
       clear z2;unfold Ja;go_enter Tryz.func100,Tryz.ntmps100;go_wp2_with fail
       refine(Vec.Jy hsz h1).mono ?_;rintro e w' ⟨rfl,rfl⟩;go_wp2_with fail
       have K:=lH (ja w (.cells #[.string n.name,v1,v2,v3,.bool n.cordon] 107));have hh:=w.alloc_heap_new (.cells #[.string n.name,v1,v2,v3,.bool n.cordon] 107);have c2:(w.alloc (.cells #[.string n.name,v1,v2,v3,.bool n.cordon] 107)).cell? ⟨w.heap.size,2,none⟩=some v2:=by rw[Lib.cell_of_heap hh];rfl
       have c3:(w.alloc (.cells #[.string n.name,v1,v2,v3,.bool n.cordon] 107)).cell? ⟨w.heap.size,3,none⟩=some v3:=by rw[Lib.cell_of_heap hh];rfl
       clear hh;refine(Vec.zu (HH.out.cap.kept K.out) HX1.out).mono ?_;rintro e w1 ⟨rfl,k1⟩;have K:=lH (K.out.trans k1);have c2:=cell_later k1 c2;have c3:=cell_later k1 c3;clear k1;go_wp2_with fail
       refine(zu (HH.out.labels.kept K.out) HX2.out).mono ?_;rintro e w2 ⟨rfl,k2⟩;have K:=lH (K.out.trans k2);clear k2;go_wp2;go_ret;exact⟨jb HV.out.symm,K.out⟩
   · have HV:=lH (show j8 n=x1 by rw[HV0.out,if_pos z1]);have z1':(x1 != 0)=true:=by simpa using z1
     clear z1;unfold Ja;go_enter Tryz.func100,Tryz.ntmps100;go_wp2_with fail
     refine(Vec.Jy hsz h1).mono ?_;rintro e w' ⟨rfl,rfl⟩;go_wp2_with fail
     have K:=lH (ja w (.cells #[.string n.name,v1,v2,v3,.bool n.cordon] 107));have hh:=w.alloc_heap_new (.cells #[.string n.name,v1,v2,v3,.bool n.cordon] 107);have c2:(w.alloc (.cells #[.string n.name,v1,v2,v3,.bool n.cordon] 107)).cell? ⟨w.heap.size,2,none⟩=some v2:=by rw[Lib.cell_of_heap hh];rfl
     have c3:(w.alloc (.cells #[.string n.name,v1,v2,v3,.bool n.cordon] 107)).cell? ⟨w.heap.size,3,none⟩=some v3:=by rw[Lib.cell_of_heap hh];rfl
     clear hh;refine(Vec.zu (HH.out.cap.kept K.out) HX1.out).mono ?_;rintro e w1 ⟨rfl,k1⟩;have K:=lH (K.out.trans k1);clear k1;go_wp2;go_ret;exact⟨jb HV.out.symm,K.out⟩
 · have h1:isName n.name=false:=by simpa using h1
   have HV:=lH (show j8 n=3 by unfold j8;rw[if_pos h1]);clear h;unfold Ja;go_enter Tryz.func100,Tryz.ntmps100;go_wp2_with (go_at_call 40;refine(Vec.Jy hsz h1).mono ?_;rintro e w' ⟨rfl,rfl⟩)
   go_ret;exact⟨jb HV.out.symm,ja _ _⟩
def zx (B:Nat) (w:World) (v:Value) (n:Nod):Prop:=∃a1 m1 c1 a2 m2 c2 a3 m3 c3,v=.agg #[.string n.name,.slice a1 m1 c1,.slice a2 m2 c2,.slice a3 m3 c3,.bool n.cordon]∧n.name.size≤maxLen∧Vec.Reads w (.slice a1 m1 c1) n.cap∧Reads jm w (.slice a2 m2 c2) n.labels∧Reads jk w (.slice a3 m3 c3) n.taints ∧
 (∀b off sp,a1=some ⟨b,off,sp⟩→B≤b)∧(∀b off sp,a2=some ⟨b,off,sp⟩→B≤b)∧(∀b off sp,a3=some ⟨b,off,sp⟩→B≤b)
theorem zx.toR {B:Nat} {w:World} {v:Value} {n:Nod} (h:zx B w v n):Yv w v n:=by
 obtain⟨a1,m1,c1,a2,m2,c2,a3,m3,c3,e,h0,h1,h2,h3,_⟩:=h;exact⟨_,_,_,e,h0,h1,h2,h3⟩
def YF (r:Int×Nod) (w:World) (e:Ending) (w':World):Prop:=(r.1=0→∃v,e=.returned v∧zx w.heap.size w' v r.2)∧(r.1≠0→e=.panicked [zC r.1])∧Kept w w'
theorem YF.good {r:Int×Nod} {w w':World} {v:Value} (h:r.1=0) (ho:zx w.heap.size w' v r.2) (hb:Kept w w'):YF r w (.returned v) w':=⟨fun _=>⟨v,rfl,ho⟩,fun g=>absurd h g,hb⟩
theorem YF.bad {r:Int×Nod} {w w':World} {c:Int} (h:r.1=c) (hc:c≠0) (hb:Kept w w'):YF r w (.panicked [zC c]) w':=⟨fun g=>absurd (h.symm.trans g) hc,fun _=>by rw[h],hb⟩
theorem Vec.jd1.spelt {r:Int×Vec.V} {w w':World} {e:Ending} (h:Vec.jd1 r w e w'):∃a m cap,e=.returned (.tuple #[.slice a m cap,.int .i64 r.1])∧Vec.Reads w' (.slice a m cap) r.2∧(∀b off sp,a=some ⟨b,off,sp⟩→w.heap.size≤b∧b<w'.heap.size)∧Kept w w':=by
 obtain⟨v,rfl,ho,k⟩:=h;obtain⟨a,cap,rfl,h⟩:=ho.at_;exact⟨a,_,cap,rfl,⟨a,cap,rfl,h⟩,fun b off sp e=>ho.1.lt b (by subst e;rfl),k⟩
theorem Zp (w:World) (v0 v1 v2 v3 v4:Value) (T:TypeId) (W:World) (k:Kept (w.alloc (.cells #[v0,v1,v2,v3,v4] T)) W) :
 (W.cell? ⟨w.heap.size,0,none⟩=some v0∧W.cell? ⟨w.heap.size,1,none⟩=some v1∧W.cell? ⟨w.heap.size,2,none⟩=some v2∧W.cell? ⟨w.heap.size,3,none⟩=some v3∧W.cell? ⟨w.heap.size,4,none⟩=some v4) ∧
 W.frozen? ⟨w.heap.size,0,none⟩=false∧W.frozen? ⟨w.heap.size,1,none⟩=false∧W.frozen? ⟨w.heap.size,2,none⟩=false∧W.frozen? ⟨w.heap.size,3,none⟩=false∧W.frozen? ⟨w.heap.size,4,none⟩=false:=by
 have hh:=w.alloc_heap_new (.cells #[v0,v1,v2,v3,v4] T);have hf:∀j,W.frozen? ⟨w.heap.size,j,none⟩=false:=fun j=>by
  have:=k.frozen (p:=⟨w.heap.size,j,none⟩) (by simp);rw[this];unfold World.frozen?;rw[show (w.alloc (.cells #[v0,v1,v2,v3,v4] T)).heap[(⟨w.heap.size,j,none⟩:Addr).block]?=some (.cells #[v0,v1,v2,v3,v4] T) from hh];simp
 exact⟨⟨cell_later k (by rw[Lib.cell_of_heap hh];rfl),cell_later k (by rw[Lib.cell_of_heap hh];rfl),cell_later k (by rw[Lib.cell_of_heap hh];rfl),cell_later k (by rw[Lib.cell_of_heap hh];rfl),cell_later k (by rw[Lib.cell_of_heap hh];rfl)⟩,hf 0,hf 1,hf 2,hf 3,hf 4⟩
theorem YJ (W:World) (q:Nat) (u0 u1 u2 u3 u4:Value) (b:Nat) (h:b≠q) :
 (((((W.setCell ⟨q,0,none⟩ u0).setCell ⟨q,1,none⟩ u1).setCell ⟨q,2,none⟩ u2).setCell ⟨q,3,none⟩ u3).setCell ⟨q,4,none⟩ u4).heap[b]?=W.heap[b]? :=
 (Below.heap_setCell _ ⟨q,4,none⟩ _ b h).trans ((Below.heap_setCell _ ⟨q,3,none⟩ _ b h).trans ((Below.heap_setCell _ ⟨q,2,none⟩ _ b h).trans ((Below.heap_setCell _ ⟨q,1,none⟩ _ b h).trans (Below.heap_setCell _ ⟨q,0,none⟩ _ b h))))
theorem jbF (W:World) (q:Nat) (u0 u1 u2 u3 u4:Value) :
 (((((W.setCell ⟨q,0,none⟩ u0).setCell ⟨q,1,none⟩ u1).setCell ⟨q,2,none⟩ u2).setCell ⟨q,3,none⟩ u3).setCell ⟨q,4,none⟩ u4).heap.size=W.heap.size:=by simp[World.setCell]
theorem Reads.far {α:Type} {L:Lay α} {w w':World} {a:Option Addr} {m cap:Nat} {l:List α} (h:Reads L w (.slice a m cap) l) (hs:w'.heap.size=w.heap.size) (hb:∀b off sp,a=some ⟨b,off,sp⟩→w'.heap[b]?=w.heap[b]?):Reads L w' (.slice a m cap) l:=by
 obtain⟨a',cap',e,h1,h2,h3,h4,h5,h6⟩:=h
 cases e
 refine⟨a,cap,rfl,h1,h2,h3,h4,h5,h6.imp id ?_⟩;rintro ⟨b,off,rfl,hlt,hc⟩;exact⟨b,off,rfl,by rw[hs];exact hlt,fun i x j u hi hj=>(World.cell?_of_block (a:=⟨b,off+i*L.m+j,none⟩) (hb b off none rfl)).trans (hc i x j u hi hj)⟩
theorem Vec.Reads.far {w w':World} {a:Option Addr} {m cap:Nat} {l:Vec.V} (h:Vec.Reads w (.slice a m cap) l) (hs:w'.heap.size=w.heap.size) (hb:∀b off sp,a=some ⟨b,off,sp⟩→w'.heap[b]?=w.heap[b]?):Vec.Reads w' (.slice a m cap) l:=by
 obtain⟨a',cap',e,h1,h2,h3,h4,h5,h6⟩:=h
 cases e
 refine⟨a,cap,rfl,h1,h2,h3,h4,h5,h6.imp id ?_⟩;rintro ⟨b,off,rfl,hlt,hc⟩;exact⟨b,off,rfl,by rw[hs];exact hlt,fun i hi=>⟨(World.cell?_of_block (a:=⟨b,off+i*2,none⟩) (hb b off none rfl)).trans (hc i hi).1,(World.cell?_of_block (a:=⟨b,off+i*2+1,none⟩) (hb b off none rfl)).trans (hc i hi).2⟩⟩
theorem jaY {W:World} {q:Nat} {v0 v1 v2 v3 v4 u0 u1 u2 u3 u4:Value} (y0:W.cell? ⟨q,0,none⟩=some v0) (y1:W.cell? ⟨q,1,none⟩=some v1) (y2:W.cell? ⟨q,2,none⟩=some v2) (y3:W.cell? ⟨q,3,none⟩=some v3) (y4:W.cell? ⟨q,4,none⟩=some v4) (W':World)
 (hW:(((((W.setCell ⟨q,0,none⟩ u0).setCell ⟨q,1,none⟩ u1).setCell ⟨q,2,none⟩ u2).setCell ⟨q,3,none⟩ u3).setCell ⟨q,4,none⟩ u4)=W') :
 W'.cell? ⟨q,0,none⟩=some u0∧W'.cell? ⟨q,1,none⟩=some u1∧W'.cell? ⟨q,2,none⟩=some u2∧W'.cell? ⟨q,3,none⟩=some u3∧W'.cell? ⟨q,4,none⟩=some u4:=by
 subst hW;refine⟨?_,?_,?_,?_,?_⟩<;>go_simp
theorem Vec.Reads.mk' {w:World} {a:Option Addr} {cap:Nat} {l:Vec.V} (h1:l.length≤cap) (h2:cap≤maxLen) (h3:Vec.jw w a l.length l):Vec.Reads w (.slice a l.length cap) l:=⟨a,cap,rfl,h1,h2,h3⟩
theorem Reads.mk' {α:Type} {L:Lay α} {w:World} {a:Option Addr} {cap:Nat} {l:List α} (h1:l.length≤cap) (h2:cap≤maxLen) (h3:jh L w a l.length l):Reads L w (.slice a l.length cap) l:=⟨a,cap,rfl,h1,h2,h3⟩
theorem YA (B:Nat) (w:World):zx B w (.agg #[.string ⟨#[]⟩,.slice none 0 0,.slice none 0 0,.slice none 0 0,.bool false]) Nod.zero :=
 ⟨none,0,0,none,0,0,none,0,0,rfl,(by decide:(0:Nat)≤maxLen),Vec.Reads.nil w,Reads.nil w,Reads.nil w,(fun _ _ _ e=>by cases e),(fun _ _ _ e=>by cases e),(fun _ _ _ e=>by cases e)⟩
theorem zx.less {B B':Nat} {w:World} {v:Value} {n:Nod} (h:zx B w v n) (hb:B'≤B):zx B' w v n:=by
 obtain⟨a1,m1,c1,a2,m2,c2,a3,m3,c3,e,h0,h1,h2,h3,g1,g2,g3⟩:=h;exact⟨a1,m1,c1,a2,m2,c2,a3,m3,c3,e,h0,h1,h2,h3,fun b o s e=>Nat.le_trans hb (g1 b o s e),fun b o s e=>Nat.le_trans hb (g2 b o s e),fun b o s e=>Nat.le_trans hb (g3 b o s e)⟩
theorem zx.far {B:Nat} {w w':World} {v:Value} {n:Nod} (h:zx B w v n) (hs:w'.heap.size=w.heap.size) (hb:∀b,B≤b→w'.heap[b]?=w.heap[b]?):zx B w' v n:=by
 obtain⟨a1,m1,c1,a2,m2,c2,a3,m3,c3,e,h0,h1,h2,h3,g1,g2,g3⟩:=h;exact⟨a1,m1,c1,a2,m2,c2,a3,m3,c3,e,h0,h1.far hs (fun b o s e=>hb b (g1 b o s e)),h2.far hs (fun b o s e=>hb b (g2 b o s e)),h3.far hs (fun b o s e=>hb b (g3 b o s e)),g1,g2,g3⟩
theorem zx.kept {B:Nat} {w w':World} {v:Value} {n:Nod} (h:zx B w v n) (k:Kept w w'):zx B w' v n:=by
 obtain⟨a1,m1,c1,a2,m2,c2,a3,m3,c3,e,h0,h1,h2,h3,g1,g2,g3⟩:=h;exact⟨a1,m1,c1,a2,m2,c2,a3,m3,c3,e,h0,h1.kept k,h2.kept k,h3.kept k,g1,g2,g3⟩
def jem (q:Nat) (x:ByteArray) (a1 a2 a3:Option Addr) (m1 c1 m2 c2 m3 c3:Nat) (b:Bool) (W W':World):Prop :=
 (W'.cell? ⟨q,0,none⟩=some (.string x)∧W'.cell? ⟨q,1,none⟩=some (.slice a1 m1 c1)∧W'.cell? ⟨q,2,none⟩=some (.slice a2 m2 c2)∧W'.cell? ⟨q,3,none⟩=some (.slice a3 m3 c3)∧W'.cell? ⟨q,4,none⟩=some (.bool b)) ∧
  W'.heap.size=W.heap.size∧(∀j,j≠q→W'.heap[j]?=W.heap[j]?)∧∀B w,B≤q→Below B w W→Below B w W'
theorem Zm {W:World} {q:Nat} {v0 v1 v2 v3 v4:Value} (y:W.cell? ⟨q,0,none⟩=some v0∧W.cell? ⟨q,1,none⟩=some v1∧W.cell? ⟨q,2,none⟩=some v2∧W.cell? ⟨q,3,none⟩=some v3∧W.cell? ⟨q,4,none⟩=some v4) (x:ByteArray) (a1 a2 a3:Option Addr) (m1 c1 m2 c2 m3 c3:Nat) (b:Bool) :
 jem q x a1 a2 a3 m1 c1 m2 c2 m3 c3 b W (((((W.setCell ⟨q,0,none⟩ (.string x)).setCell ⟨q,1,none⟩ (.slice a1 m1 c1)).setCell ⟨q,2,none⟩ (.slice a2 m2 c2)).setCell ⟨q,3,none⟩ (.slice a3 m3 c3)).setCell ⟨q,4,none⟩ (.bool b)) :=
 ⟨jaY y.1 y.2.1 y.2.2.1 y.2.2.2.1 y.2.2.2.2 _ rfl,jbF _ _ _ _ _ _ _,fun j hj=>YJ _ _ _ _ _ _ _ j hj,
  fun B w hB hk=>((((hk.setCell (p:=⟨q,0,none⟩) hB _).setCell (p:=⟨q,1,none⟩) hB _).setCell (p:=⟨q,2,none⟩) hB _).setCell (p:=⟨q,3,none⟩) hB _).setCell (p:=⟨q,4,none⟩) hB _⟩
def Kind (t e:TypeId) (size bytes:Nat):Prop:=∃i z,Tryz.prog.underlying t=some (.slice e)∧Tryz.prog.info? e=some i∧i.zero=some z∧i.size=size∧i.bytes=bytes∧z.cells.size=size∧0<size
def ZU (w:World) (y:Value) (m:Nat) (news:List Value):Prop :=
 (∃ad c,y=.slice (some ad) m c∧∀j u,news[j]?=some u→w.cell? (ad.add j)=some u)∨(∃c,y=.slice none 0 c∧m=0)
theorem jah {t e:TypeId} {size bytes:Nat} (K:Kind t e size bytes) (w:World) (B:Nat) (hB:B≤w.heap.size) (g n cap:Nat) (xs:List Value) (hown:w.ownsRow B e size (.slice (some ⟨g,0,none⟩) n cap) n xs) (y:Value) (m:Nat) (news:List Value) (hl:news.length=m*size) (hone:∀u ∈ news,u.oneCell'=true) (hy:ZU w y m news)
 (h63:n+m≤maxLen) (hb:((n+m)+(n+m) / 4+192)*bytes≤281474976710656) (ty:TypeId) :
 ∃g' cap' w',(Builtin.append_ #[t,t] ty #[.slice (some ⟨g,0,none⟩) n cap,y]).run Tryz.prog w=.ok (.slice (some ⟨g',0,none⟩) (n+m) cap') w'∧w'.ownsRow B e size (.slice (some ⟨g',0,none⟩) (n+m) cap') (n+m) (xs++news)∧Below B w w'∧w.grownBy w' (some g):=by
 obtain⟨i,z,ht,hi,hz,h1,h8,hzs,hsz⟩:=K;have hbg:B≤g:=by
  rcases hown.2 with ⟨h0,_⟩ | ⟨g2,cap2,cur,h0,hbg,_⟩
  · cases h0
  · cases h0;exact hbg
 rcases hy with ⟨ad,c,rfl,hc⟩ | ⟨c,rfl,rfl⟩
 · obtain⟨v',w',hr,ho,hg,hnil⟩:=run_append_own_wide w B t ty e i z size bytes ht hi hz h1 h8 hzs hsz _ n xs hown ad m c news hl hc hone h63 hb hB;have hb:=(Below.refl B w).grown hg hB (by intro k hk;cases hk;exact hbg);rcases ho.2 with ⟨h0,_⟩ | ⟨g2,cap2,cur,rfl,_⟩
   · have:=(hnil.1 h0).1
     cases this
   · exact⟨g2,cap2,w',hr,ho,hb,hg⟩
 · have:news=[]:=List.eq_nil_of_length_eq_zero (by rw[hl,Nat.zero_mul]);subst this;rcases hown.2 with ⟨h0,_⟩ | ⟨g2,cap2,cur,h0,_,hg,hnc,_⟩
   · cases h0
   · cases h0
     have hr:=run_append_room_src w t t ty e i ht hi g 0 n cap (.slice none 0 c) 0 [] (Src.ofNil w ht c) (by omega) (by intro j hj;simp at hj) (by intro j hj;simp at hj);exact⟨_,_,_,hr,by simpa [World.setCells] using hown,Below.refl B w,World.grownBy.refl _ _⟩
theorem ja0 {t e:TypeId} {size bytes:Nat} (Kd:Kind t e size bytes) {o:Oper} {a:Act} {K:Act→World→Prop} {Q:Exit→Act→World→Prop} (s x:Operand) (w:World)
 (ho:o.op=.call { callee:=.builtin .append,args:=#[s,x],argTypes:=#[t,t] })
 (B:Nat) (hB:B≤w.heap.size) (g n cap:Nat) (xs:List Value) (hs:a.eval s=.slice (some ⟨g,0,none⟩) n cap) (hown:w.ownsRow B e size (.slice (some ⟨g,0,none⟩) n cap) n xs) (y:Value) (m:Nat) (news:List Value) (hx:a.eval x=y) (hl:news.length=m*size) (hone:∀u ∈ news,u.oneCell'=true) (hy:ZU w y m news)
 (h63:n+m≤maxLen) (hb:((n+m)+(n+m) / 4+192)*bytes≤281474976710656)
 (h:∀g' cap' w',w'.ownsRow B e size (.slice (some ⟨g',0,none⟩) (n+m) cap') (n+m) (xs++news)→Below B w w'→w.grownBy w' (some g)→K (a.put o.dst (.slice (some ⟨g',0,none⟩) (n+m) cap')) w'):o.wp Tryz.prog a w K Q:=by
 obtain⟨g',cap',w',hr,h2,h3,h4⟩:=jah Kd w B hB g n cap xs hown y m news hl hone hy h63 hb o.type;unfold Oper.wp execOp;simp only[ho,resolve,invoke,builtin,Sem.run_bind,Sem.run_pure,Result.andThen_ok,List.map_toArray,List.map_cons,List.map_nil,hs,hx,hr];exact h g' cap' w' h2 h3 h4
theorem j0 {t e:TypeId} {size bytes:Nat} (Kd:Kind t e size bytes) {ops:Array Oper} {rest:List Oper} {o:Oper} {a:Act} {Q:Exit→Act→World→Prop} (w:World) (hgd:o.guard=none) (s x:Operand)
 (ho:o.op=.call { callee:=.builtin .append,args:=#[s,x],argTypes:=#[t,t] })
 (B:Nat) (hB:B≤w.heap.size) (g n cap:Nat) (xs:List Value) (hs:a.eval s=.slice (some ⟨g,0,none⟩) n cap) (hown:w.ownsRow B e size (.slice (some ⟨g,0,none⟩) n cap) n xs) (y:Value) (m:Nat) (news:List Value) (hx:a.eval x=y) (hl:news.length=m*size) (hone:∀u ∈ news,u.oneCell'=true) (hy:ZU w y m news)
 (h63:n+m≤maxLen) (hb:((n+m)+(n+m) / 4+192)*bytes≤281474976710656)
 (h:∀g' cap' w',w'.ownsRow B e size (.slice (some ⟨g',0,none⟩) (n+m) cap') (n+m) (xs++news)→Below B w w'→w.grownBy w' (some g)→wpList Tryz.prog ops Q rest (a.put o.dst (.slice (some ⟨g',0,none⟩) (n+m) cap')) w'):wpList Tryz.prog ops Q (o::rest) a w :=
 wpList_plain hgd fun _ hK=>ja0 Kd s x w ho B hB g n cap xs hs hown y m news hx hl hone hy h63 hb fun g' cap' w' h2 h3 h4=>hK _ _ (h g' cap' w' h2 h3 h4)
theorem zw (w:World) (B size:Nat) (e:TypeId) (hB:B≤w.heap.size):(w.alloc (.cells #[] e)).ownsRow B e size (.slice (some ⟨w.heap.size,0,none⟩) 0 0) 0 [] :=
 ⟨by simp,.inr ⟨w.heap.size,0,#[],rfl,hB,World.alloc_heap_new w _,by omega,by unfold maxLen;omega,by simp,by simp⟩⟩
theorem ZK {α:Type} (L:Lay α):∀(l:List α) (j:Nat) (u:Value),(jc L l)[j]?=some u→∃i x k,l[i]?=some x∧(L.cs x)[k]?=some u∧j=i*L.m+k
 | [],j,u,h=>by simp[jc] at h
 | y::t,j,u,h=>by
  unfold jc at h;rw[List.flatMap_cons] at h;by_cases hj:j<L.m
  · rw[List.getElem?_append_left (by rw[L.len];exact hj)] at h;exact⟨0,y,j,rfl,h,by omega⟩
  · rw[List.getElem?_append_right (by rw[L.len];omega),L.len] at h;obtain⟨i,x,k,h1,h2,h3⟩:=ZK L t (j-L.m) u h;exact⟨i+1,x,k,by simpa using h1,h2,by rw[Nat.add_mul];omega⟩
theorem jh.src {α:Type} {L:Lay α} {w:World} {a:Option Addr} {len cap:Nat} {l:List α} (h:jh L w a len l):ZU w (.slice a len cap) len (jc L l):=by
 obtain⟨h0,h1,h2,h3⟩:=h;rcases h3 with h3 | ⟨b,off,rfl,hb,hc⟩
 · have hl:l=[]:=List.eq_nil_of_length_eq_zero (by omega);subst hl;subst h3
   cases a with
   | none=>exact .inr ⟨cap,rfl,rfl⟩
   | some ad=>exact .inl ⟨ad,cap,rfl,fun j u hu=>by simp[jc] at hu⟩
 · refine .inl ⟨_,cap,rfl,fun j u hu=>?_⟩;obtain⟨i,x,k,hi,hk,rfl⟩:=ZK L l j u hu;have e:(⟨b,off,none⟩:Addr).add (i*L.m+k)=⟨b,off+i*L.m+k,none⟩:=by
    unfold Addr.add;split<;>simp_all [Nat.add_assoc]
   rw[e];exact hc i x k u hi hk
theorem jef:Kind 34 119 2 32:=by
 obtain⟨i,hi,hz,h1,h2⟩:=info_parts (show (Tryz.prog.info? 119).map (fun i=>(i.zero,i.size,i.bytes))=some (some (.agg #[.string ByteArray.empty,.string ByteArray.empty]),2,32) by kernel_rfl);exact⟨i,_,Tryz.underlying34,hi,hz,h1,h2,rfl,by decide⟩
theorem jeo:Kind 66 85 3 40:=by
 obtain⟨i,hi,hz,h1,h2⟩:=info_parts (show (Tryz.prog.info? 85).map (fun i=>(i.zero,i.size,i.bytes))=some (some (.agg #[.string ByteArray.empty,.string ByteArray.empty,.bool false]),3,40) by kernel_rfl);exact⟨i,_,Tryz.underlying66,hi,hz,h1,h2,rfl,by decide⟩
theorem jeq:Kind 32 121 2 24:=by
 obtain⟨i,hi,hz,h1,h2⟩:=info_parts (show (Tryz.prog.info? 121).map (fun i=>(i.zero,i.size,i.bytes))=some (some (.agg #[.string ByteArray.empty,.int .i64 0]),2,24) by kernel_rfl);exact⟨i,_,Tryz.underlying32,hi,hz,h1,h2,rfl,by decide⟩
theorem Xa:∀(l:Vec.V) (j:Nat) (u:Value),(Vec.cellsOf l)[j]?=some u→∃i,i<l.length∧((j=i*2∧u=.string (Vec.nm l i))∨(j=i*2+1∧u=.int .i64 (Vec.qn l i))):=by
 intro l j u h;have hlt:j<l.length*2:=by have:=(List.getElem?_eq_some_iff.1 h).1;rw[Vec.JF] at this;exact this
 have hi:j / 2<l.length:=by omega
 obtain⟨h1,h2⟩:=Vec.ZB l (j / 2) hi;refine⟨j / 2,hi,?_⟩;by_cases he:j % 2=0
 · have e:j=j / 2*2:=by omega
   rw[←e] at h1;rw[h1] at h;exact .inl ⟨e,by cases h;rfl⟩
 · have e:j=j / 2*2+1:=by omega
   rw[←e] at h2;rw[h2] at h;exact .inr ⟨e,by cases h;rfl⟩
theorem jdH {w:World} {a:Option Addr} {len cap:Nat} {l:Vec.V} (h:Vec.jw w a len l):ZU w (.slice a len cap) len (Vec.cellsOf l):=by
 obtain⟨h0,h1,h2,h3⟩:=h;rcases h3 with h3 | ⟨b,off,rfl,hb,hc⟩
 · have hl:l=[]:=List.eq_nil_of_length_eq_zero (by omega);subst hl;subst h3
   cases a with
   | none=>exact .inr ⟨cap,rfl,rfl⟩
   | some ad=>exact .inl ⟨ad,cap,rfl,fun j u hu=>by simp[Vec.cellsOf] at hu⟩
 · refine .inl ⟨_,cap,rfl,fun j u hu=>?_⟩;obtain⟨i,hi,hj⟩:=Xa l j u hu;obtain⟨c1,c2⟩:=hc i (by omega);have e:(⟨b,off,none⟩:Addr).add j=⟨b,off+j,none⟩:=by
    unfold Addr.add;split<;>simp_all
   rw[e];rcases hj with ⟨rfl,rfl⟩ | ⟨rfl,rfl⟩
   · exact c1
   · rw[←Nat.add_assoc];exact c2
theorem YM (a:Option Addr) (len cap:Nat) (l:PL) (w:World) (hr:jh jm w a len l) (hc:len≤cap) (hm:cap≤maxLen) (hn:len≤1000000) :
 Calls Tryz.prog 108 #[.slice a len cap] w fun e w'=>∃a' m' c',e=.returned (.slice a' m' c')∧Reads jm w' (.slice a' m' c') l∧(∀b off sp,a'=some ⟨b,off,sp⟩→w.heap.size≤b)∧Kept w w':=by
 have hl:=hr.1;have q22:∀(w:World) (a:Option Addr) (n c n' c':Nat),(binOp .eql 34 (.slice a n c) (.slice none n' c')).run Tryz.prog w=.ok (.bool a.isNone) w:=fun w a n c n' c'=>Lib.run_eql_slice_nil w _ _ a n c n' c' Tryz.underlying34
 cases a with
 | none =>
  have h0:len=0:=by
   rcases hr.form with h | ⟨b,off,h⟩
   · exact h
   · cases h
  subst h0;have hl0:l=[]:=List.eq_nil_of_length_eq_zero hl;subst hl0;clear hr hl;go_enter Tryz.func108,Tryz.ntmps108;go_wp2;go_ret;exact⟨none,0,0,rfl,Reads.nil _,(fun b o s e=>by cases e),Kept.refl _⟩
 | some ad =>
  have HR:=lH hr;have HL:=lH hl;have hrl:(jc jm l).length=len*2:=by rw[jE,hl];rfl
  have hb1:0+len≤maxLen:=by unfold maxLen;omega
  have hb2:((0+len)+(0+len) / 4+192)*32≤281474976710656:=by omega
  clear hr hl;go_enter Tryz.func108,Tryz.ntmps108;go_wp2_with (at_builtin;refine j0 jef _ rfl (.tmp 5) (.tmp 6) rfl w.heap.size (by simp) w.heap.size 0 0 [] rfl (zw w w.heap.size 2 _ (Nat.le_refl _)) _ len (jc jm l) rfl hrl (j6 _ _) (jh.src (HR.out.kept (ja _ _))) hb1 hb2 ?_;intro g1 k1 W1 ho hd hg;have HO:=lH ho;have HD:=lH hd;clear ho hd hg;refine Hid.out ?_)
  refine lH ?_;simp only[Nat.zero_add,List.nil_append] at HO ⊢;go_wp2;go_ret;exact⟨_,_,_,rfl,Own.reads (⟨by rw[HL.out];exact HO.out,HR.out.2.2.1⟩:Own jm 119 W1 w.heap.size (.slice (some ⟨g1,0,none⟩) len k1) l),(fun b o s e=>by cases e;exact(HO.out.lt g1 rfl).1),Below.trans (ja w _) HD.out⟩
theorem jbk (a:Option Addr) (len cap:Nat) (l:NL) (w:World) (hr:jh jk w a len l) (hc:len≤cap) (hm:cap≤maxLen) (hn:len≤1000000) :
 Calls Tryz.prog 109 #[.slice a len cap] w fun e w'=>∃a' m' c',e=.returned (.slice a' m' c')∧Reads jk w' (.slice a' m' c') l∧(∀b off sp,a'=some ⟨b,off,sp⟩→w.heap.size≤b)∧Kept w w':=by
 have hl:=hr.1;have q22:∀(w:World) (a:Option Addr) (n c n' c':Nat),(binOp .eql 66 (.slice a n c) (.slice none n' c')).run Tryz.prog w=.ok (.bool a.isNone) w:=fun w a n c n' c'=>Lib.run_eql_slice_nil w _ _ a n c n' c' Tryz.underlying66
 cases a with
 | none =>
  have h0:len=0:=by
   rcases hr.form with h | ⟨b,off,h⟩
   · exact h
   · cases h
  subst h0;have hl0:l=[]:=List.eq_nil_of_length_eq_zero hl;subst hl0;clear hr hl;go_enter Tryz.func109,Tryz.ntmps109;go_wp2;go_ret;exact⟨none,0,0,rfl,Reads.nil _,(fun b o s e=>by cases e),Kept.refl _⟩
 | some ad =>
  have HR:=lH hr;have HL:=lH hl;have hrl:(jc jk l).length=len*3:=by rw[jE,hl];rfl
  have hb1:0+len≤maxLen:=by unfold maxLen;omega
  have hb2:((0+len)+(0+len) / 4+192)*40≤281474976710656:=by omega
  clear hr hl;go_enter Tryz.func109,Tryz.ntmps109;go_wp2_with (at_builtin;refine j0 jeo _ rfl (.tmp 5) (.tmp 6) rfl w.heap.size (by simp) w.heap.size 0 0 [] rfl (zw w w.heap.size 3 _ (Nat.le_refl _)) _ len (jc jk l) rfl hrl (j6 _ _) (jh.src (HR.out.kept (ja _ _))) hb1 hb2 ?_;intro g1 k1 W1 ho hd hg;have HO:=lH ho;have HD:=lH hd;clear ho hd hg;refine Hid.out ?_)
  refine lH ?_;simp only[Nat.zero_add,List.nil_append] at HO ⊢;go_wp2;go_ret;exact⟨_,_,_,rfl,Own.reads (⟨by rw[HL.out];exact HO.out,HR.out.2.2.1⟩:Own jk 85 W1 w.heap.size (.slice (some ⟨g1,0,none⟩) len k1) l),(fun b o s e=>by cases e;exact(HO.out.lt g1 rfl).1),Below.trans (ja w _) HD.out⟩
theorem YB (a:Option Addr) (len cap:Nat) (l:Vec.V) (w:World) (hr:Vec.jw w a len l) (hc:len≤cap) (hm:cap≤maxLen) (hn:len≤1000000) :
 Calls Tryz.prog 107 #[.slice a len cap] w fun e w'=>∃a' m' c',e=.returned (.slice a' m' c')∧Vec.Reads w' (.slice a' m' c') l∧(∀b off sp,a'=some ⟨b,off,sp⟩→w.heap.size≤b)∧Kept w w':=by
 have hl:=hr.1;have q22:∀(w:World) (a:Option Addr) (n c n' c':Nat),(binOp .eql 32 (.slice a n c) (.slice none n' c')).run Tryz.prog w=.ok (.bool a.isNone) w:=fun w a n c n' c'=>Lib.run_eql_slice_nil w _ _ a n c n' c' Tryz.underlying32
 cases a with
 | none =>
  have h0:len=0:=by
   rcases hr.form with h | ⟨b,off,h⟩
   · exact h
   · cases h
  subst h0;have hl0:l=[]:=List.eq_nil_of_length_eq_zero hl;subst hl0;clear hr hl;go_enter Tryz.func107,Tryz.ntmps107;go_wp2;go_ret;exact⟨none,0,0,rfl,Vec.Reads.nil _,(fun b o s e=>by cases e),Kept.refl _⟩
 | some ad =>
  have HR:=lH hr;have HL:=lH hl;have hrl:(Vec.cellsOf l).length=len*2:=by rw[Vec.JF,hl]
  have hb1:0+len≤maxLen:=by unfold maxLen;omega
  have hb2:((0+len)+(0+len) / 4+192)*24≤281474976710656:=by omega
  clear hr hl;go_enter Tryz.func107,Tryz.ntmps107;go_wp2_with (at_builtin;refine j0 jeq _ rfl (.tmp 5) (.tmp 6) rfl w.heap.size (by simp) w.heap.size 0 0 [] rfl (zw w w.heap.size 2 _ (Nat.le_refl _)) _ len (Vec.cellsOf l) rfl hrl (Vec.JK _) (jdH (HR.out.kept (ja _ _))) hb1 hb2 ?_;intro g1 k1 W1 ho hd hg;have HO:=lH ho;have HD:=lH hd;clear ho hd hg;refine Hid.out ?_)
  refine lH ?_;simp only[Nat.zero_add,List.nil_append] at HO ⊢;go_wp2;go_ret;exact⟨_,_,_,rfl,Vec.jT.reads (⟨by rw[HL.out];exact HO.out,HR.out.2.2.1⟩:Vec.jT 121 W1 w.heap.size (.slice (some ⟨g1,0,none⟩) len k1) l),(fun b o s e=>by cases e;exact(HO.out.lt g1 rfl).1),Below.trans (ja w _) HD.out⟩
def jQ (q:Nat) (v0 v1 v2 v3 v4:Value) (W:World):Prop :=
 (W.cell? ⟨q,0,none⟩=some v0∧W.cell? ⟨q,1,none⟩=some v1∧W.cell? ⟨q,2,none⟩=some v2∧W.cell? ⟨q,3,none⟩=some v3∧W.cell? ⟨q,4,none⟩=some v4) ∧
  W.frozen? ⟨q,0,none⟩=false∧W.frozen? ⟨q,1,none⟩=false∧W.frozen? ⟨q,2,none⟩=false∧W.frozen? ⟨q,3,none⟩=false∧W.frozen? ⟨q,4,none⟩=false
theorem jQ.block {q:Nat} {v0 v1 v2 v3 v4:Value} {W W':World} (h:jQ q v0 v1 v2 v3 v4 W) (e:W'.heap[q]?=W.heap[q]?):jQ q v0 v1 v2 v3 v4 W':=by
 have c:∀j,W'.cell? ⟨q,j,none⟩=W.cell? ⟨q,j,none⟩:=fun j=>World.cell?_of_block (a:=⟨q,j,none⟩) e;have f:∀j,W'.frozen? ⟨q,j,none⟩=W.frozen? ⟨q,j,none⟩:=fun j=>World.frozen?_of_block (a:=⟨q,j,none⟩) e;unfold jQ;simp only[c,f];exact h
theorem jQ.kept {q:Nat} {v0 v1 v2 v3 v4:Value} {W W':World} (h:jQ q v0 v1 v2 v3 v4 W) (k:Kept W W'):jQ q v0 v1 v2 v3 v4 W':=h.block (k.block q (World.block_lt_of_cell? _ _ h.1.1))
theorem jQ.other {q p j:Nat} {v0 v1 v2 v3 v4 u:Value} {W:World} (h:jQ q v0 v1 v2 v3 v4 W) (hp:q≠p):jQ q v0 v1 v2 v3 v4 (W.setCell ⟨p,j,none⟩ u):=h.block (Below.heap_setCell W ⟨p,j,none⟩ u q hp)
theorem jQ.set1 {q:Nat} {v0 v1 v2 v3 v4:Value} {W:World} (h:jQ q v0 v1 v2 v3 v4 W) (u:Value):jQ q v0 u v2 v3 v4 (W.setCell ⟨q,1,none⟩ u):=by
 obtain⟨⟨y0,y1,y2,y3,y4⟩,x0,x1,x2,x3,x4⟩:=h;refine⟨⟨?_,?_,?_,?_,?_⟩,?_,?_,?_,?_,?_⟩<;>go_simp
theorem jQ.set2 {q:Nat} {v0 v1 v2 v3 v4:Value} {W:World} (h:jQ q v0 v1 v2 v3 v4 W) (u:Value):jQ q v0 v1 u v3 v4 (W.setCell ⟨q,2,none⟩ u):=by
 obtain⟨⟨y0,y1,y2,y3,y4⟩,x0,x1,x2,x3,x4⟩:=h;refine⟨⟨?_,?_,?_,?_,?_⟩,?_,?_,?_,?_,?_⟩<;>go_simp
theorem jQ.set3 {q:Nat} {v0 v1 v2 v3 v4:Value} {W:World} (h:jQ q v0 v1 v2 v3 v4 W) (u:Value):jQ q v0 v1 v2 u v4 (W.setCell ⟨q,3,none⟩ u):=by
 obtain⟨⟨y0,y1,y2,y3,y4⟩,x0,x1,x2,x3,x4⟩:=h;refine⟨⟨?_,?_,?_,?_,?_⟩,?_,?_,?_,?_,?_⟩<;>go_simp
theorem zH {α:Type} {L:Lay α} {B p j:Nat} {u:Value} {w:World} {a:Option Addr} {m c:Nat} {l:List α} (h:Reads L w (.slice a m c) l) (g:∀b off sp,a=some ⟨b,off,sp⟩→B≤b) (hp:p<B):Reads L (w.setCell ⟨p,j,none⟩ u) (.slice a m c) l :=
 h.far (by simp[World.setCell]) (fun b o s e=>Below.heap_setCell w ⟨p,j,none⟩ u b (show b≠p by have:=g b o s e;omega))
theorem Jf {B p j:Nat} {u:Value} {w:World} {a:Option Addr} {m c:Nat} {l:Vec.V} (h:Vec.Reads w (.slice a m c) l) (g:∀b off sp,a=some ⟨b,off,sp⟩→B≤b) (hp:p<B):Vec.Reads (w.setCell ⟨p,j,none⟩ u) (.slice a m c) l :=
 h.far (by simp[World.setCell]) (fun b o s e=>Below.heap_setCell w ⟨p,j,none⟩ u b (show b≠p by have:=g b o s e;omega))
structure J6 (n:Nod):Prop where
 cap:n.cap.length≤1000000
 labels:n.labels.length≤1000000
 taints:n.taints.length≤1000000
def jo (w:World) (a:Option Addr) (len:Nat) (l:List Nod):Prop :=
 l.length=len∧len≤maxLen∧(len=0∨∃b off,a=some ⟨b,off,none⟩∧b<w.heap.size∧∀i n,l[i]?=some n→∃a1 m1 c1 a2 m2 c2 a3 m3 c3,
  w.cell? ⟨b,off+i*5,none⟩=some (.string n.name)∧w.cell? ⟨b,off+i*5+1,none⟩=some (.slice a1 m1 c1)∧w.cell? ⟨b,off+i*5+2,none⟩=some (.slice a2 m2 c2)∧w.cell? ⟨b,off+i*5+3,none⟩=some (.slice a3 m3 c3)∧w.cell? ⟨b,off+i*5+4,none⟩=some (.bool n.cordon) ∧
  j2 w (.slice a1 m1 c1) (.slice a2 m2 c2) (.slice a3 m3 c3) n)
theorem jo.kept {w w':World} {a:Option Addr} {len:Nat} {l:List Nod} (h:jo w a len l) (k:Kept w w'):jo w' a len l:=by
 obtain⟨h0,h1,h2⟩:=h;refine⟨h0,h1,h2.imp id ?_⟩;rintro ⟨b,off,rfl,hb,hc⟩;refine⟨b,off,rfl,Nat.lt_of_lt_of_le hb k.size,fun i n hi=>?_⟩;obtain⟨a1,m1,c1,a2,m2,c2,a3,m3,c3,p0,p1,p2,p3,p4,hn⟩:=hc i n hi;exact⟨a1,m1,c1,a2,m2,c2,a3,m3,c3,cell_later k p0,cell_later k p1,cell_later k p2,cell_later k p3,cell_later k p4,hn.kept k⟩
theorem jo.form {w:World} {a:Option Addr} {len:Nat} {l:List Nod} (h:jo w a len l):len=0∨∃b off,a=some ⟨b,off,none⟩:=by
 obtain⟨_,_,h2⟩:=h;exact h2.imp id fun ⟨b,off,e,_⟩=>⟨b,off,e⟩
theorem jo.at_ {w:World} {b off len:Nat} {l:List Nod} {k:Nat} (h:jo w (some ⟨b,off,none⟩) len l) (hk:k<len):∃n a1 m1 c1 a2 m2 c2 a3 m3 c3,l[k]?=some n∧l.drop k=n::l.drop (k+1)∧b<w.heap.size ∧
 w.cell? ⟨b,off+k*5,none⟩=some (.string n.name)∧w.cell? ⟨b,off+k*5+1,none⟩=some (.slice a1 m1 c1)∧w.cell? ⟨b,off+k*5+2,none⟩=some (.slice a2 m2 c2)∧w.cell? ⟨b,off+k*5+3,none⟩=some (.slice a3 m3 c3)∧w.cell? ⟨b,off+k*5+4,none⟩=some (.bool n.cordon) ∧
 j2 w (.slice a1 m1 c1) (.slice a2 m2 c2) (.slice a3 m3 c3) n:=by
 obtain⟨h0,_,h3⟩:=h;have hkl:k<l.length:=by omega
 rcases h3 with h3 | ⟨b',off',e,hb,hc⟩
 · omega
 · injection e with e;injection e with e1 e2 e3;subst e1;subst e2;have he:l[k]?=some l[k]:=List.getElem?_eq_getElem hkl;obtain⟨a1,m1,c1,a2,m2,c2,a3,m3,c3,r⟩:=hc k _ he;exact⟨l[k],a1,m1,c1,a2,m2,c2,a3,m3,c3,he,List.drop_eq_getElem_cons hkl,hb,r⟩
def j4 (w:World) (v:Value) (l:List Nod):Prop:=∃a cap,v=.slice a l.length cap∧l.length≤cap∧cap≤maxLen∧jo w a l.length l
theorem j4.kept {w w':World} {v:Value} {l:List Nod} (h:j4 w v l) (k:Kept w w'):j4 w' v l:=by
 obtain⟨a,cap,e,h1,h2,h3⟩:=h;exact⟨a,cap,e,h1,h2,h3.kept k⟩
structure ji (q:Nat) (vs:List Value) (W:World):Prop where
 at_:∀i v,vs[i]?=some v→W.cell? ⟨q,i,none⟩=some v
 free:∀i,W.frozen? ⟨q,i,none⟩=false
theorem ji.block {q:Nat} {vs:List Value} {W W':World} (h:ji q vs W) (e:W'.heap[q]?=W.heap[q]?):ji q vs W' :=
 ⟨fun i v hv=>(World.cell?_of_block (a:=⟨q,i,none⟩) e).trans (h.at_ i v hv),fun i=>(World.frozen?_of_block (a:=⟨q,i,none⟩) e).trans (h.free i)⟩
theorem ji.lt {q:Nat} {v:Value} {vs:List Value} {W:World} (h:ji q (v::vs) W):q<W.heap.size:=World.block_lt_of_cell? _ _ (h.at_ 0 v rfl)
theorem ji.kept {q:Nat} {v:Value} {vs:List Value} {W W':World} (h:ji q (v::vs) W) (k:Kept W W'):ji q (v::vs) W':=h.block (k.block q h.lt)
theorem ji.other {q p j:Nat} {u:Value} {vs:List Value} {W:World} (h:ji q vs W) (hp:q≠p):ji q vs (W.setCell ⟨p,j,none⟩ u):=h.block (Below.heap_setCell W ⟨p,j,none⟩ u q hp)
theorem je (w:World) (v:Value) (vs:List Value) (T:TypeId) (W:World) (k:Kept (w.alloc (.cells (v::vs).toArray T)) W):ji w.heap.size (v::vs) W:=by
 have hh:=w.alloc_heap_new (.cells (v::vs).toArray T);have h:ji w.heap.size (v::vs) (w.alloc (.cells (v::vs).toArray T)):=⟨fun i u hu=>by rw[Lib.cell_of_heap hh];simpa using hu,fun i=>by
  unfold World.frozen?;rw[show (w.alloc (.cells (v::vs).toArray T)).heap[(⟨w.heap.size,i,none⟩:Addr).block]?=some (.cells (v::vs).toArray T) from hh];simp⟩
 exact h.kept k
theorem ji.set {q j:Nat} {u:Value} {vs:List Value} {W:World} (h:ji q vs W) (hj:j<vs.length):ji q (vs.set j u) (W.setCell ⟨q,j,none⟩ u):=by
 refine⟨fun i v hv=>?_,fun i=>by rw[World.frozen?_setCell];exact h.free i⟩;by_cases e:j=i
 · subst e;have hv':v=u:=by rw[List.getElem?_set_self hj] at hv;exact(Option.some.inj hv).symm
   subst hv';exact World.cell?_setCell_same _ _ _ (h.at_ j _ (List.getElem?_eq_getElem hj))
 · rw[List.getElem?_set_ne e] at hv;rw[World.cell?_setCell_other _ _ _ _ (by simp)];exact h.at_ i v hv
theorem ZI (q:Nat):∀(vs:List Value) (o:Nat) (W:World),(W.setCells q o vs).heap.size=W.heap.size
 | [],_,_=>rfl
 | v::r,o,W=>by rw[World.setCells,ZI q r];simp[World.setCell]
theorem zT (q:Nat):∀(vs:List Value) (o:Nat) (W:World) (b:Nat),b≠q→(W.setCells q o vs).heap[b]?=W.heap[b]?
 | [],_,_,_,_=>rfl
 | v::r,o,W,b,h=>by rw[World.setCells,zT q r _ _ b h];exact Below.heap_setCell W ⟨q,o,none⟩ v b h
theorem zt (q:Nat):∀(vs:List Value) (o:Nat) (W:World) (B:Nat) (w:World),B≤q→Below B w W→Below B w (W.setCells q o vs)
 | [],_,_,_,_,_,k=>k
 | v::r,o,W,B,w,h,k=>by rw[World.setCells];exact zt q r _ _ B w h (k.setCell (p:=⟨q,o,none⟩) h _)
structure jey (q:Nat) (vs:List Value) (W W':World):Prop where
 cells:ji q vs W'
 size:W'.heap.size=W.heap.size
 far:∀b,b≠q→W'.heap[b]?=W.heap[b]?
 below:∀B w,B≤q→Below B w W→Below B w W'
theorem JP {q:Nat} {us vs:List Value} {W:World} (h:ji q us W) (hl:us.length=vs.length):jey q vs W (W.setCells q 0 vs):=by
 refine⟨⟨fun i v hv=>?_,fun i=>by rw[World.frozen?_setCells];exact h.free i⟩,ZI q vs 0 W,fun b hb=>zT q vs 0 W b hb,fun B w hB k=>zt q vs 0 W B w hB k⟩;have hi:i<vs.length:=(List.getElem?_eq_some_iff.1 hv).1;have:=World.cell?_setCells_in q vs 0 W (fun j hj=>by rw[Nat.zero_add,h.at_ j _ (List.getElem?_eq_getElem (by omega))];rfl) i hi;rw[Nat.zero_add] at this;rw[this];obtain⟨_,e⟩:=List.getElem?_eq_some_iff.1 hv;rw[e]
def j1 (l:List Nod) (x:ByteArray):Option Nod:=l.find? fun n=>eqS n.name x
def jU:Option ByteArray→List Nod→Int
 | _,[]=>0
 | prev,n::t=>if j8 n≠0 then j8 n else if Vec.jn prev n.name=true then 13 else jU (some n.name) t
def jI (l:List Nod):Int:=if 32<l.length then 4 else jU none l
def JU (l:List Nod) (k:Nat):Option ByteArray:=if k=0 then none else (l[k-1]?).map Nod.name
theorem ja3 {l:List Nod} {k:Nat} (h:k=0) (s:ByteArray):Vec.jn (JU l k) s=false:=by unfold JU;rw[if_pos h];rfl
theorem jbb {l:List Nod} {k:Nat} {n:Nod} (h:¬k=0) (hn:l[k-1]?=some n) (s:ByteArray):Vec.jn (JU l k) s=leS s n.name:=by unfold JU;rw[if_neg h,hn];rfl
theorem jaM {l:List Nod} {k:Nat} {n:Nod} (hn:l[k]?=some n):JU l (k+1)=some n.name:=by unfold JU;rw[if_neg (by omega),Nat.add_sub_cancel,hn];rfl
theorem qf {p:Option ByteArray} {n:Nod} {t:List Nod} (h:j8 n≠0):jU p (n::t)=j8 n:=by rw[jU,if_pos h]
theorem YV {p:Option ByteArray} {n:Nod} {t:List Nod} (h:j8 n=0) (b:Vec.jn p n.name=true):jU p (n::t)=13:=by rw[jU,if_neg (by rw[h];decide),if_pos b]
theorem ZX {p:Option ByteArray} {n:Nod} {t:List Nod} (h:j8 n=0) (b:Vec.jn p n.name=false):jU p (n::t)=jU (some n.name) t:=by rw[jU,if_neg (by rw[h];decide),if_neg (by rw[b];decide)]
theorem XB (a:Option Addr) (len cap:Nat) (l:List Nod) (w:World) (hr:jo w a len l) :
 Calls Tryz.prog 66 #[.slice a len cap] w (Say (.int .i64 (jI l)) w):=by
 have hl:=hr.1;have hm:=hr.2.1;unfold maxLen at hm;by_cases h32:32<len
 · have HV:=lH (show jI l=4 by unfold jI;rw[if_pos (by omega)]);clear hr hl;go_enter Tryz.func66,Tryz.ntmps66;go_wp2;go_ret;exact⟨jb HV.out.symm,Kept.refl _⟩
 · have HV:=lH (show jI l=jU none l by unfold jI;rw[if_neg (by omega)]);have h32':len≤32:=by omega
   by_cases h0:len=0
   · subst h0;have HE:=lH (show jI l=0 by rw[HV.out,List.eq_nil_of_length_eq_zero hl];rfl);clear hr hl h32;go_enter Tryz.func66,Tryz.ntmps66;go_wp2;refine wp_loop_rounds 1 ?_;rw[rounds_succ];go_wp2;go_ret;exact⟨jb HE.out.symm,Kept.refl _⟩
   · obtain⟨b,off,rfl⟩:=hr.form.resolve_left h0;have HR:=lH hr;have HL:=lH hl;clear hr hl h0 h32;go_enter Tryz.func66,Tryz.ntmps66;go_wp2;go_loopw [3] (fun i wr=>∃k:Nat,k≤len∧i=.int .i64 k∧jU (JU l k) (l.drop k)=jU none l∧Kept w wr) (fun i _=>len-(intOf i).toNat)
     case atStart=>exact⟨0,Nat.zero_le _,rfl,rfl,Kept.refl _⟩
     case round =>
      obtain⟨k,hk,rfl,hrest,hK⟩:=hrel;have HS:=lH (HV.out.trans hrest.symm);have HT:=lH hrest;have HK:=lH hK;by_cases hlt:k<len
      · obtain⟨n,a1,m1,c1,a2,m2,c2,a3,m3,c3,hn,hd,hb,p0,p1,p2,p3,p4,hat⟩:=(HR.out.kept hK).at_ hlt;have HAT:=lH hat;have HD:=lH hd;have HNX:=lH (jaM hn);have HCK:=lH (fun W (kk:Kept wr W)=>qV n (.slice a1 m1 c1) (.slice a2 m2 c2) (.slice a3 m3 c3) W (HAT.out.kept kk));unfold Ja at HCK;obtain⟨ck,hck⟩:∃x,j8 n=x:=⟨_,rfl⟩
        have HCN:=lH hck;rw[hck] at HCK;have hkk:(k:Int)<(len:Int):=by omega
        clear hrest hK hat hd hck;by_cases z1:ck=0
        · subst z1;by_cases h0:k=0
          · have hd0:decide (0<k)=false:=by subst h0;decide
            have HP:=lH (ja3 (l:=l) h0 n.name);clear h0;go_wp2_with fail
            refine(HCK.out _ (Kept.refl _)).mono ?_;rintro e w1 ⟨rfl,kk⟩;have KW:=lH kk;clear kk;go_wp2;go_quiet (fail)
            go_wp2;go_roundw
            case rel=>exact⟨k+1,by omega,by go_num,(show jU (JU l (k+1)) (l.drop (k+1))=jU none l by rw[←HT.out,HD.out,ZX HCN.out HP.out,HNX.out]),HK.out.trans (KW.out.trans (Kept.drewN _ _))⟩
            case measure=>simp[intOf];omega
          · have hd0:decide (0<k)=true:=by simp;omega
            have g1:0≤(k:Int)-1:=by omega
            have g2:(k:Int)-1<(len:Int):=by omega
            have g3:((k:Int)-1).toNat=k-1:=by omega
            obtain⟨n9,_,_,_,_,_,_,_,_,_,hn9,-,hb9,o0,-⟩:=(HR.out.kept HK.out).at_ (show k-1<len by omega);have HP:=lH (jbb (l:=l) h0 hn9 n.name);clear h0 hn9;by_cases n3:leS n.name n9.name=true
            · have n3':(Op.bytesLess n.name.toList n9.name.toList||n.name.toList==n9.name.toList)=true:=n3;have N3:=lH n3;clear n3;go_wp2_with fail
              refine(HCK.out _ (Kept.refl _)).mono ?_;rintro e w1 ⟨rfl,kk⟩;have KW:=lH kk;have o1:=cell_later kk o0;have p9:=cell_later kk p0;clear kk;go_wp2;go_quiet (fail)
              go_wp2;go_ret;exact⟨jb (show (13:Int)=jI l by rw[HS.out,HD.out,YV HCN.out (HP.out.trans N3.out)]),HK.out.trans (KW.out.trans (Kept.drewN _ _))⟩
            · have n3:leS n.name n9.name=false:=by simpa using n3
              have n3':(Op.bytesLess n.name.toList n9.name.toList||n.name.toList==n9.name.toList)=false:=n3;have N3:=lH n3;clear n3;go_wp2_with fail
              refine(HCK.out _ (Kept.refl _)).mono ?_;rintro e w1 ⟨rfl,kk⟩;have KW:=lH kk;have o1:=cell_later kk o0;have p9:=cell_later kk p0;clear kk;go_wp2;go_quiet (fail)
              go_wp2;go_roundw
              case rel=>exact⟨k+1,by omega,by go_num,(show jU (JU l (k+1)) (l.drop (k+1))=jU none l by rw[←HT.out,HD.out,ZX HCN.out (HP.out.trans N3.out),HNX.out]),HK.out.trans (KW.out.trans (Kept.drewN _ _))⟩
              case measure=>simp[intOf];omega
        · have z1':(ck != 0)=true:=by simpa using z1
          have HB:=lH (show jI l=ck by rw[HS.out,HD.out,qf (by rw[HCN.out];exact z1),HCN.out]);clear z1;go_wp2_with fail
          refine(HCK.out _ (Kept.refl _)).mono ?_;rintro e w1 ⟨rfl,kk⟩;have KW:=lH kk;clear kk;go_wp2;go_ret;exact⟨jb HB.out.symm,HK.out.trans KW.out⟩
      · have HE:=lH (show jI l=0 by rw[HS.out,List.drop_of_length_le (by rw[HL.out];omega)];rfl);clear hrest hK;go_wp2;go_ret;exact⟨jb HE.out.symm,HK.out⟩
theorem jaV {v:Value} {l:List Nod} {c:Int} {w:World} (h:j4 w v l) (hc:jI l=c):Calls Tryz.prog 66 #[v] w (Say (.int .i64 c) w):=by
 subst hc;obtain⟨a,cap,rfl,_,_,hr⟩:=h;exact XB a _ cap l w hr
def zb (x:NT):Bool:=decide (x.1.size≤50)&&decide (x.2.1.size≤50)
def zq (l:NL):Bool:=decide (l.length≤20)&&l.all zb
theorem jcC (a:Option Addr) (len cap:Nat) (l:NL) (w:World) (hr:jh jk w a len l) :
 Calls Tryz.prog 99 #[.slice a len cap] w fun e w'=>e=.returned (.bool (zq l))∧w=w':=by
 have hl:=hr.1;have hm:=hr.2.1;unfold maxLen at hm;by_cases h20:len≤20
 · have HV:=lH (show zq l=l.all zb by unfold zq;rw[decide_eq_true (by omega)];rfl);rcases hr.form with h0 | ⟨b,off,rfl⟩
   · subst h0;have HE:=lH (show zq l=true by rw[HV.out,List.eq_nil_of_length_eq_zero hl];rfl);clear hr hl;go_enter Tryz.func99,Tryz.ntmps99;go_wp2;refine wp_loop_rounds 1 ?_;rw[rounds_succ];go_wp2;go_ret;exact⟨jd HE.out.symm,rfl⟩
   · have HR:=lH hr;have HL:=lH hl;clear hr hl;go_enter Tryz.func99,Tryz.ntmps99;go_wp2;go_loop [3] (fun i=>∃k:Nat,k≤len∧i=.int .i64 k∧(l.drop k).all zb=l.all zb) (fun i=>len-(intOf i).toNat)
     case atStart=>exact⟨0,Nat.zero_le _,rfl,rfl⟩
     case round =>
      obtain⟨k,hk,rfl,hrest⟩:=hrel;by_cases hlt:k<len
      · obtain⟨x,y,m,hx,hd,hb,hz,hz2,c1,c2,c3⟩:=HR.out.tri hlt;have HT:=lH (hrest.symm.trans ((congrArg (fun z=>z.all zb) hd).trans (all_cons _ _ _)));clear hrest hx hd;unfold maxLen at hz hz2;by_cases e:x.size≤50
        · by_cases e2:y.size≤50
          · have E:=lH (show zb (x,y,m)=true by unfold zb;rw[decide_eq_true e,decide_eq_true e2];rfl);go_wp2;go_round
            case rel=>exact⟨k+1,by omega,by go_num,(HT.out.trans (by rw[E.out];exact Bool.true_and _)).symm⟩
            case measure=>simp[intOf];omega
          · have E:=lH (show zb (x,y,m)=false by unfold zb;rw[decide_eq_false e2];exact Bool.and_false _);have e2':50<y.size:=by omega
            clear e2;go_wp2;go_ret;exact⟨jd (HV.out.trans (HT.out.trans (by rw[E.out];exact Bool.false_and _))).symm,rfl⟩
        · have E:=lH (show zb (x,y,m)=false by unfold zb;rw[decide_eq_false e];exact Bool.false_and _);have e':50<x.size:=by omega
          clear e;go_wp2;go_ret;exact⟨jd (HV.out.trans (HT.out.trans (by rw[E.out];exact Bool.false_and _))).symm,rfl⟩
      · have HS:=lH ((HV.out.trans hrest.symm).trans (congrArg (fun z=>z.all zb) (zA (by rw[HL.out];exact hlt))));clear hrest;go_wp2;go_ret;exact⟨jd (HS.out.trans rfl).symm,rfl⟩
 · have HV:=lH (show zq l=false by unfold zq;rw[decide_eq_false (by omega)];rfl);have h9:20<len:=by omega
   clear h20 hr hl;go_enter Tryz.func99,Tryz.ntmps99;go_wp2;go_ret;exact⟨jd HV.out.symm,rfl⟩
theorem jcH (a:Option Addr) (len cap:Nat) (l:NL) (w:World) (hr:jh jk w a len l) :
 Calls Tryz.prog 39 #[.slice a len cap] w fun e w'=>e=.returned (.bool (zq l))∧w=w':=by
 have hl:=hr.1;have hm:=hr.2.1;unfold maxLen at hm;by_cases h20:len≤20
 · have HV:=lH (show zq l=l.all zb by unfold zq;rw[decide_eq_true (by omega)];rfl);rcases hr.form with h0 | ⟨b,off,rfl⟩
   · subst h0;have HE:=lH (show zq l=true by rw[HV.out,List.eq_nil_of_length_eq_zero hl];rfl);clear hr hl;go_enter Tryz.func39,Tryz.ntmps39;go_wp2;refine wp_loop_rounds 1 ?_;rw[rounds_succ];go_wp2;go_ret;exact⟨jd HE.out.symm,rfl⟩
   · have HR:=lH hr;have HL:=lH hl;clear hr hl;go_enter Tryz.func39,Tryz.ntmps39;go_wp2;go_loop [3] (fun i=>∃k:Nat,k≤len∧i=.int .i64 k∧(l.drop k).all zb=l.all zb) (fun i=>len-(intOf i).toNat)
     case atStart=>exact⟨0,Nat.zero_le _,rfl,rfl⟩
     case round =>
      obtain⟨k,hk,rfl,hrest⟩:=hrel;by_cases hlt:k<len
      · obtain⟨x,y,m,hx,hd,hb,hz,hz2,c1,c2,c3⟩:=HR.out.tri hlt;have HT:=lH (hrest.symm.trans ((congrArg (fun z=>z.all zb) hd).trans (all_cons _ _ _)));clear hrest hx hd;unfold maxLen at hz hz2;by_cases e:x.size≤50
        · by_cases e2:y.size≤50
          · have E:=lH (show zb (x,y,m)=true by unfold zb;rw[decide_eq_true e,decide_eq_true e2];rfl);go_wp2;go_round
            case rel=>exact⟨k+1,by omega,by go_num,(HT.out.trans (by rw[E.out];exact Bool.true_and _)).symm⟩
            case measure=>simp[intOf];omega
          · have E:=lH (show zb (x,y,m)=false by unfold zb;rw[decide_eq_false e2];exact Bool.and_false _);have e2':50<y.size:=by omega
            clear e2;go_wp2;go_ret;exact⟨jd (HV.out.trans (HT.out.trans (by rw[E.out];exact Bool.false_and _))).symm,rfl⟩
        · have E:=lH (show zb (x,y,m)=false by unfold zb;rw[decide_eq_false e];exact Bool.false_and _);have e':50<x.size:=by omega
          clear e;go_wp2;go_ret;exact⟨jd (HV.out.trans (HT.out.trans (by rw[E.out];exact Bool.false_and _))).symm,rfl⟩
      · have HS:=lH ((HV.out.trans hrest.symm).trans (congrArg (fun z=>z.all zb) (zA (by rw[HL.out];exact hlt))));clear hrest;go_wp2;go_ret;exact⟨jd (HS.out.trans rfl).symm,rfl⟩
 · have HV:=lH (show zq l=false by unfold zq;rw[decide_eq_false (by omega)];rfl);have h9:20<len:=by omega
   clear h20 hr hl;go_enter Tryz.func39,Tryz.ntmps39;go_wp2;go_ret;exact⟨jd HV.out.symm,rfl⟩
theorem jer {v:Value} {l:NL} {w:World} (h:Reads jk w v l):Calls Tryz.prog 99 #[v] w fun e w'=>e=.returned (.bool (zq l))∧w=w':=by
 obtain⟨a,cap,rfl,_,_,hr⟩:=h;exact jcC a _ cap l w hr
theorem jel {v:Value} {l:NL} {w:World} (h:Reads jk w v l):Calls Tryz.prog 39 #[v] w fun e w'=>e=.returned (.bool (zq l))∧w=w':=by
 obtain⟨a,cap,rfl,_,_,hr⟩:=h;exact jcH a _ cap l w hr
theorem jaC {s:NL} (h:zq s=true):s.length≤20∧∀x ∈ s,x.1.size≤50∧x.2.1.size≤50:=by
 unfold zq at h;simp only[Bool.and_eq_true,decide_eq_true_eq,List.all_eq_true] at h;refine⟨h.1,fun x hx=>?_⟩;have:=h.2 x hx;unfold zb at this;simpa using this
theorem jc8:(Tryz.prog.info? 111).map (fun i=>(i.zero,i.size,i.bytes))=some (some (.agg #[.string ByteArray.empty,.string ByteArray.empty,.bool false]),3,40):=by kernel_rfl
theorem jdo (a:Option Addr) (len cap:Nat) (l:NL) (w:World) (hr:jh jk w a len l) (hlen:len≤1000000) :
 Calls Tryz.prog 114 #[.slice a len cap] w (fun e w'=>∃x,e=.returned x∧Own jk 111 w' w.heap.size x l∧Kept w w'):=by
 have hl:=hr.1;obtain⟨i0,hi,hz0,hz1,hz2'⟩:=info_parts jc8;rcases hr.form with h0 | ⟨b,off,rfl⟩
 · subst h0;have hl0:l=[]:=List.eq_nil_of_length_eq_zero hl;subst hl0;clear hr hl hi hz0 hz1 hz2';go_enter Tryz.func114,Tryz.ntmps114;go_wp2;refine wp_loop_rounds 1 ?_;rw[rounds_succ];go_wp2;go_ret;exact⟨_,rfl,Own.nil _ _ _,Kept.refl _⟩
 · have HR:=lH hr;have HL:=lH hl;clear hr hl;go_enter Tryz.func114,Tryz.ntmps114;go_wp2;go_loopw [3,4] (fun v i wr=>∃k:Nat,k≤len∧i=.int .i64 k∧Own jk 111 wr w.heap.size v (l.take k)∧Below w.heap.size w wr) (fun _ i _=>len-(intOf i).toNat)
   case atStart=>exact⟨0,Nat.zero_le _,rfl,Own.nil _ _ _,Below.refl _ _⟩
   case round =>
    obtain⟨k,hk,rfl,ho,hB⟩:=hrel;have HO:=lH ho;have HB:=lH hB;have HT:=lH (show (l.take k).length=k by rw[List.length_take,HL.out];omega);have HOWN:=lH (show wr.ownsRow w.heap.size 111 3 u3 k (jc jk (l.take k)) by have:=HO.out.1;rw[HT.out] at this;exact this);by_cases hlt:k<len
    · obtain⟨x,y,m,hx,hd,hb,hz,hz2,c0,c1,c2⟩:=(HR.out.kept hB).tri hlt;have HX:=lH hx;have hbw:b<w.heap.size:=by obtain⟨z,_,_,h,_⟩:=HR.out.cells hlt;exact h
      have hbase:w.heap.size≤wr.heap.size:=hB.size;have HNE:=lH (show u3.ownBlock≠some b by
       intro e;have:=(HOWN.out.lt b e).1;omega)
      have HBASE:=lH (show w.heap.size≤(wr.alloc (.cells #[.string x,.string y,.bool m] 111)).drew.heap.size by simp;omega);have HBD:=lH (show Below w.heap.size w ((wr.alloc (.cells #[.string x,.string y,.bool m] 111)).drew) from HB.out.trans (Below.mono ((ja wr _).trans (Kept.drewN _ 1)) hbase));have hk1:(k:Int)<(len:Int):=by omega
      have HFK:=lH (show jk.fine (x,y,m) from⟨hz,hz2⟩);clear ho hB hx hd hz hz2;go_wp2_with fail
      go_region_held3 (fun W=>W.cell? ⟨b,off+k*3,none⟩=some (.string x)∧W.cell? ⟨b,off+k*3+1,none⟩=some (.string y)∧W.cell? ⟨b,off+k*3+2,none⟩=some (.bool m))
       (first
         | go_keep
         | (go_split_ands
            refine⟨?_,?_,?_⟩
            · (refine(hgrow.cell_far ⟨b,off+k*3,none⟩ (by simp;omega) (Ne.symm HNE.out)).trans ?_;assumption)
            · (refine(hgrow.cell_far ⟨b,off+k*3+1,none⟩ (by simp;omega) (Ne.symm HNE.out)).trans ?_;assumption)
            · (refine(hgrow.cell_far ⟨b,off+k*3+2,none⟩ (by simp;omega) (Ne.symm HNE.out)).trans ?_;assumption)))
       ((refine step_append_lies _ (by rfl) _ _ _ (by rfl) w.heap.size 111 i0 _ 3 40 Tryz.underlying105 hi hz0 hz1 hz2' rfl (by decide) u3 k (jc jk (l.take k)) (by rfl) ((HOWN.out.alloc _).drew)
          ⟨wr.heap.size,0,none⟩ 1 1 [.string x,.string y,.bool m] (by rfl) (by rfl) (World.news_of_block (cs:=#[.string x,.string y,.bool m]) (t:=111) (fr:=(0,0)) (heap_alloc_new wr _)) (Y2 x y m)
          (by decide) (by unfold maxLen;omega) (by omega) (by simp;omega) (wr.heap.size+1) (by simp) ?_;intro gg cap1 w1 hown1 hgrow hat hlt1))
      all_goals
       go_wp2;go_roundw
       case rel=>exact⟨k+1,by omega,by go_num,by rw[jZ HX.out];exact Own.snoc hown1 (by rw[HT.out]) HO.out.2 HFK.out,HBD.out.grown hgrow HBASE.out (fun j hj=>(HOWN.out.lt j hj).1)⟩
       case measure=>simp[intOf];omega
    · have HK:=lH (show l.take k=l by rw[List.take_of_length_le (by rw[HL.out];omega)]);clear ho hB;go_wp2;go_ret;exact⟨_,rfl,by have h:=HO.out;rw[HK.out] at h;exact h,HB.out⟩
theorem jc6:(Tryz.prog.info? 155).map (fun i=>(i.zero,i.size,i.bytes))=some (some (.agg #[.string ByteArray.empty,.string ByteArray.empty,.bool false]),3,40):=by kernel_rfl
theorem jdp (a:Option Addr) (len cap:Nat) (l:NL) (w:World) (hr:jh jk w a len l) (hlen:len≤1000000) :
 Calls Tryz.prog 48 #[.slice a len cap] w (fun e w'=>∃x,e=.returned x∧Own jk 155 w' w.heap.size x l∧Kept w w'):=by
 have hl:=hr.1;obtain⟨i0,hi,hz0,hz1,hz2'⟩:=info_parts jc6;rcases hr.form with h0 | ⟨b,off,rfl⟩
 · subst h0;have hl0:l=[]:=List.eq_nil_of_length_eq_zero hl;subst hl0;clear hr hl hi hz0 hz1 hz2';go_enter Tryz.func48,Tryz.ntmps48;go_wp2;refine wp_loop_rounds 1 ?_;rw[rounds_succ];go_wp2;go_ret;exact⟨_,rfl,Own.nil _ _ _,Kept.refl _⟩
 · have HR:=lH hr;have HL:=lH hl;clear hr hl;go_enter Tryz.func48,Tryz.ntmps48;go_wp2;go_loopw [3,4] (fun v i wr=>∃k:Nat,k≤len∧i=.int .i64 k∧Own jk 155 wr w.heap.size v (l.take k)∧Below w.heap.size w wr) (fun _ i _=>len-(intOf i).toNat)
   case atStart=>exact⟨0,Nat.zero_le _,rfl,Own.nil _ _ _,Below.refl _ _⟩
   case round =>
    obtain⟨k,hk,rfl,ho,hB⟩:=hrel;have HO:=lH ho;have HB:=lH hB;have HT:=lH (show (l.take k).length=k by rw[List.length_take,HL.out];omega);have HOWN:=lH (show wr.ownsRow w.heap.size 155 3 u3 k (jc jk (l.take k)) by have:=HO.out.1;rw[HT.out] at this;exact this);by_cases hlt:k<len
    · obtain⟨x,y,m,hx,hd,hb,hz,hz2,c0,c1,c2⟩:=(HR.out.kept hB).tri hlt;have HX:=lH hx;have hbw:b<w.heap.size:=by obtain⟨z,_,_,h,_⟩:=HR.out.cells hlt;exact h
      have hbase:w.heap.size≤wr.heap.size:=hB.size;have HNE:=lH (show u3.ownBlock≠some b by
       intro e;have:=(HOWN.out.lt b e).1;omega)
      have HBASE:=lH (show w.heap.size≤(wr.alloc (.cells #[.string x,.string y,.bool m] 155)).drew.heap.size by simp;omega);have HBD:=lH (show Below w.heap.size w ((wr.alloc (.cells #[.string x,.string y,.bool m] 155)).drew) from HB.out.trans (Below.mono ((ja wr _).trans (Kept.drewN _ 1)) hbase));have hk1:(k:Int)<(len:Int):=by omega
      have HFK:=lH (show jk.fine (x,y,m) from⟨hz,hz2⟩);clear ho hB hx hd hz hz2;go_wp2_with fail
      go_region_held3 (fun W=>W.cell? ⟨b,off+k*3,none⟩=some (.string x)∧W.cell? ⟨b,off+k*3+1,none⟩=some (.string y)∧W.cell? ⟨b,off+k*3+2,none⟩=some (.bool m))
       (first
         | go_keep
         | (go_split_ands
            refine⟨?_,?_,?_⟩
            · (refine(hgrow.cell_far ⟨b,off+k*3,none⟩ (by simp;omega) (Ne.symm HNE.out)).trans ?_;assumption)
            · (refine(hgrow.cell_far ⟨b,off+k*3+1,none⟩ (by simp;omega) (Ne.symm HNE.out)).trans ?_;assumption)
            · (refine(hgrow.cell_far ⟨b,off+k*3+2,none⟩ (by simp;omega) (Ne.symm HNE.out)).trans ?_;assumption)))
       ((refine step_append_lies _ (by rfl) _ _ _ (by rfl) w.heap.size 155 i0 _ 3 40 Tryz.underlying48 hi hz0 hz1 hz2' rfl (by decide) u3 k (jc jk (l.take k)) (by rfl) ((HOWN.out.alloc _).drew)
          ⟨wr.heap.size,0,none⟩ 1 1 [.string x,.string y,.bool m] (by rfl) (by rfl) (World.news_of_block (cs:=#[.string x,.string y,.bool m]) (t:=155) (fr:=(0,0)) (heap_alloc_new wr _)) (Y2 x y m)
          (by decide) (by unfold maxLen;omega) (by omega) (by simp;omega) (wr.heap.size+1) (by simp) ?_;intro gg cap1 w1 hown1 hgrow hat hlt1))
      all_goals
       go_wp2;go_roundw
       case rel=>exact⟨k+1,by omega,by go_num,by rw[jZ HX.out];exact Own.snoc hown1 (by rw[HT.out]) HO.out.2 HFK.out,HBD.out.grown hgrow HBASE.out (fun j hj=>(HOWN.out.lt j hj).1)⟩
       case measure=>simp[intOf];omega
    · have HK:=lH (show l.take k=l by rw[List.take_of_length_le (by rw[HL.out];omega)]);clear ho hB;go_wp2;go_ret;exact⟨_,rfl,by have h:=HO.out;rw[HK.out] at h;exact h,HB.out⟩
def YT (W:World) (N:Nat):Prop:=∀o x u,W.cell? ⟨N,o,none⟩=some (.string x)→W.cell? ⟨N,o+1,none⟩=some u→∃a n c,u=.slice a n c
theorem jbK {W:World} {N:Nat} {x:ByteArray} {a1 a2 a3:Option Addr} {m1 c1 m2 c2 m3 c3:Nat} {b:Bool} {T:TypeId} {fr:Nat×Nat} (hh:W.heap[N]?=some (.cells #[.string x,.slice a1 m1 c1,.slice a2 m2 c2,.slice a3 m3 c3,.bool b] T fr)):YT W N:=by
 intro o y u h1 h2;rw[Lib.cell_of_heap hh] at h1 h2
 match o,h1,h2 with
 | 0,_,h2=>exact⟨a1,m1,c1,by simpa using h2.symm⟩
 | 1,h1,_=>simp at h1
 | 2,h1,_=>simp at h1
 | 3,h1,_=>simp at h1
 | 4,h1,_=>simp at h1
 | o+5,h1,_=>simp at h1
theorem qy {w w':World} {v:Value} {l:Vec.V} {N:Nat} (h:Vec.Reads w v l) (hs:w'.heap.size=w.heap.size) (hb:∀b,b≠N→w'.heap[b]?=w.heap[b]?) (hn:YT w N):Vec.Reads w' v l:=by
 obtain⟨a,cap,rfl,h1,h2,h3,h4,h5,h6⟩:=h;refine⟨a,cap,rfl,h1,h2,h3,h4,h5,?_⟩;rcases h6 with h6 | ⟨b,off,rfl,hlt,hc⟩
 · exact .inl h6
 · by_cases h0:l.length=0
   · exact .inl h0
   · have hne:b≠N:=by
      rintro rfl;obtain⟨c0,c1⟩:=hc 0 (by omega);obtain⟨_,_,_,e⟩:=hn _ _ _ c0 c1
      cases e
     exact .inr ⟨b,off,rfl,by rw[hs];exact hlt,fun i hi=>⟨(World.cell?_of_block (a:=⟨b,off+i*2,none⟩) (hb b hne)).trans (hc i hi).1,(World.cell?_of_block (a:=⟨b,off+i*2+1,none⟩) (hb b hne)).trans (hc i hi).2⟩⟩
theorem YH {α:Type} {L:Lay α} {w w':World} {v:Value} {l:List α} {N:Nat} (hL:∀x,∃s t,(L.cs x)[0]?=some (.string s)∧(L.cs x)[1]?=some (.string t)) (h:Reads L w v l) (hs:w'.heap.size=w.heap.size) (hb:∀b,b≠N→w'.heap[b]?=w.heap[b]?) (hn:YT w N):Reads L w' v l:=by
 obtain⟨a,cap,rfl,h1,h2,h3,h4,h5,h6⟩:=h;refine⟨a,cap,rfl,h1,h2,h3,h4,h5,?_⟩;rcases h6 with h6 | ⟨b,off,rfl,hlt,hc⟩
 · exact .inl h6
 · cases l with
   | nil=>exact .inl rfl
   | cons x t =>
    have hne:b≠N:=by
     rintro rfl;obtain⟨s,u,g0,g1⟩:=hL x;have c0:=hc 0 x 0 _ rfl g0;have c1:=hc 0 x 1 _ rfl g1;obtain⟨_,_,_,e⟩:=hn _ _ _ c0 c1
     cases e
    exact .inr ⟨b,off,rfl,by rw[hs];exact hlt,fun i x j u hi hj=>(World.cell?_of_block (a:=⟨b,off+i*L.m+j,none⟩) (hb b hne)).trans (hc i x j u hi hj)⟩
theorem jd0 (x:ByteArray×ByteArray):∃s t,(jm.cs x)[0]?=some (.string s)∧(jm.cs x)[1]?=some (.string t):=⟨x.1,x.2,rfl,rfl⟩
theorem jd2 (x:NT):∃s t,(jk.cs x)[0]?=some (.string s)∧(jk.cs x)[1]?=some (.string t):=⟨x.1,x.2.1,rfl,rfl⟩
theorem ZL {w w':World} {v1 v2 v3:Value} {n:Nod} {N:Nat} (h:j2 w v1 v2 v3 n) (hs:w'.heap.size=w.heap.size) (hb:∀b,b≠N→w'.heap[b]?=w.heap[b]?) (hn:YT w N):j2 w' v1 v2 v3 n :=
 ⟨h.size,qy h.cap hs hb hn,YH jd0 h.labels hs hb hn,YH jd2 h.taints hs hb hn⟩
end Go.Proofs.YtgfoenfaohhjcaaGreat
