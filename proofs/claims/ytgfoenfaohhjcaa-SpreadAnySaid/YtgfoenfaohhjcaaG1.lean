/- What serves all packages,and package by package the contracts of the functions that the law calls. -/
import Derived.Test.YtgfoenfaohhjcaaG0
import Derived.Shelf.SlSortCmp.QuietGrown
import Derived.Handy
import Derived.Deep.CutRange
import Derived.Deep.AppendSrc
import Derived.Deep.DeepAppendWide
set_option linter.unusedVariables false
set_option maxRecDepth 100000
set_option maxHeartbeats 25600000
namespace Go.Proofs.Ytgfoenfaohhjcaa
open Go.RowKit
theorem jdd:(Try.prog.info? 112).map (fun i=>(i.zero,i.size,i.bytes))=some (some (.agg #[.string ByteArray.empty,.string ByteArray.empty]),2,32):=by kernel_rfl
theorem Xj (a:Option Addr) (len cap:Nat) (l:PL) (w:World) (hr:ji jl w a len l) (hlen:len≤1000000) :
 Calls Try.prog 21 #[.slice a len cap] w (fun e w'=>∃x,e=.returned x∧Own jl 112 w' w.heap.size x l∧Kept w w'):=by
 have hl:=hr.1;obtain⟨i0,hi,hz0,hz1,hz2'⟩:=info_parts jdd;rcases hr.form with h0 | ⟨b,off,rfl⟩
 · subst h0;have hl0:l=[]:=List.eq_nil_of_length_eq_zero hl;subst hl0;clear hr hl hi hz0 hz1 hz2';go_enter Try.func21,Try.ntmps21;go_wp2;refine wp_loop_rounds 1 ?_;rw[rounds_succ];go_wp2;go_ret;exact⟨_,rfl,Own.nil _ _ _,Kept.refl _⟩
 · have HR:=lH hr;have HL:=lH hl;clear hr hl;go_enter Try.func21,Try.ntmps21;go_wp2;go_loopw [3,4] (fun v i wr=>∃k:Nat,k≤len∧i=.int .i64 k∧Own jl 112 wr w.heap.size v (l.take k)∧Below w.heap.size w wr) (fun _ i _=>len-(intOf i).toNat)
   case atStart=>exact⟨0,Nat.zero_le _,rfl,Own.nil _ _ _,Below.refl _ _⟩
   case round =>
    obtain⟨k,hk,rfl,ho,hB⟩:=hrel;have HO:=lH ho;have HB:=lH hB;have HT:=lH (show (l.take k).length=k by rw[List.length_take,HL.out];omega);have HOWN:=lH (show wr.ownsRow w.heap.size 112 2 u3 k (jc jl (l.take k)) by have:=HO.out.1;rw[HT.out] at this;exact this);by_cases hlt:k<len
    · obtain⟨x,y,hx,hd,hb,hz,hz2,c1,c2⟩:=(HR.out.kept hB).pair hlt;have HX:=lH hx;have hbw:b<w.heap.size:=by obtain⟨z,_,_,h,_⟩:=HR.out.cells hlt;exact h
      have hbase:w.heap.size≤wr.heap.size:=hB.size;have HNE:=lH (show u3.ownBlock≠some b by
       intro e;have:=(HOWN.out.lt b e).1;omega)
      have HBASE:=lH (show w.heap.size≤(wr.alloc (.cells #[.string x,.string y] 112)).drew.heap.size by simp;omega);have HBD:=lH (show Below w.heap.size w ((wr.alloc (.cells #[.string x,.string y] 112)).drew) from HB.out.trans (Below.mono ((ja wr _).trans (Kept.drewN _ 1)) hbase));have hk1:(k:Int)<(len:Int):=by omega
      have HFK:=lH (show jl.fine (x,y) from⟨hz,hz2⟩);clear ho hB hx hd hz hz2;go_wp2_with fail
      go_region_held3 (fun W=>W.cell? ⟨b,off+k*2,none⟩=some (.string x)∧W.cell? ⟨b,off+k*2+1,none⟩=some (.string y))
       (first
         | go_keep
         | (go_split_ands
            refine⟨?_,?_⟩
            · (refine(hgrow.cell_far ⟨b,off+k*2,none⟩ (by simp;omega) (Ne.symm HNE.out)).trans ?_;assumption)
            · (refine(hgrow.cell_far ⟨b,off+k*2+1,none⟩ (by simp;omega) (Ne.symm HNE.out)).trans ?_;assumption)))
       ((refine step_append_lies _ (by rfl) _ _ _ (by rfl) w.heap.size 112 i0 _ 2 32 Try.underlying41 hi hz0 hz1 hz2' rfl (by decide) u3 k (jc jl (l.take k)) (by rfl) ((HOWN.out.alloc _).drew)
          ⟨wr.heap.size,0,none⟩ 1 1 [.string x,.string y] (by rfl) (by rfl) (World.news_of_block (cs:=#[.string x,.string y]) (t:=112) (fr:=(0,0)) (heap_alloc_new wr _)) (jcM x y)
          (by decide) (by unfold maxLen;omega) (by omega) (by simp;omega) (wr.heap.size+1) (by simp) ?_;intro gg cap1 w1 hown1 hgrow hat hlt1))
      all_goals
       go_wp2;go_roundw
       case rel=>exact⟨k+1,by omega,by go_num,by rw[zh HX.out];exact Own.snoc hown1 (by rw[HT.out]) HO.out.2 HFK.out,HBD.out.grown hgrow HBASE.out (fun j hj=>(HOWN.out.lt j hj).1)⟩
       case measure=>simp[intOf];omega
    · have HK:=lH (show l.take k=l by rw[List.take_of_length_le (by rw[HL.out];omega)]);clear ho hB;go_wp2;go_ret;exact⟨_,rfl,by have h:=HO.out;rw[HK.out] at h;exact h,HB.out⟩
theorem jcS:(Try.prog.info? 129).map (fun i=>(i.zero,i.size,i.bytes))=some (some (.agg #[.int .i64 0,.string ByteArray.empty,.string ByteArray.empty]),3,40):=by kernel_rfl
theorem jcx (a:Option Addr) (len cap:Nat) (l:TL) (w:World) (hr:ji jQ w a len l) (hlen:len≤1000000) :
 Calls Try.prog 39 #[.slice a len cap] w (fun e w'=>∃x,e=.returned x∧Own jQ 129 w' w.heap.size x l∧Kept w w'):=by
 have hl:=hr.1;obtain⟨i0,hi,hz0,hz1,hz2'⟩:=info_parts jcS;rcases hr.form with h0 | ⟨b,off,rfl⟩
 · subst h0;have hl0:l=[]:=List.eq_nil_of_length_eq_zero hl;subst hl0;clear hr hl hi hz0 hz1 hz2';go_enter Try.func39,Try.ntmps39;go_wp2;refine wp_loop_rounds 1 ?_;rw[rounds_succ];go_wp2;go_ret;exact⟨_,rfl,Own.nil _ _ _,Kept.refl _⟩
 · have HR:=lH hr;have HL:=lH hl;clear hr hl;go_enter Try.func39,Try.ntmps39;go_wp2;go_loopw [3,4] (fun v i wr=>∃k:Nat,k≤len∧i=.int .i64 k∧Own jQ 129 wr w.heap.size v (l.take k)∧Below w.heap.size w wr) (fun _ i _=>len-(intOf i).toNat)
   case atStart=>exact⟨0,Nat.zero_le _,rfl,Own.nil _ _ _,Below.refl _ _⟩
   case round =>
    obtain⟨k,hk,rfl,ho,hB⟩:=hrel;have HO:=lH ho;have HB:=lH hB;have HT:=lH (show (l.take k).length=k by rw[List.length_take,HL.out];omega);have HOWN:=lH (show wr.ownsRow w.heap.size 129 3 u3 k (jc jQ (l.take k)) by have:=HO.out.1;rw[HT.out] at this;exact this);by_cases hlt:k<len
    · obtain⟨o,x,y,hx,hd,hb,ho9,hz,hz2,c0,c1,c2⟩:=(HR.out.kept hB).term hlt;have HX:=lH hx;have hbw:b<w.heap.size:=by obtain⟨z,_,_,h,_⟩:=HR.out.cells hlt;exact h
      have hbase:w.heap.size≤wr.heap.size:=hB.size;have HNE:=lH (show u3.ownBlock≠some b by
       intro e;have:=(HOWN.out.lt b e).1;omega)
      have HBASE:=lH (show w.heap.size≤(wr.alloc (.cells #[.int .i64 o,.string x,.string y] 129)).drew.heap.size by simp;omega);have HBD:=lH (show Below w.heap.size w ((wr.alloc (.cells #[.int .i64 o,.string x,.string y] 129)).drew) from HB.out.trans (Below.mono ((ja wr _).trans (Kept.drewN _ 1)) hbase));have hk1:(k:Int)<(len:Int):=by omega
      have HFK:=lH (show jQ.fine (o,x,y) from⟨ho9,hz,hz2⟩);clear ho hB hx hd hz hz2;go_wp2_with fail
      go_region_held3 (fun W=>W.cell? ⟨b,off+k*3,none⟩=some (.int .i64 o)∧W.cell? ⟨b,off+k*3+1,none⟩=some (.string x)∧W.cell? ⟨b,off+k*3+2,none⟩=some (.string y))
       (first
         | go_keep
         | (go_split_ands
            refine⟨?_,?_,?_⟩
            · (refine(hgrow.cell_far ⟨b,off+k*3,none⟩ (by simp;omega) (Ne.symm HNE.out)).trans ?_;assumption)
            · (refine(hgrow.cell_far ⟨b,off+k*3+1,none⟩ (by simp;omega) (Ne.symm HNE.out)).trans ?_;assumption)
            · (refine(hgrow.cell_far ⟨b,off+k*3+2,none⟩ (by simp;omega) (Ne.symm HNE.out)).trans ?_;assumption)))
       ((refine step_append_lies _ (by rfl) _ _ _ (by rfl) w.heap.size 129 i0 _ 3 40 Try.underlying42 hi hz0 hz1 hz2' rfl (by decide) u3 k (jc jQ (l.take k)) (by rfl) ((HOWN.out.alloc _).drew)
          ⟨wr.heap.size,0,none⟩ 1 1 [.int .i64 o,.string x,.string y] (by rfl) (by rfl) (World.news_of_block (cs:=#[.int .i64 o,.string x,.string y]) (t:=129) (fr:=(0,0)) (heap_alloc_new wr _)) (jaZ o x y)
          (by decide) (by unfold maxLen;omega) (by omega) (by simp;omega) (wr.heap.size+1) (by simp) ?_;intro gg cap1 w1 hown1 hgrow hat hlt1))
      all_goals
       go_wp2;go_roundw
       case rel=>exact⟨k+1,by omega,by go_num,by rw[zh HX.out];exact Own.snoc hown1 (by rw[HT.out]) HO.out.2 HFK.out,HBD.out.grown hgrow HBASE.out (fun j hj=>(HOWN.out.lt j hj).1)⟩
       case measure=>simp[intOf];omega
    · have HK:=lH (show l.take k=l by rw[List.take_of_length_le (by rw[HL.out];omega)]);clear ho hB;go_wp2;go_ret;exact⟨_,rfl,by have h:=HO.out;rw[HK.out] at h;exact h,HB.out⟩
theorem jal {v:Value} {l:PL} {w:World} (h:Reads jl w v l):Calls Try.prog 30 #[v] w fun e w'=>e=.returned (.bool (Jv l))∧w=w':=by
 obtain⟨a,cap,rfl,_,_,hr⟩:=h;exact XM a _ cap l w hr
theorem XJ {v:Value} {l:TL} {w:World} (h:Reads jQ w v l):Calls Try.prog 31 #[v] w fun e w'=>e=.returned (.bool (Jt l))∧w=w':=by
 obtain⟨a,cap,rfl,_,_,hr⟩:=h;exact jbw a _ cap l w hr
theorem zR {v:Value} {l:PL} {c:Int} {w:World} (h:Reads jl w v l) (hc:JK l=c):Calls Try.prog 35 #[v] w (Say (.int .i64 c) w):=by
 obtain⟨a,cap,rfl,_,_,hr⟩:=h;exact(Xx a _ cap l w hr).mono fun e w' ⟨he,k⟩=>⟨by rw[he,hc],k⟩
theorem Yt {v:Value} {l:TL} {c:Int} {w:World} (h:Reads jQ w v l) (hc:Zr l=c):Calls Try.prog 36 #[v] w (Say (.int .i64 c) w):=by
 obtain⟨a,cap,rfl,_,_,hr⟩:=h;exact(Xw a _ cap l w hr).mono fun e w' ⟨he,k⟩=>⟨by rw[he,hc],k⟩
open Go.RowKit Go.Sort
def Grw (w w':World):Prop:=∃q os,w'=grow (w.drewN q) os
theorem Grw.refl (w:World):Grw w w:=⟨0,#[],by rw[grow_empty];rfl⟩
theorem Grw.grown {w W:World} (h:Grw w W) (n:Nat) (os:Array Obj):Grw w (grow (W.drewN n) os):=by
 obtain⟨q,os0,rfl⟩:=h;exact⟨q+n,os0++os,by show grow (grow ((w.drewN q).drewN n) os0) os=_;rw[grow_grow,World.drewN_drewN]⟩
theorem Grw.trans {a b c:World} (h:Grw a b) (k:Grw b c):Grw a c:=by
 obtain⟨q,os,rfl⟩:=k;exact h.grown q os
theorem Grw.alloc (w:World) (o:Obj):Grw w (w.alloc o):=⟨0,#[o],alloc_eq_grow _ _⟩
theorem Grw.drewN (w:World) (n:Nat):Grw w (w.drewN n):=⟨n,#[],by rw[grow_empty]⟩
theorem jbV (w:World) (n:Nat) (os:Array Obj):Kept w (grow (w.drewN n) os):=Go.Lib.below_grow w.heap.size w (Nat.le_refl _) n os
theorem Grw.kept {w w':World} (h:Grw w w'):Kept w w':=by
 obtain⟨q,os,rfl⟩:=h;exact jbV w q os
def XD (w:World) (c:Nat) (t:NT):Prop:=w.cell? ⟨c,0,none⟩=some (.string t.1)∧w.cell? ⟨c,1,none⟩=some (.string t.2.1)∧w.cell? ⟨c,2,none⟩=some (.bool t.2.2)
theorem XD.kept {w w':World} {c:Nat} {t:NT} (h:XD w c t) (k:Kept w w'):XD w' c t:=⟨cell_later k h.1,cell_later k h.2.1,cell_later k h.2.2⟩
theorem XD.new (w:World) (x y:ByteArray) (m:Bool) (T:TypeId):XD (w.alloc (.cells #[.string x,.string y,.bool m] T)) w.heap.size (x,y,m):=by
 have hh:=w.alloc_heap_new (.cells #[.string x,.string y,.bool m] T);exact⟨by rw[Lib.cell_of_heap hh];rfl,by rw[Lib.cell_of_heap hh];rfl,by rw[Lib.cell_of_heap hh];rfl⟩
theorem jb8 {x:NT} {t:NL}:(x::t).all zD=(zD x&&t.all zD):=rfl
open Go.RowKit Go.Shelf
attribute [local go_sem] Oper.semAt_some
end Go.Proofs.Ytgfoenfaohhjcaa
namespace Go.Proofs.Ytgfoenfaohhjcaa
open Go.RowKit Go.Shelf
attribute [local go_sem] Oper.semAt_some
end Go.Proofs.Ytgfoenfaohhjcaa
namespace Go.Proofs.Ytgfoenfaohhjcaa
open Go.RowKit Go.Sort
theorem qk (a:Option Addr) (len cap:Nat) (l:NL) (w:World) (hr:ji jv w a len l) :
 Calls Try.prog 37 #[.slice a len cap] w fun e w'=>e=.returned (.int .i64 (Ju l))∧Kept w w':=by
 have hl:=hr.1;have hm:=hr.2.1;unfold maxLen at hm;by_cases h8:len≤8
 · have HV:=lH (show Ju l=if l.all zD=true then 0 else 3 by unfold Ju;rw[if_neg (by omega)]);rcases hr.form with h0 | ⟨b,off,rfl⟩
   · subst h0;have HE:=lH (show Ju l=0 by rw[HV.out];rw[List.eq_nil_of_length_eq_zero hl];rfl);clear hr hl;go_enter Try.func37,Try.ntmps37;go_wp2;refine wp_loop_rounds 1 ?_;rw[rounds_succ];go_wp2;go_ret;exact⟨jb HE.out.symm,Kept.refl _⟩
   · have HR:=lH hr;have HL:=lH hl;clear hr hl;go_enter Try.func37,Try.ntmps37;go_wp2;go_loopw [3] (fun i wr=>∃k:Nat,k≤len∧i=.int .i64 k∧(l.drop k).all zD=l.all zD∧Kept w wr) (fun i _=>len-(intOf i).toNat)
     case atStart=>exact⟨0,Nat.zero_le _,rfl,rfl,Kept.refl _⟩
     case round =>
      obtain⟨k,hk,rfl,hrest,hK⟩:=hrel;by_cases hlt:k<len
      · obtain⟨x,y,m,hx,hd,hb,hz,hz2,c1,c2,c3⟩:=(HR.out.kept hK).tri hlt;have HK:=lH hK;have HS:=lH (hrest.symm.trans ((congrArg (fun z=>z.all zD) hd).trans jb8));obtain⟨q0,hq0⟩:∃q,(x.toList==([]:List UInt8))=q:=⟨_,rfl⟩
        obtain⟨q2,hq2⟩:∃q,(y.toList==([]:List UInt8))=q:=⟨_,rfl⟩
        obtain⟨n1,hn1⟩:∃q,isName x=q:=⟨_,rfl⟩
        obtain⟨n2,hn2⟩:∃q,isName y=q:=⟨_,rfl⟩
        have HN:=lH (show zD (x,y,m)=((q0||n1)&&(if m=true then q2 else n2)) by unfold zD;rw[zB,zB,hq0,hq2,hn1,hn2]);clear hK hrest hx hd
        cases q0 with
        | true =>
         cases m with
         | true =>
          cases q2 with
          | true =>
           have HQ:=lH (show zD (x,y,true)=true by rw[HN.out];rfl);go_wp2_with (go_at_call 33;refine(jg _ _ (by assumption)).mono ?_;rintro e w' ⟨rfl,rfl⟩)
           go_roundw
           case rel=>exact⟨k+1,by omega,by go_num,(HS.out.trans (by rw[HQ.out];exact Bool.true_and _)).symm,HK.out.trans (ja _ _)⟩
           case measure=>simp[intOf];omega
          | false =>
           have HQ:=lH (show Ju l=3 by rw[HV.out,HS.out,HN.out];rfl);go_wp2_with (go_at_call 33;refine(jg _ _ (by assumption)).mono ?_;rintro e w' ⟨rfl,rfl⟩)
           go_ret;exact⟨jb HQ.out.symm,HK.out.trans (ja _ _)⟩
         | false =>
          cases n2 with
          | true =>
           have HQ:=lH (show zD (x,y,false)=true by rw[HN.out];rfl);go_wp2_with (go_at_call 33;refine(jg _ _ (by assumption)).mono ?_;rintro e w' ⟨rfl,rfl⟩)
           go_roundw
           case rel=>exact⟨k+1,by omega,by go_num,(HS.out.trans (by rw[HQ.out];exact Bool.true_and _)).symm,HK.out.trans (ja _ _)⟩
           case measure=>simp[intOf];omega
          | false =>
           have HQ:=lH (show Ju l=3 by rw[HV.out,HS.out,HN.out];rfl);go_wp2_with (go_at_call 33;refine(jg _ _ (by assumption)).mono ?_;rintro e w' ⟨rfl,rfl⟩)
           go_ret;exact⟨jb HQ.out.symm,HK.out.trans (ja _ _)⟩
        | false =>
         cases n1 with
         | true =>
          cases m with
          | true =>
           cases q2 with
           | true =>
            have HQ:=lH (show zD (x,y,true)=true by rw[HN.out];rfl);go_wp2_with (go_at_call 33;refine(jg _ _ (by assumption)).mono ?_;rintro e w' ⟨rfl,rfl⟩)
            go_roundw
            case rel=>exact⟨k+1,by omega,by go_num,(HS.out.trans (by rw[HQ.out];exact Bool.true_and _)).symm,HK.out.trans (ja _ _)⟩
            case measure=>simp[intOf];omega
           | false =>
            have HQ:=lH (show Ju l=3 by rw[HV.out,HS.out,HN.out];rfl);go_wp2_with (go_at_call 33;refine(jg _ _ (by assumption)).mono ?_;rintro e w' ⟨rfl,rfl⟩)
            go_ret;exact⟨jb HQ.out.symm,HK.out.trans (ja _ _)⟩
          | false =>
           cases n2 with
           | true =>
            have HQ:=lH (show zD (x,y,false)=true by rw[HN.out];rfl);go_wp2_with (go_at_call 33;refine(jg _ _ (by assumption)).mono ?_;rintro e w' ⟨rfl,rfl⟩)
            go_roundw
            case rel=>exact⟨k+1,by omega,by go_num,(HS.out.trans (by rw[HQ.out];exact Bool.true_and _)).symm,HK.out.trans (ja _ _)⟩
            case measure=>simp[intOf];omega
           | false =>
            have HQ:=lH (show Ju l=3 by rw[HV.out,HS.out,HN.out];rfl);go_wp2_with (go_at_call 33;refine(jg _ _ (by assumption)).mono ?_;rintro e w' ⟨rfl,rfl⟩)
            go_ret;exact⟨jb HQ.out.symm,HK.out.trans (ja _ _)⟩
         | false =>
          have HQ:=lH (show Ju l=3 by rw[HV.out,HS.out,HN.out];rfl);go_wp2_with (go_at_call 33;refine(jg _ _ (by assumption)).mono ?_;rintro e w' ⟨rfl,rfl⟩)
          go_ret;exact⟨jb HQ.out.symm,HK.out.trans (ja _ _)⟩
      · have HK:=lH hK;have HS:=lH (hrest.symm.trans (congrArg (fun z=>z.all zD) (zM (by rw[HL.out];exact hlt))));have HF:=lH (show Ju l=0 by rw[HV.out,HS.out];rfl);clear hK hrest;go_wp2;go_ret;exact⟨jb HF.out.symm,HK.out⟩
 · have HV:=lH (show Ju l=4 by unfold Ju;rw[if_pos (by omega)]);have h9:8<len:=by omega
   clear h8 hr hl;go_enter Try.func37,Try.ntmps37;go_wp2;go_ret;exact⟨jb HV.out.symm,Kept.refl _⟩
theorem jbz {l:NL} {k j:Nat} {t z:NT} (hj:j<k) (hz:l[j]?=some z) (h:JG t z=true):(l.take k).any (JG t)=true:=by
 rw[List.any_eq_true];refine⟨z,List.mem_of_getElem? (i:=j) ?_,h⟩;rw[List.getElem?_take,if_pos hj];exact hz
theorem XV {l:NL} {j:Nat} {t z:NT} (hz:l[j]?=some z) (h:(l.take j).any (JG t)=false) (g:JG t z=false):(l.take (j+1)).any (JG t)=false:=by
 rw[zh hz,List.any_append,h];simp[g]
theorem qi (a:Option Addr) (len cap:Nat) (l:NL) (w:World) (hr:ji jv w a len l) :
 Calls Try.prog 92 #[.slice a len cap] w fun e w'=>e=.returned (.int .i64 (Z6 l))∧Kept w w':=by
 have hl:=hr.1;have hm:=hr.2.1;unfold maxLen at hm;by_cases h8:len≤8
 · have HV:=lH (show Z6 l=Je [] l by unfold Z6;rw[if_neg (by omega)]);rcases hr.form with h0 | ⟨b,off,rfl⟩
   · subst h0;have HE:=lH (show Z6 l=0 by rw[HV.out];rw[List.eq_nil_of_length_eq_zero hl];rfl);clear hr hl;go_enter Try.func92,Try.ntmps92;go_wp2;refine wp_loop_rounds 1 ?_;rw[rounds_succ];go_wp2;go_ret;exact⟨jb HE.out.symm,Kept.refl _⟩
   · have HR:=lH hr;have HL:=lH hl;clear hr hl;go_enter Try.func92,Try.ntmps92;go_wp2;go_loopw [3] (fun i wr=>∃k:Nat,k≤len∧i=.int .i64 k∧Je (l.take k) (l.drop k)=Je [] l∧Kept w wr) (fun i _=>len-(intOf i).toNat)
     case atStart=>exact⟨0,Nat.zero_le _,rfl,rfl,Kept.refl _⟩
     case round =>
      obtain⟨k,hk,rfl,hrest,hK⟩:=hrel;by_cases hlt:k<len
      · obtain⟨x,y,m,hx,hd,hb,hz,hz2,c1,c2,c3⟩:=(HR.out.kept hK).tri hlt;have HX:=lH hx;have HK:=lH hK;have HT:=lH (hrest.symm.trans (congrArg (Je (l.take k)) hd));have HS:=lH (HV.out.trans HT.out);clear hK hrest hx hd;by_cases n1:isName x=true
        · by_cases n2:isName y=true
          · have N1:=lH n1;have N2:=lH n2;go_wp2_with (go_at_call 33;refine(jg _ _ (by assumption)).mono ?_;rintro e w' ⟨rfl,rfl⟩)
            go_loopw [4] (fun i wr2=>∃j:Nat,j≤k∧i=.int .i64 j∧(l.take j).any (JG (x,y,m))=false∧Kept w wr2) (fun i _=>k-(intOf i).toNat)
            case atStart=>exact⟨0,Nat.zero_le _,rfl,rfl,HK.out⟩
            case round =>
             obtain⟨j,hj,rfl,hnone,hK2⟩:=hrel;have HK2:=lH hK2;have HNO:=lH hnone;by_cases hjk:j<k
             · obtain⟨x',y',m',hx',_,hb',_,_,d1,d2,d3⟩:=(HR.out.kept hK2).tri (show j<len by omega);obtain⟨x9,y9,m9,hx9,_,_,_,_,e1,e2,e3⟩:=(HR.out.kept hK2).tri hlt;obtain⟨rfl,rfl,rfl⟩:x=x9∧y=y9∧m=m9:=by rw[HX.out] at hx9;simpa using hx9
               have HX':=lH hx';obtain⟨q1,hq1⟩:∃q,(x'.toList==x.toList)=q:=⟨_,rfl⟩
               obtain⟨q2,hq2⟩:∃q,(y'.toList==y.toList)=q:=⟨_,rfl⟩
               have HTW:=lH (show JG (x,y,m) (x',y',m')=(q1&&q2) by unfold JG eqS;rw[hq1,hq2]);have hjl:(j:Int)<(len:Int):=by omega
               clear hx9 hx' hnone hK2
               cases q1 with
               | true =>
                cases q2 with
                | true =>
                 go_wp2_with fail
                 go_quiet (fail)
                 go_wp2;go_ret;exact⟨jb (HS.out.trans (jbh N1.out N2.out (jbz hjk HX'.out HTW.out))).symm,HK2.out.trans (Kept.drewN _ _)⟩
                | false =>
                 go_wp2_with fail
                 go_quiet (fail)
                 go_wp2;go_roundw
                 case rel=>exact⟨j+1,by omega,by go_num,XV HX'.out HNO.out HTW.out,HK2.out.trans (Kept.drewN _ _)⟩
                 case measure=>simp[intOf];omega
               | false =>
                go_wp2_with fail
                go_quiet (fail)
                go_wp2;go_roundw
                case rel=>exact⟨j+1,by omega,by go_num,XV HX'.out HNO.out HTW.out,HK2.out.trans (Kept.drewN _ _)⟩
                case measure=>simp[intOf];omega
             · obtain rfl:j=k:=by omega
               clear hnone hK2;go_wp2;go_roundw
               case rel=>exact⟨j+1,by omega,by go_num,by rw[zh HX.out];exact(jbM N1.out N2.out HNO.out).symm.trans HT.out.symm,HK2.out⟩
               case measure=>simp[intOf];omega
          · have n2:isName y=false:=by simpa using n2
            have N:=lH (show (isName x&&isName y)=false by rw[n2,Bool.and_false]);go_wp2_with (go_at_call 33;refine(jg _ _ (by assumption)).mono ?_;rintro e w' ⟨rfl,rfl⟩)
            go_ret;exact⟨jb (HS.out.trans (qf N.out)).symm,HK.out⟩
        · have n1:isName x=false:=by simpa using n1
          have N:=lH (show (isName x&&isName y)=false by rw[n1,Bool.false_and]);go_wp2_with (go_at_call 33;refine(jg _ _ (by assumption)).mono ?_;rintro e w' ⟨rfl,rfl⟩)
          go_ret;exact⟨jb (HS.out.trans (qf N.out)).symm,HK.out⟩
      · have HK:=lH hK;have HS:=lH ((HV.out.trans hrest.symm).trans (congrArg (Je (l.take k)) (zM (by rw[HL.out];exact hlt))));clear hK hrest;go_wp2;go_ret;exact⟨jb (HS.out.trans rfl).symm,HK.out⟩
 · have HV:=lH (show Z6 l=4 by unfold Z6;rw[if_pos (by omega)]);have h9:8<len:=by omega
   clear h8 hr hl;go_enter Try.func92,Try.ntmps92;go_wp2;go_ret;exact⟨jb HV.out.symm,Kept.refl _⟩
theorem jbH {v:Value} {l:NL} {c:Int} {w:World} (h:Reads jv w v l) (hc:Z6 l=c):Calls Try.prog 92 #[v] w (Say (.int .i64 c) w):=by
 obtain⟨a,cap,rfl,_,_,hr⟩:=h;exact(qi a _ cap l w hr).mono fun e w' ⟨he,k⟩=>⟨by rw[he,hc],k⟩
theorem jbs {v:Value} {l:NL} {c:Int} {w:World} (h:Reads jv w v l) (hc:Ju l=c):Calls Try.prog 37 #[v] w (Say (.int .i64 c) w):=by
 obtain⟨a,cap,rfl,_,_,hr⟩:=h;exact(qk a _ cap l w hr).mono fun e w' ⟨he,k⟩=>⟨by rw[he,hc],k⟩
end Go.Proofs.Ytgfoenfaohhjcaa
namespace Go.Proofs.Ytgfoenfaohhjcaa.Vec
open Go.RowKit Go.Proofs.Ytgfoenfaohhjcaa
def ZJ (w:World) (v:Value) (vs:List (Nat×Nat)) (ps:List (List UInt8)):Prop :=
 ∀(i:Nat) (x:Nat×Nat) (p:List UInt8),vs[i]?=some x→ps[i]?=some p→x.1<w.heap.size∧v.ownBlock≠some x.1 ∧
  w.cell? ⟨x.1,0,none⟩=some (.string (bytes (nameOf p)))∧w.cell? ⟨x.1,1,none⟩=some (.string (bytes (jcf p)))
theorem ZJ.nil (w:World) (v:Value) (ps:List (List UInt8)):ZJ w v [] ps:=fun i x p h=>by simp at h
theorem ZJ.kept {w w':World} {v:Value} {vs:List (Nat×Nat)} {ps:List (List UInt8)} (h:ZJ w v vs ps) (k:Kept w w'):ZJ w' v vs ps:=fun i x p hx hp=>by
 obtain⟨h1,h2,h3,h4⟩:=h i x p hx hp;exact⟨Nat.lt_of_lt_of_le h1 k.size,h2,cell_later k h3,cell_later k h4⟩
theorem ZJ.snoc {w w':World} {v:Value} {vs:List (Nat×Nat)} {ps:List (List UInt8)} {g n cap b c:Nat} {p:List UInt8} (h:ZJ w v vs ps) (hg:w.grownBy w' v.ownBlock) (hgo:v.ownBlock=some g∨g=w.heap.size)
 (hp:ps[vs.length]?=some p) (hb:b<w.heap.size) (hne:v.ownBlock≠some b)
 (c0:w.cell? ⟨b,0,none⟩=some (.string (bytes (nameOf p)))) (c1:w.cell? ⟨b,1,none⟩=some (.string (bytes (jcf p)))) :
 ZJ w' (.slice (some ⟨g,0,none⟩) n cap) (vs++[(b,c)]) ps:=by
 have far:∀d,d<w.heap.size→v.ownBlock≠some d→d<w'.heap.size∧(Value.slice (some ⟨g,0,none⟩) n cap).ownBlock≠some d∧∀j,w'.cell? ⟨d,j,none⟩=w.cell? ⟨d,j,none⟩:=fun d hd hn=>by
  refine⟨Nat.lt_of_lt_of_le hd hg.size,?_,fun j=>hg.cell_far ⟨d,j,none⟩ hd (fun e=>hn e.symm)⟩;show some g≠some d;intro e;have e':g=d:=Option.some.inj e;rcases hgo with h1 | h1
  · exact hn (by rw[h1,e'])
  · omega
 intro i x q hx hq;by_cases hi:i<vs.length
 · rw[List.getElem?_append_left hi] at hx;obtain⟨h1,h2,h3,h4⟩:=h i x q hx hq;obtain⟨f1,f2,f3⟩:=far x.1 h1 h2;exact⟨f1,f2,(f3 0).trans h3,(f3 1).trans h4⟩
 · have hi2:i=vs.length:=by
    have:=(List.getElem?_eq_some_iff.1 hx).1;simp at this;omega
   subst hi2;have hxx:(b,c)=x:=by simpa using hx
   have hqq:q=p:=Option.some.inj (hq.symm.trans hp);subst hxx;subst hqq;obtain⟨f1,f2,f3⟩:=far b hb hne;exact⟨f1,f2,(f3 0).trans c0,(f3 1).trans c1⟩
open Go.RowKit
theorem jcC (a b:Int) (w:World) (ha:0≤a) (hb:0≤b) (hb':b≤9223372036854775807) (h:9223372036854775807<a+b):Calls Try.prog 95 #[.int .i64 a,.int .i64 b] w (YN 0 5 w):=by
 go_enter Try.func95,Try.ntmps95;go_wp2;go_ret2
 exact⟨rfl,rfl⟩
theorem jdQ (a b:Int) (w:World) (ha:0≤a) (hb:0≤b) (h:a+b≤9223372036854775807):Calls Try.prog 95 #[.int .i64 a,.int .i64 b] w (YN (a+b) 0 w):=by
 go_enter Try.func95,Try.ntmps95;go_wp2;go_ret2
 exact⟨rfl,rfl⟩
def Told (c:Int) (m:V) (w:World) (e:Ending) (w':World):Prop:=∃x,e=.returned (.tuple #[x,.int .i64 c])∧jZ 128 w' w.heap.size x m∧Kept w w'
theorem Told.none {c:Int} {w w':World} (k:Kept w w'):Told c [] w (.returned (.tuple #[.slice none 0 0,.int .i64 c])) w':=⟨_,rfl,jZ.nil _ _ _,k⟩
theorem JZ (a:Option Addr) (len cap:Nat) (l:V) (n:ByteArray) (w:World) (hr:jH w a len l) :
 Calls Try.prog 76 #[.slice a len cap,.string n] w fun e w'=>e=.returned (.int .i64 (jo l n))∧Kept w w':=by
 have hl:=hr.1;have hm:=hr.2.1;unfold maxLen at hm;rcases hr.form with h0 | ⟨b,off,rfl⟩
 · subst h0;have HE:=lH (show jo l n=0 by rw[List.eq_nil_of_length_eq_zero hl];rfl);clear hr hl;go_enter Try.func76,Try.ntmps76;go_wp2;refine wp_loop_rounds 1 ?_;rw[rounds_succ];go_wp2;go_ret;exact⟨jb HE.out.symm,Kept.refl _⟩
 · have HR:=lH hr;have HL:=lH hl;clear hr hl;go_enter Try.func76,Try.ntmps76;go_wp2;go_loopw [5] (fun i wr=>∃k:Nat,k≤len∧i=.int .i64 k∧jo (l.drop k) n=jo l n∧Kept w wr) (fun i _=>len-(intOf i).toNat)
   case atStart=>exact⟨0,Nat.zero_le _,rfl,rfl,Kept.refl _⟩
   case round =>
    obtain⟨k,hk,rfl,hrest,hK⟩:=hrel;have HK:=lH hK;have HS:=lH hrest;by_cases hlt:k<len
    · obtain⟨hb,c1,c2⟩:=(HR.out.kept hK).cells hlt;clear hK hrest;have HI:=lH (show k<l.length by rw[HL.out];exact hlt);by_cases e:eqS (nm l k) n=true
      · have E:=lH e;have e':((nm l k).toList==n.toList)=true:=e;clear e;go_wp2;go_ret;exact⟨jb (HS.out.symm.trans (jc8 HI.out E.out)).symm,HK.out⟩
      · have e:eqS (nm l k) n=false:=by simpa using e
        have E:=lH e;have e':((nm l k).toList==n.toList)=false:=e;clear e;go_wp2;go_roundw
        case rel=>exact⟨k+1,by omega,by go_num,(jcW HI.out E.out).symm.trans HS.out,HK.out⟩
        case measure=>simp[intOf];omega
    · have HI:=lH (show ¬k<l.length by rw[HL.out];exact hlt);clear hK hrest;go_wp2;go_ret;exact⟨jb (HS.out.symm.trans (jee HI.out)).symm,HK.out⟩
theorem jbQ (a a':Option Addr) (len cap len' cap':Nat) (l l':V) (w:World) (hr:jH w a len l) (hr':jH w a' len' l') :
 Calls Try.prog 60 #[.slice a len cap,.slice a' len' cap'] w fun e w'=>e=.returned (.bool (jW l' l))∧Kept w w':=by
 have hl:=hr.1;have hm:=hr.2.1;unfold maxLen at hm;rcases hr.form with h0 | ⟨b,off,rfl⟩
 · subst h0;have HE:=lH (show jW l' l=true by rw[List.eq_nil_of_length_eq_zero hl];rfl);clear hr hl hr';go_enter Try.func60,Try.ntmps60;go_wp2;refine wp_loop_rounds 1 ?_;rw[rounds_succ];go_wp2;go_ret;exact⟨je HE.out.symm,Kept.refl _⟩
 · have HR:=lH hr;have HL:=lH hl;have HR':=lH hr';clear hr hl hr';go_enter Try.func60,Try.ntmps60;go_wp2;go_loopw [5] (fun i wr=>∃k:Nat,k≤len∧i=.int .i64 k∧jW l' (l.drop k)=jW l' l∧Kept w wr) (fun i _=>len-(intOf i).toNat)
   case atStart=>exact⟨0,Nat.zero_le _,rfl,rfl,Kept.refl _⟩
   case round =>
    obtain⟨k,hk,rfl,hrest,hK⟩:=hrel;have HS:=lH hrest;have HK:=lH hK;by_cases hlt:k<len
    · obtain⟨hb,c1,c2⟩:=(HR.out.kept hK).cells hlt;clear hrest hK;have HI:=lH (show k<l.length by rw[HL.out];exact hlt);by_cases e:qn l k≤jo l' (nm l k)
      · have E:=lH (show jW l' (l.drop k)=jW l' (l.drop (k+1)) by rw[drop_cons HI.out,jW,decide_eq_true e];rfl);go_wp2;have f1:wr.drew.cell? ⟨b,off+k*2,none⟩=some (.string (nm l k)):=c1;have f2:wr.drew.cell? ⟨b,off+k*2+1,none⟩=some (.int .i64 (qn l k)):=c2;have f3:Kept w wr.drew:=HK.out.trans (Kept.drewN _ 1);go_region_held3 (fun W=>W.cell? ⟨b,off+k*2,none⟩=some (.string (nm l k))∧W.cell? ⟨b,off+k*2+1,none⟩=some (.int .i64 (qn l k))∧Kept w W) (first | exact⟨f1,f2,f3⟩ | assumption | exact XX (by assumption) (by assumption))
         (first | (go_at_call 76;refine(JZ _ _ _ l' _ _ (HR'.out.kept (Zu (by assumption)))).mono ?_;rintro e W2 ⟨rfl,hk2⟩))
        all_goals
         go_wp2;go_roundw
         case rel=>exact⟨k+1,by omega,by go_num,E.out.symm.trans HS.out,Zu (by assumption)⟩
         case measure=>simp[intOf];omega
      · have E:=lH (show jW l' (l.drop k)=false by rw[drop_cons HI.out,jW,decide_eq_false e];rfl);have e':jo l' (nm l k)<qn l k:=by omega
        clear e;go_wp2;have f1:wr.drew.cell? ⟨b,off+k*2,none⟩=some (.string (nm l k)):=c1;have f2:wr.drew.cell? ⟨b,off+k*2+1,none⟩=some (.int .i64 (qn l k)):=c2;have f3:Kept w wr.drew:=HK.out.trans (Kept.drewN _ 1);go_region_held3 (fun W=>W.cell? ⟨b,off+k*2,none⟩=some (.string (nm l k))∧W.cell? ⟨b,off+k*2+1,none⟩=some (.int .i64 (qn l k))∧Kept w W) (first | exact⟨f1,f2,f3⟩ | assumption | exact XX (by assumption) (by assumption))
         (first | (go_at_call 76;refine(JZ _ _ _ l' _ _ (HR'.out.kept (Zu (by assumption)))).mono ?_;rintro e W2 ⟨rfl,hk2⟩))
        all_goals
         go_wp2;go_ret;exact⟨je (HS.out.symm.trans E.out).symm,Zu (by assumption)⟩
    · have E:=lH (show jW l' (l.drop k)=true by rw[List.drop_of_length_le (by rw[HL.out];omega),jW]);clear hrest hK;go_wp2;go_ret;exact⟨je (HS.out.symm.trans E.out).symm,HK.out⟩
theorem jZ.reads {e:TypeId} {w:World} {B:Nat} {v:Value} {l:V} (h:jZ e w B v l):Reads w v l:=h.at_
theorem JN {n:ByteArray} {c:Bool} {w:World} (h:n.size≤maxLen) (e:isName n=c) :
 Calls Try.prog 33 #[.string n] w fun x w'=>x=.returned (.bool c)∧w=w':=by
 subst e;exact jg n w h
end Go.Proofs.Ytgfoenfaohhjcaa.Vec
namespace Go.Proofs.Ytgfoenfaohhjcaa
open Go.RowKit
structure Nod where
 name:ByteArray
 cap:Vec.V
 labels:PL
 taints:NL
 cordon:Bool
def Nod.zero:Nod:=⟨ByteArray.empty,[],[],[],false⟩
abbrev Jo (n:Nod) (v1 v2 v3:Value):Value:=.agg #[.string n.name,v1,v2,v3,.bool n.cordon]
structure zl (w:World) (v1 v2 v3:Value) (n:Nod):Prop where
 size:n.name.size≤maxLen
 cap:Vec.Reads w v1 n.cap
 labels:Reads jl w v2 n.labels
 taints:Reads jv w v3 n.taints
theorem zl.kept {w w':World} {v1 v2 v3:Value} {n:Nod} (h:zl w v1 v2 v3 n) (k:Kept w w'):zl w' v1 v2 v3 n:=⟨h.size,h.cap.kept k,h.labels.kept k,h.taints.kept k⟩
def Ya (w:World) (v:Value) (n:Nod):Prop:=∃v1 v2 v3,v=Jo n v1 v2 v3∧zl w v1 v2 v3 n
theorem Ya.kept {w w':World} {v:Value} {n:Nod} (h:Ya w v n) (k:Kept w w'):Ya w' v n:=by
 obtain⟨v1,v2,v3,e,h⟩:=h;exact⟨v1,v2,v3,e,h.kept k⟩
def jE (n:Nod):Int:=if isName n.name=false then 3 else if Vec.jn n.cap≠0 then Vec.jn n.cap else if JK n.labels≠0 then JK n.labels else Z6 n.taints
def or3 (a b c:Int):Int:=if a≠0 then a else if b≠0 then b else c
theorem jaO (n:Nod) (v1 v2 v3:Value) (w:World) (h:zl w v1 v2 v3 n) :
 Calls Try.prog 73 #[Jo n v1 v2 v3] w (Say (.int .i64 (jE n)) w):=by
 have hsz:=h.size;have HH:=lH h;by_cases h1:isName n.name=true
 · obtain⟨x1,hx1⟩:∃x,Vec.jn n.cap=x:=⟨_,rfl⟩
   obtain⟨x2,hx2⟩:∃x,JK n.labels=x:=⟨_,rfl⟩
   obtain⟨x3,hx3⟩:∃x,Z6 n.taints=x:=⟨_,rfl⟩
   have HX1:=lH hx1;have HX2:=lH hx2;have HX3:=lH hx3;have HV0:=lH (show jE n=if x1≠0 then x1 else if x2≠0 then x2 else x3 by unfold jE;rw[if_neg (by rw[h1];decide),hx1,hx2,hx3]);clear hx1 hx2 hx3 h;by_cases z1:x1=0
   · subst z1;by_cases z2:x2=0
     · subst z2;have HV:=lH (show jE n=x3 from HV0.out);unfold Jo;go_enter Try.func73,Try.ntmps73;go_wp2_with fail
       refine(Vec.JN hsz h1).mono ?_;rintro e w' ⟨rfl,rfl⟩;go_wp2_with fail
       have K:=lH (ja w (.cells #[.string n.name,v1,v2,v3,.bool n.cordon] 99));have hh:=w.alloc_heap_new (.cells #[.string n.name,v1,v2,v3,.bool n.cordon] 99);have c2:(w.alloc (.cells #[.string n.name,v1,v2,v3,.bool n.cordon] 99)).cell? ⟨w.heap.size,2,none⟩=some v2:=by rw[Lib.cell_of_heap hh];rfl
       have c3:(w.alloc (.cells #[.string n.name,v1,v2,v3,.bool n.cordon] 99)).cell? ⟨w.heap.size,3,none⟩=some v3:=by rw[Lib.cell_of_heap hh];rfl
       clear hh;refine(Vec.zR (HH.out.cap.kept K.out) HX1.out).mono ?_;rintro e w1 ⟨rfl,k1⟩;have K:=lH (K.out.trans k1);have c2:=cell_later k1 c2;have c3:=cell_later k1 c3;clear k1;go_wp2_with fail
       refine(zR (HH.out.labels.kept K.out) HX2.out).mono ?_;rintro e w2 ⟨rfl,k2⟩;have K:=lH (K.out.trans k2);have c2:=cell_later k2 c2;have c3:=cell_later k2 c3;clear k2;go_wp2_with fail
       refine(jbH (HH.out.taints.kept K.out) HX3.out).mono ?_;rintro e w3 ⟨rfl,k3⟩;have K:=lH (K.out.trans k3);clear k3;go_wp2;go_ret;exact⟨jb HV.out.symm,K.out⟩
     · have HV:=lH (show jE n=x2 by rw[HV0.out,if_neg (by decide),if_pos z2]);have z2':(x2 != 0)=true:=by simpa using z2
       clear z2;unfold Jo;go_enter Try.func73,Try.ntmps73;go_wp2_with fail
       refine(Vec.JN hsz h1).mono ?_;rintro e w' ⟨rfl,rfl⟩;go_wp2_with fail
       have K:=lH (ja w (.cells #[.string n.name,v1,v2,v3,.bool n.cordon] 99));have hh:=w.alloc_heap_new (.cells #[.string n.name,v1,v2,v3,.bool n.cordon] 99);have c2:(w.alloc (.cells #[.string n.name,v1,v2,v3,.bool n.cordon] 99)).cell? ⟨w.heap.size,2,none⟩=some v2:=by rw[Lib.cell_of_heap hh];rfl
       have c3:(w.alloc (.cells #[.string n.name,v1,v2,v3,.bool n.cordon] 99)).cell? ⟨w.heap.size,3,none⟩=some v3:=by rw[Lib.cell_of_heap hh];rfl
       clear hh;refine(Vec.zR (HH.out.cap.kept K.out) HX1.out).mono ?_;rintro e w1 ⟨rfl,k1⟩;have K:=lH (K.out.trans k1);have c2:=cell_later k1 c2;have c3:=cell_later k1 c3;clear k1;go_wp2_with fail
       refine(zR (HH.out.labels.kept K.out) HX2.out).mono ?_;rintro e w2 ⟨rfl,k2⟩;have K:=lH (K.out.trans k2);clear k2;go_wp2;go_ret;exact⟨jb HV.out.symm,K.out⟩
   · have HV:=lH (show jE n=x1 by rw[HV0.out,if_pos z1]);have z1':(x1 != 0)=true:=by simpa using z1
     clear z1;unfold Jo;go_enter Try.func73,Try.ntmps73;go_wp2_with fail
     refine(Vec.JN hsz h1).mono ?_;rintro e w' ⟨rfl,rfl⟩;go_wp2_with fail
     have K:=lH (ja w (.cells #[.string n.name,v1,v2,v3,.bool n.cordon] 99));have hh:=w.alloc_heap_new (.cells #[.string n.name,v1,v2,v3,.bool n.cordon] 99);have c2:(w.alloc (.cells #[.string n.name,v1,v2,v3,.bool n.cordon] 99)).cell? ⟨w.heap.size,2,none⟩=some v2:=by rw[Lib.cell_of_heap hh];rfl
     have c3:(w.alloc (.cells #[.string n.name,v1,v2,v3,.bool n.cordon] 99)).cell? ⟨w.heap.size,3,none⟩=some v3:=by rw[Lib.cell_of_heap hh];rfl
     clear hh;refine(Vec.zR (HH.out.cap.kept K.out) HX1.out).mono ?_;rintro e w1 ⟨rfl,k1⟩;have K:=lH (K.out.trans k1);clear k1;go_wp2;go_ret;exact⟨jb HV.out.symm,K.out⟩
 · have h1:isName n.name=false:=by simpa using h1
   have HV:=lH (show jE n=3 by unfold jE;rw[if_pos h1]);clear h;unfold Jo;go_enter Try.func73,Try.ntmps73;go_wp2_with (go_at_call 33;refine(Vec.JN hsz h1).mono ?_;rintro e w' ⟨rfl,rfl⟩)
   go_ret;exact⟨jb HV.out.symm,ja _ _⟩
def Jc (B:Nat) (w:World) (v:Value) (n:Nod):Prop:=∃a1 m1 c1 a2 m2 c2 a3 m3 c3,v=.agg #[.string n.name,.slice a1 m1 c1,.slice a2 m2 c2,.slice a3 m3 c3,.bool n.cordon]∧n.name.size≤maxLen∧Vec.Reads w (.slice a1 m1 c1) n.cap∧Reads jl w (.slice a2 m2 c2) n.labels∧Reads jv w (.slice a3 m3 c3) n.taints ∧
 (∀b off sp,a1=some ⟨b,off,sp⟩→B≤b)∧(∀b off sp,a2=some ⟨b,off,sp⟩→B≤b)∧(∀b off sp,a3=some ⟨b,off,sp⟩→B≤b)
theorem Jc.toR {B:Nat} {w:World} {v:Value} {n:Nod} (h:Jc B w v n):Ya w v n:=by
 obtain⟨a1,m1,c1,a2,m2,c2,a3,m3,c3,e,h0,h1,h2,h3,_⟩:=h;exact⟨_,_,_,e,h0,h1,h2,h3⟩
def XC (r:Int×Nod) (w:World) (e:Ending) (w':World):Prop:=(r.1=0→∃v,e=.returned v∧Jc w.heap.size w' v r.2)∧(r.1≠0→e=.panicked [zQ r.1])∧Kept w w'
theorem XC.good {r:Int×Nod} {w w':World} {v:Value} (h:r.1=0) (ho:Jc w.heap.size w' v r.2) (hb:Kept w w'):XC r w (.returned v) w':=⟨fun _=>⟨v,rfl,ho⟩,fun g=>absurd h g,hb⟩
theorem XC.bad {r:Int×Nod} {w w':World} {c:Int} (h:r.1=c) (hc:c≠0) (hb:Kept w w'):XC r w (.panicked [zQ c]) w':=⟨fun g=>absurd (h.symm.trans g) hc,fun _=>by rw[h],hb⟩
theorem Vec.jej.spelt {r:Int×Vec.V} {w w':World} {e:Ending} (h:Vec.jej r w e w'):∃a m cap,e=.returned (.tuple #[.slice a m cap,.int .i64 r.1])∧Vec.Reads w' (.slice a m cap) r.2∧(∀b off sp,a=some ⟨b,off,sp⟩→w.heap.size≤b∧b<w'.heap.size)∧Kept w w':=by
 obtain⟨v,rfl,ho,k⟩:=h;obtain⟨a,cap,rfl,h⟩:=ho.at_;exact⟨a,_,cap,rfl,⟨a,cap,rfl,h⟩,fun b off sp e=>ho.1.lt b (by subst e;rfl),k⟩
theorem Xm (w:World) (v0 v1 v2 v3 v4:Value) (T:TypeId) (W:World) (k:Kept (w.alloc (.cells #[v0,v1,v2,v3,v4] T)) W) :
 (W.cell? ⟨w.heap.size,0,none⟩=some v0∧W.cell? ⟨w.heap.size,1,none⟩=some v1∧W.cell? ⟨w.heap.size,2,none⟩=some v2∧W.cell? ⟨w.heap.size,3,none⟩=some v3∧W.cell? ⟨w.heap.size,4,none⟩=some v4) ∧
 W.frozen? ⟨w.heap.size,0,none⟩=false∧W.frozen? ⟨w.heap.size,1,none⟩=false∧W.frozen? ⟨w.heap.size,2,none⟩=false∧W.frozen? ⟨w.heap.size,3,none⟩=false∧W.frozen? ⟨w.heap.size,4,none⟩=false:=by
 have hh:=w.alloc_heap_new (.cells #[v0,v1,v2,v3,v4] T);have hf:∀j,W.frozen? ⟨w.heap.size,j,none⟩=false:=fun j=>by
  have:=k.frozen (p:=⟨w.heap.size,j,none⟩) (by simp);rw[this];unfold World.frozen?;rw[show (w.alloc (.cells #[v0,v1,v2,v3,v4] T)).heap[(⟨w.heap.size,j,none⟩:Addr).block]?=some (.cells #[v0,v1,v2,v3,v4] T) from hh];simp
 exact⟨⟨cell_later k (by rw[Lib.cell_of_heap hh];rfl),cell_later k (by rw[Lib.cell_of_heap hh];rfl),cell_later k (by rw[Lib.cell_of_heap hh];rfl),cell_later k (by rw[Lib.cell_of_heap hh];rfl),cell_later k (by rw[Lib.cell_of_heap hh];rfl)⟩,hf 0,hf 1,hf 2,hf 3,hf 4⟩
theorem Xz (W:World) (q:Nat) (u0 u1 u2 u3 u4:Value) (b:Nat) (h:b≠q) :
 (((((W.setCell ⟨q,0,none⟩ u0).setCell ⟨q,1,none⟩ u1).setCell ⟨q,2,none⟩ u2).setCell ⟨q,3,none⟩ u3).setCell ⟨q,4,none⟩ u4).heap[b]?=W.heap[b]? :=
 (Below.heap_setCell _ ⟨q,4,none⟩ _ b h).trans ((Below.heap_setCell _ ⟨q,3,none⟩ _ b h).trans ((Below.heap_setCell _ ⟨q,2,none⟩ _ b h).trans ((Below.heap_setCell _ ⟨q,1,none⟩ _ b h).trans (Below.heap_setCell _ ⟨q,0,none⟩ _ b h))))
theorem jcq (W:World) (q:Nat) (u0 u1 u2 u3 u4:Value) :
 (((((W.setCell ⟨q,0,none⟩ u0).setCell ⟨q,1,none⟩ u1).setCell ⟨q,2,none⟩ u2).setCell ⟨q,3,none⟩ u3).setCell ⟨q,4,none⟩ u4).heap.size=W.heap.size:=by simp[World.setCell]
theorem Reads.far {α:Type} {L:Lay α} {w w':World} {a:Option Addr} {m cap:Nat} {l:List α} (h:Reads L w (.slice a m cap) l) (hs:w'.heap.size=w.heap.size) (hb:∀b off sp,a=some ⟨b,off,sp⟩→w'.heap[b]?=w.heap[b]?):Reads L w' (.slice a m cap) l:=by
 obtain⟨a',cap',e,h1,h2,h3,h4,h5,h6⟩:=h
 cases e
 refine⟨a,cap,rfl,h1,h2,h3,h4,h5,h6.imp id ?_⟩;rintro ⟨b,off,rfl,hlt,hc⟩;exact⟨b,off,rfl,by rw[hs];exact hlt,fun i x j u hi hj=>(World.cell?_of_block (a:=⟨b,off+i*L.m+j,none⟩) (hb b off none rfl)).trans (hc i x j u hi hj)⟩
theorem Vec.Reads.far {w w':World} {a:Option Addr} {m cap:Nat} {l:Vec.V} (h:Vec.Reads w (.slice a m cap) l) (hs:w'.heap.size=w.heap.size) (hb:∀b off sp,a=some ⟨b,off,sp⟩→w'.heap[b]?=w.heap[b]?):Vec.Reads w' (.slice a m cap) l:=by
 obtain⟨a',cap',e,h1,h2,h3,h4,h5,h6⟩:=h
 cases e
 refine⟨a,cap,rfl,h1,h2,h3,h4,h5,h6.imp id ?_⟩;rintro ⟨b,off,rfl,hlt,hc⟩;exact⟨b,off,rfl,by rw[hs];exact hlt,fun i hi=>⟨(World.cell?_of_block (a:=⟨b,off+i*2,none⟩) (hb b off none rfl)).trans (hc i hi).1,(World.cell?_of_block (a:=⟨b,off+i*2+1,none⟩) (hb b off none rfl)).trans (hc i hi).2⟩⟩
theorem jbk {W:World} {q:Nat} {v0 v1 v2 v3 v4 u0 u1 u2 u3 u4:Value} (y0:W.cell? ⟨q,0,none⟩=some v0) (y1:W.cell? ⟨q,1,none⟩=some v1) (y2:W.cell? ⟨q,2,none⟩=some v2) (y3:W.cell? ⟨q,3,none⟩=some v3) (y4:W.cell? ⟨q,4,none⟩=some v4) (W':World)
 (hW:(((((W.setCell ⟨q,0,none⟩ u0).setCell ⟨q,1,none⟩ u1).setCell ⟨q,2,none⟩ u2).setCell ⟨q,3,none⟩ u3).setCell ⟨q,4,none⟩ u4)=W') :
 W'.cell? ⟨q,0,none⟩=some u0∧W'.cell? ⟨q,1,none⟩=some u1∧W'.cell? ⟨q,2,none⟩=some u2∧W'.cell? ⟨q,3,none⟩=some u3∧W'.cell? ⟨q,4,none⟩=some u4:=by
 subst hW;refine⟨?_,?_,?_,?_,?_⟩<;>go_simp
theorem Vec.Reads.mk' {w:World} {a:Option Addr} {cap:Nat} {l:Vec.V} (h1:l.length≤cap) (h2:cap≤maxLen) (h3:Vec.jH w a l.length l):Vec.Reads w (.slice a l.length cap) l:=⟨a,cap,rfl,h1,h2,h3⟩
theorem Reads.mk' {α:Type} {L:Lay α} {w:World} {a:Option Addr} {cap:Nat} {l:List α} (h1:l.length≤cap) (h2:cap≤maxLen) (h3:ji L w a l.length l):Reads L w (.slice a l.length cap) l:=⟨a,cap,rfl,h1,h2,h3⟩
theorem XF (B:Nat) (w:World):Jc B w (.agg #[.string ⟨#[]⟩,.slice none 0 0,.slice none 0 0,.slice none 0 0,.bool false]) Nod.zero :=
 ⟨none,0,0,none,0,0,none,0,0,rfl,(by decide:(0:Nat)≤maxLen),Vec.Reads.nil w,Reads.nil w,Reads.nil w,(fun _ _ _ e=>by cases e),(fun _ _ _ e=>by cases e),(fun _ _ _ e=>by cases e)⟩
theorem Jc.less {B B':Nat} {w:World} {v:Value} {n:Nod} (h:Jc B w v n) (hb:B'≤B):Jc B' w v n:=by
 obtain⟨a1,m1,c1,a2,m2,c2,a3,m3,c3,e,h0,h1,h2,h3,g1,g2,g3⟩:=h;exact⟨a1,m1,c1,a2,m2,c2,a3,m3,c3,e,h0,h1,h2,h3,fun b o s e=>Nat.le_trans hb (g1 b o s e),fun b o s e=>Nat.le_trans hb (g2 b o s e),fun b o s e=>Nat.le_trans hb (g3 b o s e)⟩
theorem Jc.far {B:Nat} {w w':World} {v:Value} {n:Nod} (h:Jc B w v n) (hs:w'.heap.size=w.heap.size) (hb:∀b,B≤b→w'.heap[b]?=w.heap[b]?):Jc B w' v n:=by
 obtain⟨a1,m1,c1,a2,m2,c2,a3,m3,c3,e,h0,h1,h2,h3,g1,g2,g3⟩:=h;exact⟨a1,m1,c1,a2,m2,c2,a3,m3,c3,e,h0,h1.far hs (fun b o s e=>hb b (g1 b o s e)),h2.far hs (fun b o s e=>hb b (g2 b o s e)),h3.far hs (fun b o s e=>hb b (g3 b o s e)),g1,g2,g3⟩
theorem Jc.kept {B:Nat} {w w':World} {v:Value} {n:Nod} (h:Jc B w v n) (k:Kept w w'):Jc B w' v n:=by
 obtain⟨a1,m1,c1,a2,m2,c2,a3,m3,c3,e,h0,h1,h2,h3,g1,g2,g3⟩:=h;exact⟨a1,m1,c1,a2,m2,c2,a3,m3,c3,e,h0,h1.kept k,h2.kept k,h3.kept k,g1,g2,g3⟩
def jeB (q:Nat) (x:ByteArray) (a1 a2 a3:Option Addr) (m1 c1 m2 c2 m3 c3:Nat) (b:Bool) (W W':World):Prop :=
 (W'.cell? ⟨q,0,none⟩=some (.string x)∧W'.cell? ⟨q,1,none⟩=some (.slice a1 m1 c1)∧W'.cell? ⟨q,2,none⟩=some (.slice a2 m2 c2)∧W'.cell? ⟨q,3,none⟩=some (.slice a3 m3 c3)∧W'.cell? ⟨q,4,none⟩=some (.bool b)) ∧
  W'.heap.size=W.heap.size∧(∀j,j≠q→W'.heap[j]?=W.heap[j]?)∧∀B w,B≤q→Below B w W→Below B w W'
theorem Yj {W:World} {q:Nat} {v0 v1 v2 v3 v4:Value} (y:W.cell? ⟨q,0,none⟩=some v0∧W.cell? ⟨q,1,none⟩=some v1∧W.cell? ⟨q,2,none⟩=some v2∧W.cell? ⟨q,3,none⟩=some v3∧W.cell? ⟨q,4,none⟩=some v4) (x:ByteArray) (a1 a2 a3:Option Addr) (m1 c1 m2 c2 m3 c3:Nat) (b:Bool) :
 jeB q x a1 a2 a3 m1 c1 m2 c2 m3 c3 b W (((((W.setCell ⟨q,0,none⟩ (.string x)).setCell ⟨q,1,none⟩ (.slice a1 m1 c1)).setCell ⟨q,2,none⟩ (.slice a2 m2 c2)).setCell ⟨q,3,none⟩ (.slice a3 m3 c3)).setCell ⟨q,4,none⟩ (.bool b)) :=
 ⟨jbk y.1 y.2.1 y.2.2.1 y.2.2.2.1 y.2.2.2.2 _ rfl,jcq _ _ _ _ _ _ _,fun j hj=>Xz _ _ _ _ _ _ _ j hj,
  fun B w hB hk=>((((hk.setCell (p:=⟨q,0,none⟩) hB _).setCell (p:=⟨q,1,none⟩) hB _).setCell (p:=⟨q,2,none⟩) hB _).setCell (p:=⟨q,3,none⟩) hB _).setCell (p:=⟨q,4,none⟩) hB _⟩
def Kind (t e:TypeId) (size bytes:Nat):Prop:=∃i z,Try.prog.underlying t=some (.slice e)∧Try.prog.info? e=some i∧i.zero=some z∧i.size=size∧i.bytes=bytes∧z.cells.size=size∧0<size
def ZS (w:World) (y:Value) (m:Nat) (news:List Value):Prop :=
 (∃ad c,y=.slice (some ad) m c∧∀j u,news[j]?=some u→w.cell? (ad.add j)=some u)∨(∃c,y=.slice none 0 c∧m=0)
theorem jar {t e:TypeId} {size bytes:Nat} (K:Kind t e size bytes) (w:World) (B:Nat) (hB:B≤w.heap.size) (g n cap:Nat) (xs:List Value) (hown:w.ownsRow B e size (.slice (some ⟨g,0,none⟩) n cap) n xs) (y:Value) (m:Nat) (news:List Value) (hl:news.length=m*size) (hone:∀u ∈ news,u.oneCell'=true) (hy:ZS w y m news)
 (h63:n+m≤maxLen) (hb:((n+m)+(n+m) / 4+192)*bytes≤281474976710656) (ty:TypeId) :
 ∃g' cap' w',(Builtin.append_ #[t,t] ty #[.slice (some ⟨g,0,none⟩) n cap,y]).run Try.prog w=.ok (.slice (some ⟨g',0,none⟩) (n+m) cap') w'∧w'.ownsRow B e size (.slice (some ⟨g',0,none⟩) (n+m) cap') (n+m) (xs++news)∧Below B w w'∧w.grownBy w' (some g):=by
 obtain⟨i,z,ht,hi,hz,h1,h8,hzs,hsz⟩:=K;have hbg:B≤g:=by
  rcases hown.2 with ⟨h0,_⟩ | ⟨g2,cap2,cur,h0,hbg,_⟩
  · cases h0
  · cases h0;exact hbg
 rcases hy with ⟨ad,c,rfl,hc⟩ | ⟨c,rfl,rfl⟩
 · obtain⟨v',w',hr,ho,hg,hnil⟩:=run_append_own_wide w B t ty e i z size bytes ht hi hz h1 h8 hzs hsz _ n xs hown ad m c news hl hc hone h63 hb hB;have hb:=(Below.refl B w).grown hg hB (by intro k hk;cases hk;exact hbg);rcases ho.2 with ⟨h0,_⟩ | ⟨g2,cap2,cur,rfl,_⟩
   · have:=(hnil.1 h0).1
     cases this
   · exact⟨g2,cap2,w',hr,ho,hb,hg⟩
 · have:news=[]:=List.eq_nil_of_length_eq_zero (by rw[hl,Nat.zero_mul]);subst this;rcases hown.2 with ⟨h0,_⟩ | ⟨g2,cap2,cur,h0,_,hg,hnc,_⟩
   · cases h0
   · cases h0
     have hr:=run_append_room_src w t t ty e i ht hi g 0 n cap (.slice none 0 c) 0 [] (Src.ofNil w ht c) (by omega) (by intro j hj;simp at hj) (by intro j hj;simp at hj);exact⟨_,_,_,hr,by simpa [World.setCells] using hown,Below.refl B w,World.grownBy.refl _ _⟩
theorem jbl {t e:TypeId} {size bytes:Nat} (Kd:Kind t e size bytes) {o:Oper} {a:Act} {K:Act→World→Prop} {Q:Exit→Act→World→Prop} (s x:Operand) (w:World)
 (ho:o.op=.call { callee:=.builtin .append,args:=#[s,x],argTypes:=#[t,t] })
 (B:Nat) (hB:B≤w.heap.size) (g n cap:Nat) (xs:List Value) (hs:a.eval s=.slice (some ⟨g,0,none⟩) n cap) (hown:w.ownsRow B e size (.slice (some ⟨g,0,none⟩) n cap) n xs) (y:Value) (m:Nat) (news:List Value) (hx:a.eval x=y) (hl:news.length=m*size) (hone:∀u ∈ news,u.oneCell'=true) (hy:ZS w y m news)
 (h63:n+m≤maxLen) (hb:((n+m)+(n+m) / 4+192)*bytes≤281474976710656)
 (h:∀g' cap' w',w'.ownsRow B e size (.slice (some ⟨g',0,none⟩) (n+m) cap') (n+m) (xs++news)→Below B w w'→w.grownBy w' (some g)→K (a.put o.dst (.slice (some ⟨g',0,none⟩) (n+m) cap')) w'):o.wp Try.prog a w K Q:=by
 obtain⟨g',cap',w',hr,h2,h3,h4⟩:=jar Kd w B hB g n cap xs hown y m news hl hone hy h63 hb o.type;unfold Oper.wp execOp;simp only[ho,resolve,invoke,builtin,Sem.run_bind,Sem.run_pure,Result.andThen_ok,List.map_toArray,List.map_cons,List.map_nil,hs,hx,hr];exact h g' cap' w' h2 h3 h4
theorem jC {t e:TypeId} {size bytes:Nat} (Kd:Kind t e size bytes) {ops:Array Oper} {rest:List Oper} {o:Oper} {a:Act} {Q:Exit→Act→World→Prop} (w:World) (hgd:o.guard=none) (s x:Operand)
 (ho:o.op=.call { callee:=.builtin .append,args:=#[s,x],argTypes:=#[t,t] })
 (B:Nat) (hB:B≤w.heap.size) (g n cap:Nat) (xs:List Value) (hs:a.eval s=.slice (some ⟨g,0,none⟩) n cap) (hown:w.ownsRow B e size (.slice (some ⟨g,0,none⟩) n cap) n xs) (y:Value) (m:Nat) (news:List Value) (hx:a.eval x=y) (hl:news.length=m*size) (hone:∀u ∈ news,u.oneCell'=true) (hy:ZS w y m news)
 (h63:n+m≤maxLen) (hb:((n+m)+(n+m) / 4+192)*bytes≤281474976710656)
 (h:∀g' cap' w',w'.ownsRow B e size (.slice (some ⟨g',0,none⟩) (n+m) cap') (n+m) (xs++news)→Below B w w'→w.grownBy w' (some g)→wpList Try.prog ops Q rest (a.put o.dst (.slice (some ⟨g',0,none⟩) (n+m) cap')) w'):wpList Try.prog ops Q (o::rest) a w :=
 wpList_plain hgd fun _ hK=>jbl Kd s x w ho B hB g n cap xs hs hown y m news hx hl hone hy h63 hb fun g' cap' w' h2 h3 h4=>hK _ _ (h g' cap' w' h2 h3 h4)
theorem ZD (w:World) (B size:Nat) (e:TypeId) (hB:B≤w.heap.size):(w.alloc (.cells #[] e)).ownsRow B e size (.slice (some ⟨w.heap.size,0,none⟩) 0 0) 0 [] :=
 ⟨by simp,.inr ⟨w.heap.size,0,#[],rfl,hB,World.alloc_heap_new w _,by omega,by unfold maxLen;omega,by simp,by simp⟩⟩
theorem ZG {w:World} {B g n cap size:Nat} {e:TypeId} {xs:List Value} (h:w.ownsRow B e size (.slice (some ⟨g,0,none⟩) n cap) n xs) (o:Obj):(w.alloc o).ownsRow B e size (.slice (some ⟨g,0,none⟩) n cap) n xs:=by
 refine⟨h.1,?_⟩;rcases h.2 with ⟨h0,_⟩ | ⟨g2,cap2,cur,h0,hb,hg,hr⟩
 · cases h0
 · cases h0
   exact .inr ⟨g,cap,cur,rfl,hb,(Below.heap_alloc w o g (Array.getElem?_eq_some_iff.1 hg).1).trans hg,hr⟩
theorem YV {W:World} {B:Nat} {e:TypeId} {cs:Array Value} {vals:List Value} (hv:cs=vals.toArray) (h:W.heap[B]?=some (.cells cs e (0,0))):ZS W (.slice (some ⟨B,0,none⟩) 1 1) 1 vals:=by
 subst hv;exact .inl ⟨_,1,rfl,by have:=World.news_of_block (cs:=vals.toArray) (t:=e) (fr:=(0,0)) h;simpa using this⟩
theorem Yi {α:Type} (L:Lay α):∀(l:List α) (j:Nat) (u:Value),(jc L l)[j]?=some u→∃i x k,l[i]?=some x∧(L.cs x)[k]?=some u∧j=i*L.m+k
 | [],j,u,h=>by simp[jc] at h
 | y::t,j,u,h=>by
  unfold jc at h;rw[List.flatMap_cons] at h;by_cases hj:j<L.m
  · rw[List.getElem?_append_left (by rw[L.len];exact hj)] at h;exact⟨0,y,j,rfl,h,by omega⟩
  · rw[List.getElem?_append_right (by rw[L.len];omega),L.len] at h;obtain⟨i,x,k,h1,h2,h3⟩:=Yi L t (j-L.m) u h;exact⟨i+1,x,k,by simpa using h1,h2,by rw[Nat.add_mul];omega⟩
theorem ji.src {α:Type} {L:Lay α} {w:World} {a:Option Addr} {len cap:Nat} {l:List α} (h:ji L w a len l):ZS w (.slice a len cap) len (jc L l):=by
 obtain⟨h0,h1,h2,h3⟩:=h;rcases h3 with h3 | ⟨b,off,rfl,hb,hc⟩
 · have hl:l=[]:=List.eq_nil_of_length_eq_zero (by omega);subst hl;subst h3
   cases a with
   | none=>exact .inr ⟨cap,rfl,rfl⟩
   | some ad=>exact .inl ⟨ad,cap,rfl,fun j u hu=>by simp[jc] at hu⟩
 · refine .inl ⟨_,cap,rfl,fun j u hu=>?_⟩;obtain⟨i,x,k,hi,hk,rfl⟩:=Yi L l j u hu;have e:(⟨b,off,none⟩:Addr).add (i*L.m+k)=⟨b,off+i*L.m+k,none⟩:=by
    unfold Addr.add;split<;>simp_all [Nat.add_assoc]
   rw[e];exact hc i x k u hi hk
def zZ (q:Nat) (v0 v1 v2 v3 v4:Value) (W:World):Prop :=
 (W.cell? ⟨q,0,none⟩=some v0∧W.cell? ⟨q,1,none⟩=some v1∧W.cell? ⟨q,2,none⟩=some v2∧W.cell? ⟨q,3,none⟩=some v3∧W.cell? ⟨q,4,none⟩=some v4) ∧
  W.frozen? ⟨q,0,none⟩=false∧W.frozen? ⟨q,1,none⟩=false∧W.frozen? ⟨q,2,none⟩=false∧W.frozen? ⟨q,3,none⟩=false∧W.frozen? ⟨q,4,none⟩=false
theorem zZ.block {q:Nat} {v0 v1 v2 v3 v4:Value} {W W':World} (h:zZ q v0 v1 v2 v3 v4 W) (e:W'.heap[q]?=W.heap[q]?):zZ q v0 v1 v2 v3 v4 W':=by
 have c:∀j,W'.cell? ⟨q,j,none⟩=W.cell? ⟨q,j,none⟩:=fun j=>World.cell?_of_block (a:=⟨q,j,none⟩) e;have f:∀j,W'.frozen? ⟨q,j,none⟩=W.frozen? ⟨q,j,none⟩:=fun j=>World.frozen?_of_block (a:=⟨q,j,none⟩) e;unfold zZ;simp only[c,f];exact h
theorem zZ.kept {q:Nat} {v0 v1 v2 v3 v4:Value} {W W':World} (h:zZ q v0 v1 v2 v3 v4 W) (k:Kept W W'):zZ q v0 v1 v2 v3 v4 W':=h.block (k.block q (World.block_lt_of_cell? _ _ h.1.1))
theorem zZ.other {q p j:Nat} {v0 v1 v2 v3 v4 u:Value} {W:World} (h:zZ q v0 v1 v2 v3 v4 W) (hp:q≠p):zZ q v0 v1 v2 v3 v4 (W.setCell ⟨p,j,none⟩ u):=h.block (Below.heap_setCell W ⟨p,j,none⟩ u q hp)
structure Yw (n:Nod):Prop where
 cap:n.cap.length≤1000000
 labels:n.labels.length≤1000000
 taints:n.taints.length≤1000000
def ju (w:World) (a:Option Addr) (len:Nat) (l:List Nod):Prop :=
 l.length=len∧len≤maxLen∧(len=0∨∃b off,a=some ⟨b,off,none⟩∧b<w.heap.size∧∀i n,l[i]?=some n→∃a1 m1 c1 a2 m2 c2 a3 m3 c3,
  w.cell? ⟨b,off+i*5,none⟩=some (.string n.name)∧w.cell? ⟨b,off+i*5+1,none⟩=some (.slice a1 m1 c1)∧w.cell? ⟨b,off+i*5+2,none⟩=some (.slice a2 m2 c2)∧w.cell? ⟨b,off+i*5+3,none⟩=some (.slice a3 m3 c3)∧w.cell? ⟨b,off+i*5+4,none⟩=some (.bool n.cordon) ∧
  zl w (.slice a1 m1 c1) (.slice a2 m2 c2) (.slice a3 m3 c3) n)
theorem ju.kept {w w':World} {a:Option Addr} {len:Nat} {l:List Nod} (h:ju w a len l) (k:Kept w w'):ju w' a len l:=by
 obtain⟨h0,h1,h2⟩:=h;refine⟨h0,h1,h2.imp id ?_⟩;rintro ⟨b,off,rfl,hb,hc⟩;refine⟨b,off,rfl,Nat.lt_of_lt_of_le hb k.size,fun i n hi=>?_⟩;obtain⟨a1,m1,c1,a2,m2,c2,a3,m3,c3,p0,p1,p2,p3,p4,hn⟩:=hc i n hi;exact⟨a1,m1,c1,a2,m2,c2,a3,m3,c3,cell_later k p0,cell_later k p1,cell_later k p2,cell_later k p3,cell_later k p4,hn.kept k⟩
theorem ju.form {w:World} {a:Option Addr} {len:Nat} {l:List Nod} (h:ju w a len l):len=0∨∃b off,a=some ⟨b,off,none⟩:=by
 obtain⟨_,_,h2⟩:=h;exact h2.imp id fun ⟨b,off,e,_⟩=>⟨b,off,e⟩
theorem ju.at_ {w:World} {b off len:Nat} {l:List Nod} {k:Nat} (h:ju w (some ⟨b,off,none⟩) len l) (hk:k<len):∃n a1 m1 c1 a2 m2 c2 a3 m3 c3,l[k]?=some n∧l.drop k=n::l.drop (k+1)∧b<w.heap.size ∧
 w.cell? ⟨b,off+k*5,none⟩=some (.string n.name)∧w.cell? ⟨b,off+k*5+1,none⟩=some (.slice a1 m1 c1)∧w.cell? ⟨b,off+k*5+2,none⟩=some (.slice a2 m2 c2)∧w.cell? ⟨b,off+k*5+3,none⟩=some (.slice a3 m3 c3)∧w.cell? ⟨b,off+k*5+4,none⟩=some (.bool n.cordon) ∧
 zl w (.slice a1 m1 c1) (.slice a2 m2 c2) (.slice a3 m3 c3) n:=by
 obtain⟨h0,_,h3⟩:=h;have hkl:k<l.length:=by omega
 rcases h3 with h3 | ⟨b',off',e,hb,hc⟩
 · omega
 · injection e with e;injection e with e1 e2 e3;subst e1;subst e2;have he:l[k]?=some l[k]:=List.getElem?_eq_getElem hkl;obtain⟨a1,m1,c1,a2,m2,c2,a3,m3,c3,r⟩:=hc k _ he;exact⟨l[k],a1,m1,c1,a2,m2,c2,a3,m3,c3,he,List.drop_eq_getElem_cons hkl,hb,r⟩
def zn (w:World) (v:Value) (l:List Nod):Prop:=∃a cap,v=.slice a l.length cap∧l.length≤cap∧cap≤maxLen∧ju w a l.length l
theorem zn.kept {w w':World} {v:Value} {l:List Nod} (h:zn w v l) (k:Kept w w'):zn w' v l:=by
 obtain⟨a,cap,e,h1,h2,h3⟩:=h;exact⟨a,cap,e,h1,h2,h3.kept k⟩
structure jh (q:Nat) (vs:List Value) (W:World):Prop where
 at_:∀i v,vs[i]?=some v→W.cell? ⟨q,i,none⟩=some v
 free:∀i,W.frozen? ⟨q,i,none⟩=false
theorem jh.block {q:Nat} {vs:List Value} {W W':World} (h:jh q vs W) (e:W'.heap[q]?=W.heap[q]?):jh q vs W' :=
 ⟨fun i v hv=>(World.cell?_of_block (a:=⟨q,i,none⟩) e).trans (h.at_ i v hv),fun i=>(World.frozen?_of_block (a:=⟨q,i,none⟩) e).trans (h.free i)⟩
theorem jh.lt {q:Nat} {v:Value} {vs:List Value} {W:World} (h:jh q (v::vs) W):q<W.heap.size:=World.block_lt_of_cell? _ _ (h.at_ 0 v rfl)
theorem jh.kept {q:Nat} {v:Value} {vs:List Value} {W W':World} (h:jh q (v::vs) W) (k:Kept W W'):jh q (v::vs) W':=h.block (k.block q h.lt)
theorem jh.other {q p j:Nat} {u:Value} {vs:List Value} {W:World} (h:jh q vs W) (hp:q≠p):jh q vs (W.setCell ⟨p,j,none⟩ u):=h.block (Below.heap_setCell W ⟨p,j,none⟩ u q hp)
theorem jd (w:World) (v:Value) (vs:List Value) (T:TypeId) (W:World) (k:Kept (w.alloc (.cells (v::vs).toArray T)) W):jh w.heap.size (v::vs) W:=by
 have hh:=w.alloc_heap_new (.cells (v::vs).toArray T);have h:jh w.heap.size (v::vs) (w.alloc (.cells (v::vs).toArray T)):=⟨fun i u hu=>by rw[Lib.cell_of_heap hh];simpa using hu,fun i=>by
  unfold World.frozen?;rw[show (w.alloc (.cells (v::vs).toArray T)).heap[(⟨w.heap.size,i,none⟩:Addr).block]?=some (.cells (v::vs).toArray T) from hh];simp⟩
 exact h.kept k
theorem jh.set {q j:Nat} {u:Value} {vs:List Value} {W:World} (h:jh q vs W) (hj:j<vs.length):jh q (vs.set j u) (W.setCell ⟨q,j,none⟩ u):=by
 refine⟨fun i v hv=>?_,fun i=>by rw[World.frozen?_setCell];exact h.free i⟩;by_cases e:j=i
 · subst e;have hv':v=u:=by rw[List.getElem?_set_self hj] at hv;exact(Option.some.inj hv).symm
   subst hv';exact World.cell?_setCell_same _ _ _ (h.at_ j _ (List.getElem?_eq_getElem hj))
 · rw[List.getElem?_set_ne e] at hv;rw[World.cell?_setCell_other _ _ _ _ (by simp)];exact h.at_ i v hv
theorem Yh (q:Nat):∀(vs:List Value) (o:Nat) (W:World),(W.setCells q o vs).heap.size=W.heap.size
 | [],_,_=>rfl
 | v::r,o,W=>by rw[World.setCells,Yh q r];simp[World.setCell]
theorem Jn (q:Nat):∀(vs:List Value) (o:Nat) (W:World) (b:Nat),b≠q→(W.setCells q o vs).heap[b]?=W.heap[b]?
 | [],_,_,_,_=>rfl
 | v::r,o,W,b,h=>by rw[World.setCells,Jn q r _ _ b h];exact Below.heap_setCell W ⟨q,o,none⟩ v b h
theorem jf (q:Nat):∀(vs:List Value) (o:Nat) (W:World) (B:Nat) (w:World),B≤q→Below B w W→Below B w (W.setCells q o vs)
 | [],_,_,_,_,_,k=>k
 | v::r,o,W,B,w,h,k=>by rw[World.setCells];exact jf q r _ _ B w h (k.setCell (p:=⟨q,o,none⟩) h _)
structure jeL (q:Nat) (vs:List Value) (W W':World):Prop where
 cells:jh q vs W'
 size:W'.heap.size=W.heap.size
 far:∀b,b≠q→W'.heap[b]?=W.heap[b]?
 below:∀B w,B≤q→Below B w W→Below B w W'
theorem zg {q:Nat} {us vs:List Value} {W:World} (h:jh q us W) (hl:us.length=vs.length):jeL q vs W (W.setCells q 0 vs):=by
 refine⟨⟨fun i v hv=>?_,fun i=>by rw[World.frozen?_setCells];exact h.free i⟩,Yh q vs 0 W,fun b hb=>Jn q vs 0 W b hb,fun B w hB k=>jf q vs 0 W B w hB k⟩;have hi:i<vs.length:=(List.getElem?_eq_some_iff.1 hv).1;have:=World.cell?_setCells_in q vs 0 W (fun j hj=>by rw[Nat.zero_add,h.at_ j _ (List.getElem?_eq_getElem (by omega))];rfl) i hi;rw[Nat.zero_add] at this;rw[this];obtain⟨_,e⟩:=List.getElem?_eq_some_iff.1 hv;rw[e]
def jI (l:List Nod) (x:ByteArray):Option Nod:=l.find? fun n=>eqS n.name x
def jU:Option ByteArray→List Nod→Int
 | _,[]=>0
 | prev,n::t=>if jE n≠0 then jE n else if Vec.jm prev n.name=true then 13 else jU (some n.name) t
def js (l:List Nod):Int:=if 32<l.length then 4 else jU none l
def Zd (l:List Nod) (k:Nat):Option ByteArray:=if k=0 then none else (l[k-1]?).map Nod.name
theorem jbn {l:List Nod} {k:Nat} (h:k=0) (s:ByteArray):Vec.jm (Zd l k) s=false:=by unfold Zd;rw[if_pos h];rfl
theorem jbe {l:List Nod} {k:Nat} {n:Nod} (h:¬k=0) (hn:l[k-1]?=some n) (s:ByteArray):Vec.jm (Zd l k) s=leS s n.name:=by unfold Zd;rw[if_neg h,hn];rfl
theorem jbD {l:List Nod} {k:Nat} {n:Nod} (hn:l[k]?=some n):Zd l (k+1)=some n.name:=by unfold Zd;rw[if_neg (by omega),Nat.add_sub_cancel,hn];rfl
theorem Xd {p:Option ByteArray} {n:Nod} {t:List Nod} (h:jE n≠0):jU p (n::t)=jE n:=by rw[jU,if_pos h]
theorem Z7 {p:Option ByteArray} {n:Nod} {t:List Nod} (h:jE n=0) (b:Vec.jm p n.name=true):jU p (n::t)=13:=by rw[jU,if_neg (by rw[h];decide),if_pos b]
theorem Zv {p:Option ByteArray} {n:Nod} {t:List Nod} (h:jE n=0) (b:Vec.jm p n.name=false):jU p (n::t)=jU (some n.name) t:=by rw[jU,if_neg (by rw[h];decide),if_neg (by rw[b];decide)]
theorem qo (a:Option Addr) (len cap:Nat) (l:List Nod) (w:World) (hr:ju w a len l) :
 Calls Try.prog 56 #[.slice a len cap] w (Say (.int .i64 (js l)) w):=by
 have hl:=hr.1;have hm:=hr.2.1;unfold maxLen at hm;by_cases h32:32<len
 · have HV:=lH (show js l=4 by unfold js;rw[if_pos (by omega)]);clear hr hl;go_enter Try.func56,Try.ntmps56;go_wp2;go_ret;exact⟨jb HV.out.symm,Kept.refl _⟩
 · have HV:=lH (show js l=jU none l by unfold js;rw[if_neg (by omega)]);have h32':len≤32:=by omega
   by_cases h0:len=0
   · subst h0;have HE:=lH (show js l=0 by rw[HV.out,List.eq_nil_of_length_eq_zero hl];rfl);clear hr hl h32;go_enter Try.func56,Try.ntmps56;go_wp2;refine wp_loop_rounds 1 ?_;rw[rounds_succ];go_wp2;go_ret;exact⟨jb HE.out.symm,Kept.refl _⟩
   · obtain⟨b,off,rfl⟩:=hr.form.resolve_left h0;have HR:=lH hr;have HL:=lH hl;clear hr hl h0 h32;go_enter Try.func56,Try.ntmps56;go_wp2;go_loopw [3] (fun i wr=>∃k:Nat,k≤len∧i=.int .i64 k∧jU (Zd l k) (l.drop k)=jU none l∧Kept w wr) (fun i _=>len-(intOf i).toNat)
     case atStart=>exact⟨0,Nat.zero_le _,rfl,rfl,Kept.refl _⟩
     case round =>
      obtain⟨k,hk,rfl,hrest,hK⟩:=hrel;have HS:=lH (HV.out.trans hrest.symm);have HT:=lH hrest;have HK:=lH hK;by_cases hlt:k<len
      · obtain⟨n,a1,m1,c1,a2,m2,c2,a3,m3,c3,hn,hd,hb,p0,p1,p2,p3,p4,hat⟩:=(HR.out.kept hK).at_ hlt;have HAT:=lH hat;have HD:=lH hd;have HNX:=lH (jbD hn);have HCK:=lH (fun W (kk:Kept wr W)=>jaO n (.slice a1 m1 c1) (.slice a2 m2 c2) (.slice a3 m3 c3) W (HAT.out.kept kk));unfold Jo at HCK;obtain⟨ck,hck⟩:∃x,jE n=x:=⟨_,rfl⟩
        have HCN:=lH hck;rw[hck] at HCK;have hkk:(k:Int)<(len:Int):=by omega
        clear hrest hK hat hd hck;by_cases z1:ck=0
        · subst z1;by_cases h0:k=0
          · have hd0:decide (0<k)=false:=by subst h0;decide
            have HP:=lH (jbn (l:=l) h0 n.name);clear h0;go_wp2_with fail
            refine(HCK.out _ (Kept.refl _)).mono ?_;rintro e w1 ⟨rfl,kk⟩;have KW:=lH kk;clear kk;go_wp2;go_quiet (fail)
            go_wp2;go_roundw
            case rel=>exact⟨k+1,by omega,by go_num,(show jU (Zd l (k+1)) (l.drop (k+1))=jU none l by rw[←HT.out,HD.out,Zv HCN.out HP.out,HNX.out]),HK.out.trans (KW.out.trans (Kept.drewN _ _))⟩
            case measure=>simp[intOf];omega
          · have hd0:decide (0<k)=true:=by simp;omega
            have g1:0≤(k:Int)-1:=by omega
            have g2:(k:Int)-1<(len:Int):=by omega
            have g3:((k:Int)-1).toNat=k-1:=by omega
            obtain⟨n9,_,_,_,_,_,_,_,_,_,hn9,-,hb9,o0,-⟩:=(HR.out.kept HK.out).at_ (show k-1<len by omega);have HP:=lH (jbe (l:=l) h0 hn9 n.name);clear h0 hn9;by_cases n3:leS n.name n9.name=true
            · have n3':(Op.bytesLess n.name.toList n9.name.toList||n.name.toList==n9.name.toList)=true:=n3;have N3:=lH n3;clear n3;go_wp2_with fail
              refine(HCK.out _ (Kept.refl _)).mono ?_;rintro e w1 ⟨rfl,kk⟩;have KW:=lH kk;have o1:=cell_later kk o0;have p9:=cell_later kk p0;clear kk;go_wp2;go_quiet (fail)
              go_wp2;go_ret;exact⟨jb (show (13:Int)=js l by rw[HS.out,HD.out,Z7 HCN.out (HP.out.trans N3.out)]),HK.out.trans (KW.out.trans (Kept.drewN _ _))⟩
            · have n3:leS n.name n9.name=false:=by simpa using n3
              have n3':(Op.bytesLess n.name.toList n9.name.toList||n.name.toList==n9.name.toList)=false:=n3;have N3:=lH n3;clear n3;go_wp2_with fail
              refine(HCK.out _ (Kept.refl _)).mono ?_;rintro e w1 ⟨rfl,kk⟩;have KW:=lH kk;have o1:=cell_later kk o0;have p9:=cell_later kk p0;clear kk;go_wp2;go_quiet (fail)
              go_wp2;go_roundw
              case rel=>exact⟨k+1,by omega,by go_num,(show jU (Zd l (k+1)) (l.drop (k+1))=jU none l by rw[←HT.out,HD.out,Zv HCN.out (HP.out.trans N3.out),HNX.out]),HK.out.trans (KW.out.trans (Kept.drewN _ _))⟩
              case measure=>simp[intOf];omega
        · have z1':(ck != 0)=true:=by simpa using z1
          have HB:=lH (show js l=ck by rw[HS.out,HD.out,Xd (by rw[HCN.out];exact z1),HCN.out]);clear z1;go_wp2_with fail
          refine(HCK.out _ (Kept.refl _)).mono ?_;rintro e w1 ⟨rfl,kk⟩;have KW:=lH kk;clear kk;go_wp2;go_ret;exact⟨jb HB.out.symm,HK.out.trans KW.out⟩
      · have HE:=lH (show js l=0 by rw[HS.out,List.drop_of_length_le (by rw[HL.out];omega)];rfl);clear hrest hK;go_wp2;go_ret;exact⟨jb HE.out.symm,HK.out⟩
theorem jby {v:Value} {l:List Nod} {c:Int} {w:World} (h:zn w v l) (hc:js l=c):Calls Try.prog 56 #[v] w (Say (.int .i64 c) w):=by
 subst hc;obtain⟨a,cap,rfl,_,_,hr⟩:=h;exact qo a _ cap l w hr
def zx (x:NT):Bool:=decide (x.1.size≤50)&&decide (x.2.1.size≤50)
def zO (l:NL):Bool:=decide (l.length≤20)&&l.all zx
theorem jdt (a:Option Addr) (len cap:Nat) (l:NL) (w:World) (hr:ji jv w a len l) :
 Calls Try.prog 72 #[.slice a len cap] w fun e w'=>e=.returned (.bool (zO l))∧w=w':=by
 have hl:=hr.1;have hm:=hr.2.1;unfold maxLen at hm;by_cases h20:len≤20
 · have HV:=lH (show zO l=l.all zx by unfold zO;rw[decide_eq_true (by omega)];rfl);rcases hr.form with h0 | ⟨b,off,rfl⟩
   · subst h0;have HE:=lH (show zO l=true by rw[HV.out,List.eq_nil_of_length_eq_zero hl];rfl);clear hr hl;go_enter Try.func72,Try.ntmps72;go_wp2;refine wp_loop_rounds 1 ?_;rw[rounds_succ];go_wp2;go_ret;exact⟨je HE.out.symm,rfl⟩
   · have HR:=lH hr;have HL:=lH hl;clear hr hl;go_enter Try.func72,Try.ntmps72;go_wp2;go_loop [3] (fun i=>∃k:Nat,k≤len∧i=.int .i64 k∧(l.drop k).all zx=l.all zx) (fun i=>len-(intOf i).toNat)
     case atStart=>exact⟨0,Nat.zero_le _,rfl,rfl⟩
     case round =>
      obtain⟨k,hk,rfl,hrest⟩:=hrel;by_cases hlt:k<len
      · obtain⟨x,y,m,hx,hd,hb,hz,hz2,c1,c2,c3⟩:=HR.out.tri hlt;have HT:=lH (hrest.symm.trans ((congrArg (fun z=>z.all zx) hd).trans (all_cons _ _ _)));clear hrest hx hd;unfold maxLen at hz hz2;by_cases e:x.size≤50
        · by_cases e2:y.size≤50
          · have E:=lH (show zx (x,y,m)=true by unfold zx;rw[decide_eq_true e,decide_eq_true e2];rfl);go_wp2;go_round
            case rel=>exact⟨k+1,by omega,by go_num,(HT.out.trans (by rw[E.out];exact Bool.true_and _)).symm⟩
            case measure=>simp[intOf];omega
          · have E:=lH (show zx (x,y,m)=false by unfold zx;rw[decide_eq_false e2];exact Bool.and_false _);have e2':50<y.size:=by omega
            clear e2;go_wp2;go_ret;exact⟨je (HV.out.trans (HT.out.trans (by rw[E.out];exact Bool.false_and _))).symm,rfl⟩
        · have E:=lH (show zx (x,y,m)=false by unfold zx;rw[decide_eq_false e];exact Bool.false_and _);have e':50<x.size:=by omega
          clear e;go_wp2;go_ret;exact⟨je (HV.out.trans (HT.out.trans (by rw[E.out];exact Bool.false_and _))).symm,rfl⟩
      · have HS:=lH ((HV.out.trans hrest.symm).trans (congrArg (fun z=>z.all zx) (zM (by rw[HL.out];exact hlt))));clear hrest;go_wp2;go_ret;exact⟨je (HS.out.trans rfl).symm,rfl⟩
 · have HV:=lH (show zO l=false by unfold zO;rw[decide_eq_false (by omega)];rfl);have h9:20<len:=by omega
   clear h20 hr hl;go_enter Try.func72,Try.ntmps72;go_wp2;go_ret;exact⟨je HV.out.symm,rfl⟩
theorem jdl (a:Option Addr) (len cap:Nat) (l:NL) (w:World) (hr:ji jv w a len l) :
 Calls Try.prog 32 #[.slice a len cap] w fun e w'=>e=.returned (.bool (zO l))∧w=w':=by
 have hl:=hr.1;have hm:=hr.2.1;unfold maxLen at hm;by_cases h20:len≤20
 · have HV:=lH (show zO l=l.all zx by unfold zO;rw[decide_eq_true (by omega)];rfl);rcases hr.form with h0 | ⟨b,off,rfl⟩
   · subst h0;have HE:=lH (show zO l=true by rw[HV.out,List.eq_nil_of_length_eq_zero hl];rfl);clear hr hl;go_enter Try.func32,Try.ntmps32;go_wp2;refine wp_loop_rounds 1 ?_;rw[rounds_succ];go_wp2;go_ret;exact⟨je HE.out.symm,rfl⟩
   · have HR:=lH hr;have HL:=lH hl;clear hr hl;go_enter Try.func32,Try.ntmps32;go_wp2;go_loop [3] (fun i=>∃k:Nat,k≤len∧i=.int .i64 k∧(l.drop k).all zx=l.all zx) (fun i=>len-(intOf i).toNat)
     case atStart=>exact⟨0,Nat.zero_le _,rfl,rfl⟩
     case round =>
      obtain⟨k,hk,rfl,hrest⟩:=hrel;by_cases hlt:k<len
      · obtain⟨x,y,m,hx,hd,hb,hz,hz2,c1,c2,c3⟩:=HR.out.tri hlt;have HT:=lH (hrest.symm.trans ((congrArg (fun z=>z.all zx) hd).trans (all_cons _ _ _)));clear hrest hx hd;unfold maxLen at hz hz2;by_cases e:x.size≤50
        · by_cases e2:y.size≤50
          · have E:=lH (show zx (x,y,m)=true by unfold zx;rw[decide_eq_true e,decide_eq_true e2];rfl);go_wp2;go_round
            case rel=>exact⟨k+1,by omega,by go_num,(HT.out.trans (by rw[E.out];exact Bool.true_and _)).symm⟩
            case measure=>simp[intOf];omega
          · have E:=lH (show zx (x,y,m)=false by unfold zx;rw[decide_eq_false e2];exact Bool.and_false _);have e2':50<y.size:=by omega
            clear e2;go_wp2;go_ret;exact⟨je (HV.out.trans (HT.out.trans (by rw[E.out];exact Bool.false_and _))).symm,rfl⟩
        · have E:=lH (show zx (x,y,m)=false by unfold zx;rw[decide_eq_false e];exact Bool.false_and _);have e':50<x.size:=by omega
          clear e;go_wp2;go_ret;exact⟨je (HV.out.trans (HT.out.trans (by rw[E.out];exact Bool.false_and _))).symm,rfl⟩
      · have HS:=lH ((HV.out.trans hrest.symm).trans (congrArg (fun z=>z.all zx) (zM (by rw[HL.out];exact hlt))));clear hrest;go_wp2;go_ret;exact⟨je (HS.out.trans rfl).symm,rfl⟩
 · have HV:=lH (show zO l=false by unfold zO;rw[decide_eq_false (by omega)];rfl);have h9:20<len:=by omega
   clear h20 hr hl;go_enter Try.func32,Try.ntmps32;go_wp2;go_ret;exact⟨je HV.out.symm,rfl⟩
theorem jez {v:Value} {l:NL} {w:World} (h:Reads jv w v l):Calls Try.prog 72 #[v] w fun e w'=>e=.returned (.bool (zO l))∧w=w':=by
 obtain⟨a,cap,rfl,_,_,hr⟩:=h;exact jdt a _ cap l w hr
theorem jeE {v:Value} {l:NL} {w:World} (h:Reads jv w v l):Calls Try.prog 32 #[v] w fun e w'=>e=.returned (.bool (zO l))∧w=w':=by
 obtain⟨a,cap,rfl,_,_,hr⟩:=h;exact jdl a _ cap l w hr
theorem ja6 {s:NL} (h:zO s=true):s.length≤20∧∀x ∈ s,x.1.size≤50∧x.2.1.size≤50:=by
 unfold zO at h;simp only[Bool.and_eq_true,decide_eq_true_eq,List.all_eq_true] at h;refine⟨h.1,fun x hx=>?_⟩;have:=h.2 x hx;unfold zx at this;simpa using this
theorem jdz:(Try.prog.info? 177).map (fun i=>(i.zero,i.size,i.bytes))=some (some (.agg #[.string ByteArray.empty,.string ByteArray.empty,.bool false]),3,40):=by kernel_rfl
theorem jdV (a:Option Addr) (len cap:Nat) (l:NL) (w:World) (hr:ji jv w a len l) (hlen:len≤1000000) :
 Calls Try.prog 77 #[.slice a len cap] w (fun e w'=>∃x,e=.returned x∧Own jv 177 w' w.heap.size x l∧Kept w w'):=by
 have hl:=hr.1;obtain⟨i0,hi,hz0,hz1,hz2'⟩:=info_parts jdz;rcases hr.form with h0 | ⟨b,off,rfl⟩
 · subst h0;have hl0:l=[]:=List.eq_nil_of_length_eq_zero hl;subst hl0;clear hr hl hi hz0 hz1 hz2';go_enter Try.func77,Try.ntmps77;go_wp2;refine wp_loop_rounds 1 ?_;rw[rounds_succ];go_wp2;go_ret;exact⟨_,rfl,Own.nil _ _ _,Kept.refl _⟩
 · have HR:=lH hr;have HL:=lH hl;clear hr hl;go_enter Try.func77,Try.ntmps77;go_wp2;go_loopw [3,4] (fun v i wr=>∃k:Nat,k≤len∧i=.int .i64 k∧Own jv 177 wr w.heap.size v (l.take k)∧Below w.heap.size w wr) (fun _ i _=>len-(intOf i).toNat)
   case atStart=>exact⟨0,Nat.zero_le _,rfl,Own.nil _ _ _,Below.refl _ _⟩
   case round =>
    obtain⟨k,hk,rfl,ho,hB⟩:=hrel;have HO:=lH ho;have HB:=lH hB;have HT:=lH (show (l.take k).length=k by rw[List.length_take,HL.out];omega);have HOWN:=lH (show wr.ownsRow w.heap.size 177 3 u3 k (jc jv (l.take k)) by have:=HO.out.1;rw[HT.out] at this;exact this);by_cases hlt:k<len
    · obtain⟨x,y,m,hx,hd,hb,hz,hz2,c0,c1,c2⟩:=(HR.out.kept hB).tri hlt;have HX:=lH hx;have hbw:b<w.heap.size:=by obtain⟨z,_,_,h,_⟩:=HR.out.cells hlt;exact h
      have hbase:w.heap.size≤wr.heap.size:=hB.size;have HNE:=lH (show u3.ownBlock≠some b by
       intro e;have:=(HOWN.out.lt b e).1;omega)
      have HBASE:=lH (show w.heap.size≤(wr.alloc (.cells #[.string x,.string y,.bool m] 177)).drew.heap.size by simp;omega);have HBD:=lH (show Below w.heap.size w ((wr.alloc (.cells #[.string x,.string y,.bool m] 177)).drew) from HB.out.trans (Below.mono ((ja wr _).trans (Kept.drewN _ 1)) hbase));have hk1:(k:Int)<(len:Int):=by omega
      have HFK:=lH (show jv.fine (x,y,m) from⟨hz,hz2⟩);clear ho hB hx hd hz hz2;go_wp2_with fail
      go_region_held3 (fun W=>W.cell? ⟨b,off+k*3,none⟩=some (.string x)∧W.cell? ⟨b,off+k*3+1,none⟩=some (.string y)∧W.cell? ⟨b,off+k*3+2,none⟩=some (.bool m))
       (first
         | go_keep
         | (go_split_ands
            refine⟨?_,?_,?_⟩
            · (refine(hgrow.cell_far ⟨b,off+k*3,none⟩ (by simp;omega) (Ne.symm HNE.out)).trans ?_;assumption)
            · (refine(hgrow.cell_far ⟨b,off+k*3+1,none⟩ (by simp;omega) (Ne.symm HNE.out)).trans ?_;assumption)
            · (refine(hgrow.cell_far ⟨b,off+k*3+2,none⟩ (by simp;omega) (Ne.symm HNE.out)).trans ?_;assumption)))
       ((refine step_append_lies _ (by rfl) _ _ _ (by rfl) w.heap.size 177 i0 _ 3 40 Try.underlying97 hi hz0 hz1 hz2' rfl (by decide) u3 k (jc jv (l.take k)) (by rfl) ((HOWN.out.alloc _).drew)
          ⟨wr.heap.size,0,none⟩ 1 1 [.string x,.string y,.bool m] (by rfl) (by rfl) (World.news_of_block (cs:=#[.string x,.string y,.bool m]) (t:=177) (fr:=(0,0)) (heap_alloc_new wr _)) (XI x y m)
          (by decide) (by unfold maxLen;omega) (by omega) (by simp;omega) (wr.heap.size+1) (by simp) ?_;intro gg cap1 w1 hown1 hgrow hat hlt1))
      all_goals
       go_wp2;go_roundw
       case rel=>exact⟨k+1,by omega,by go_num,by rw[zh HX.out];exact Own.snoc hown1 (by rw[HT.out]) HO.out.2 HFK.out,HBD.out.grown hgrow HBASE.out (fun j hj=>(HOWN.out.lt j hj).1)⟩
       case measure=>simp[intOf];omega
    · have HK:=lH (show l.take k=l by rw[List.take_of_length_le (by rw[HL.out];omega)]);clear ho hB;go_wp2;go_ret;exact⟨_,rfl,by have h:=HO.out;rw[HK.out] at h;exact h,HB.out⟩
theorem jdg:(Try.prog.info? 130).map (fun i=>(i.zero,i.size,i.bytes))=some (some (.agg #[.string ByteArray.empty,.string ByteArray.empty,.bool false]),3,40):=by kernel_rfl
theorem jdM (a:Option Addr) (len cap:Nat) (l:NL) (w:World) (hr:ji jv w a len l) (hlen:len≤1000000) :
 Calls Try.prog 40 #[.slice a len cap] w (fun e w'=>∃x,e=.returned x∧Own jv 130 w' w.heap.size x l∧Kept w w'):=by
 have hl:=hr.1;obtain⟨i0,hi,hz0,hz1,hz2'⟩:=info_parts jdg;rcases hr.form with h0 | ⟨b,off,rfl⟩
 · subst h0;have hl0:l=[]:=List.eq_nil_of_length_eq_zero hl;subst hl0;clear hr hl hi hz0 hz1 hz2';go_enter Try.func40,Try.ntmps40;go_wp2;refine wp_loop_rounds 1 ?_;rw[rounds_succ];go_wp2;go_ret;exact⟨_,rfl,Own.nil _ _ _,Kept.refl _⟩
 · have HR:=lH hr;have HL:=lH hl;clear hr hl;go_enter Try.func40,Try.ntmps40;go_wp2;go_loopw [3,4] (fun v i wr=>∃k:Nat,k≤len∧i=.int .i64 k∧Own jv 130 wr w.heap.size v (l.take k)∧Below w.heap.size w wr) (fun _ i _=>len-(intOf i).toNat)
   case atStart=>exact⟨0,Nat.zero_le _,rfl,Own.nil _ _ _,Below.refl _ _⟩
   case round =>
    obtain⟨k,hk,rfl,ho,hB⟩:=hrel;have HO:=lH ho;have HB:=lH hB;have HT:=lH (show (l.take k).length=k by rw[List.length_take,HL.out];omega);have HOWN:=lH (show wr.ownsRow w.heap.size 130 3 u3 k (jc jv (l.take k)) by have:=HO.out.1;rw[HT.out] at this;exact this);by_cases hlt:k<len
    · obtain⟨x,y,m,hx,hd,hb,hz,hz2,c0,c1,c2⟩:=(HR.out.kept hB).tri hlt;have HX:=lH hx;have hbw:b<w.heap.size:=by obtain⟨z,_,_,h,_⟩:=HR.out.cells hlt;exact h
      have hbase:w.heap.size≤wr.heap.size:=hB.size;have HNE:=lH (show u3.ownBlock≠some b by
       intro e;have:=(HOWN.out.lt b e).1;omega)
      have HBASE:=lH (show w.heap.size≤(wr.alloc (.cells #[.string x,.string y,.bool m] 130)).drew.heap.size by simp;omega);have HBD:=lH (show Below w.heap.size w ((wr.alloc (.cells #[.string x,.string y,.bool m] 130)).drew) from HB.out.trans (Below.mono ((ja wr _).trans (Kept.drewN _ 1)) hbase));have hk1:(k:Int)<(len:Int):=by omega
      have HFK:=lH (show jv.fine (x,y,m) from⟨hz,hz2⟩);clear ho hB hx hd hz hz2;go_wp2_with fail
      go_region_held3 (fun W=>W.cell? ⟨b,off+k*3,none⟩=some (.string x)∧W.cell? ⟨b,off+k*3+1,none⟩=some (.string y)∧W.cell? ⟨b,off+k*3+2,none⟩=some (.bool m))
       (first
         | go_keep
         | (go_split_ands
            refine⟨?_,?_,?_⟩
            · (refine(hgrow.cell_far ⟨b,off+k*3,none⟩ (by simp;omega) (Ne.symm HNE.out)).trans ?_;assumption)
            · (refine(hgrow.cell_far ⟨b,off+k*3+1,none⟩ (by simp;omega) (Ne.symm HNE.out)).trans ?_;assumption)
            · (refine(hgrow.cell_far ⟨b,off+k*3+2,none⟩ (by simp;omega) (Ne.symm HNE.out)).trans ?_;assumption)))
       ((refine step_append_lies _ (by rfl) _ _ _ (by rfl) w.heap.size 130 i0 _ 3 40 Try.underlying43 hi hz0 hz1 hz2' rfl (by decide) u3 k (jc jv (l.take k)) (by rfl) ((HOWN.out.alloc _).drew)
          ⟨wr.heap.size,0,none⟩ 1 1 [.string x,.string y,.bool m] (by rfl) (by rfl) (World.news_of_block (cs:=#[.string x,.string y,.bool m]) (t:=130) (fr:=(0,0)) (heap_alloc_new wr _)) (XI x y m)
          (by decide) (by unfold maxLen;omega) (by omega) (by simp;omega) (wr.heap.size+1) (by simp) ?_;intro gg cap1 w1 hown1 hgrow hat hlt1))
      all_goals
       go_wp2;go_roundw
       case rel=>exact⟨k+1,by omega,by go_num,by rw[zh HX.out];exact Own.snoc hown1 (by rw[HT.out]) HO.out.2 HFK.out,HBD.out.grown hgrow HBASE.out (fun j hj=>(HOWN.out.lt j hj).1)⟩
       case measure=>simp[intOf];omega
    · have HK:=lH (show l.take k=l by rw[List.take_of_length_le (by rw[HL.out];omega)]);clear ho hB;go_wp2;go_ret;exact⟨_,rfl,by have h:=HO.out;rw[HK.out] at h;exact h,HB.out⟩
def XB (W:World) (N:Nat):Prop:=∀o x u,W.cell? ⟨N,o,none⟩=some (.string x)→W.cell? ⟨N,o+1,none⟩=some u→∃a n c,u=.slice a n c
theorem jcA {W:World} {N:Nat} {x:ByteArray} {a1 a2 a3:Option Addr} {m1 c1 m2 c2 m3 c3:Nat} {b:Bool} {T:TypeId} {fr:Nat×Nat} (hh:W.heap[N]?=some (.cells #[.string x,.slice a1 m1 c1,.slice a2 m2 c2,.slice a3 m3 c3,.bool b] T fr)):XB W N:=by
 intro o y u h1 h2;rw[Lib.cell_of_heap hh] at h1 h2
 match o,h1,h2 with
 | 0,_,h2=>exact⟨a1,m1,c1,by simpa using h2.symm⟩
 | 1,h1,_=>simp at h1
 | 2,h1,_=>simp at h1
 | 3,h1,_=>simp at h1
 | 4,h1,_=>simp at h1
 | o+5,h1,_=>simp at h1
theorem Y9 {w w':World} {v:Value} {l:Vec.V} {N:Nat} (h:Vec.Reads w v l) (hs:w'.heap.size=w.heap.size) (hb:∀b,b≠N→w'.heap[b]?=w.heap[b]?) (hn:XB w N):Vec.Reads w' v l:=by
 obtain⟨a,cap,rfl,h1,h2,h3,h4,h5,h6⟩:=h;refine⟨a,cap,rfl,h1,h2,h3,h4,h5,?_⟩;rcases h6 with h6 | ⟨b,off,rfl,hlt,hc⟩
 · exact .inl h6
 · by_cases h0:l.length=0
   · exact .inl h0
   · have hne:b≠N:=by
      rintro rfl;obtain⟨c0,c1⟩:=hc 0 (by omega);obtain⟨_,_,_,e⟩:=hn _ _ _ c0 c1
      cases e
     exact .inr ⟨b,off,rfl,by rw[hs];exact hlt,fun i hi=>⟨(World.cell?_of_block (a:=⟨b,off+i*2,none⟩) (hb b hne)).trans (hc i hi).1,(World.cell?_of_block (a:=⟨b,off+i*2+1,none⟩) (hb b hne)).trans (hc i hi).2⟩⟩
theorem Xi {α:Type} {L:Lay α} {w w':World} {v:Value} {l:List α} {N:Nat} (hL:∀x,∃s t,(L.cs x)[0]?=some (.string s)∧(L.cs x)[1]?=some (.string t)) (h:Reads L w v l) (hs:w'.heap.size=w.heap.size) (hb:∀b,b≠N→w'.heap[b]?=w.heap[b]?) (hn:XB w N):Reads L w' v l:=by
 obtain⟨a,cap,rfl,h1,h2,h3,h4,h5,h6⟩:=h;refine⟨a,cap,rfl,h1,h2,h3,h4,h5,?_⟩;rcases h6 with h6 | ⟨b,off,rfl,hlt,hc⟩
 · exact .inl h6
 · cases l with
   | nil=>exact .inl rfl
   | cons x t =>
    have hne:b≠N:=by
     rintro rfl;obtain⟨s,u,g0,g1⟩:=hL x;have c0:=hc 0 x 0 _ rfl g0;have c1:=hc 0 x 1 _ rfl g1;obtain⟨_,_,_,e⟩:=hn _ _ _ c0 c1
     cases e
    exact .inr ⟨b,off,rfl,by rw[hs];exact hlt,fun i x j u hi hj=>(World.cell?_of_block (a:=⟨b,off+i*L.m+j,none⟩) (hb b hne)).trans (hc i x j u hi hj)⟩
theorem jex (x:ByteArray×ByteArray):∃s t,(jl.cs x)[0]?=some (.string s)∧(jl.cs x)[1]?=some (.string t):=⟨x.1,x.2,rfl,rfl⟩
theorem jew (x:NT):∃s t,(jv.cs x)[0]?=some (.string s)∧(jv.cs x)[1]?=some (.string t):=⟨x.1,x.2.1,rfl,rfl⟩
theorem Ys {w w':World} {v1 v2 v3:Value} {n:Nod} {N:Nat} (h:zl w v1 v2 v3 n) (hs:w'.heap.size=w.heap.size) (hb:∀b,b≠N→w'.heap[b]?=w.heap[b]?) (hn:XB w N):zl w' v1 v2 v3 n :=
 ⟨h.size,Y9 h.cap hs hb hn,Xi jex h.labels hs hb hn,Xi jew h.taints hs hb hn⟩
abbrev SX:=Option Addr×Nat×Nat
abbrev NX:=Nod×SX×SX×SX
abbrev slV (x:SX):Value:=.slice x.1 x.2.1 x.2.2
abbrev jeM (z:NX):Value:=.agg #[.string z.1.name,slV z.2.1,slV z.2.2.1,slV z.2.2.2,.bool z.1.cordon]
def At3 (w:World) (z:NX):Prop:=zl w (slV z.2.1) (slV z.2.2.1) (slV z.2.2.2) z.1
def Zs (lo hi:Nat) (z:NX):Prop:=(∀b off sp,z.2.1.1=some ⟨b,off,sp⟩→lo≤b∧b<hi)∧(∀b off sp,z.2.2.1.1=some ⟨b,off,sp⟩→lo≤b∧b<hi)∧(∀b off sp,z.2.2.2.1=some ⟨b,off,sp⟩→lo≤b∧b<hi)
theorem X3 {T:TypeId} {w w':World} {e:Ending} {l:Vec.V} (h:∃x,e=.returned x∧Vec.jZ T w' w.heap.size x l∧Kept w w'):∃a m c,e=.returned (.slice a m c)∧Vec.Reads w' (.slice a m c) l∧(∀b off sp,a=some ⟨b,off,sp⟩→w.heap.size≤b∧b<w'.heap.size)∧Kept w w':=by
 obtain⟨x,rfl,ho,k⟩:=h;obtain⟨a,cap,rfl,h⟩:=ho.at_;exact⟨a,_,cap,rfl,⟨a,cap,rfl,h⟩,fun b off sp e=>ho.1.lt b (by subst e;rfl),k⟩
theorem JA {α:Type} {L:Lay α} {T:TypeId} {w w':World} {e:Ending} {l:List α} (h:∃x,e=.returned x∧Own L T w' w.heap.size x l∧Kept w w'):∃a m c,e=.returned (.slice a m c)∧Reads L w' (.slice a m c) l∧(∀b off sp,a=some ⟨b,off,sp⟩→w.heap.size≤b∧b<w'.heap.size)∧Kept w w':=by
 obtain⟨x,rfl,ho,k⟩:=h;obtain⟨a,cap,rfl,h⟩:=ho.at_;exact⟨a,_,cap,rfl,⟨a,cap,rfl,h⟩,fun b off sp e=>ho.1.lt b (by subst e;rfl),k⟩
theorem jer {v:Value} {l:Vec.V} {w:World} (h:Vec.Reads w v l) (hf:l.length≤1000000) :
 Calls Try.prog 38 #[v] w (fun e w'=>∃x,e=.returned x∧Vec.jZ 128 w' w.heap.size x l∧Kept w w'):=by
 obtain⟨a,cap,rfl,h1,h2,h3⟩:=h;exact Vec.Xj a _ cap l w h3 hf
theorem jet {v:Value} {l:PL} {w:World} (h:Reads jl w v l) (hf:l.length≤1000000) :
 Calls Try.prog 21 #[v] w (fun e w'=>∃x,e=.returned x∧Own jl 112 w' w.heap.size x l∧Kept w w'):=by
 obtain⟨a,cap,rfl,h1,h2,h3⟩:=h;exact Xj a _ cap l w h3 hf
theorem jeN {v:Value} {l:NL} {w:World} (h:Reads jv w v l) (hf:l.length≤1000000) :
 Calls Try.prog 77 #[v] w (fun e w'=>∃x,e=.returned x∧Own jv 177 w' w.heap.size x l∧Kept w w'):=by
 obtain⟨a,cap,rfl,h1,h2,h3⟩:=h;exact jdV a _ cap l w h3 hf
theorem jco {W:World} {q p:Nat} {v0 v1 v2 v3 v4 u0 u1 u2 u3 u4:Value} (h:W.cell? ⟨p,0,none⟩=some v0∧W.cell? ⟨p,1,none⟩=some v1∧W.cell? ⟨p,2,none⟩=some v2∧W.cell? ⟨p,3,none⟩=some v3∧W.cell? ⟨p,4,none⟩=some v4) (hne:p≠q) :
 ((((((W.setCell ⟨q,0,none⟩ u0).setCell ⟨q,1,none⟩ u1).setCell ⟨q,2,none⟩ u2).setCell ⟨q,3,none⟩ u3).setCell ⟨q,4,none⟩ u4).cell? ⟨p,0,none⟩=some v0∧(((((W.setCell ⟨q,0,none⟩ u0).setCell ⟨q,1,none⟩ u1).setCell ⟨q,2,none⟩ u2).setCell ⟨q,3,none⟩ u3).setCell ⟨q,4,none⟩ u4).cell? ⟨p,1,none⟩=some v1∧(((((W.setCell ⟨q,0,none⟩ u0).setCell ⟨q,1,none⟩ u1).setCell ⟨q,2,none⟩ u2).setCell ⟨q,3,none⟩ u3).setCell ⟨q,4,none⟩ u4).cell? ⟨p,2,none⟩=some v2∧(((((W.setCell ⟨q,0,none⟩ u0).setCell ⟨q,1,none⟩ u1).setCell ⟨q,2,none⟩ u2).setCell ⟨q,3,none⟩ u3).setCell ⟨q,4,none⟩ u4).cell? ⟨p,3,none⟩=some v3∧(((((W.setCell ⟨q,0,none⟩ u0).setCell ⟨q,1,none⟩ u1).setCell ⟨q,2,none⟩ u2).setCell ⟨q,3,none⟩ u3).setCell ⟨q,4,none⟩ u4).cell? ⟨p,4,none⟩=some v4):=by
 have hb:=Xz W q u0 u1 u2 u3 u4 p hne;exact⟨(World.cell?_of_block (a:=⟨p,0,none⟩) hb).trans h.1,(World.cell?_of_block (a:=⟨p,1,none⟩) hb).trans h.2.1,(World.cell?_of_block (a:=⟨p,2,none⟩) hb).trans h.2.2.1,(World.cell?_of_block (a:=⟨p,3,none⟩) hb).trans h.2.2.2.1,(World.cell?_of_block (a:=⟨p,4,none⟩) hb).trans h.2.2.2.2⟩
theorem jdX (n:Nod) (v1 v2 v3:Value) (w:World) (h:zl w v1 v2 v3 n) (hl:Yw n) :
 Calls Try.prog 62 #[Jo n v1 v2 v3] w fun e w'=>∃z:NX,e=.returned (jeM z)∧z.1=n∧At3 w' z∧Zs w.heap.size w'.heap.size z∧Kept w w':=by
 obtain⟨W0,hW0⟩:∃W0,(w.alloc (.cells #[.string n.name,v1,v2,v3,.bool n.cordon] 68)).alloc (.cells #[.string ⟨#[]⟩,.slice none 0 0,.slice none 0 0,.slice none 0 0,.bool false] 99)=W0:=⟨_,rfl⟩
 have hk0:Kept w W0:=by rw[←hW0];exact jX _ _ _
 have HB:=lH (show ∀W,Kept W0 W→W.cell? ⟨w.heap.size,0,none⟩=some (.string n.name)∧W.cell? ⟨w.heap.size,1,none⟩=some v1∧W.cell? ⟨w.heap.size,2,none⟩=some v2∧W.cell? ⟨w.heap.size,3,none⟩=some v3∧W.cell? ⟨w.heap.size,4,none⟩=some (.bool n.cordon) from fun W k=>(Xm w _ _ _ _ _ 68 W ((by rw[←hW0];exact ja _ _:Kept (w.alloc (.cells #[.string n.name,v1,v2,v3,.bool n.cordon] 68)) W0).trans k)).1);have HQ:=lH (show ∀W,Kept W0 W→zZ (w.heap.size+1) (.string ⟨#[]⟩) (.slice none 0 0) (.slice none 0 0) (.slice none 0 0) (.bool false) W from fun W k=>by
  have:=Xm (w.alloc (.cells #[.string n.name,v1,v2,v3,.bool n.cordon] 68)) (.string ⟨#[]⟩) (.slice none 0 0) (.slice none 0 0) (.slice none 0 0) (.bool false) 99 W (by rw[hW0];exact k);rw[World.size_alloc] at this;exact this)
 have HH:=lH (show W0.heap[w.heap.size+1]?=some (.cells #[.string ⟨#[]⟩,.slice none 0 0,.slice none 0 0,.slice none 0 0,.bool false] 99) by
  have:=(w.alloc (.cells #[.string n.name,v1,v2,v3,.bool n.cordon] 68)).alloc_heap_new (.cells #[.string ⟨#[]⟩,.slice none 0 0,.slice none 0 0,.slice none 0 0,.bool false] 99);rw[hW0,World.size_alloc] at this;exact this)
 have H1:=lH (fun W (k:Kept W0 W)=>(jer (h.cap.kept (hk0.trans k)) hl.cap).mono fun _ _=>X3);have H2:=lH (fun W (k:Kept W0 W)=>(jet (h.labels.kept (hk0.trans k)) hl.labels).mono fun _ _=>JA);have H3:=lH (fun W (k:Kept W0 W)=>(jeN (h.taints.kept (hk0.trans k)) hl.taints).mono fun _ _=>JA);have HSZ:=lH h.size;have HK0:=lH hk0;obtain⟨⟨nm,l1,l2,l3,cd⟩,hnn⟩:∃m,m=n:=⟨n,rfl⟩
 subst hnn;dsimp only at H1 H2 H3 HSZ HB hW0;obtain⟨b0,b1,b2,b3,b4⟩:=HB.out _ (Kept.refl _);clear h hl hk0;unfold Jo;dsimp only;go_enter Try.func62,Try.ntmps62;go_wp2;try rw[hW0]
 clear hW0;go_region_held3 (fun W=>(W.cell? ⟨w.heap.size,0,none⟩=some (.string nm)∧W.cell? ⟨w.heap.size,1,none⟩=some v1∧W.cell? ⟨w.heap.size,2,none⟩=some v2∧W.cell? ⟨w.heap.size,3,none⟩=some v3∧W.cell? ⟨w.heap.size,4,none⟩=some (.bool cd)))
  (first | exact HB.out _ (Kept.drew _) | exact HB.out _ K1.out | exact HB.out _ K2.out | exact HB.out _ K3.out | exact jco (HB.out _ K3.out) (by omega))
  (first | (go_at_call 38;refine(H1.out _ (Kept.drew _)).mono ?_;rintro e1 w1 ⟨a1,m1,c1,rfl,r1,g1,k1⟩;have G1:=lH (show ∀b off sp,a1=some ⟨b,off,sp⟩→w.heap.size≤b∧b<w1.heap.size from fun b o s e=>⟨Nat.le_trans HK0.out.size (g1 b o s e).1,(g1 b o s e).2⟩);have K1:=lH ((Kept.drew _).trans k1);have R1:=lH r1;clear k1 r1 g1)
         | (go_at_call 21;refine(H2.out _ K1.out).mono ?_;rintro e2 w2 ⟨a2,m2,c2,rfl,r2,g2,k2⟩;have G2:=lH (show ∀b off sp,a2=some ⟨b,off,sp⟩→w.heap.size≤b∧b<w2.heap.size from fun b o s e=>⟨Nat.le_trans HK0.out.size (Nat.le_trans K1.out.size (g2 b o s e).1),(g2 b o s e).2⟩);have G1:=lH (show ∀b off sp,a1=some ⟨b,off,sp⟩→w.heap.size≤b∧b<w2.heap.size from fun b o s e=>⟨(G1.out b o s e).1,Nat.lt_of_lt_of_le (G1.out b o s e).2 k2.size⟩);have R1:=lH (R1.out.kept k2);have K2:=lH (K1.out.trans k2);have R2:=lH r2;clear k2 r2 g2)
         | (go_at_call 77;refine(H3.out _ K2.out).mono ?_;rintro e3 w3 ⟨a3,m3,c3,rfl,r3,g3,k3⟩;have G3:=lH (show ∀b off sp,a3=some ⟨b,off,sp⟩→w.heap.size≤b∧b<w3.heap.size from fun b o s e=>⟨Nat.le_trans HK0.out.size (Nat.le_trans K2.out.size (g3 b o s e).1),(g3 b o s e).2⟩);have G1:=lH (show ∀b off sp,a1=some ⟨b,off,sp⟩→w.heap.size≤b∧b<w3.heap.size from fun b o s e=>⟨(G1.out b o s e).1,Nat.lt_of_lt_of_le (G1.out b o s e).2 k3.size⟩);have G2:=lH (show ∀b off sp,a2=some ⟨b,off,sp⟩→w.heap.size≤b∧b<w3.heap.size from fun b o s e=>⟨(G2.out b o s e).1,Nat.lt_of_lt_of_le (G2.out b o s e).2 k3.size⟩);have R1:=lH (R1.out.kept k3);have R2:=lH (R2.out.kept k3);have K3:=lH (K2.out.trans k3);have R3:=lH r3;clear k3 r3 g3;obtain⟨⟨y0,y1,y2,y3,y4⟩,x0,x1,x2,x3,x4⟩:=HQ.out _ K3.out))
 have P:=lH (Yj ⟨y0,y1,y2,y3,y4⟩ nm a1 a2 a3 m1 c1 m2 c2 m3 c3 cd);have HZ:=lH ((K3.out.block (w.heap.size+1) (Array.getElem?_eq_some_iff.1 HH.out).1).trans HH.out);go_wp2;obtain⟨WE,hWE⟩:∃W,(((((w3.setCell ⟨w.heap.size+1,0,none⟩ (.string nm)).setCell ⟨w.heap.size+1,1,none⟩ (.slice a1 m1 c1)).setCell ⟨w.heap.size+1,2,none⟩ (.slice a2 m2 c2)).setCell ⟨w.heap.size+1,3,none⟩ (.slice a3 m3 c3)).setCell ⟨w.heap.size+1,4,none⟩ (.bool cd))=W:=⟨_,rfl⟩
 rw[hWE] at P ⊢;clear hWE y0 y1 y2 y3 y4 x0 x1 x2 x3 x4;obtain⟨⟨d0,d1,d2,d3,d4⟩,hsz,hbl,hkp⟩:=P.out;refine bodyPost_ret (by simp[results,Try.results62,go_sem,d0,d1,d2,d3,d4];try rfl) rfl ?_;exact⟨(⟨nm,l1,l2,l3,cd⟩,(a1,m1,c1),(a2,m2,c2),(a3,m3,c3)),rfl,rfl,Ys (n:=⟨nm,l1,l2,l3,cd⟩) ⟨HSZ.out,R1.out,R2.out,R3.out⟩ hsz hbl (jcA HZ.out),⟨fun b o s e=>by rw[hsz];exact G1.out b o s e,fun b o s e=>by rw[hsz];exact G2.out b o s e,fun b o s e=>by rw[hsz];exact G3.out b o s e⟩,hkp _ _ (Nat.le_succ _) (HK0.out.trans K3.out)⟩
open Go.ChangeShapes Go.WideShapes Go.ChangeAt Go.RowKit Go.Deep
theorem zW:Try.prog.cellsOf 9=1:=by kernel_rfl
theorem jY {α:Type} (L:Lay α) {t e:TypeId} (ht:Try.prog.underlying t=some (.slice e)) (hc:Try.prog.cellsOf e=L.m) {H:Type} {enc:TypeId×Value→H} {w:World} {base fuel:Nat} {sp:Nat→Bool} {held:Bool} {v:Value} {x:DataW H×List MemPlace}
 (el:∀(m:Nat) (cs:List Value) (x:DataW H×List MemPlace),DataW.trod enc Try.prog w base sp held m e cs=some x→∃a,cs=L.cs a∧L.fine a)
 (h:DataW.trod enc Try.prog w base sp held fuel t [v]=some x):∃l,Reads L w v l:=by
 rcases open_slice ht h with ⟨hcs,-⟩ | ⟨a,len,cap,m,n,D,Pl,hcs,hb,hl,hm,hmm,hx,hi⟩
 · cases hcs;exact⟨[],Reads.nil w⟩
 · cases hcs
   have hlm:len≤m:=by rw[hmm];split<;>omega
   have key:∀k,k≤len→∃l:List α,l.length=k∧(∀z ∈ l,L.fine z)∧∀i z j u,l[i]?=some z→(L.cs z)[j]?=some u→w.cell? ((a.add (i*L.m)).add j)=some u:=by
    intro k
    induction k with
    | zero=>exact fun _=>⟨[],rfl,(fun z hz=>by cases hz),(fun i z j u hi _=>by simp at hi)⟩
    | succ k ih =>
     intro hk;obtain⟨l,e,hfine,hall⟩:=ih (by omega);obtain⟨cs',hcc,ht'⟩:=hi k (by omega);obtain⟨z0,rfl,hz0⟩:=el _ _ _ ht';rw[hc] at hcc;obtain⟨-,-,hat⟩:=World.cells?_some hcc;refine⟨l++[z0],by simp[e],fun z hz=>?_,fun i z j u hi' hj=>?_⟩
     · rcases List.mem_append.1 hz with g | g
       · exact hfine z g
       · have:z=z0:=by simpa using g
         rw[this];exact hz0
     · by_cases e2:i=k
       · subst e2;have:z0=z:=by simpa [e] using hi'
         subst this;have hjl:j<L.m:=by have:=(List.getElem?_eq_some_iff.1 hj).1;rw[L.len] at this;exact this
         rw[hat j hjl];exact hj
       · have hik:i<l.length:=by have:=(List.getElem?_eq_some_iff.1 hi').1;simp at this;omega
         rw[List.getElem?_append_left hik] at hi';exact hall i z j u hi' hj
   obtain⟨l,e,hfine,hall⟩:=key len (Nat.le_refl _);subst e;refine⟨l,_,cap,rfl,hl,hm,rfl,Nat.le_trans hl hm,hfine,?_⟩;by_cases h0:l.length=0
   · exact .inl h0
   · obtain⟨b,off,spot⟩:=a;have hg:l[0]?=some (l[0]'(by omega)):=List.getElem?_eq_getElem (by omega);have hlz:=L.len (l[0]'(by omega));have hcz:(L.cs (l[0]'(by omega)))[0]?=some ((L.cs (l[0]'(by omega)))[0]'(by rw[hlz];exact L.pos)):=List.getElem?_eq_getElem (by rw[hlz];exact L.pos);have hcell0:=hall 0 _ 0 _ hg hcz;have hspot:spot=none:=by simpa [Addr.add] using World.cell?_spot hcell0
     subst hspot;have hcell:∀i z j u,l[i]?=some z→(L.cs z)[j]?=some u→w.cell? ⟨b,off+i*L.m+j,none⟩=some u:=fun i z j u hi' hj=>by
      have c:=hall i z j u hi' hj;have e:((⟨b,off,none⟩:Addr).add (i*L.m)).add j=⟨b,off+i*L.m+j,none⟩:=by
       unfold Addr.add;split<;>split<;>simp_all
      rw[e] at c;exact c
     exact .inr ⟨b,off,rfl,World.block_lt_of_cell? _ _ (hcell 0 _ 0 _ hg hcz),hcell⟩
theorem jcs:Try.prog.cellsOf 111=2:=by kernel_rfl
theorem jcc:Try.prog.cellsOf 125=3:=by kernel_rfl
theorem ZR:Try.prog.cellsOf 3=1:=by kernel_rfl
theorem jab {H:Type} {enc:TypeId×Value→H} {w:World} {base fuel:Nat} {sp:Nat→Bool} {held:Bool} {cs:List Value} {x:DataW H×List MemPlace} (h:DataW.trod enc Try.prog w base sp held fuel 111 cs=some x) :
 ∃a:ByteArray×ByteArray,cs=jl.cs a∧jl.fine a:=by
 obtain⟨ys,m,-,-,hlen,hyl,hf⟩:=DataW.trod_struct Try.underlying111 h;rw[jcs] at hlen
 match cs,hlen with
 | [c0,c1],_ =>
  have h0:DataW.trod enc Try.prog w base sp held m 9 (([c0,c1].drop 0).take (Try.prog.cellsOf 9))=ys[0]?:=hf 0 _ rfl;have h1:DataW.trod enc Try.prog w base sp held m 9 (([c0,c1].drop 1).take (Try.prog.cellsOf 9))=ys[1]?:=hf 1 _ rfl;rw[zW] at h0 h1;obtain⟨y0,e0⟩:∃y,ys[0]?=some y:=⟨_,List.getElem?_eq_getElem (by rw[hyl];decide)⟩
  obtain⟨y1,e1⟩:∃y,ys[1]?=some y:=⟨_,List.getElem?_eq_getElem (by rw[hyl];decide)⟩
  rw[e0] at h0;rw[e1] at h1;obtain⟨s,q0,-,hs⟩:=DataW.trod_string Try.underlying9 h0;obtain⟨t,q1,-,ht⟩:=DataW.trod_string Try.underlying9 h1;simp only[List.drop_zero,List.take_succ_cons,List.take_zero,List.cons.injEq,and_true,List.drop_succ_cons] at q0 q1;subst q0;subst q1;exact⟨(s,t),rfl,hs,ht⟩
theorem qO {H:Type} {enc:TypeId×Value→H} {w:World} {base fuel:Nat} {sp:Nat→Bool} {held:Bool} {cs:List Value} {x:DataW H×List MemPlace} (h:DataW.trod enc Try.prog w base sp held fuel 125 cs=some x) :
 ∃a:Int×ByteArray×ByteArray,cs=jQ.cs a∧jQ.fine a:=by
 obtain⟨ys,m,-,-,hlen,hyl,hf⟩:=DataW.trod_struct Try.underlying125 h;rw[jcc] at hlen
 match cs,hlen with
 | [c0,c1,c2],_ =>
  have h0:DataW.trod enc Try.prog w base sp held m 3 (([c0,c1,c2].drop 0).take (Try.prog.cellsOf 3))=ys[0]?:=hf 0 _ rfl;have h1:DataW.trod enc Try.prog w base sp held m 9 (([c0,c1,c2].drop 1).take (Try.prog.cellsOf 9))=ys[1]?:=hf 1 _ rfl;have h2:DataW.trod enc Try.prog w base sp held m 9 (([c0,c1,c2].drop 2).take (Try.prog.cellsOf 9))=ys[2]?:=hf 2 _ rfl;rw[zW] at h1 h2;rw[ZR] at h0;obtain⟨y0,e0⟩:∃y,ys[0]?=some y:=⟨_,List.getElem?_eq_getElem (by rw[hyl];decide)⟩
  obtain⟨y1,e1⟩:∃y,ys[1]?=some y:=⟨_,List.getElem?_eq_getElem (by rw[hyl];decide)⟩
  obtain⟨y2,e2⟩:∃y,ys[2]?=some y:=⟨_,List.getElem?_eq_getElem (by rw[hyl];decide)⟩
  rw[e0] at h0;rw[e1] at h1;rw[e2] at h2;obtain⟨n,q0,-,hn⟩:=DataW.trod_int Try.underlying3 h0;obtain⟨s,q1,-,hs⟩:=DataW.trod_string Try.underlying9 h1;obtain⟨t,q2,-,ht⟩:=DataW.trod_string Try.underlying9 h2;simp only[List.drop_zero,List.take_succ_cons,List.take_zero,List.cons.injEq,and_true,List.drop_succ_cons] at q0 q1 q2;subst q0;subst q1;subst q2;exact⟨(n,s,t),rfl,bounds_i64 hn,hs,ht⟩
theorem YY {H:Type} {enc:TypeId×Value→H} {w:World} {base fuel:Nat} {sp:Nat→Bool} {held:Bool} {v:Value} {x:DataW H×List MemPlace} (h:DataW.trod enc Try.prog w base sp held fuel 30 [v]=some x):∃l,Reads jl w v l :=
 jY jl Try.underlying30 jcs (fun _ _ _ h=>jab h) h
theorem YZ {H:Type} {enc:TypeId×Value→H} {w:World} {base fuel:Nat} {sp:Nat→Bool} {held:Bool} {v:Value} {x:DataW H×List MemPlace} (h:DataW.trod enc Try.prog w base sp held fuel 32 [v]=some x):∃l,Reads jQ w v l :=
 jY jQ Try.underlying32 jcc (fun _ _ _ h=>qO h) h
end Go.Proofs.Ytgfoenfaohhjcaa
