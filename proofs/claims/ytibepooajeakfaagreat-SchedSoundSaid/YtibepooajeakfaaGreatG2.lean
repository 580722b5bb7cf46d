/- C. -/
import Derived.Test.YtibepooajeakfaaGreatG0
import Derived.Test.YtibepooajeakfaaGreatG1
import Derived.Shelf.SlSortCmp.QuietGrown
set_option linter.unusedVariables false
set_option maxRecDepth 100000
set_option maxHeartbeats 25600000
namespace Go.Proofs.YtibepooajeakfaaGreat
open Go.RowKit
abbrev TV (o:Int) (x y:ByteArray):Value:=.agg #[.int .i64 o,.string x,.string y]
def JH (t:Int×ByteArray×ByteArray):Int :=
 if t.1=1∨t.1=2 then (if (isName t.2.1&&isName t.2.2)=true then 0 else 3)
 else if t.1=3∨t.1=4 then (if (isName t.2.1&&eqS t.2.2 ByteArray.empty)=true then 0 else 3)
 else 1
def ZL:TL→Int
 | []=>0
 | t::r=>if JH t≠0 then JH t else ZL r
def Zt (l:TL):Int:=if 8<l.length then 4 else ZL l
theorem jk7 (w:World):Calls Tryz.prog 246 #[.bool true] w fun e w'=>e=.returned (.int .i64 0)∧w=w':=by
 go_enter Tryz.func246,Tryz.ntmps246;go_wp2;go_ret;exact⟨rfl,rfl⟩
theorem jbx (w:World):Calls Tryz.prog 246 #[.bool false] w fun e w'=>e=.returned (.int .i64 3)∧w=w':=by
 go_enter Tryz.func246,Tryz.ntmps246;go_wp2;go_ret;exact⟨rfl,rfl⟩
theorem JT {o:Int} {x y:ByteArray}:JH (o,x,y)=if o=1∨o=2 then (if (isName x&&isName y)=true then 0 else 3)
 else if o=3∨o=4 then (if (isName x&&eqS y ByteArray.empty)=true then 0 else 3) else 1:=rfl
theorem jiB (o:Int) (x y:ByteArray) (w:World) (ho:o=1∨o=2) (hx:x.size≤maxLen) (hy:y.size≤maxLen) :
 Calls Tryz.prog 214 #[TV o x y] w fun e w'=>e=.returned (.int .i64 (JH (o,x,y)))∧Kept w w':=by
 by_cases n:(isName x&&isName y)=true
 · have HV:=lH (show JH (o,x,y)=0 by rw[JT,if_pos ho,if_pos n]);have n1:isName x=true:=by rw[Bool.and_eq_true] at n;exact n.1
   have n2:isName y=true:=by rw[Bool.and_eq_true] at n;exact n.2
   clear n;rcases ho with rfl | rfl <;>
    (go_enter Tryz.func214,Tryz.ntmps214
     go_wp2_with (first | (go_at_call 174;refine(zg _ _ (by assumption)).mono ?_;rintro e w' ⟨rfl,rfl⟩) | (go_at_call 246;refine(jk7 _).mono ?_;rintro e w' ⟨rfl,rfl⟩))
     go_ret;exact⟨jb HV.out.symm,ja _ _⟩)
 · have HV:=lH (show JH (o,x,y)=3 by rw[JT,if_pos ho,if_neg n]);by_cases n1:isName x=true
   · have n2:isName y=false:=by rw[n1,Bool.true_and] at n;simpa using n
     clear n;rcases ho with rfl | rfl <;>
      (go_enter Tryz.func214,Tryz.ntmps214
       go_wp2_with (first | (go_at_call 174;refine(zg _ _ (by assumption)).mono ?_;rintro e w' ⟨rfl,rfl⟩) | (go_at_call 246;refine(jbx _).mono ?_;rintro e w' ⟨rfl,rfl⟩))
       go_ret;exact⟨jb HV.out.symm,ja _ _⟩)
   · have n1:isName x=false:=by simpa using n1
     clear n;rcases ho with rfl | rfl <;>
      (go_enter Tryz.func214,Tryz.ntmps214
       go_wp2_with (first | (go_at_call 174;refine(zg _ _ (by assumption)).mono ?_;rintro e w' ⟨rfl,rfl⟩) | (go_at_call 246;refine(jbx _).mono ?_;rintro e w' ⟨rfl,rfl⟩))
       go_ret;exact⟨jb HV.out.symm,ja _ _⟩)
theorem jl6 (o:Int) (x y:ByteArray) (w:World) (ho:o=3∨o=4) (hx:x.size≤maxLen) (hy:y.size≤maxLen) :
 Calls Tryz.prog 214 #[TV o x y] w fun e w'=>e=.returned (.int .i64 (JH (o,x,y)))∧Kept w w':=by
 have ho':¬(o=1∨o=2):=by omega
 by_cases n:(isName x&&eqS y ByteArray.empty)=true
 · have HV:=lH (show JH (o,x,y)=0 by rw[JT,if_neg ho',if_pos ho,if_pos n]);have n1:isName x=true:=by rw[Bool.and_eq_true] at n;exact n.1
   have n2:(y.toList==([]:List UInt8))=true:=by rw[Bool.and_eq_true] at n;have:=n.2;unfold eqS at this;simpa using this
   clear n ho';rcases ho with rfl | rfl <;>
    (go_enter Tryz.func214,Tryz.ntmps214
     go_wp2_with (first | (go_at_call 174;refine(zg _ _ (by assumption)).mono ?_;rintro e w' ⟨rfl,rfl⟩) | (go_at_call 246;refine(jk7 _).mono ?_;rintro e w' ⟨rfl,rfl⟩))
     go_ret;exact⟨jb HV.out.symm,ja _ _⟩)
 · have HV:=lH (show JH (o,x,y)=3 by rw[JT,if_neg ho',if_pos ho,if_neg n]);clear ho';by_cases n1:isName x=true
   · have n2:(y.toList==([]:List UInt8))=false:=by rw[n1,Bool.true_and] at n;unfold eqS at n;simpa using n
     clear n;rcases ho with rfl | rfl <;>
      (go_enter Tryz.func214,Tryz.ntmps214
       go_wp2_with (first | (go_at_call 174;refine(zg _ _ (by assumption)).mono ?_;rintro e w' ⟨rfl,rfl⟩) | (go_at_call 246;refine(jbx _).mono ?_;rintro e w' ⟨rfl,rfl⟩))
       go_ret;exact⟨jb HV.out.symm,ja _ _⟩)
   · have n1:isName x=false:=by simpa using n1
     clear n;rcases ho with rfl | rfl <;>
      (go_enter Tryz.func214,Tryz.ntmps214
       go_wp2_with (first | (go_at_call 174;refine(zg _ _ (by assumption)).mono ?_;rintro e w' ⟨rfl,rfl⟩) | (go_at_call 246;refine(jbx _).mono ?_;rintro e w' ⟨rfl,rfl⟩))
       go_ret;exact⟨jb HV.out.symm,ja _ _⟩)
theorem ji3 (o:Int) (x y:ByteArray) (w:World) (ho:¬(o=1∨o=2)) (ho':¬(o=3∨o=4)) :
 Calls Tryz.prog 214 #[TV o x y] w fun e w'=>e=.returned (.int .i64 (JH (o,x,y)))∧Kept w w':=by
 have HV:=lH (show JH (o,x,y)=1 by rw[JT,if_neg ho,if_neg ho']);have e1:(o==1)=false:=by (have:o≠1:=by omega);simpa using this
 have e2:(o==2)=false:=by (have:o≠2:=by omega);simpa using this
 have e3:(o==3)=false:=by (have:o≠3:=by omega);simpa using this
 have e4:(o==4)=false:=by (have:o≠4:=by omega);simpa using this
 clear ho ho';go_enter Tryz.func214,Tryz.ntmps214;go_wp2;go_ret;exact⟨jb HV.out.symm,ja _ _⟩
theorem jaJ (o:Int) (x y:ByteArray) (w:World) (hx:x.size≤maxLen) (hy:y.size≤maxLen) :
 Calls Tryz.prog 214 #[TV o x y] w fun e w'=>e=.returned (.int .i64 (JH (o,x,y)))∧Kept w w':=by
 by_cases h1:o=1∨o=2
 · exact jiB o x y w h1 hx hy
 · by_cases h2:o=3∨o=4
   · exact jl6 o x y w h2 hx hy
   · exact ji3 o x y w h1 h2
theorem jdf (t:Int×ByteArray×ByteArray) (r:TL):ZL (t::r)=if JH t≠0 then JH t else ZL r:=rfl
theorem jfF (a:Option Addr) (len cap:Nat) (l:TL) (w:World) (hr:jk jQ w a len l) :
 Calls Tryz.prog 180 #[.slice a len cap] w fun e w'=>e=.returned (.int .i64 (Zt l))∧Kept w w':=by
 have hl:=hr.1;have hm:=hr.2.1;unfold maxLen at hm;by_cases h8:len≤8
 · have HV:=lH (show Zt l=ZL l by unfold Zt;rw[if_neg (by omega)]);rcases hr.form with h0 | ⟨b,off,rfl⟩
   · subst h0;have HE:=lH (show Zt l=0 by rw[HV.out];rw[List.eq_nil_of_length_eq_zero hl];rfl);clear hr hl;go_enter Tryz.func180,Tryz.ntmps180;go_wp2;refine wp_loop_rounds 1 ?_;rw[rounds_succ];go_wp2;go_ret;exact⟨jb HE.out.symm,Kept.refl _⟩
   · have HR:=lH hr;have HL:=lH hl;clear hr hl;go_enter Tryz.func180,Tryz.ntmps180;go_wp2;go_loopw [11] (fun i wr=>∃k:Nat,k≤len∧i=.int .i64 k∧ZL (l.drop k)=ZL l∧Kept w wr) (fun i _=>len-(intOf i).toNat)
     case atStart=>exact⟨0,Nat.zero_le _,rfl,rfl,Kept.refl _⟩
     case round =>
      obtain⟨k,hk,rfl,hrest,hK⟩:=hrel;by_cases hlt:k<len
      · obtain⟨o,x,y,hx,hd,hb,ho,hz,hz2,c1,c2,c3⟩:=(HR.out.kept hK).term hlt;have HK:=lH hK;have HT:=lH (hrest.symm.trans ((congrArg ZL hd).trans (jdf _ _)));have HS:=lH (HV.out.trans HT.out);clear hK hrest hx hd;by_cases n:JH (o,x,y)=0
        · have N:=lH n;have n':(JH (o,x,y) != 0)=false:=by simpa using n
          clear n;go_wp2_with (go_at_call 214;refine(jaJ o x y _ hz hz2).mono ?_;rintro e w1 ⟨rfl,k1⟩;have K1:=lH k1;clear k1)
          go_roundw
          case rel=>exact⟨k+1,by omega,by go_num,(HT.out.trans (if_neg (by rw[N.out];decide))).symm,HK.out.trans ((ja _ _).trans K1.out)⟩
          case measure=>simp[intOf];omega
        · have N:=lH n;have n':(JH (o,x,y) != 0)=true:=by simpa using n
          clear n;go_wp2_with (go_at_call 214;refine(jaJ o x y _ hz hz2).mono ?_;rintro e w1 ⟨rfl,k1⟩;have K1:=lH k1;clear k1)
          go_ret;exact⟨jb (HS.out.trans (if_pos N.out)).symm,HK.out.trans ((ja _ _).trans K1.out)⟩
      · have HK:=lH hK;have HS:=lH ((HV.out.trans hrest.symm).trans (congrArg ZL (zB (by rw[HL.out];exact hlt))));clear hK hrest;go_wp2;go_ret;exact⟨jb (HS.out.trans rfl).symm,HK.out⟩
 · have HV:=lH (show Zt l=4 by unfold Zt;rw[if_pos (by omega)]);have h9:8<len:=by omega
   clear h8 hr hl;go_enter Tryz.func180,Tryz.ntmps180;go_wp2;go_ret;exact⟨jb HV.out.symm,Kept.refl _⟩
def Je:PL→ByteArray→Option ByteArray
 | [],_=>none
 | x::t,n=>if eqS x.1 n=true then some x.2 else Je t n
def XP (s:PL) (n:ByteArray):ByteArray:=(Je s n).getD ByteArray.empty
def YA (s:PL) (n:ByteArray):Bool:=(Je s n).isSome
theorem jko (x y:ByteArray) (t:PL) (n:ByteArray):Je ((x,y)::t) n=if eqS x n=true then some y else Je t n:=rfl
theorem jdL {s:PL} {n:ByteArray} {o:Option ByteArray} (h:Je s n=o):Ending.returned (.tuple #[.string (o.getD ByteArray.empty),.bool o.isSome])=.returned (.tuple #[.string (XP s n),.bool (YA s n)]):=by
 unfold XP YA;rw[h]
theorem jd1 {s:PL} {n v:ByteArray} (hf:∀x ∈ s,jz.fine x) (h:Je s n=some v):v.size≤maxLen:=by
 induction s with
 | nil=>cases h
 | cons x t ih =>
  rw[Je] at h;split at h
  · injection h with h;subst h;exact(hf x (by simp)).2
  · exact ih (fun y hy=>hf y (by simp[hy])) h
theorem XD (a:Option Addr) (len cap:Nat) (l:PL) (n:ByteArray) (w:World) (hr:jk jz w a len l) :
 Calls Tryz.prog 247 #[.slice a len cap,.string n] w fun e w'=>e=.returned (.tuple #[.string (XP l n),.bool (YA l n)])∧Kept w w':=by
 have hl:=hr.1;have hm:=hr.2.1;unfold maxLen at hm;rcases hr.form with h0 | ⟨b,off,rfl⟩
 · subst h0;have HE:=lH (show Je l n=none by rw[List.eq_nil_of_length_eq_zero hl];rfl);clear hr hl;go_enter Tryz.func247,Tryz.ntmps247;go_wp2;refine wp_loop_rounds 1 ?_;rw[rounds_succ];go_wp2;go_ret2
   exact⟨jdL HE.out,Kept.refl _⟩
 · have HR:=lH hr;have HL:=lH hl;clear hr hl;go_enter Tryz.func247,Tryz.ntmps247;go_wp2;go_loopw [10] (fun i wr=>∃k:Nat,k≤len∧i=.int .i64 k∧Je (l.drop k) n=Je l n∧Kept w wr) (fun i _=>len-(intOf i).toNat)
   case atStart=>exact⟨0,Nat.zero_le _,rfl,rfl,Kept.refl _⟩
   case round =>
    obtain⟨k,hk,rfl,hrest,hK⟩:=hrel;by_cases hlt:k<len
    · obtain⟨x,y,hx,hd,hb,hz,hz2,c1,c2⟩:=(HR.out.kept hK).pair hlt;have HK:=lH hK;have HT:=lH (hrest.symm.trans ((congrArg (fun z=>Je z n) hd).trans (jko _ _ _ _)));clear hK hrest hx hd;by_cases e:eqS x n=true
      · have E:=lH e;have e':(x.toList==n.toList)=true:=e;clear e;go_wp2;go_ret2
        exact⟨jdL (HT.out.trans (if_pos E.out)),HK.out.trans (ja _ _)⟩
      · have E:=lH e;have e':(x.toList==n.toList)=false:=by unfold eqS at e;simpa using e
        clear e;go_wp2;go_roundw
        case rel=>exact⟨k+1,by omega,by go_num,(HT.out.trans (if_neg E.out)).symm,HK.out.trans (ja _ _)⟩
        case measure=>simp[intOf];omega
    · have HK:=lH hK;have HS:=lH (hrest.symm.trans (congrArg (fun z=>Je z n) (zB (by rw[HL.out];exact hlt))));clear hK hrest;go_wp2;go_ret2
      exact⟨jdL (HS.out.trans rfl),HK.out⟩
def Z1 (s:PL) (t:Int×ByteArray×ByteArray):Bool :=
 if t.1=1 then YA s t.2.1&&eqS (XP s t.2.1) t.2.2
 else if t.1=2 then !YA s t.2.1||!eqS (XP s t.2.1) t.2.2
 else if t.1=3 then YA s t.2.1
 else if t.1=4 then !YA s t.2.1 else false
theorem Xn {s:PL} {o:Int} {x y:ByteArray}:Z1 s (o,x,y)=if o=1 then YA s x&&eqS (XP s x) y else if o=2 then !YA s x||!eqS (XP s x) y else if o=3 then YA s x else if o=4 then !YA s x else false:=rfl
theorem jd4 (o:Int) (x y:ByteArray) (a:Option Addr) (len cap:Nat) (s:PL) (w:World) (hr:jk jz w a len s) :
 Calls Tryz.prog 224 #[TV o x y,.slice a len cap] w fun e w'=>e=.returned (.bool (Z1 s (o,x,y)))∧Kept w w':=by
 have HG:=lH (fun (w':World) (k:Kept w w')=>XD a len cap s x w' (hr.kept k));obtain⟨v,hv⟩:=eX (XP s x)
 obtain⟨h,hh⟩:=eX (YA s x)
 obtain⟨q,hq⟩:=eX (eqS v y)
 have hq':(v.toList==y.toList)=q:=hq;rw[hv,hh] at HG;clear hr;by_cases h1:o=1
 · subst h1;have HV:=lH (show Z1 s (1,x,y)=(h&&q) by rw[Xn,if_pos rfl,hv,hh,hq]);clear hv hh hq
   cases h<;>cases q <;>
   (go_enter Tryz.func224,Tryz.ntmps224
    go_wp2_with (go_at_call 247;refine(HG.out _ (ja _ _)).mono ?_;rintro e w1 ⟨rfl,k1⟩;have K1:=lH k1;have c3:=cell_later k1 (show (w.alloc (.cells #[.int .i64 1,.string x,.string y] 143)).cell? ⟨w.heap.size,2,none⟩=some (.string y) by go_simp);have c0:=cell_later k1 (show (w.alloc (.cells #[.int .i64 1,.string x,.string y] 143)).cell? ⟨w.heap.size,0,none⟩=some (.int .i64 1) by go_simp);clear k1)
    go_ret;exact⟨jd HV.out.symm,(ja _ _).trans K1.out⟩)
 · by_cases h2:o=2
   · subst h2;have HV:=lH (show Z1 s (2,x,y)=(!h||!q) by rw[Xn,if_neg (by decide),if_pos rfl,hv,hh,hq]);clear hv hh hq h1
     cases h<;>cases q <;>
     (go_enter Tryz.func224,Tryz.ntmps224
      go_wp2_with (go_at_call 247;refine(HG.out _ (ja _ _)).mono ?_;rintro e w1 ⟨rfl,k1⟩;have K1:=lH k1;have c3:=cell_later k1 (show (w.alloc (.cells #[.int .i64 2,.string x,.string y] 143)).cell? ⟨w.heap.size,2,none⟩=some (.string y) by go_simp);have c0:=cell_later k1 (show (w.alloc (.cells #[.int .i64 2,.string x,.string y] 143)).cell? ⟨w.heap.size,0,none⟩=some (.int .i64 2) by go_simp);clear k1)
      go_ret;exact⟨jd HV.out.symm,(ja _ _).trans K1.out⟩)
   · by_cases h3:o=3
     · subst h3;have HV:=lH (show Z1 s (3,x,y)=h by rw[Xn,if_neg (by decide),if_neg (by decide),if_pos rfl,hh]);clear hv hh hq h1 h2;go_enter Tryz.func224,Tryz.ntmps224;go_wp2_with (go_at_call 247;refine(HG.out _ (ja _ _)).mono ?_;rintro e w1 ⟨rfl,k1⟩;have K1:=lH k1;have c0:=cell_later k1 (show (w.alloc (.cells #[.int .i64 3,.string x,.string y] 143)).cell? ⟨w.heap.size,0,none⟩=some (.int .i64 3) by go_simp);clear k1)
       go_ret;exact⟨jd HV.out.symm,(ja _ _).trans K1.out⟩
     · by_cases h4:o=4
       · subst h4;have HV:=lH (show Z1 s (4,x,y)=!h by rw[Xn,if_neg (by decide),if_neg (by decide),if_neg (by decide),if_pos rfl,hh]);clear hv hh hq h1 h2 h3;go_enter Tryz.func224,Tryz.ntmps224;go_wp2_with (go_at_call 247;refine(HG.out _ (ja _ _)).mono ?_;rintro e w1 ⟨rfl,k1⟩;have K1:=lH k1;have c0:=cell_later k1 (show (w.alloc (.cells #[.int .i64 4,.string x,.string y] 143)).cell? ⟨w.heap.size,0,none⟩=some (.int .i64 4) by go_simp);clear k1)
         go_ret;exact⟨jd HV.out.symm,(ja _ _).trans K1.out⟩
       · have HV:=lH (show Z1 s (o,x,y)=false by rw[Xn,if_neg h1,if_neg h2,if_neg h3,if_neg h4]);have e1:(o==1)=false:=by simpa using h1
         have e2:(o==2)=false:=by simpa using h2
         have e3:(o==3)=false:=by simpa using h3
         have e4:(o==4)=false:=by simpa using h4
         clear hv hh hq h1 h2 h3 h4;go_enter Tryz.func224,Tryz.ntmps224;go_wp2_with (go_at_call 247;refine(HG.out _ (ja _ _)).mono ?_;rintro e w1 ⟨rfl,k1⟩;have K1:=lH k1;have c0:=cell_later k1 (show (w.alloc (.cells #[.int .i64 o,.string x,.string y] 143)).cell? ⟨w.heap.size,0,none⟩=some (.int .i64 o) by go_simp);clear k1)
         go_ret;exact⟨jd HV.out.symm,(ja _ _).trans K1.out⟩
def ZT (l:TL) (s:PL):Bool:=l.all (Z1 s)
theorem jjf (t:Int×ByteArray×ByteArray) (r:TL) (s:PL):ZT (t::r) s=(Z1 s t&&ZT r s):=rfl
theorem jki (a a':Option Addr) (len cap len' cap':Nat) (l:TL) (s:PL) (w:World) (hr:jk jQ w a len l) (hr':jk jz w a' len' s) :
 Calls Tryz.prog 192 #[.slice a len cap,.slice a' len' cap'] w fun e w'=>e=.returned (.bool (ZT l s))∧Kept w w':=by
 have hl:=hr.1;have hm:=hr.2.1;unfold maxLen at hm;rcases hr.form with h0 | ⟨b,off,rfl⟩
 · subst h0;have HE:=lH (show ZT l s=true by rw[List.eq_nil_of_length_eq_zero hl];rfl);clear hr hl hr';go_enter Tryz.func192,Tryz.ntmps192;go_wp2;refine wp_loop_rounds 1 ?_;rw[rounds_succ];go_wp2;go_ret;exact⟨jd HE.out.symm,Kept.refl _⟩
 · have HR:=lH hr;have HR':=lH hr';have HL:=lH hl;clear hr hl hr';go_enter Tryz.func192,Tryz.ntmps192;go_wp2;go_loopw [9] (fun i wr=>∃k:Nat,k≤len∧i=.int .i64 k∧ZT (l.drop k) s=ZT l s∧Kept w wr) (fun i _=>len-(intOf i).toNat)
   case atStart=>exact⟨0,Nat.zero_le _,rfl,rfl,Kept.refl _⟩
   case round =>
    obtain⟨k,hk,rfl,hrest,hK⟩:=hrel;by_cases hlt:k<len
    · obtain⟨o,x,y,hx,hd,hb,ho,hz,hz2,c1,c2,c3⟩:=(HR.out.kept hK).term hlt;have HK:=lH hK;have HT:=lH (hrest.symm.trans ((congrArg (fun z=>ZT z s) hd).trans (jjf _ _ _)));clear hK hrest hx hd;by_cases n:Z1 s (o,x,y)=true
      · have N:=lH n;go_wp2_with (go_at_call 224;refine(jd4 o x y a' len' cap' s _ ((HR'.out.kept HK.out).kept (ja _ _))).mono ?_;rintro e w1 ⟨rfl,k1⟩;have K1:=lH k1;clear k1)
        go_roundw
        case rel=>exact⟨k+1,by omega,by go_num,(HT.out.trans (by rw[N.out];exact Bool.true_and _)).symm,HK.out.trans ((ja _ _).trans K1.out)⟩
        case measure=>simp[intOf];omega
      · have n:Z1 s (o,x,y)=false:=by simpa using n
        have N:=lH n;go_wp2_with (go_at_call 224;refine(jd4 o x y a' len' cap' s _ ((HR'.out.kept HK.out).kept (ja _ _))).mono ?_;rintro e w1 ⟨rfl,k1⟩;have K1:=lH k1;clear k1)
        go_ret;exact⟨jd (HT.out.trans (by rw[N.out];exact Bool.false_and _)).symm,HK.out.trans ((ja _ _).trans K1.out)⟩
    · have HK:=lH hK;have HS:=lH (hrest.symm.trans (congrArg (fun z=>ZT z s) (zB (by rw[HL.out];exact hlt))));clear hK hrest;go_wp2;go_ret;exact⟨jd (HS.out.trans rfl).symm,HK.out⟩
abbrev NT:=ByteArray×ByteArray×Bool
abbrev NL:=List NT
abbrev NV (x y:ByteArray) (b:Bool):Value:=.agg #[.string x,.string y,.bool b]
theorem jdj (x y:ByteArray) (b:Bool) (u:Value) (h:u ∈ [Value.string x,Value.string y,Value.bool b]):u.oneCell'=true:=by
 have e:u=Value.string x∨u=Value.string y∨u=Value.bool b:=by simpa using h
 rcases e with e | e | e<;>rw[e]<;>rfl
def ju:Lay NT:={ m:=3,cs:=fun x=>[.string x.1,.string x.2.1,.bool x.2.2],fine:=fun x=>x.1.size≤maxLen∧x.2.1.size≤maxLen,len:=fun _=>rfl,one:=fun x=>jdj x.1 x.2.1 x.2.2,pos:=by decide }
theorem jk.tri {w:World} {b off len:Nat} {l:NL} {k:Nat} (h:jk ju w (some ⟨b,off,none⟩) len l) (hk:k<len) :
 ∃(x y:ByteArray) (m:Bool),l[k]?=some (x,y,m)∧l.drop k=(x,y,m)::l.drop (k+1)∧b<w.heap.size∧x.size≤maxLen∧y.size≤maxLen ∧
  w.cell? ⟨b,off+k*3,none⟩=some (.string x)∧w.cell? ⟨b,off+k*3+1,none⟩=some (.string y)∧w.cell? ⟨b,off+k*3+2,none⟩=some (.bool m):=by
 obtain⟨⟨x,y,m⟩,h1,h2,h3,h4,h5⟩:=h.cells hk;exact⟨x,y,m,h1,h2,h3,h4.1,h4.2,h5 0 _ rfl,h5 1 _ rfl,h5 2 _ rfl⟩
def Jd (t z:NT):Bool:=eqS z.1 t.1&&eqS z.2.1 t.2.1
def JM:NL→NL→Int
 | _,[]=>0
 | pre,x::t=>if (isName x.1&&isName x.2.1)=false then 3 else if pre.any (Jd x)=true then 6 else JM (pre++[x]) t
def ZJ (l:NL):Int:=if 8<l.length then 4 else JM [] l
theorem X4 {pre:NL} {x:NT} {t:NL} (n:(isName x.1&&isName x.2.1)=false):JM pre (x::t)=3:=by rw[JM,if_pos n]
theorem jct {pre:NL} {x:NT} {t:NL} (n1:isName x.1=true) (n2:isName x.2.1=true) (b:pre.any (Jd x)=true):JM pre (x::t)=6:=by
 rw[JM,if_neg (by rw[n1,n2];decide),if_pos b]
theorem jeg {pre:NL} {x:NT} {t:NL} (n1:isName x.1=true) (n2:isName x.2.1=true) (b:pre.any (Jd x)=false):JM pre (x::t)=JM (pre++[x]) t:=by
 rw[JM,if_neg (by rw[n1,n2];decide),if_neg (by rw[b];decide)]
def zo (s:ByteArray):Bool:=eqS s ByteArray.empty
def zF (x:NT):Bool:=(zo x.1||isName x.1)&&(if x.2.2=true then zo x.2.1 else isName x.2.1)
def JI (l:NL):Int:=if 8<l.length then 4 else if l.all zF=true then 0 else 3
def Zp (t z:NT):Bool:=(zo z.1||eqS z.1 t.1)&&(z.2.2||eqS z.2.1 t.2.1)
def qu (l:NL) (t:NT):Bool:=l.any (Zp t)
def Jl (l:NL):NL→Option NT
 | []=>none
 | t::r=>if (t.2.2&&!qu l t)=true then some t else Jl l r
def softN (l:NL):NL→Nat
 | []=>0
 | t::r=>(if (!t.2.2&&!qu l t)=true then 1 else 0)+softN l r
theorem JY {s:ByteArray}:zo s=(s.toList==([]:List UInt8)):=by
 unfold zo eqS;rw[show ByteArray.empty.toList=([]:List UInt8) from by rw[Lib.toList_data];rfl]
def Jc:PL→PL→Bool
 | [],[]=>true
 | x::s,y::t=>(eqS x.1 y.1&&eqS x.2 y.2)&&Jc s t
 | _,_=>false
def jU:NL→NL→Bool
 | [],[]=>true
 | x::s,y::t=>(eqS x.1 y.1&&(eqS x.2.1 y.2.1&&(x.2.2==y.2.2)))&&jU s t
 | _,_=>false
theorem jbg:∀{l l':PL},l.length≠l'.length→Jc l l'=false
 | [],[],h=>absurd rfl h
 | [],_::_,_=>rfl
 | _::_,[],_=>rfl
 | x::s,y::t,h=>by rw[Jc,jbg (l:=s) (l':=t) (fun e=>h (by simp[e])),Bool.and_false]
theorem XU:∀{l l':NL},l.length≠l'.length→jU l l'=false
 | [],[],h=>absurd rfl h
 | [],_::_,_=>rfl
 | _::_,[],_=>rfl
 | x::s,y::t,h=>by rw[jU,XU (l:=s) (l':=t) (fun e=>h (by simp[e])),Bool.and_false]
theorem jav:∀l:PL,Jc l l=true
 | []=>rfl
 | x::t=>by rw[Jc,jav t,zh,zh];rfl
theorem jat:∀l:NL,jU l l=true
 | []=>rfl
 | x::t=>by rw[jU,jat t,zh,zh];simp
theorem jiK (a a':Option Addr) (len cap len' cap':Nat) (l l':PL) (w:World) (hr:jk jz w a len l) (hr':jk jz w a' len' l') :
 Calls Tryz.prog 99 #[.slice a len cap,.slice a' len' cap'] w fun e w'=>e=.returned (.bool (Jc l l'))∧Kept w w':=by
 have hl:=hr.1;have hm:=hr.2.1;have hl':=hr'.1;have hm':=hr'.2.1;unfold maxLen at hm hm';by_cases hll:len=len'
 · subst hll;by_cases h0:len=0
   · subst h0;have HE:=lH (show Jc l l'=true by rw[List.eq_nil_of_length_eq_zero hl,List.eq_nil_of_length_eq_zero hl'];rfl);clear hr hl hr' hl';go_enter Tryz.func99,Tryz.ntmps99;go_wp2;refine wp_loop_rounds 1 ?_;rw[rounds_succ];go_wp2;go_ret;exact⟨jd HE.out.symm,Kept.refl _⟩
   · obtain⟨b,off,rfl⟩:∃b off,a=some ⟨b,off,none⟩:=hr.form.resolve_left h0;obtain⟨b',off',rfl⟩:∃b off,a'=some ⟨b,off,none⟩:=hr'.form.resolve_left h0;have HR:=lH hr;have HL:=lH hl;have HR':=lH hr';have HL':=lH hl';clear hr hl hr' hl' h0;go_enter Tryz.func99,Tryz.ntmps99;go_wp2;go_loopw [13] (fun i wr=>∃k:Nat,k≤len∧i=.int .i64 k∧Jc (l.drop k) (l'.drop k)=Jc l l'∧Kept w wr) (fun i _=>len-(intOf i).toNat)
     case atStart=>exact⟨0,Nat.zero_le _,rfl,rfl,Kept.refl _⟩
     case round =>
      obtain⟨k,hk,rfl,hrest,hK⟩:=hrel;have HS:=lH hrest;have HK:=lH hK;by_cases hlt:k<len
      · obtain⟨x,y,hx,hd,hb,_,_,c1,c2⟩:=(HR.out.kept hK).pair hlt;obtain⟨x9,y9,hx9,hd9,hb9,_,_,d1,d2⟩:=(HR'.out.kept hK).pair hlt;have HD:=lH hd;have VO:=lH hd9;clear hrest hK hx hx9 hd hd9;by_cases e0:eqS x x9=true
        · have E0:=lH e0;have e0':(x.toList==x9.toList)=true:=e0;clear e0;by_cases e1:eqS y y9=true
          · have E1:=lH e1;have e1':(y.toList==y9.toList)=true:=e1;clear e1;have E:=lH (show Jc (l.drop k) (l'.drop k)=Jc (l.drop (k+1)) (l'.drop (k+1)) by rw[HD.out,VO.out,Jc,E0.out,E1.out];rfl);go_wp2;go_quiet (fail)
            go_wp2;go_roundw
            case rel=>exact⟨k+1,by omega,by go_num,E.out.symm.trans HS.out,HK.out.trans (Kept.drewN _ _)⟩
            case measure=>simp[intOf];omega
          · have e1:eqS y y9=false:=by simpa using e1
            have E1:=lH e1;have e1':(y.toList==y9.toList)=false:=e1;clear e1;have E:=lH (show Jc (l.drop k) (l'.drop k)=false by rw[HD.out,VO.out,Jc,E0.out,E1.out];rfl);go_wp2;go_quiet (fail)
            go_wp2;go_ret;exact⟨jd (HS.out.symm.trans E.out).symm,HK.out.trans (Kept.drewN _ _)⟩
        · have e0:eqS x x9=false:=by simpa using e0
          have E0:=lH e0;have e0':(x.toList==x9.toList)=false:=e0;clear e0;have E:=lH (show Jc (l.drop k) (l'.drop k)=false by rw[HD.out,VO.out,Jc,E0.out];rfl);go_wp2;go_quiet (fail)
          go_wp2;go_ret;exact⟨jd (HS.out.symm.trans E.out).symm,HK.out.trans (Kept.drewN _ _)⟩
      · have E:=lH (show Jc (l.drop k) (l'.drop k)=true by
         rw[List.drop_of_length_le (by rw[HL.out];omega),List.drop_of_length_le (by rw[HL'.out];omega),Jc])
        clear hrest hK;go_wp2;go_ret;exact⟨jd (HS.out.symm.trans E.out).symm,HK.out⟩
 · have HV:=lH (show Jc l l'=false from jbg (by omega));clear hr hl hr' hl';have hn:((len:Int) != (len':Int))=true:=by
    simp only[bne_iff_ne,ne_eq];omega
   clear hll;go_enter Tryz.func99,Tryz.ntmps99;go_wp2;go_ret;exact⟨jd HV.out.symm,Kept.refl _⟩
theorem Zq {v v':Value} {l l':PL} {c:Bool} {w:World} (h:Reads jz w v l) (h':Reads jz w v' l') (hc:Jc l l'=c) :
 Calls Tryz.prog 99 #[v,v'] w (Say (.bool c) w):=by
 subst hc;obtain⟨a,cap,rfl,_,_,hr⟩:=h;obtain⟨a',cap',rfl,_,_,hr'⟩:=h';exact jiK a a' _ cap _ cap' l l' w hr hr'
theorem ji5 (a a':Option Addr) (len cap len' cap':Nat) (l l':NL) (w:World) (hr:jk ju w a len l) (hr':jk ju w a' len' l') :
 Calls Tryz.prog 100 #[.slice a len cap,.slice a' len' cap'] w fun e w'=>e=.returned (.bool (jU l l'))∧Kept w w':=by
 have hl:=hr.1;have hm:=hr.2.1;have hl':=hr'.1;have hm':=hr'.2.1;unfold maxLen at hm hm';by_cases hll:len=len'
 · subst hll;by_cases h0:len=0
   · subst h0;have HE:=lH (show jU l l'=true by rw[List.eq_nil_of_length_eq_zero hl,List.eq_nil_of_length_eq_zero hl'];rfl);clear hr hl hr' hl';go_enter Tryz.func100,Tryz.ntmps100;go_wp2;refine wp_loop_rounds 1 ?_;rw[rounds_succ];go_wp2;go_ret;exact⟨jd HE.out.symm,Kept.refl _⟩
   · obtain⟨b,off,rfl⟩:∃b off,a=some ⟨b,off,none⟩:=hr.form.resolve_left h0;obtain⟨b',off',rfl⟩:∃b off,a'=some ⟨b,off,none⟩:=hr'.form.resolve_left h0;have HR:=lH hr;have HL:=lH hl;have HR':=lH hr';have HL':=lH hl';clear hr hl hr' hl' h0;go_enter Tryz.func100,Tryz.ntmps100;go_wp2;go_loopw [13] (fun i wr=>∃k:Nat,k≤len∧i=.int .i64 k∧jU (l.drop k) (l'.drop k)=jU l l'∧Kept w wr) (fun i _=>len-(intOf i).toNat)
     case atStart=>exact⟨0,Nat.zero_le _,rfl,rfl,Kept.refl _⟩
     case round =>
      obtain⟨k,hk,rfl,hrest,hK⟩:=hrel;have HS:=lH hrest;have HK:=lH hK;by_cases hlt:k<len
      · obtain⟨x,y,m,hx,hd,hb,_,_,c1,c2,c3⟩:=(HR.out.kept hK).tri hlt;obtain⟨x9,y9,m9,hx9,hd9,hb9,_,_,d1,d2,d3⟩:=(HR'.out.kept hK).tri hlt;have HD:=lH hd;have VO:=lH hd9;clear hrest hK hx hx9 hd hd9;by_cases e0:eqS x x9=true
        · have E0:=lH e0;have e0':(x.toList==x9.toList)=true:=e0;clear e0;by_cases e1:eqS y y9=true
          · have E1:=lH e1;have e1':(y.toList==y9.toList)=true:=e1;clear e1;by_cases e2:(m==m9)=true
            · have E2:=lH e2;have e2':(m==m9)=true:=e2;clear e2;have E:=lH (show jU (l.drop k) (l'.drop k)=jU (l.drop (k+1)) (l'.drop (k+1)) by rw[HD.out,VO.out,jU,E0.out,E1.out,E2.out];rfl);go_wp2;go_quiet (fail)
              go_wp2;go_roundw
              case rel=>exact⟨k+1,by omega,by go_num,E.out.symm.trans HS.out,HK.out.trans (Kept.drewN _ _)⟩
              case measure=>simp[intOf];omega
            · have e2:(m==m9)=false:=by simpa using e2
              have E2:=lH e2;have e2':(m==m9)=false:=e2;clear e2;have E:=lH (show jU (l.drop k) (l'.drop k)=false by rw[HD.out,VO.out,jU,E0.out,E1.out,E2.out];rfl);go_wp2;go_quiet (fail)
              go_wp2;go_ret;exact⟨jd (HS.out.symm.trans E.out).symm,HK.out.trans (Kept.drewN _ _)⟩
          · have e1:eqS y y9=false:=by simpa using e1
            have E1:=lH e1;have e1':(y.toList==y9.toList)=false:=e1;clear e1;have E:=lH (show jU (l.drop k) (l'.drop k)=false by rw[HD.out,VO.out,jU,E0.out,E1.out];rfl);go_wp2;go_quiet (fail)
            go_wp2;go_ret;exact⟨jd (HS.out.symm.trans E.out).symm,HK.out.trans (Kept.drewN _ _)⟩
        · have e0:eqS x x9=false:=by simpa using e0
          have E0:=lH e0;have e0':(x.toList==x9.toList)=false:=e0;clear e0;have E:=lH (show jU (l.drop k) (l'.drop k)=false by rw[HD.out,VO.out,jU,E0.out];rfl);go_wp2;go_quiet (fail)
          go_wp2;go_ret;exact⟨jd (HS.out.symm.trans E.out).symm,HK.out.trans (Kept.drewN _ _)⟩
      · have E:=lH (show jU (l.drop k) (l'.drop k)=true by
         rw[List.drop_of_length_le (by rw[HL.out];omega),List.drop_of_length_le (by rw[HL'.out];omega),jU])
        clear hrest hK;go_wp2;go_ret;exact⟨jd (HS.out.symm.trans E.out).symm,HK.out⟩
 · have HV:=lH (show jU l l'=false from XU (by omega));clear hr hl hr' hl';have hn:((len:Int) != (len':Int))=true:=by
    simp only[bne_iff_ne,ne_eq];omega
   clear hll;go_enter Tryz.func100,Tryz.ntmps100;go_wp2;go_ret;exact⟨jd HV.out.symm,Kept.refl _⟩
theorem jhn {v v':Value} {l l':NL} {c:Bool} {w:World} (h:Reads ju w v l) (h':Reads ju w v' l') (hc:jU l l'=c) :
 Calls Tryz.prog 100 #[v,v'] w (Say (.bool c) w):=by
 subst hc;obtain⟨a,cap,rfl,_,_,hr⟩:=h;obtain⟨a',cap',rfl,_,_,hr'⟩:=h';exact ji5 a a' _ cap _ cap' l l' w hr hr'
theorem jaZ (v:Value) (w:World):Calls Tryz.prog 148 #[v,.int .i64 0] w fun e w'=>e=.returned v∧w=w':=by
 go_enter Tryz.func148,Tryz.ntmps148;go_wp2;go_ret;exact⟨rfl,rfl⟩
theorem qT (v:Value) (x:Int) (w:World) (h:x≠0):Calls Tryz.prog 148 #[v,.int .i64 x] w fun e w'=>e=.panicked [zw x]∧w=w':=by
 have h3:(x != 0)=true:=by simpa using h
 clear h;go_enter Tryz.func148,Tryz.ntmps148;go_wp2;exact⟨rfl,rfl,rfl⟩
open Go.RowKit Go.Shelf
attribute [local go_sem] Oper.semAt_some
end Go.Proofs.YtibepooajeakfaaGreat
namespace Go.Proofs.YtibepooajeakfaaGreat
open Go.RowKit Go.Shelf
attribute [local go_sem] Oper.semAt_some
end Go.Proofs.YtibepooajeakfaaGreat
namespace Go.Proofs.YtibepooajeakfaaGreat
open Go.RowKit
theorem ja7 {v:Value} {l:PL} {c:Int} {w:World} (h:Reads jz w v l) (hc:J9 l=c) :
 Calls Tryz.prog 176 #[v] w (Say (.int .i64 c) w):=by
 obtain⟨a,cap,rfl,_,_,hr⟩:=h;exact(ja6 a _ cap l w hr).mono fun e w' ⟨he,k⟩=>⟨by rw[he,hc],k⟩
theorem jd5 {v:Value} {l:TL} {c:Int} {w:World} (h:Reads jQ w v l) (hc:Zt l=c) :
 Calls Tryz.prog 180 #[v] w (Say (.int .i64 c) w):=by
 obtain⟨a,cap,rfl,_,_,hr⟩:=h;exact(jfF a _ cap l w hr).mono fun e w' ⟨he,k⟩=>⟨by rw[he,hc],k⟩
theorem jfm {v:Value} {l:PL} {n x:ByteArray} {b:Bool} {w:World} (h:Reads jz w v l) (hx:XP l n=x) (hb:YA l n=b) :
 Calls Tryz.prog 247 #[v,.string n] w (Say (.tuple #[.string x,.bool b]) w):=by
 obtain⟨a,cap,rfl,_,_,hr⟩:=h;exact(XD a _ cap l n w hr).mono fun e w' ⟨he,k⟩=>⟨by rw[he,hx,hb],k⟩
theorem jny {v v':Value} {l:TL} {s:PL} {b:Bool} {w:World} (h:Reads jQ w v l) (h':Reads jz w v' s) (hb:ZT l s=b) :
 Calls Tryz.prog 192 #[v,v'] w (Say (.bool b) w):=by
 obtain⟨a,cap,rfl,_,_,hr⟩:=h;obtain⟨a',cap',rfl,_,_,hr'⟩:=h';exact(jki a a' _ cap _ cap' l s w hr hr').mono fun e w' ⟨he,k⟩=>⟨by rw[he,hb],k⟩
def Xb (x:ByteArray×ByteArray):Bool:=decide (x.1.size≤50)&&decide (x.2.size≤50)
def Y5 (x:Int×ByteArray×ByteArray):Bool:=decide (x.2.1.size≤50)&&decide (x.2.2.size≤50)
def YC (l:PL):Bool:=decide (l.length≤20)&&l.all Xb
def YD (l:TL):Bool:=decide (l.length≤20)&&l.all Y5
theorem jdJ (a:Option Addr) (len cap:Nat) (l:PL) (w:World) (hr:jk jz w a len l) :
 Calls Tryz.prog 109 #[.slice a len cap] w fun e w'=>e=.returned (.bool (YC l))∧w=w':=by
 have hl:=hr.1;have hm:=hr.2.1;unfold maxLen at hm;by_cases h20:len≤20
 · have HV:=lH (show YC l=l.all Xb by unfold YC;rw[decide_eq_true (by omega)];rfl);rcases hr.form with h0 | ⟨b,off,rfl⟩
   · subst h0;have HE:=lH (show YC l=true by rw[HV.out,List.eq_nil_of_length_eq_zero hl];rfl);clear hr hl;go_enter Tryz.func109,Tryz.ntmps109;go_wp2;refine wp_loop_rounds 1 ?_;rw[rounds_succ];go_wp2;go_ret;exact⟨jd HE.out.symm,rfl⟩
   · have HR:=lH hr;have HL:=lH hl;clear hr hl;go_enter Tryz.func109,Tryz.ntmps109;go_wp2;go_loop [3] (fun i=>∃k:Nat,k≤len∧i=.int .i64 k∧(l.drop k).all Xb=l.all Xb) (fun i=>len-(intOf i).toNat)
     case atStart=>exact⟨0,Nat.zero_le _,rfl,rfl⟩
     case round =>
      obtain⟨k,hk,rfl,hrest⟩:=hrel;by_cases hlt:k<len
      · obtain⟨x,y,hx,hd,hb,hz,hz2,c1,c2⟩:=HR.out.pair hlt;have HT:=lH (hrest.symm.trans ((congrArg (fun z=>z.all Xb) hd).trans (all_cons _ _ _)));clear hrest hx hd;unfold maxLen at hz hz2;by_cases e:x.size≤50
        · by_cases e2:y.size≤50
          · have E:=lH (show Xb (x,y)=true by unfold Xb;rw[decide_eq_true e,decide_eq_true e2];rfl);go_wp2;go_round
            case rel=>exact⟨k+1,by omega,by go_num,(HT.out.trans (by rw[E.out];exact Bool.true_and _)).symm⟩
            case measure=>simp[intOf];omega
          · have E:=lH (show Xb (x,y)=false by unfold Xb;rw[decide_eq_false e2];exact Bool.and_false _);have e2':50<y.size:=by omega
            clear e2;go_wp2;go_ret;exact⟨jd (HV.out.trans (HT.out.trans (by rw[E.out];exact Bool.false_and _))).symm,rfl⟩
        · have E:=lH (show Xb (x,y)=false by unfold Xb;rw[decide_eq_false e];exact Bool.false_and _);have e':50<x.size:=by omega
          clear e;go_wp2;go_ret;exact⟨jd (HV.out.trans (HT.out.trans (by rw[E.out];exact Bool.false_and _))).symm,rfl⟩
      · have HS:=lH ((HV.out.trans hrest.symm).trans (congrArg (fun z=>z.all Xb) (zB (by rw[HL.out];exact hlt))));clear hrest;go_wp2;go_ret;exact⟨jd (HS.out.trans rfl).symm,rfl⟩
 · have HV:=lH (show YC l=false by unfold YC;rw[decide_eq_false (by omega)];rfl);have h9:20<len:=by omega
   clear h20 hr hl;go_enter Tryz.func109,Tryz.ntmps109;go_wp2;go_ret;exact⟨jd HV.out.symm,rfl⟩
theorem jiF (a:Option Addr) (len cap:Nat) (l:TL) (w:World) (hr:jk jQ w a len l) :
 Calls Tryz.prog 107 #[.slice a len cap] w fun e w'=>e=.returned (.bool (YD l))∧w=w':=by
 have hl:=hr.1;have hm:=hr.2.1;unfold maxLen at hm;by_cases h20:len≤20
 · have HV:=lH (show YD l=l.all Y5 by unfold YD;rw[decide_eq_true (by omega)];rfl);rcases hr.form with h0 | ⟨b,off,rfl⟩
   · subst h0;have HE:=lH (show YD l=true by rw[HV.out,List.eq_nil_of_length_eq_zero hl];rfl);clear hr hl;go_enter Tryz.func107,Tryz.ntmps107;go_wp2;refine wp_loop_rounds 1 ?_;rw[rounds_succ];go_wp2;go_ret;exact⟨jd HE.out.symm,rfl⟩
   · have HR:=lH hr;have HL:=lH hl;clear hr hl;go_enter Tryz.func107,Tryz.ntmps107;go_wp2;go_loop [3] (fun i=>∃k:Nat,k≤len∧i=.int .i64 k∧(l.drop k).all Y5=l.all Y5) (fun i=>len-(intOf i).toNat)
     case atStart=>exact⟨0,Nat.zero_le _,rfl,rfl⟩
     case round =>
      obtain⟨k,hk,rfl,hrest⟩:=hrel;by_cases hlt:k<len
      · obtain⟨o,x,y,hx,hd,hb,ho,hz,hz2,c0,c1,c2⟩:=HR.out.term hlt;have HT:=lH (hrest.symm.trans ((congrArg (fun z=>z.all Y5) hd).trans (all_cons _ _ _)));clear hrest hx hd;unfold maxLen at hz hz2;by_cases e:x.size≤50
        · by_cases e2:y.size≤50
          · have E:=lH (show Y5 (o,x,y)=true by unfold Y5;rw[decide_eq_true e,decide_eq_true e2];rfl);go_wp2;go_round
            case rel=>exact⟨k+1,by omega,by go_num,(HT.out.trans (by rw[E.out];exact Bool.true_and _)).symm⟩
            case measure=>simp[intOf];omega
          · have E:=lH (show Y5 (o,x,y)=false by unfold Y5;rw[decide_eq_false e2];exact Bool.and_false _);have e2':50<y.size:=by omega
            clear e2;go_wp2;go_ret;exact⟨jd (HV.out.trans (HT.out.trans (by rw[E.out];exact Bool.false_and _))).symm,rfl⟩
        · have E:=lH (show Y5 (o,x,y)=false by unfold Y5;rw[decide_eq_false e];exact Bool.false_and _);have e':50<x.size:=by omega
          clear e;go_wp2;go_ret;exact⟨jd (HV.out.trans (HT.out.trans (by rw[E.out];exact Bool.false_and _))).symm,rfl⟩
      · have HS:=lH ((HV.out.trans hrest.symm).trans (congrArg (fun z=>z.all Y5) (zB (by rw[HL.out];exact hlt))));clear hrest;go_wp2;go_ret;exact⟨jd (HS.out.trans rfl).symm,rfl⟩
 · have HV:=lH (show YD l=false by unfold YD;rw[decide_eq_false (by omega)];rfl);have h9:20<len:=by omega
   clear h20 hr hl;go_enter Tryz.func107,Tryz.ntmps107;go_wp2;go_ret;exact⟨jd HV.out.symm,rfl⟩
theorem jcD (a:Option Addr) (len cap:Nat) (l:PL) (w:World) (hr:jk jz w a len l) :
 Calls Tryz.prog 160 #[.slice a len cap] w fun e w'=>e=.returned (.int .i64 (J9 l))∧Kept w w':=by
 have hl:=hr.1;have hm:=hr.2.1;unfold maxLen at hm;by_cases h8:len≤8
 · have HV:=lH (show J9 l=zL none l by unfold J9;rw[if_neg (by omega)]);rcases hr.form with h0 | ⟨b,off,rfl⟩
   · subst h0;have HE:=lH (show J9 l=0 by rw[HV.out];rw[List.eq_nil_of_length_eq_zero hl];rfl);clear hr hl;go_enter Tryz.func160,Tryz.ntmps160;go_wp2;refine wp_loop_rounds 1 ?_;rw[rounds_succ];go_wp2;go_ret;exact⟨jb HE.out.symm,Kept.refl _⟩
   · have HR:=lH hr;have HL:=lH hl;clear hr hl;go_enter Tryz.func160,Tryz.ntmps160;go_wp2;go_loopw [3] (fun i wr=>∃k:Nat,k≤len∧i=.int .i64 k∧zL (Yt l k) (l.drop k)=zL none l∧Kept w wr) (fun i _=>len-(intOf i).toNat)
     case atStart=>exact⟨0,Nat.zero_le _,rfl,rfl,Kept.refl _⟩
     case round =>
      obtain⟨k,hk,rfl,hrest,hK⟩:=hrel;by_cases hlt:k<len
      · obtain⟨x,y,hx,hd,hb,hz,hz2,c1,c2⟩:=(HR.out.kept hK).pair hlt;obtain⟨HX,HK,HT⟩:=lH3 hx hK (hrest.symm.trans (congrArg (zL (Yt l k)) hd));have HS:=lH (HV.out.trans HT.out);clear hK hrest hx hd;by_cases n1:isName x=true
        · by_cases n2:isName y=true
          · have N1:=lH n1;have N2:=lH n2;by_cases h0:k=0
            · have hd:decide (0<k)=false:=by subst h0;decide
              have HP:=lH (Yr (l:=l) h0 x);clear h0;go_wp2_with (go_at_call 158;refine(jq _ _ (by assumption)).mono ?_;rintro e w' ⟨rfl,rfl⟩)
              go_quiet (fail)
              go_wp2;go_roundw
              case rel=>exact⟨k+1,by omega,by go_num,by rw[YI HX.out];exact(Zy N1.out N2.out HP.out).symm.trans HT.out.symm,HK.out.trans (Kept.drewN _ _)⟩
              case measure=>simp[intOf];omega
            · have hd:decide (0<k)=true:=by simp;omega
              have g1:0≤(k:Int)-1:=by omega
              have g2:(k:Int)-1<(len:Int):=by omega
              have g3:((k:Int)-1).toNat=k-1:=by omega
              obtain⟨px,py,hpx,_,_,_,_,d1,d2⟩:=(HR.out.kept HK.out).pair (show k-1<len by omega);have HP:=lH (Yq (l:=l) h0 hpx x);clear hpx;by_cases n3:leS x px=true
              · have n3':(Op.bytesLess x.toList px.toList||x.toList==px.toList)=true:=n3;have N3:=lH n3;clear n3;go_wp2_with (go_at_call 158;refine(jq _ _ (by assumption)).mono ?_;rintro e w' ⟨rfl,rfl⟩)
                go_quiet (fail)
                go_wp2;go_ret;exact⟨jb (HS.out.trans (Xl N1.out N2.out (HP.out.trans N3.out))).symm,HK.out.trans (Kept.drewN _ _)⟩
              · have n3:leS x px=false:=by simpa using n3
                have n3':(Op.bytesLess x.toList px.toList||x.toList==px.toList)=false:=n3;have N3:=lH n3;clear n3;go_wp2_with (go_at_call 158;refine(jq _ _ (by assumption)).mono ?_;rintro e w' ⟨rfl,rfl⟩)
                go_quiet (fail)
                go_wp2;go_roundw
                case rel=>exact⟨k+1,by omega,by go_num,by rw[YI HX.out];exact(Zy N1.out N2.out (HP.out.trans N3.out)).symm.trans HT.out.symm,HK.out.trans (Kept.drewN _ _)⟩
                case measure=>simp[intOf];omega
          · have n2:isName y=false:=by simpa using n2
            have N:=lH (show (isName x&&isName y)=false by rw[n2,Bool.and_false]);go_wp2_with (go_at_call 158;refine(jq _ _ (by assumption)).mono ?_;rintro e w' ⟨rfl,rfl⟩)
            go_ret;exact⟨jb (HS.out.trans (Yz N.out)).symm,HK.out⟩
        · have n1:isName x=false:=by simpa using n1
          have N:=lH (show (isName x&&isName y)=false by rw[n1,Bool.false_and]);go_wp2_with (go_at_call 158;refine(jq x _ hz).mono ?_;rintro e w' ⟨rfl,rfl⟩)
          go_ret;exact⟨jb (HS.out.trans (Yz N.out)).symm,HK.out⟩
      · have HK:=lH hK;have HS:=lH ((HV.out.trans hrest.symm).trans (congrArg (zL (Yt l k)) (zB (by rw[HL.out];exact hlt))));clear hK hrest;go_wp2;go_ret;exact⟨jb (HS.out.trans rfl).symm,HK.out⟩
 · have HV:=lH (show J9 l=4 by unfold J9;rw[if_pos (by omega)]);have h9:8<len:=by omega
   clear h8 hr hl;go_enter Tryz.func160,Tryz.ntmps160;go_wp2;go_ret;exact⟨jb HV.out.symm,Kept.refl _⟩
theorem jcM (a:Option Addr) (len cap:Nat) (l:TL) (w:World) (hr:jk jQ w a len l) :
 Calls Tryz.prog 162 #[.slice a len cap] w fun e w'=>e=.returned (.int .i64 (Zt l))∧Kept w w':=by
 have hl:=hr.1;have hm:=hr.2.1;unfold maxLen at hm;by_cases h8:len≤8
 · have HV:=lH (show Zt l=ZL l by unfold Zt;rw[if_neg (by omega)]);rcases hr.form with h0 | ⟨b,off,rfl⟩
   · subst h0;have HE:=lH (show Zt l=0 by rw[HV.out];rw[List.eq_nil_of_length_eq_zero hl];rfl);clear hr hl;go_enter Tryz.func162,Tryz.ntmps162;go_wp2;refine wp_loop_rounds 1 ?_;rw[rounds_succ];go_wp2;go_ret;exact⟨jb HE.out.symm,Kept.refl _⟩
   · have HR:=lH hr;have HL:=lH hl;clear hr hl;go_enter Tryz.func162,Tryz.ntmps162;go_wp2;go_loopw [3] (fun i wr=>∃k:Nat,k≤len∧i=.int .i64 k∧ZL (l.drop k)=ZL l∧Kept w wr) (fun i _=>len-(intOf i).toNat)
     case atStart=>exact⟨0,Nat.zero_le _,rfl,rfl,Kept.refl _⟩
     case round =>
      obtain⟨k,hk,rfl,hrest,hK⟩:=hrel;by_cases hlt:k<len
      · obtain⟨o,x,y,hx,hd,hb,ho,hz,hz2,c1,c2,c3⟩:=(HR.out.kept hK).term hlt;have HK:=lH hK;have HT:=lH (hrest.symm.trans ((congrArg ZL hd).trans (jdf _ _)));have HS:=lH (HV.out.trans HT.out);clear hK hrest hx hd;by_cases g1:o<1
        · have N:=lH (show JH (o,x,y)=1 by rw[JT,if_neg (by omega),if_neg (by omega)]);go_wp2_with (go_at_call 158;refine(jq _ _ (by assumption)).mono ?_;rintro e w' ⟨rfl,rfl⟩)
          go_ret;exact⟨jb (HS.out.trans ((if_pos (by rw[N.out];decide)).trans N.out)).symm,HK.out.trans (ja _ _)⟩
        · by_cases g4:4<o
          · have g1':¬o<1:=g1;have N:=lH (show JH (o,x,y)=1 by rw[JT,if_neg (by omega),if_neg (by omega)]);go_wp2_with (go_at_call 158;refine(jq _ _ (by assumption)).mono ?_;rintro e w' ⟨rfl,rfl⟩)
            go_ret;exact⟨jb (HS.out.trans ((if_pos (by rw[N.out];decide)).trans N.out)).symm,HK.out.trans (ja _ _)⟩
          · have hcase:(o=1∨o=2)∨(o=3∨o=4):=by omega
            clear g1 g4;rcases hcase with hcase | hcase
            · have hc:=hcase;by_cases n1:isName x=true
              · by_cases n2:isName y=true
                · have NN:=lH (show JH (o,x,y)=0 by rw[JT,if_pos hc,if_pos (by rw[n1,n2];rfl)]);clear hc;rcases hcase with rfl | rfl
                  · have N:=lH (NN.out);go_wp2_with (go_at_call 158;refine(jq _ _ (by assumption)).mono ?_;rintro e w' ⟨rfl,rfl⟩)
                    go_roundw
                    case rel=>exact⟨k+1,by omega,by go_num,(HT.out.trans (if_neg (by rw[N.out];decide))).symm,HK.out.trans (ja _ _)⟩
                    case measure=>simp[intOf];omega
                  · have N:=lH (NN.out);go_wp2_with (go_at_call 158;refine(jq _ _ (by assumption)).mono ?_;rintro e w' ⟨rfl,rfl⟩)
                    go_roundw
                    case rel=>exact⟨k+1,by omega,by go_num,(HT.out.trans (if_neg (by rw[N.out];decide))).symm,HK.out.trans (ja _ _)⟩
                    case measure=>simp[intOf];omega
                · have n2:isName y=false:=by simpa using n2
                  have NN:=lH (show JH (o,x,y)=3 by rw[JT,if_pos hc,if_neg (by rw[n2,Bool.and_false];decide)]);clear hc;rcases hcase with rfl | rfl
                  · have N:=lH (NN.out);go_wp2_with (go_at_call 158;refine(jq _ _ (by assumption)).mono ?_;rintro e w' ⟨rfl,rfl⟩)
                    go_ret;exact⟨jb (HS.out.trans ((if_pos (by rw[N.out];decide)).trans N.out)).symm,HK.out.trans (ja _ _)⟩
                  · have N:=lH (NN.out);go_wp2_with (go_at_call 158;refine(jq _ _ (by assumption)).mono ?_;rintro e w' ⟨rfl,rfl⟩)
                    go_ret;exact⟨jb (HS.out.trans ((if_pos (by rw[N.out];decide)).trans N.out)).symm,HK.out.trans (ja _ _)⟩
              · have n1:isName x=false:=by simpa using n1
                have NN:=lH (show JH (o,x,y)=3 by rw[JT,if_pos hc,if_neg (by rw[n1,Bool.false_and];decide)]);clear hc;rcases hcase with rfl | rfl
                · have N:=lH (NN.out);go_wp2_with (go_at_call 158;refine(jq _ _ (by assumption)).mono ?_;rintro e w' ⟨rfl,rfl⟩)
                  go_ret;exact⟨jb (HS.out.trans ((if_pos (by rw[N.out];decide)).trans N.out)).symm,HK.out.trans (ja _ _)⟩
                · have N:=lH (NN.out);go_wp2_with (go_at_call 158;refine(jq _ _ (by assumption)).mono ?_;rintro e w' ⟨rfl,rfl⟩)
                  go_ret;exact⟨jb (HS.out.trans ((if_pos (by rw[N.out];decide)).trans N.out)).symm,HK.out.trans (ja _ _)⟩
            · have hc:=hcase;have hn:¬(o=1∨o=2):=by omega
              by_cases n1:isName x=true
              · by_cases n2:eqS y ByteArray.empty=true
                · have NN:=lH (show JH (o,x,y)=0 by rw[JT,if_neg hn,if_pos hc,if_pos (by rw[n1,n2];rfl)]);have n2':(y.toList==([]:List UInt8))=true:=by unfold eqS at n2;simpa using n2
                  clear hc hn n2;rcases hcase with rfl | rfl
                  · have N:=lH (NN.out);go_wp2_with (go_at_call 158;refine(jq _ _ (by assumption)).mono ?_;rintro e w' ⟨rfl,rfl⟩)
                    go_roundw
                    case rel=>exact⟨k+1,by omega,by go_num,(HT.out.trans (if_neg (by rw[N.out];decide))).symm,HK.out.trans (ja _ _)⟩
                    case measure=>simp[intOf];omega
                  · have N:=lH (NN.out);go_wp2_with (go_at_call 158;refine(jq _ _ (by assumption)).mono ?_;rintro e w' ⟨rfl,rfl⟩)
                    go_roundw
                    case rel=>exact⟨k+1,by omega,by go_num,(HT.out.trans (if_neg (by rw[N.out];decide))).symm,HK.out.trans (ja _ _)⟩
                    case measure=>simp[intOf];omega
                · have n2:eqS y ByteArray.empty=false:=by simpa using n2
                  have NN:=lH (show JH (o,x,y)=3 by rw[JT,if_neg hn,if_pos hc,if_neg (by rw[n2,Bool.and_false];decide)]);have n2':(y.toList==([]:List UInt8))=false:=by unfold eqS at n2;simpa using n2
                  clear hc hn n2;rcases hcase with rfl | rfl
                  · have N:=lH (NN.out);go_wp2_with (go_at_call 158;refine(jq _ _ (by assumption)).mono ?_;rintro e w' ⟨rfl,rfl⟩)
                    go_ret;exact⟨jb (HS.out.trans ((if_pos (by rw[N.out];decide)).trans N.out)).symm,HK.out.trans (ja _ _)⟩
                  · have N:=lH (NN.out);go_wp2_with (go_at_call 158;refine(jq _ _ (by assumption)).mono ?_;rintro e w' ⟨rfl,rfl⟩)
                    go_ret;exact⟨jb (HS.out.trans ((if_pos (by rw[N.out];decide)).trans N.out)).symm,HK.out.trans (ja _ _)⟩
              · have n1:isName x=false:=by simpa using n1
                have NN:=lH (show JH (o,x,y)=3 by rw[JT,if_neg hn,if_pos hc,if_neg (by rw[n1,Bool.false_and];decide)]);clear hc hn;rcases hcase with rfl | rfl
                · have N:=lH (NN.out);go_wp2_with (go_at_call 158;refine(jq _ _ (by assumption)).mono ?_;rintro e w' ⟨rfl,rfl⟩)
                  go_ret;exact⟨jb (HS.out.trans ((if_pos (by rw[N.out];decide)).trans N.out)).symm,HK.out.trans (ja _ _)⟩
                · have N:=lH (NN.out);go_wp2_with (go_at_call 158;refine(jq _ _ (by assumption)).mono ?_;rintro e w' ⟨rfl,rfl⟩)
                  go_ret;exact⟨jb (HS.out.trans ((if_pos (by rw[N.out];decide)).trans N.out)).symm,HK.out.trans (ja _ _)⟩
      · have HK:=lH hK;have HS:=lH ((HV.out.trans hrest.symm).trans (congrArg ZL (zB (by rw[HL.out];exact hlt))));clear hK hrest;go_wp2;go_ret;exact⟨jb (HS.out.trans rfl).symm,HK.out⟩
 · have HV:=lH (show Zt l=4 by unfold Zt;rw[if_pos (by omega)]);have h9:8<len:=by omega
   clear h8 hr hl;go_enter Tryz.func162,Tryz.ntmps162;go_wp2;go_ret;exact⟨jb HV.out.symm,Kept.refl _⟩
theorem jmk:(Tryz.prog.info? 141).map (fun i=>(i.zero,i.size,i.bytes))=some (some (.agg #[.string ByteArray.empty,.string ByteArray.empty]),2,32):=by kernel_rfl
theorem jfN (a:Option Addr) (len cap:Nat) (l:PL) (w:World) (hr:jk jz w a len l) (hlen:len≤1000000) :
 Calls Tryz.prog 36 #[.slice a len cap] w (fun e w'=>∃x,e=.returned x∧Own jz 141 w' w.heap.size x l∧Kept w w'):=by
 have hl:=hr.1;obtain⟨i0,hi,hz0,hz1,hz2'⟩:=info_parts jmk;rcases hr.form with h0 | ⟨b,off,rfl⟩
 · subst h0;have hl0:l=[]:=List.eq_nil_of_length_eq_zero hl;subst hl0;clear hr hl hi hz0 hz1 hz2';go_enter Tryz.func36,Tryz.ntmps36;go_wp2;refine wp_loop_rounds 1 ?_;rw[rounds_succ];go_wp2;go_ret;exact⟨_,rfl,Own.nil _ _ _,Kept.refl _⟩
 · have HR:=lH hr;have HL:=lH hl;clear hr hl;go_enter Tryz.func36,Tryz.ntmps36;go_wp2;go_loopw [3,4] (fun v i wr=>∃k:Nat,k≤len∧i=.int .i64 k∧Own jz 141 wr w.heap.size v (l.take k)∧Below w.heap.size w wr) (fun _ i _=>len-(intOf i).toNat)
   case atStart=>exact⟨0,Nat.zero_le _,rfl,Own.nil _ _ _,Below.refl _ _⟩
   case round =>
    obtain⟨k,hk,rfl,ho,hB⟩:=hrel;obtain⟨HO,HB,HT⟩:=lH3 ho hB (show (l.take k).length=k by rw[List.length_take,HL.out];omega);have Vk:=lH (show wr.ownsRow w.heap.size 141 2 u3 k (je jz (l.take k)) by have:=HO.out.1;rw[HT.out] at this;exact this);by_cases hlt:k<len
    · obtain⟨x,y,hx,hd,hb,hz,hz2,c1,c2⟩:=(HR.out.kept hB).pair hlt;have HX:=lH hx;have hbw:b<w.heap.size:=by obtain⟨z,_,_,h,_⟩:=HR.out.cells hlt;exact h
      have hbase:w.heap.size≤wr.heap.size:=hB.size;have V0:=lH (show u3.ownBlock≠some b by
       intro e;have:=(Vk.out.lt b e).1;omega)
      have VL:=lH (show w.heap.size≤(wr.alloc (.cells #[.string x,.string y] 141)).drew.heap.size by simp;omega);have UJ:=lH (show Below w.heap.size w ((wr.alloc (.cells #[.string x,.string y] 141)).drew) from HB.out.trans (Below.mono ((ja wr _).trans (Kept.drewN _ 1)) hbase));have hk1:(k:Int)<(len:Int):=by omega
      have Ur:=lH (show jz.fine (x,y) from⟨hz,hz2⟩);clear ho hB hx hd hz hz2;go_wp2_with fail
      go_region_held3 (fun W=>W.cell? ⟨b,off+k*2,none⟩=some (.string x)∧W.cell? ⟨b,off+k*2+1,none⟩=some (.string y))
       (first
         | go_keep
         | (go_split_ands
            refine⟨?_,?_⟩
            · (refine(hgrow.cell_far ⟨b,off+k*2,none⟩ (by simp;omega) (Ne.symm V0.out)).trans ?_;assumption)
            · (refine(hgrow.cell_far ⟨b,off+k*2+1,none⟩ (by simp;omega) (Ne.symm V0.out)).trans ?_;assumption)))
       ((refine step_append_lies _ (by rfl) _ _ _ (by rfl) w.heap.size 141 i0 _ 2 32 Tryz.underlying38 hi hz0 hz1 hz2' rfl (by decide) u3 k (je jz (l.take k)) (by rfl) ((Vk.out.alloc _).drew)
          ⟨wr.heap.size,0,none⟩ 1 1 [.string x,.string y] (by rfl) (by rfl) (World.news_of_block (cs:=#[.string x,.string y]) (t:=141) (fr:=(0,0)) (heap_alloc_new wr _)) (jfO x y)
          (by decide) (by unfold maxLen;omega) (by omega) (by simp;omega) (wr.heap.size+1) (by simp) ?_;intro gg cap1 w1 hown1 hgrow hat hlt1))
      all_goals
       go_wp2;go_roundw
       case rel=>exact⟨k+1,by omega,by go_num,by rw[zI HX.out];exact Own.snoc hown1 (by rw[HT.out]) HO.out.2 Ur.out,UJ.out.grown hgrow VL.out (fun j hj=>(Vk.out.lt j hj).1)⟩
       case measure=>simp[intOf];omega
    · have HK:=lH (show l.take k=l by rw[List.take_of_length_le (by rw[HL.out];omega)]);clear ho hB;go_wp2;go_ret;exact⟨_,rfl,by have h:=HO.out;rw[HK.out] at h;exact h,HB.out⟩
theorem jlK:(Tryz.prog.info? 144).map (fun i=>(i.zero,i.size,i.bytes))=some (some (.agg #[.int .i64 0,.string ByteArray.empty,.string ByteArray.empty]),3,40):=by kernel_rfl
theorem jjl (a:Option Addr) (len cap:Nat) (l:TL) (w:World) (hr:jk jQ w a len l) (hlen:len≤1000000) :
 Calls Tryz.prog 37 #[.slice a len cap] w (fun e w'=>∃x,e=.returned x∧Own jQ 144 w' w.heap.size x l∧Kept w w'):=by
 have hl:=hr.1;obtain⟨i0,hi,hz0,hz1,hz2'⟩:=info_parts jlK;rcases hr.form with h0 | ⟨b,off,rfl⟩
 · subst h0;have hl0:l=[]:=List.eq_nil_of_length_eq_zero hl;subst hl0;clear hr hl hi hz0 hz1 hz2';go_enter Tryz.func37,Tryz.ntmps37;go_wp2;refine wp_loop_rounds 1 ?_;rw[rounds_succ];go_wp2;go_ret;exact⟨_,rfl,Own.nil _ _ _,Kept.refl _⟩
 · have HR:=lH hr;have HL:=lH hl;clear hr hl;go_enter Tryz.func37,Tryz.ntmps37;go_wp2;go_loopw [3,4] (fun v i wr=>∃k:Nat,k≤len∧i=.int .i64 k∧Own jQ 144 wr w.heap.size v (l.take k)∧Below w.heap.size w wr) (fun _ i _=>len-(intOf i).toNat)
   case atStart=>exact⟨0,Nat.zero_le _,rfl,Own.nil _ _ _,Below.refl _ _⟩
   case round =>
    obtain⟨k,hk,rfl,ho,hB⟩:=hrel;obtain⟨HO,HB,HT⟩:=lH3 ho hB (show (l.take k).length=k by rw[List.length_take,HL.out];omega);have Vk:=lH (show wr.ownsRow w.heap.size 144 3 u3 k (je jQ (l.take k)) by have:=HO.out.1;rw[HT.out] at this;exact this);by_cases hlt:k<len
    · obtain⟨o,x,y,hx,hd,hb,ho9,hz,hz2,c0,c1,c2⟩:=(HR.out.kept hB).term hlt;have HX:=lH hx;have hbw:b<w.heap.size:=by obtain⟨z,_,_,h,_⟩:=HR.out.cells hlt;exact h
      have hbase:w.heap.size≤wr.heap.size:=hB.size;have V0:=lH (show u3.ownBlock≠some b by
       intro e;have:=(Vk.out.lt b e).1;omega)
      have VL:=lH (show w.heap.size≤(wr.alloc (.cells #[.int .i64 o,.string x,.string y] 144)).drew.heap.size by simp;omega);have UJ:=lH (show Below w.heap.size w ((wr.alloc (.cells #[.int .i64 o,.string x,.string y] 144)).drew) from HB.out.trans (Below.mono ((ja wr _).trans (Kept.drewN _ 1)) hbase));have hk1:(k:Int)<(len:Int):=by omega
      have Ur:=lH (show jQ.fine (o,x,y) from⟨ho9,hz,hz2⟩);clear ho hB hx hd hz hz2;go_wp2_with fail
      go_region_held3 (fun W=>W.cell? ⟨b,off+k*3,none⟩=some (.int .i64 o)∧W.cell? ⟨b,off+k*3+1,none⟩=some (.string x)∧W.cell? ⟨b,off+k*3+2,none⟩=some (.string y))
       (first
         | go_keep
         | (go_split_ands
            refine⟨?_,?_,?_⟩
            · (refine(hgrow.cell_far ⟨b,off+k*3,none⟩ (by simp;omega) (Ne.symm V0.out)).trans ?_;assumption)
            · (refine(hgrow.cell_far ⟨b,off+k*3+1,none⟩ (by simp;omega) (Ne.symm V0.out)).trans ?_;assumption)
            · (refine(hgrow.cell_far ⟨b,off+k*3+2,none⟩ (by simp;omega) (Ne.symm V0.out)).trans ?_;assumption)))
       ((refine step_append_lies _ (by rfl) _ _ _ (by rfl) w.heap.size 144 i0 _ 3 40 Tryz.underlying39 hi hz0 hz1 hz2' rfl (by decide) u3 k (je jQ (l.take k)) (by rfl) ((Vk.out.alloc _).drew)
          ⟨wr.heap.size,0,none⟩ 1 1 [.int .i64 o,.string x,.string y] (by rfl) (by rfl) (World.news_of_block (cs:=#[.int .i64 o,.string x,.string y]) (t:=144) (fr:=(0,0)) (heap_alloc_new wr _)) (jhZ o x y)
          (by decide) (by unfold maxLen;omega) (by omega) (by simp;omega) (wr.heap.size+1) (by simp) ?_;intro gg cap1 w1 hown1 hgrow hat hlt1))
      all_goals
       go_wp2;go_roundw
       case rel=>exact⟨k+1,by omega,by go_num,by rw[zI HX.out];exact Own.snoc hown1 (by rw[HT.out]) HO.out.2 Ur.out,UJ.out.grown hgrow VL.out (fun j hj=>(Vk.out.lt j hj).1)⟩
       case measure=>simp[intOf];omega
    · have HK:=lH (show l.take k=l by rw[List.take_of_length_le (by rw[HL.out];omega)]);clear ho hB;go_wp2;go_ret;exact⟨_,rfl,by have h:=HO.out;rw[HK.out] at h;exact h,HB.out⟩
theorem jfi {v:Value} {l:PL} {w:World} (h:Reads jz w v l):Calls Tryz.prog 109 #[v] w fun e w'=>e=.returned (.bool (YC l))∧w=w':=by
 obtain⟨a,cap,rfl,_,_,hr⟩:=h;exact jdJ a _ cap l w hr
theorem jdr {v:Value} {l:TL} {w:World} (h:Reads jQ w v l):Calls Tryz.prog 107 #[v] w fun e w'=>e=.returned (.bool (YD l))∧w=w':=by
 obtain⟨a,cap,rfl,_,_,hr⟩:=h;exact jiF a _ cap l w hr
theorem Zx {v:Value} {l:PL} {c:Int} {w:World} (h:Reads jz w v l) (hc:J9 l=c):Calls Tryz.prog 160 #[v] w (Say (.int .i64 c) w):=by
 obtain⟨a,cap,rfl,_,_,hr⟩:=h;exact(jcD a _ cap l w hr).mono fun e w' ⟨he,k⟩=>⟨by rw[he,hc],k⟩
theorem jaX {v:Value} {l:TL} {c:Int} {w:World} (h:Reads jQ w v l) (hc:Zt l=c):Calls Tryz.prog 162 #[v] w (Say (.int .i64 c) w):=by
 obtain⟨a,cap,rfl,_,_,hr⟩:=h;exact(jcM a _ cap l w hr).mono fun e w' ⟨he,k⟩=>⟨by rw[he,hc],k⟩
open Go.RowKit Go.Sort
def Grw (w w':World):Prop:=∃q os,w'=grow (w.drewN q) os
theorem Grw.refl (w:World):Grw w w:=⟨0,#[],by rw[grow_empty];rfl⟩
theorem Grw.grown {w W:World} (h:Grw w W) (n:Nat) (os:Array Obj):Grw w (grow (W.drewN n) os):=by
 obtain⟨q,os0,rfl⟩:=h;exact⟨q+n,os0++os,by show grow (grow ((w.drewN q).drewN n) os0) os=_;rw[grow_grow,World.drewN_drewN]⟩
theorem Grw.trans {a b c:World} (h:Grw a b) (k:Grw b c):Grw a c:=by
 obtain⟨q,os,rfl⟩:=k;exact h.grown q os
theorem Grw.alloc (w:World) (o:Obj):Grw w (w.alloc o):=⟨0,#[o],alloc_eq_grow _ _⟩
theorem Grw.drewN (w:World) (n:Nat):Grw w (w.drewN n):=⟨n,#[],by rw[grow_empty]⟩
theorem ZX (w:World) (n:Nat) (os:Array Obj):Kept w (grow (w.drewN n) os):=Go.Lib.below_grow w.heap.size w (Nat.le_refl _) n os
theorem Grw.kept {w w':World} (h:Grw w w'):Kept w w':=by
 obtain⟨q,os,rfl⟩:=h;exact ZX w q os
def Zo (w:World) (c:Nat) (t:NT):Prop:=w.cell? ⟨c,0,none⟩=some (.string t.1)∧w.cell? ⟨c,1,none⟩=some (.string t.2.1)∧w.cell? ⟨c,2,none⟩=some (.bool t.2.2)
theorem Zo.kept {w w':World} {c:Nat} {t:NT} (h:Zo w c t) (k:Kept w w'):Zo w' c t:=⟨cell_later k h.1,cell_later k h.2.1,cell_later k h.2.2⟩
theorem Zo.new (w:World) (x y:ByteArray) (m:Bool) (T:TypeId):Zo (w.alloc (.cells #[.string x,.string y,.bool m] T)) w.heap.size (x,y,m):=by
 have hh:=w.alloc_heap_new (.cells #[.string x,.string y,.bool m] T);exact⟨by rw[Lib.cell_of_heap hh];rfl,by rw[Lib.cell_of_heap hh];rfl,by rw[Lib.cell_of_heap hh];rfl⟩
theorem jf7 (c:Nat) (t:NT) (x y:ByteArray) (m:Bool) (w:World) (h:Zo w c t) :
 Calls Tryz.prog 245 #[NV x y m,.pointer (some ⟨c,0,none⟩)] w fun e w'=>e=.returned (.bool (Jd t (x,y,m)))∧Grw w w':=by
 obtain⟨t1,t2,t3⟩:=t;obtain⟨h1,h2,h3⟩:=h;dsimp only at h1 h2 h3;have g1:=cell_later (ja w (.cells #[.string x,.string y,.bool m] 172)) h1;have g2:=cell_later (ja w (.cells #[.string x,.string y,.bool m] 172)) h2;have g3:=cell_later (ja w (.cells #[.string x,.string y,.bool m] 172)) h3;obtain⟨q1,hq1⟩:=eX ((x.toList==t1.toList))
 obtain⟨q2,hq2⟩:=eX ((y.toList==t2.toList))
 have HV:=lH (show Jd (t1,t2,t3) (x,y,m)=(q1&&q2) by unfold Jd eqS;rw[hq1,hq2])
 cases q1<;>cases q2 <;>
 (go_enter Tryz.func245,Tryz.ntmps245
  go_wp2;go_ret;exact⟨jd HV.out.symm,Grw.alloc _ _⟩)
theorem jmc (t1 t2:ByteArray) (t3:Bool) (x y:ByteArray) (m:Bool) (w:World) :
 Calls Tryz.prog 250 #[NV x y m,NV t1 t2 t3] w fun e w'=>e=.returned (.bool (Zp (t1,t2,t3) (x,y,m)))∧Grw w w':=by
 obtain⟨q0,hq0⟩:=eX ((x.toList==([]:List UInt8)))
 obtain⟨q1,hq1⟩:=eX ((x.toList==t1.toList))
 obtain⟨q2,hq2⟩:=eX ((y.toList==t2.toList))
 have HV:=lH (show Zp (t1,t2,t3) (x,y,m)=((q0||q1)&&(m||q2)) by unfold Zp;rw[JY,hq0];unfold eqS;rw[hq1,hq2])
 cases q0<;>cases q1<;>cases m<;>cases q2 <;>
 (go_enter Tryz.func250,Tryz.ntmps250
  go_wp2;go_ret;exact⟨jd HV.out.symm,(Grw.alloc _ _).trans (Grw.alloc _ _)⟩)
theorem jdb (c:Nat) (t:NT) (x y:ByteArray) (m:Bool) (w:World) (h:Zo w c t) :
 Calls Tryz.prog 249 #[NV x y m,.pointer (some ⟨c,0,none⟩)] w fun e w'=>e=.returned (.bool (Zp t (x,y,m)))∧Grw w w':=by
 obtain⟨t1,t2,t3⟩:=t;obtain⟨h1,h2,h3⟩:=h;dsimp only at h1 h2 h3;have g1:=cell_later (ja w (.cells #[.string x,.string y,.bool m] 146)) h1;have g2:=cell_later (ja w (.cells #[.string x,.string y,.bool m] 146)) h2;have g3:=cell_later (ja w (.cells #[.string x,.string y,.bool m] 146)) h3;go_enter Tryz.func249,Tryz.ntmps249;go_wp2_with (go_at_call 250;refine(jmc t1 t2 t3 x y m _).mono ?_;rintro e w1 ⟨rfl,k1⟩;have K1:=lH k1;clear k1)
 go_ret;exact⟨rfl,(Grw.alloc _ _).trans K1.out⟩
theorem jiY (a:Option Addr) (len cap:Nat) (l:NL) (c:Nat) (t:NT) (w:World) (hr:jk ju w a len l) (ht:Zo w c t) :
 Calls Tryz.prog 267 #[.slice a len cap,.func (.func 245) #[] #[.pointer (some ⟨c,0,none⟩)]] w fun e w'=>∃i:Int,e=.returned (.int .i64 i)∧decide (0≤i)=l.any (Jd t)∧Grw w w':=by
 have hl:=hr.1;have hm:=hr.2.1;unfold maxLen at hm;rcases hr.form with h0 | ⟨b,off,rfl⟩
 · subst h0;have HE:=lH (show l.any (Jd t)=false by rw[List.eq_nil_of_length_eq_zero hl];rfl);clear hr hl ht;go_enter Tryz.func267,Tryz.ntmps267;go_wp2;refine wp_loop_rounds 1 ?_;rw[rounds_succ];go_wp2;go_ret;exact⟨-1,rfl,HE.out.symm,Grw.refl _⟩
 · obtain⟨HR,HL,HT⟩:=lH3 hr hl ht;clear hr hl ht;go_enter Tryz.func267,Tryz.ntmps267;go_wp2;go_loopw [8] (fun i wr=>∃k:Nat,k≤len∧i=.int .i64 k∧(l.drop k).any (Jd t)=l.any (Jd t)∧Grw w wr) (fun i _=>len-(intOf i).toNat)
   case atStart=>exact⟨0,Nat.zero_le _,rfl,rfl,Grw.refl _⟩
   case round =>
    obtain⟨k,hk,rfl,hrest,hG⟩:=hrel;have hK:=hG.kept;have HG:=lH hG;by_cases hlt:k<len
    · obtain⟨x,y,m,hx,hd,hb,hz,hz2,c1,c2,c3⟩:=(HR.out.kept hK).tri hlt;have HK:=lH hK;have HS:=lH (hrest.symm.trans ((congrArg (fun z=>z.any (Jd t)) hd).trans (List.any_cons)));obtain⟨q,hq⟩:=eX (Jd t (x,y,m))
      rw[hq] at HS;have HQ:=lH hq;have HC:=lH (HT.out.kept hK);clear hK hrest hx hd hG hq
      cases q with
      | true =>
       go_wp2_with (go_at_call 245;refine(jf7 c t x y m _ HC.out).mono ?_;rw[HQ.out];rintro e w1 ⟨rfl,k1⟩;have K1:=lH k1;clear k1)
       go_ret;exact⟨(k:Int),rfl,by rw[HS.out];simp,HG.out.trans K1.out⟩
      | false =>
       go_wp2_with (go_at_call 245;refine(jf7 c t x y m _ HC.out).mono ?_;rw[HQ.out];rintro e w1 ⟨rfl,k1⟩;have K1:=lH k1;clear k1)
       go_roundw
       case rel=>exact⟨k+1,by omega,by go_num,(HS.out.trans (Bool.false_or _)).symm,HG.out.trans K1.out⟩
       case measure=>simp[intOf];omega
    · have HS:=lH (hrest.symm.trans (congrArg (fun z=>z.any (Jd t)) (zB (by rw[HL.out];exact hlt))));clear hK hrest hG;go_wp2;go_ret;exact⟨-1,rfl,by rw[HS.out];rfl,HG.out⟩
theorem jeC (a:Option Addr) (len cap:Nat) (l:NL) (c:Nat) (t:NT) (w:World) (hr:jk ju w a len l) (ht:Zo w c t) :
 Calls Tryz.prog 244 #[.slice a len cap,.func (.func 245) #[] #[.pointer (some ⟨c,0,none⟩)]] w fun e w'=>e=.returned (.bool (l.any (Jd t)))∧Grw w w':=by
 have HI:=lH (jiY a len cap l c t w hr ht);clear hr ht;go_enter Tryz.func244,Tryz.ntmps244;go_wp2_with fail
 refine HI.out.mono ?_;rintro e w1 ⟨i,rfl,hi,k1⟩;have K1:=lH k1;have HB:=lH hi;clear hi k1;go_wp2;go_ret;exact⟨jd HB.out,K1.out⟩
theorem jku (a:Option Addr) (len cap:Nat) (l:NL) (t1 t2:ByteArray) (t3:Bool) (w:World) (hr:jk ju w a len l) :
 Calls Tryz.prog 212 #[.slice a len cap,NV t1 t2 t3] w fun e w'=>e=.returned (.bool (l.any (Jd (t1,t2,t3))))∧Grw w w':=by
 have hmf:=hmfL (P:=Tryz.prog);have HI:=lH (jeC a len cap l w.heap.size (t1,t2,t3) (w.alloc (.cells #[.string t1,.string t2,.bool t3] 172)) (hr.kept (ja _ _)) (Zo.new w t1 t2 t3 _));clear hr;go_enter Tryz.func212,Tryz.ntmps212;go_wp2_with fail
 refine HI.out.mono ?_;rintro e w1 ⟨rfl,k1⟩;have K1:=lH k1;clear k1;go_wp2;go_ret;exact⟨rfl,(Grw.alloc _ _).trans K1.out⟩
theorem jh0 (a:Option Addr) (len cap:Nat) (l:NL) (c:Nat) (t:NT) (w:World) (hr:jk ju w a len l) (ht:Zo w c t) :
 Calls Tryz.prog 268 #[.slice a len cap,.func (.func 249) #[] #[.pointer (some ⟨c,0,none⟩)]] w fun e w'=>∃i:Int,e=.returned (.int .i64 i)∧decide (0≤i)=l.any (Zp t)∧Grw w w':=by
 have hl:=hr.1;have hm:=hr.2.1;unfold maxLen at hm;rcases hr.form with h0 | ⟨b,off,rfl⟩
 · subst h0;have HE:=lH (show l.any (Zp t)=false by rw[List.eq_nil_of_length_eq_zero hl];rfl);clear hr hl ht;go_enter Tryz.func268,Tryz.ntmps268;go_wp2;refine wp_loop_rounds 1 ?_;rw[rounds_succ];go_wp2;go_ret;exact⟨-1,rfl,HE.out.symm,Grw.refl _⟩
 · obtain⟨HR,HL,HT⟩:=lH3 hr hl ht;clear hr hl ht;go_enter Tryz.func268,Tryz.ntmps268;go_wp2;go_loopw [8] (fun i wr=>∃k:Nat,k≤len∧i=.int .i64 k∧(l.drop k).any (Zp t)=l.any (Zp t)∧Grw w wr) (fun i _=>len-(intOf i).toNat)
   case atStart=>exact⟨0,Nat.zero_le _,rfl,rfl,Grw.refl _⟩
   case round =>
    obtain⟨k,hk,rfl,hrest,hG⟩:=hrel;have hK:=hG.kept;have HG:=lH hG;by_cases hlt:k<len
    · obtain⟨x,y,m,hx,hd,hb,hz,hz2,c1,c2,c3⟩:=(HR.out.kept hK).tri hlt;have HK:=lH hK;have HS:=lH (hrest.symm.trans ((congrArg (fun z=>z.any (Zp t)) hd).trans (List.any_cons)));obtain⟨q,hq⟩:=eX (Zp t (x,y,m))
      rw[hq] at HS;have HQ:=lH hq;have HC:=lH (HT.out.kept hK);clear hK hrest hx hd hG hq
      cases q with
      | true =>
       go_wp2_with (go_at_call 249;refine(jdb c t x y m _ HC.out).mono ?_;rw[HQ.out];rintro e w1 ⟨rfl,k1⟩;have K1:=lH k1;clear k1)
       go_ret;exact⟨(k:Int),rfl,by rw[HS.out];simp,HG.out.trans K1.out⟩
      | false =>
       go_wp2_with (go_at_call 249;refine(jdb c t x y m _ HC.out).mono ?_;rw[HQ.out];rintro e w1 ⟨rfl,k1⟩;have K1:=lH k1;clear k1)
       go_roundw
       case rel=>exact⟨k+1,by omega,by go_num,(HS.out.trans (Bool.false_or _)).symm,HG.out.trans K1.out⟩
       case measure=>simp[intOf];omega
    · have HS:=lH (hrest.symm.trans (congrArg (fun z=>z.any (Zp t)) (zB (by rw[HL.out];exact hlt))));clear hK hrest hG;go_wp2;go_ret;exact⟨-1,rfl,by rw[HS.out];rfl,HG.out⟩
theorem jeD (a:Option Addr) (len cap:Nat) (l:NL) (c:Nat) (t:NT) (w:World) (hr:jk ju w a len l) (ht:Zo w c t) :
 Calls Tryz.prog 248 #[.slice a len cap,.func (.func 249) #[] #[.pointer (some ⟨c,0,none⟩)]] w fun e w'=>e=.returned (.bool (l.any (Zp t)))∧Grw w w':=by
 have HI:=lH (jh0 a len cap l c t w hr ht);clear hr ht;go_enter Tryz.func248,Tryz.ntmps248;go_wp2_with fail
 refine HI.out.mono ?_;rintro e w1 ⟨i,rfl,hi,k1⟩;have K1:=lH k1;have HB:=lH hi;clear hi k1;go_wp2;go_ret;exact⟨jd HB.out,K1.out⟩
theorem bears_any (a:Option Addr) (len cap:Nat) (l:NL) (t1 t2:ByteArray) (t3:Bool) (w:World) (hr:jk ju w a len l) :
 Calls Tryz.prog 225 #[.slice a len cap,NV t1 t2 t3] w fun e w'=>e=.returned (.bool (l.any (Zp (t1,t2,t3))))∧Grw w w':=by
 have hmf:=hmfL (P:=Tryz.prog);have HI:=lH (jeD a len cap l w.heap.size (t1,t2,t3) (w.alloc (.cells #[.string t1,.string t2,.bool t3] 172)) (hr.kept (ja _ _)) (Zo.new w t1 t2 t3 _));clear hr;go_enter Tryz.func225,Tryz.ntmps225;go_wp2_with fail
 refine HI.out.mono ?_;rintro e w1 ⟨rfl,k1⟩;have K1:=lH k1;clear k1;go_wp2;go_ret;exact⟨rfl,(Grw.alloc _ _).trans K1.out⟩
theorem jk2 (x y:ByteArray) (m:Bool) (w:World) (hx:x.size≤maxLen) (hy:y.size≤maxLen) :
 Calls Tryz.prog 215 #[NV x y m] w fun e w'=>e=.returned (.bool (zF (x,y,m)))∧Kept w w':=by
 obtain⟨q0,hq0⟩:=eX ((x.toList==([]:List UInt8)))
 obtain⟨q2,hq2⟩:=eX ((y.toList==([]:List UInt8)))
 obtain⟨n1,hn1⟩:=eX (isName x)
 obtain⟨n2,hn2⟩:=eX (isName y)
 have HV:=lH (show zF (x,y,m)=((q0||n1)&&(if m=true then q2 else n2)) by unfold zF;rw[JY,JY,hq0,hq2,hn1,hn2])
 cases q0<;>cases n1<;>cases m<;>cases q2<;>cases n2 <;>
 (go_enter Tryz.func215,Tryz.ntmps215
  go_wp2_with (go_at_call 174;refine(zg _ _ (by assumption)).mono ?_;rintro e w' ⟨rfl,rfl⟩)
  go_ret;exact⟨jd HV.out.symm,ja _ _⟩)
theorem jeo {x:NT} {t:NL}:(x::t).all zF=(zF x&&t.all zF):=rfl
theorem jiR (a:Option Addr) (len cap:Nat) (l:NL) (w:World) (hr:jk ju w a len l) :
 Calls Tryz.prog 181 #[.slice a len cap] w fun e w'=>e=.returned (.int .i64 (JI l))∧Kept w w':=by
 have hl:=hr.1;have hm:=hr.2.1;unfold maxLen at hm;by_cases h8:len≤8
 · have HV:=lH (show JI l=if l.all zF=true then 0 else 3 by unfold JI;rw[if_neg (by omega)]);rcases hr.form with h0 | ⟨b,off,rfl⟩
   · subst h0;have HE:=lH (show JI l=0 by rw[HV.out];rw[List.eq_nil_of_length_eq_zero hl];rfl);clear hr hl;go_enter Tryz.func181,Tryz.ntmps181;go_wp2;refine wp_loop_rounds 1 ?_;rw[rounds_succ];go_wp2;go_ret;exact⟨jb HE.out.symm,Kept.refl _⟩
   · have HR:=lH hr;have HL:=lH hl;clear hr hl;go_enter Tryz.func181,Tryz.ntmps181;go_wp2;go_loopw [10] (fun i wr=>∃k:Nat,k≤len∧i=.int .i64 k∧(l.drop k).all zF=l.all zF∧Kept w wr) (fun i _=>len-(intOf i).toNat)
     case atStart=>exact⟨0,Nat.zero_le _,rfl,rfl,Kept.refl _⟩
     case round =>
      obtain⟨k,hk,rfl,hrest,hK⟩:=hrel;by_cases hlt:k<len
      · obtain⟨x,y,m,hx,hd,hb,hz,hz2,c1,c2,c3⟩:=(HR.out.kept hK).tri hlt;have HK:=lH hK;obtain⟨q,hq⟩:=eX (zF (x,y,m))
        have HS:=lH (hrest.symm.trans ((congrArg (fun z=>z.all zF) hd).trans (jeo.trans (by rw[hq]))));have HC:=lH (fun W=>jk2 x y m W hz hz2);rw[hq] at HC;clear hK hrest hx hd hq
        cases q with
        | true =>
         go_wp2_with (go_at_call 215;refine(HC.out _).mono ?_;rintro e w1 ⟨rfl,k1⟩;have K1:=lH k1;clear k1)
         go_roundw
         case rel=>exact⟨k+1,by omega,by go_num,(HS.out.trans (Bool.true_and _)).symm,HK.out.trans ((ja _ _).trans K1.out)⟩
         case measure=>simp[intOf];omega
        | false =>
         have HF:=lH (show JI l=3 by rw[HV.out,HS.out];rfl);go_wp2_with (go_at_call 215;refine(HC.out _).mono ?_;rintro e w1 ⟨rfl,k1⟩;have K1:=lH k1;clear k1)
         go_ret;exact⟨jb HF.out.symm,HK.out.trans ((ja _ _).trans K1.out)⟩
      · have HK:=lH hK;have HS:=lH (hrest.symm.trans (congrArg (fun z=>z.all zF) (zB (by rw[HL.out];exact hlt))));have HF:=lH (show JI l=0 by rw[HV.out,HS.out];rfl);clear hK hrest;go_wp2;go_ret;exact⟨jb HF.out.symm,HK.out⟩
 · have HV:=lH (show JI l=4 by unfold JI;rw[if_pos (by omega)]);have h9:8<len:=by omega
   clear h8 hr hl;go_enter Tryz.func181,Tryz.ntmps181;go_wp2;go_ret;exact⟨jb HV.out.symm,Kept.refl _⟩
theorem jk.front {α:Type} {L:Lay α} {w:World} {a:Option Addr} {len:Nat} {l:List α} (h:jk L w a len l) {k:Nat} (hk:k≤len):jk L w a k (l.take k):=by
 obtain⟨h0,h1,h2,h3⟩:=h;refine⟨by rw[List.length_take];omega,by omega,fun x hx=>h2 x (List.mem_of_mem_take hx),?_⟩;rcases h3 with h3 | ⟨b,off,e,hb,hc⟩
 · exact .inl (by omega)
 · refine .inr ⟨b,off,e,hb,fun i x j u hi hj=>?_⟩;rw[List.getElem?_take] at hi;split at hi
   · exact hc i x j u hi hj
   · cases hi
theorem jik (a:Option Addr) (len cap:Nat) (l:NL) (w:World) (hr:jk ju w a len l) (hc:len≤cap) :
 Calls Tryz.prog 177 #[.slice a len cap] w fun e w'=>e=.returned (.int .i64 (ZJ l))∧Kept w w':=by
 have hl:=hr.1;have hm:=hr.2.1;unfold maxLen at hm;by_cases h8:len≤8
 · have HV:=lH (show ZJ l=JM [] l by unfold ZJ;rw[if_neg (by omega)]);rcases hr.form with h0 | ⟨b,off,rfl⟩
   · subst h0;have HE:=lH (show ZJ l=0 by rw[HV.out];rw[List.eq_nil_of_length_eq_zero hl];rfl);clear hr hl;go_enter Tryz.func177,Tryz.ntmps177;go_wp2;refine wp_loop_rounds 1 ?_;rw[rounds_succ];go_wp2;go_ret;exact⟨jb HE.out.symm,Kept.refl _⟩
   · have HR:=lH hr;have HL:=lH hl;clear hr hl;go_enter Tryz.func177,Tryz.ntmps177;go_wp2;go_loopw [10] (fun i wr=>∃k:Nat,k≤len∧i=.int .i64 k∧JM (l.take k) (l.drop k)=JM [] l∧Kept w wr) (fun i _=>len-(intOf i).toNat)
     case atStart=>exact⟨0,Nat.zero_le _,rfl,rfl,Kept.refl _⟩
     case round =>
      obtain⟨k,hk,rfl,hrest,hK⟩:=hrel;by_cases hlt:k<len
      · obtain⟨x,y,m,hx,hd,hb,hz,hz2,c1,c2,c3⟩:=(HR.out.kept hK).tri hlt;obtain⟨HX,HK,HT⟩:=lH3 hx hK (hrest.symm.trans (congrArg (JM (l.take k)) hd));have HS:=lH (HV.out.trans HT.out);have V9:=lH ((HR.out.kept hK).front hk);clear hK hrest hx hd;by_cases n1:isName x=true
        · by_cases n2:isName y=true
          · have N1:=lH n1;have N2:=lH n2;obtain⟨q,hq⟩:=eX ((l.take k).any (Jd (x,y,m)))
            have HQ:=lH hq;have tn:=Zo.new wr x y m 172;have l1:∀(n:Nat) (os:Array Obj),(grow ((wr.alloc (.cells #[.string x,.string y,.bool m] 172)).drewN n) os).cell? ⟨wr.heap.size,0,none⟩=some (.string x):=fun n os=>cell_later (ZX _ n os) tn.1;have l2:∀(n:Nat) (os:Array Obj),(grow ((wr.alloc (.cells #[.string x,.string y,.bool m] 172)).drewN n) os).cell? ⟨wr.heap.size,1,none⟩=some (.string y):=fun n os=>cell_later (ZX _ n os) tn.2.1;have l3:∀(n:Nat) (os:Array Obj),(grow ((wr.alloc (.cells #[.string x,.string y,.bool m] 172)).drewN n) os).cell? ⟨wr.heap.size,2,none⟩=some (.bool m):=fun n os=>cell_later (ZX _ n os) tn.2.2;have cz:∀(n:Nat) (os:Array Obj),Calls Tryz.prog 212 #[.slice (some ⟨b,off,none⟩) k cap,NV x y m] (grow ((wr.alloc (.cells #[.string x,.string y,.bool m] 172)).drewN n) os) fun e w''=>e=.returned (.bool q)∧∃q' os',w''=grow ((grow ((wr.alloc (.cells #[.string x,.string y,.bool m] 172)).drewN n) os).drewN q') os':=fun n os=>by
             rw[←hq];exact jku (some ⟨b,off,none⟩) k cap (l.take k) x y m _ ((V9.out.kept (ja _ _)).kept (ZX _ n os))
            have r1:(k:Int)≤(cap:Int):=by omega
            have r2:k≤cap:=by omega
            have mixed:Tryz.prog.follows Departure.mixedOrders=true:=by kernel_rfl
            clear tn hq
            cases q with
            | true =>
             go_wp2_with (go_at_call 174;refine(zg _ _ (by assumption)).mono ?_;rintro e w' ⟨rfl,rfl⟩)
             go_quiet_grown (first | (go_at_call 212;refine Calls.grown_of (cz _ _)))
             go_wp2;go_ret;exact⟨jb (HS.out.trans (jct N1.out N2.out HQ.out)).symm,HK.out.trans ((ja _ _).trans (ZX _ _ _))⟩
            | false =>
             go_wp2_with (go_at_call 174;refine(zg _ _ (by assumption)).mono ?_;rintro e w' ⟨rfl,rfl⟩)
             go_quiet_grown (first | (go_at_call 212;refine Calls.grown_of (cz _ _)))
             go_wp2;go_roundw
             case rel=>exact⟨k+1,by omega,by go_num,by rw[zI HX.out];exact(jeg N1.out N2.out HQ.out).symm.trans HT.out.symm,HK.out.trans ((ja _ _).trans (ZX _ _ _))⟩
             case measure=>simp[intOf];omega
          · have n2:isName y=false:=by simpa using n2
            have N:=lH (show (isName x&&isName y)=false by rw[n2,Bool.and_false]);go_wp2_with (go_at_call 174;refine(zg _ _ (by assumption)).mono ?_;rintro e w' ⟨rfl,rfl⟩)
            go_ret;exact⟨jb (HS.out.trans (X4 N.out)).symm,HK.out.trans (ja _ _)⟩
        · have n1:isName x=false:=by simpa using n1
          have N:=lH (show (isName x&&isName y)=false by rw[n1,Bool.false_and]);go_wp2_with (go_at_call 174;refine(zg x _ hz).mono ?_;rintro e w' ⟨rfl,rfl⟩)
          go_ret;exact⟨jb (HS.out.trans (X4 N.out)).symm,HK.out.trans (ja _ _)⟩
      · have HK:=lH hK;have HS:=lH ((HV.out.trans hrest.symm).trans (congrArg (JM (l.take k)) (zB (by rw[HL.out];exact hlt))));clear hK hrest;go_wp2;go_ret;exact⟨jb (HS.out.trans rfl).symm,HK.out⟩
 · have HV:=lH (show ZJ l=4 by unfold ZJ;rw[if_pos (by omega)]);have h9:8<len:=by omega
   clear h8 hr hl;go_enter Tryz.func177,Tryz.ntmps177;go_wp2;go_ret;exact⟨jb HV.out.symm,Kept.refl _⟩
open Go.RowKit Go.Shelf
attribute [local go_sem] Oper.semAt_some
end Go.Proofs.YtibepooajeakfaaGreat
namespace Go.Proofs.YtibepooajeakfaaGreat
open Go.RowKit Go.Shelf
attribute [local go_sem] Oper.semAt_some
end Go.Proofs.YtibepooajeakfaaGreat
