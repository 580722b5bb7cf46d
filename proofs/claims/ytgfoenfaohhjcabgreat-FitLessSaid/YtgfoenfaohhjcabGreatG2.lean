/- What serves all packages,and package by package the contracts of the functions that the law calls. -/
import Derived.Test.YtgfoenfaohhjcabGreatG0
import Derived.Test.YtgfoenfaohhjcabGreatG1
import Derived.Handy
import Derived.Deep.CutRange
import Derived.Deep.AppendSrc
import Derived.Deep.DeepAppendWide
set_option linter.unusedVariables false
set_option maxRecDepth 100000
set_option maxHeartbeats 25600000
namespace Go.Proofs.YtgfoenfaohhjcabGreat
open Go.RowKit Go.Sort
theorem jaD (a:Option Addr) (len cap:Nat) (l:NL) (w:World) (hr:jk ju w a len l) :
 Calls Tryz.prog 33 #[.slice a len cap] w fun e w'=>e=.returned (.int .i64 (Zd l))∧Kept w w':=by
 have hl:=hr.1;have hm:=hr.2.1;unfold maxLen at hm;by_cases h8:len≤8
 · have HV:=lH (show Zd l=if l.all zY=true then 0 else 3 by unfold Zd;rw[if_neg (by omega)]);rcases hr.form with h0 | ⟨b,off,rfl⟩
   · subst h0;have HE:=lH (show Zd l=0 by rw[HV.out];rw[List.eq_nil_of_length_eq_zero hl];rfl);clear hr hl;go_enter Tryz.func33,Tryz.ntmps33;go_wp2;refine wp_loop_rounds 1 ?_;rw[rounds_succ];go_wp2;go_ret;exact⟨jb HE.out.symm,Kept.refl _⟩
   · have HR:=lH hr;have HL:=lH hl;clear hr hl;go_enter Tryz.func33,Tryz.ntmps33;go_wp2;go_loopw [3] (fun i wr=>∃k:Nat,k≤len∧i=.int .i64 k∧(l.drop k).all zY=l.all zY∧Kept w wr) (fun i _=>len-(intOf i).toNat)
     case atStart=>exact⟨0,Nat.zero_le _,rfl,rfl,Kept.refl _⟩
     case round =>
      obtain⟨k,hk,rfl,hrest,hK⟩:=hrel;by_cases hlt:k<len
      · obtain⟨x,y,m,hx,hd,hb,hz,hz2,c1,c2,c3⟩:=(HR.out.kept hK).tri hlt;have HK:=lH hK;have HS:=lH (hrest.symm.trans ((congrArg (fun z=>z.all zY) hd).trans jdZ));obtain⟨q0,hq0⟩:∃q,(x.toList==([]:List UInt8))=q:=⟨_,rfl⟩
        obtain⟨q2,hq2⟩:∃q,(y.toList==([]:List UInt8))=q:=⟨_,rfl⟩
        obtain⟨n1,hn1⟩:∃q,isName x=q:=⟨_,rfl⟩
        obtain⟨n2,hn2⟩:∃q,isName y=q:=⟨_,rfl⟩
        have HN:=lH (show zY (x,y,m)=((q0||n1)&&(if m=true then q2 else n2)) by unfold zY;rw[J6,J6,hq0,hq2,hn1,hn2]);clear hK hrest hx hd
        cases q0 with
        | true =>
         cases m with
         | true =>
          cases q2 with
          | true =>
           have HQ:=lH (show zY (x,y,true)=true by rw[HN.out];rfl);go_wp2_with (go_at_call 29;refine(jj _ _ (by assumption)).mono ?_;rintro e w' ⟨rfl,rfl⟩)
           go_roundw
           case rel=>exact⟨k+1,by omega,by go_num,(HS.out.trans (by rw[HQ.out];exact Bool.true_and _)).symm,HK.out.trans (ja _ _)⟩
           case measure=>simp[intOf];omega
          | false =>
           have HQ:=lH (show Zd l=3 by rw[HV.out,HS.out,HN.out];rfl);go_wp2_with (go_at_call 29;refine(jj _ _ (by assumption)).mono ?_;rintro e w' ⟨rfl,rfl⟩)
           go_ret;exact⟨jb HQ.out.symm,HK.out.trans (ja _ _)⟩
         | false =>
          cases n2 with
          | true =>
           have HQ:=lH (show zY (x,y,false)=true by rw[HN.out];rfl);go_wp2_with (go_at_call 29;refine(jj _ _ (by assumption)).mono ?_;rintro e w' ⟨rfl,rfl⟩)
           go_roundw
           case rel=>exact⟨k+1,by omega,by go_num,(HS.out.trans (by rw[HQ.out];exact Bool.true_and _)).symm,HK.out.trans (ja _ _)⟩
           case measure=>simp[intOf];omega
          | false =>
           have HQ:=lH (show Zd l=3 by rw[HV.out,HS.out,HN.out];rfl);go_wp2_with (go_at_call 29;refine(jj _ _ (by assumption)).mono ?_;rintro e w' ⟨rfl,rfl⟩)
           go_ret;exact⟨jb HQ.out.symm,HK.out.trans (ja _ _)⟩
        | false =>
         cases n1 with
         | true =>
          cases m with
          | true =>
           cases q2 with
           | true =>
            have HQ:=lH (show zY (x,y,true)=true by rw[HN.out];rfl);go_wp2_with (go_at_call 29;refine(jj _ _ (by assumption)).mono ?_;rintro e w' ⟨rfl,rfl⟩)
            go_roundw
            case rel=>exact⟨k+1,by omega,by go_num,(HS.out.trans (by rw[HQ.out];exact Bool.true_and _)).symm,HK.out.trans (ja _ _)⟩
            case measure=>simp[intOf];omega
           | false =>
            have HQ:=lH (show Zd l=3 by rw[HV.out,HS.out,HN.out];rfl);go_wp2_with (go_at_call 29;refine(jj _ _ (by assumption)).mono ?_;rintro e w' ⟨rfl,rfl⟩)
            go_ret;exact⟨jb HQ.out.symm,HK.out.trans (ja _ _)⟩
          | false =>
           cases n2 with
           | true =>
            have HQ:=lH (show zY (x,y,false)=true by rw[HN.out];rfl);go_wp2_with (go_at_call 29;refine(jj _ _ (by assumption)).mono ?_;rintro e w' ⟨rfl,rfl⟩)
            go_roundw
            case rel=>exact⟨k+1,by omega,by go_num,(HS.out.trans (by rw[HQ.out];exact Bool.true_and _)).symm,HK.out.trans (ja _ _)⟩
            case measure=>simp[intOf];omega
           | false =>
            have HQ:=lH (show Zd l=3 by rw[HV.out,HS.out,HN.out];rfl);go_wp2_with (go_at_call 29;refine(jj _ _ (by assumption)).mono ?_;rintro e w' ⟨rfl,rfl⟩)
            go_ret;exact⟨jb HQ.out.symm,HK.out.trans (ja _ _)⟩
         | false =>
          have HQ:=lH (show Zd l=3 by rw[HV.out,HS.out,HN.out];rfl);go_wp2_with (go_at_call 29;refine(jj _ _ (by assumption)).mono ?_;rintro e w' ⟨rfl,rfl⟩)
          go_ret;exact⟨jb HQ.out.symm,HK.out.trans (ja _ _)⟩
      · have HK:=lH hK;have HS:=lH (hrest.symm.trans (congrArg (fun z=>z.all zY) (zQ (by rw[HL.out];exact hlt))));have HF:=lH (show Zd l=0 by rw[HV.out,HS.out];rfl);clear hK hrest;go_wp2;go_ret;exact⟨jb HF.out.symm,HK.out⟩
 · have HV:=lH (show Zd l=4 by unfold Zd;rw[if_pos (by omega)]);have h9:8<len:=by omega
   clear h8 hr hl;go_enter Tryz.func33,Tryz.ntmps33;go_wp2;go_ret;exact⟨jb HV.out.symm,Kept.refl _⟩
theorem jcZ {l:NL} {k j:Nat} {t z:NT} (hj:j<k) (hz:l[j]?=some z) (h:Zo t z=true):(l.take k).any (Zo t)=true:=by
 rw[List.any_eq_true];refine⟨z,List.mem_of_getElem? (i:=j) ?_,h⟩;rw[List.getElem?_take,if_pos hj];exact hz
theorem jas {l:NL} {j:Nat} {t z:NT} (hz:l[j]?=some z) (h:(l.take j).any (Zo t)=false) (g:Zo t z=false):(l.take (j+1)).any (Zo t)=false:=by
 rw[zw hz,List.any_append,h];simp[g]
theorem jaF (a:Option Addr) (len cap:Nat) (l:NL) (w:World) (hr:jk ju w a len l) :
 Calls Tryz.prog 131 #[.slice a len cap] w fun e w'=>e=.returned (.int .i64 (YK l))∧Kept w w':=by
 have hl:=hr.1;have hm:=hr.2.1;unfold maxLen at hm;by_cases h8:len≤8
 · have HV:=lH (show YK l=JD [] l by unfold YK;rw[if_neg (by omega)]);rcases hr.form with h0 | ⟨b,off,rfl⟩
   · subst h0;have HE:=lH (show YK l=0 by rw[HV.out];rw[List.eq_nil_of_length_eq_zero hl];rfl);clear hr hl;go_enter Tryz.func131,Tryz.ntmps131;go_wp2;refine wp_loop_rounds 1 ?_;rw[rounds_succ];go_wp2;go_ret;exact⟨jb HE.out.symm,Kept.refl _⟩
   · have HR:=lH hr;have HL:=lH hl;clear hr hl;go_enter Tryz.func131,Tryz.ntmps131;go_wp2;go_loopw [3] (fun i wr=>∃k:Nat,k≤len∧i=.int .i64 k∧JD (l.take k) (l.drop k)=JD [] l∧Kept w wr) (fun i _=>len-(intOf i).toNat)
     case atStart=>exact⟨0,Nat.zero_le _,rfl,rfl,Kept.refl _⟩
     case round =>
      obtain⟨k,hk,rfl,hrest,hK⟩:=hrel;by_cases hlt:k<len
      · obtain⟨x,y,m,hx,hd,hb,hz,hz2,c1,c2,c3⟩:=(HR.out.kept hK).tri hlt;have HX:=lH hx;have HK:=lH hK;have HT:=lH (hrest.symm.trans (congrArg (JD (l.take k)) hd));have HS:=lH (HV.out.trans HT.out);clear hK hrest hx hd;by_cases n1:isName x=true
        · by_cases n2:isName y=true
          · have N1:=lH n1;have N2:=lH n2;go_wp2_with (go_at_call 29;refine(jj _ _ (by assumption)).mono ?_;rintro e w' ⟨rfl,rfl⟩)
            go_loopw [4] (fun i wr2=>∃j:Nat,j≤k∧i=.int .i64 j∧(l.take j).any (Zo (x,y,m))=false∧Kept w wr2) (fun i _=>k-(intOf i).toNat)
            case atStart=>exact⟨0,Nat.zero_le _,rfl,rfl,HK.out⟩
            case round =>
             obtain⟨j,hj,rfl,hnone,hK2⟩:=hrel;have HK2:=lH hK2;have HNO:=lH hnone;by_cases hjk:j<k
             · obtain⟨x',y',m',hx',_,hb',_,_,d1,d2,d3⟩:=(HR.out.kept hK2).tri (show j<len by omega);obtain⟨x9,y9,m9,hx9,_,_,_,_,e1,e2,e3⟩:=(HR.out.kept hK2).tri hlt;obtain⟨rfl,rfl,rfl⟩:x=x9∧y=y9∧m=m9:=by rw[HX.out] at hx9;simpa using hx9
               have HX':=lH hx';obtain⟨q1,hq1⟩:∃q,(x'.toList==x.toList)=q:=⟨_,rfl⟩
               obtain⟨q2,hq2⟩:∃q,(y'.toList==y.toList)=q:=⟨_,rfl⟩
               have HTW:=lH (show Zo (x,y,m) (x',y',m')=(q1&&q2) by unfold Zo eqS;rw[hq1,hq2]);have hjl:(j:Int)<(len:Int):=by omega
               clear hx9 hx' hnone hK2
               cases q1 with
               | true =>
                cases q2 with
                | true =>
                 go_wp2_with fail
                 go_quiet (fail)
                 go_wp2;go_ret;exact⟨jb (HS.out.trans (jc3 N1.out N2.out (jcZ hjk HX'.out HTW.out))).symm,HK2.out.trans (Kept.drewN _ _)⟩
                | false =>
                 go_wp2_with fail
                 go_quiet (fail)
                 go_wp2;go_roundw
                 case rel=>exact⟨j+1,by omega,by go_num,jas HX'.out HNO.out HTW.out,HK2.out.trans (Kept.drewN _ _)⟩
                 case measure=>simp[intOf];omega
               | false =>
                go_wp2_with fail
                go_quiet (fail)
                go_wp2;go_roundw
                case rel=>exact⟨j+1,by omega,by go_num,jas HX'.out HNO.out HTW.out,HK2.out.trans (Kept.drewN _ _)⟩
                case measure=>simp[intOf];omega
             · obtain rfl:j=k:=by omega
               clear hnone hK2;go_wp2;go_roundw
               case rel=>exact⟨j+1,by omega,by go_num,by rw[zw HX.out];exact(jeA N1.out N2.out HNO.out).symm.trans HT.out.symm,HK2.out⟩
               case measure=>simp[intOf];omega
          · have n2:isName y=false:=by simpa using n2
            have N:=lH (show (isName x&&isName y)=false by rw[n2,Bool.and_false]);go_wp2_with (go_at_call 29;refine(jj _ _ (by assumption)).mono ?_;rintro e w' ⟨rfl,rfl⟩)
            go_ret;exact⟨jb (HS.out.trans (jaj N.out)).symm,HK.out⟩
        · have n1:isName x=false:=by simpa using n1
          have N:=lH (show (isName x&&isName y)=false by rw[n1,Bool.false_and]);go_wp2_with (go_at_call 29;refine(jj _ _ (by assumption)).mono ?_;rintro e w' ⟨rfl,rfl⟩)
          go_ret;exact⟨jb (HS.out.trans (jaj N.out)).symm,HK.out⟩
      · have HK:=lH hK;have HS:=lH ((HV.out.trans hrest.symm).trans (congrArg (JD (l.take k)) (zQ (by rw[HL.out];exact hlt))));clear hK hrest;go_wp2;go_ret;exact⟨jb (HS.out.trans rfl).symm,HK.out⟩
 · have HV:=lH (show YK l=4 by unfold YK;rw[if_pos (by omega)]);have h9:8<len:=by omega
   clear h8 hr hl;go_enter Tryz.func131,Tryz.ntmps131;go_wp2;go_ret;exact⟨jb HV.out.symm,Kept.refl _⟩
theorem jcV {v:Value} {l:NL} {c:Int} {w:World} (h:Reads ju w v l) (hc:YK l=c):Calls Tryz.prog 131 #[v] w (Say (.int .i64 c) w):=by
 obtain⟨a,cap,rfl,_,_,hr⟩:=h;exact(jaF a _ cap l w hr).mono fun e w' ⟨he,k⟩=>⟨by rw[he,hc],k⟩
theorem jc7 {v:Value} {l:NL} {c:Int} {w:World} (h:Reads ju w v l) (hc:Zd l=c):Calls Tryz.prog 33 #[v] w (Say (.int .i64 c) w):=by
 obtain⟨a,cap,rfl,_,_,hr⟩:=h;exact(jaD a _ cap l w hr).mono fun e w' ⟨he,k⟩=>⟨by rw[he,hc],k⟩
end Go.Proofs.YtgfoenfaohhjcabGreat
namespace Go.Proofs.YtgfoenfaohhjcabGreat.Vec
open Go.RowKit Go.Proofs.YtgfoenfaohhjcabGreat
def Yo (w:World) (v:Value) (vs:List (Nat×Nat)) (ps:List (List UInt8)):Prop :=
 ∀(i:Nat) (x:Nat×Nat) (p:List UInt8),vs[i]?=some x→ps[i]?=some p→x.1<w.heap.size∧v.ownBlock≠some x.1 ∧
  w.cell? ⟨x.1,0,none⟩=some (.string (bytes (nameOf p)))∧w.cell? ⟨x.1,1,none⟩=some (.string (bytes (jen p)))
theorem Yo.nil (w:World) (v:Value) (ps:List (List UInt8)):Yo w v [] ps:=fun i x p h=>by simp at h
theorem Yo.kept {w w':World} {v:Value} {vs:List (Nat×Nat)} {ps:List (List UInt8)} (h:Yo w v vs ps) (k:Kept w w'):Yo w' v vs ps:=fun i x p hx hp=>by
 obtain⟨h1,h2,h3,h4⟩:=h i x p hx hp;exact⟨Nat.lt_of_lt_of_le h1 k.size,h2,cell_later k h3,cell_later k h4⟩
theorem Yo.snoc {w w':World} {v:Value} {vs:List (Nat×Nat)} {ps:List (List UInt8)} {g n cap b c:Nat} {p:List UInt8} (h:Yo w v vs ps) (hg:w.grownBy w' v.ownBlock) (hgo:v.ownBlock=some g∨g=w.heap.size)
 (hp:ps[vs.length]?=some p) (hb:b<w.heap.size) (hne:v.ownBlock≠some b)
 (c0:w.cell? ⟨b,0,none⟩=some (.string (bytes (nameOf p)))) (c1:w.cell? ⟨b,1,none⟩=some (.string (bytes (jen p)))) :
 Yo w' (.slice (some ⟨g,0,none⟩) n cap) (vs++[(b,c)]) ps:=by
 have far:∀d,d<w.heap.size→v.ownBlock≠some d→d<w'.heap.size∧(Value.slice (some ⟨g,0,none⟩) n cap).ownBlock≠some d∧∀j,w'.cell? ⟨d,j,none⟩=w.cell? ⟨d,j,none⟩:=fun d hd hn=>by
  refine⟨Nat.lt_of_lt_of_le hd hg.size,?_,fun j=>hg.cell_far ⟨d,j,none⟩ hd (fun e=>hn e.symm)⟩;show some g≠some d;intro e;have e':g=d:=Option.some.inj e;rcases hgo with h1 | h1
  · exact hn (by rw[h1,e'])
  · omega
 intro i x q hx hq;by_cases hi:i<vs.length
 · rw[List.getElem?_append_left hi] at hx;obtain⟨h1,h2,h3,h4⟩:=h i x q hx hq;obtain⟨f1,f2,f3⟩:=far x.1 h1 h2;exact⟨f1,f2,(f3 0).trans h3,(f3 1).trans h4⟩
 · have hi2:i=vs.length:=by
    have:=(List.getElem?_eq_some_iff.1 hx).1;simp at this;omega
   subst hi2;have hxx:(b,c)=x:=by simpa using hx
   have hqq:q=p:=Option.some.inj (hq.symm.trans hp);subst hxx;subst hqq;obtain⟨f1,f2,f3⟩:=far b hb hne;exact⟨f1,f2,(f3 0).trans c0,(f3 1).trans c1⟩
open Go.RowKit
theorem jew (a b:Int) (w:World) (ha:0≤a) (hb:0≤b) (hb':b≤9223372036854775807) (h:9223372036854775807<a+b):Calls Tryz.prog 134 #[.int .i64 a,.int .i64 b] w (ZM 0 5 w):=by
 go_enter Tryz.func134,Tryz.ntmps134;go_wp2;go_ret2
 exact⟨rfl,rfl⟩
theorem jfV (a b:Int) (w:World) (ha:0≤a) (hb:0≤b) (h:a+b≤9223372036854775807):Calls Tryz.prog 134 #[.int .i64 a,.int .i64 b] w (ZM (a+b) 0 w):=by
 go_enter Tryz.func134,Tryz.ntmps134;go_wp2;go_ret2
 exact⟨rfl,rfl⟩
def Told (c:Int) (m:V) (w:World) (e:Ending) (w':World):Prop:=∃x,e=.returned (.tuple #[x,.int .i64 c])∧jJ 124 w' w.heap.size x m∧Kept w w'
theorem Told.none {c:Int} {w w':World} (k:Kept w w'):Told c [] w (.returned (.tuple #[.slice none 0 0,.int .i64 c])) w':=⟨_,rfl,jJ.nil _ _ _,k⟩
theorem ZE (a:Option Addr) (len cap:Nat) (l:V) (n:ByteArray) (w:World) (hr:jo w a len l) :
 Calls Tryz.prog 99 #[.slice a len cap,.string n] w fun e w'=>e=.returned (.int .i64 (jh l n))∧Kept w w':=by
 have hl:=hr.1;have hm:=hr.2.1;unfold maxLen at hm;rcases hr.form with h0 | ⟨b,off,rfl⟩
 · subst h0;have HE:=lH (show jh l n=0 by rw[List.eq_nil_of_length_eq_zero hl];rfl);clear hr hl;go_enter Tryz.func99,Tryz.ntmps99;go_wp2;refine wp_loop_rounds 1 ?_;rw[rounds_succ];go_wp2;go_ret;exact⟨jb HE.out.symm,Kept.refl _⟩
 · have HR:=lH hr;have HL:=lH hl;clear hr hl;go_enter Tryz.func99,Tryz.ntmps99;go_wp2;go_loopw [5] (fun i wr=>∃k:Nat,k≤len∧i=.int .i64 k∧jh (l.drop k) n=jh l n∧Kept w wr) (fun i _=>len-(intOf i).toNat)
   case atStart=>exact⟨0,Nat.zero_le _,rfl,rfl,Kept.refl _⟩
   case round =>
    obtain⟨k,hk,rfl,hrest,hK⟩:=hrel;have HK:=lH hK;have HS:=lH hrest;by_cases hlt:k<len
    · obtain⟨hb,c1,c2⟩:=(HR.out.kept hK).cells hlt;clear hK hrest;have HI:=lH (show k<l.length by rw[HL.out];exact hlt);by_cases e:eqS (nm l k) n=true
      · have E:=lH e;have e':((nm l k).toList==n.toList)=true:=e;clear e;go_wp2;go_ret;exact⟨jb (HS.out.symm.trans (jbt HI.out E.out)).symm,HK.out⟩
      · have e:eqS (nm l k) n=false:=by simpa using e
        have E:=lH e;have e':((nm l k).toList==n.toList)=false:=e;clear e;go_wp2;go_roundw
        case rel=>exact⟨k+1,by omega,by go_num,(ja2 HI.out E.out).symm.trans HS.out,HK.out⟩
        case measure=>simp[intOf];omega
    · have HI:=lH (show ¬k<l.length by rw[HL.out];exact hlt);clear hK hrest;go_wp2;go_ret;exact⟨jb (HS.out.symm.trans (jcq HI.out)).symm,HK.out⟩
theorem jdJ (a a':Option Addr) (len cap len' cap':Nat) (l l':V) (w:World) (hr:jo w a len l) (hr':jo w a' len' l') :
 Calls Tryz.prog 61 #[.slice a len cap,.slice a' len' cap'] w fun e w'=>e=.returned (.bool (jt l' l))∧Kept w w':=by
 have hl:=hr.1;have hm:=hr.2.1;unfold maxLen at hm;rcases hr.form with h0 | ⟨b,off,rfl⟩
 · subst h0;have HE:=lH (show jt l' l=true by rw[List.eq_nil_of_length_eq_zero hl];rfl);clear hr hl hr';go_enter Tryz.func61,Tryz.ntmps61;go_wp2;refine wp_loop_rounds 1 ?_;rw[rounds_succ];go_wp2;go_ret;exact⟨jd HE.out.symm,Kept.refl _⟩
 · have HR:=lH hr;have HL:=lH hl;have HR':=lH hr';clear hr hl hr';go_enter Tryz.func61,Tryz.ntmps61;go_wp2;go_loopw [5] (fun i wr=>∃k:Nat,k≤len∧i=.int .i64 k∧jt l' (l.drop k)=jt l' l∧Kept w wr) (fun i _=>len-(intOf i).toNat)
   case atStart=>exact⟨0,Nat.zero_le _,rfl,rfl,Kept.refl _⟩
   case round =>
    obtain⟨k,hk,rfl,hrest,hK⟩:=hrel;have HS:=lH hrest;have HK:=lH hK;by_cases hlt:k<len
    · obtain⟨hb,c1,c2⟩:=(HR.out.kept hK).cells hlt;clear hrest hK;have HI:=lH (show k<l.length by rw[HL.out];exact hlt);by_cases e:qn l k≤jh l' (nm l k)
      · have E:=lH (show jt l' (l.drop k)=jt l' (l.drop (k+1)) by rw[drop_cons HI.out,jt,decide_eq_true e];rfl);go_wp2;have f1:wr.drew.cell? ⟨b,off+k*2,none⟩=some (.string (nm l k)):=c1;have f2:wr.drew.cell? ⟨b,off+k*2+1,none⟩=some (.int .i64 (qn l k)):=c2;have f3:Kept w wr.drew:=HK.out.trans (Kept.drewN _ 1);go_region_held3 (fun W=>W.cell? ⟨b,off+k*2,none⟩=some (.string (nm l k))∧W.cell? ⟨b,off+k*2+1,none⟩=some (.int .i64 (qn l k))∧Kept w W) (first | exact⟨f1,f2,f3⟩ | assumption | exact Yp (by assumption) (by assumption))
         (first | (go_at_call 99;refine(ZE _ _ _ l' _ _ (HR'.out.kept (Jp (by assumption)))).mono ?_;rintro e W2 ⟨rfl,hk2⟩))
        all_goals
         go_wp2;go_roundw
         case rel=>exact⟨k+1,by omega,by go_num,E.out.symm.trans HS.out,Jp (by assumption)⟩
         case measure=>simp[intOf];omega
      · have E:=lH (show jt l' (l.drop k)=false by rw[drop_cons HI.out,jt,decide_eq_false e];rfl);have e':jh l' (nm l k)<qn l k:=by omega
        clear e;go_wp2;have f1:wr.drew.cell? ⟨b,off+k*2,none⟩=some (.string (nm l k)):=c1;have f2:wr.drew.cell? ⟨b,off+k*2+1,none⟩=some (.int .i64 (qn l k)):=c2;have f3:Kept w wr.drew:=HK.out.trans (Kept.drewN _ 1);go_region_held3 (fun W=>W.cell? ⟨b,off+k*2,none⟩=some (.string (nm l k))∧W.cell? ⟨b,off+k*2+1,none⟩=some (.int .i64 (qn l k))∧Kept w W) (first | exact⟨f1,f2,f3⟩ | assumption | exact Yp (by assumption) (by assumption))
         (first | (go_at_call 99;refine(ZE _ _ _ l' _ _ (HR'.out.kept (Jp (by assumption)))).mono ?_;rintro e W2 ⟨rfl,hk2⟩))
        all_goals
         go_wp2;go_ret;exact⟨jd (HS.out.symm.trans E.out).symm,Jp (by assumption)⟩
    · have E:=lH (show jt l' (l.drop k)=true by rw[List.drop_of_length_le (by rw[HL.out];omega),jt]);clear hrest hK;go_wp2;go_ret;exact⟨jd (HS.out.symm.trans E.out).symm,HK.out⟩
theorem jJ.reads {e:TypeId} {w:World} {B:Nat} {v:Value} {l:V} (h:jJ e w B v l):Reads w v l:=h.at_
theorem ZA {n:ByteArray} {c:Bool} {w:World} (h:n.size≤maxLen) (e:isName n=c) :
 Calls Tryz.prog 29 #[.string n] w fun x w'=>x=.returned (.bool c)∧w=w':=by
 subst e;exact jj n w h
end Go.Proofs.YtgfoenfaohhjcabGreat.Vec
namespace Go.Proofs.YtgfoenfaohhjcabGreat
open Go.RowKit
structure Nod where
 name:ByteArray
 cap:Vec.V
 labels:PL
 taints:NL
 cordon:Bool
def Nod.zero:Nod:=⟨ByteArray.empty,[],[],[],false⟩
abbrev zE (n:Nod) (v1 v2 v3:Value):Value:=.agg #[.string n.name,v1,v2,v3,.bool n.cordon]
structure zq (w:World) (v1 v2 v3:Value) (n:Nod):Prop where
 size:n.name.size≤maxLen
 cap:Vec.Reads w v1 n.cap
 labels:Reads jx w v2 n.labels
 taints:Reads ju w v3 n.taints
theorem zq.kept {w w':World} {v1 v2 v3:Value} {n:Nod} (h:zq w v1 v2 v3 n) (k:Kept w w'):zq w' v1 v2 v3 n:=⟨h.size,h.cap.kept k,h.labels.kept k,h.taints.kept k⟩
def XQ (w:World) (v:Value) (n:Nod):Prop:=∃v1 v2 v3,v=zE n v1 v2 v3∧zq w v1 v2 v3 n
theorem XQ.kept {w w':World} {v:Value} {n:Nod} (h:XQ w v n) (k:Kept w w'):XQ w' v n:=by
 obtain⟨v1,v2,v3,e,h⟩:=h;exact⟨v1,v2,v3,e,h.kept k⟩
def zH (n:Nod):Int:=if isName n.name=false then 3 else if Vec.jq n.cap≠0 then Vec.jq n.cap else if ZV n.labels≠0 then ZV n.labels else YK n.taints
def or3 (a b c:Int):Int:=if a≠0 then a else if b≠0 then b else c
theorem jb5 (n:Nod) (v1 v2 v3:Value) (w:World) (h:zq w v1 v2 v3 n) :
 Calls Tryz.prog 96 #[zE n v1 v2 v3] w (Say (.int .i64 (zH n)) w):=by
 have hsz:=h.size;have HH:=lH h;by_cases h1:isName n.name=true
 · obtain⟨x1,hx1⟩:∃x,Vec.jq n.cap=x:=⟨_,rfl⟩
   obtain⟨x2,hx2⟩:∃x,ZV n.labels=x:=⟨_,rfl⟩
   obtain⟨x3,hx3⟩:∃x,YK n.taints=x:=⟨_,rfl⟩
   have HX1:=lH hx1;have HX2:=lH hx2;have HX3:=lH hx3;have HV0:=lH (show zH n=if x1≠0 then x1 else if x2≠0 then x2 else x3 by unfold zH;rw[if_neg (by rw[h1];decide),hx1,hx2,hx3]);clear hx1 hx2 hx3 h;by_cases z1:x1=0
   · subst z1;by_cases z2:x2=0
     · subst z2;have HV:=lH (show zH n=x3 from HV0.out);unfold zE;go_enter Tryz.func96,Tryz.ntmps96;go_wp2_with fail
       refine(Vec.ZA hsz h1).mono ?_;rintro e w' ⟨rfl,rfl⟩;go_wp2_with fail
       have K:=lH (ja w (.cells #[.string n.name,v1,v2,v3,.bool n.cordon] 113));have hh:=w.alloc_heap_new (.cells #[.string n.name,v1,v2,v3,.bool n.cordon] 113);have c2:(w.alloc (.cells #[.string n.name,v1,v2,v3,.bool n.cordon] 113)).cell? ⟨w.heap.size,2,none⟩=some v2:=by rw[Lib.cell_of_heap hh];rfl
       have c3:(w.alloc (.cells #[.string n.name,v1,v2,v3,.bool n.cordon] 113)).cell? ⟨w.heap.size,3,none⟩=some v3:=by rw[Lib.cell_of_heap hh];rfl
       clear hh;refine(Vec.Jo (HH.out.cap.kept K.out) HX1.out).mono ?_;rintro e w1 ⟨rfl,k1⟩;have K:=lH (K.out.trans k1);have c2:=cell_later k1 c2;have c3:=cell_later k1 c3;clear k1;go_wp2_with fail
       refine(Jo (HH.out.labels.kept K.out) HX2.out).mono ?_;rintro e w2 ⟨rfl,k2⟩;have K:=lH (K.out.trans k2);have c2:=cell_later k2 c2;have c3:=cell_later k2 c3;clear k2;go_wp2_with fail
       refine(jcV (HH.out.taints.kept K.out) HX3.out).mono ?_;rintro e w3 ⟨rfl,k3⟩;have K:=lH (K.out.trans k3);clear k3;go_wp2;go_ret;exact⟨jb HV.out.symm,K.out⟩
     · have HV:=lH (show zH n=x2 by rw[HV0.out,if_neg (by decide),if_pos z2]);have z2':(x2 != 0)=true:=by simpa using z2
       clear z2;unfold zE;go_enter Tryz.func96,Tryz.ntmps96;go_wp2_with fail
       refine(Vec.ZA hsz h1).mono ?_;rintro e w' ⟨rfl,rfl⟩;go_wp2_with fail
       have K:=lH (ja w (.cells #[.string n.name,v1,v2,v3,.bool n.cordon] 113));have hh:=w.alloc_heap_new (.cells #[.string n.name,v1,v2,v3,.bool n.cordon] 113);have c2:(w.alloc (.cells #[.string n.name,v1,v2,v3,.bool n.cordon] 113)).cell? ⟨w.heap.size,2,none⟩=some v2:=by rw[Lib.cell_of_heap hh];rfl
       have c3:(w.alloc (.cells #[.string n.name,v1,v2,v3,.bool n.cordon] 113)).cell? ⟨w.heap.size,3,none⟩=some v3:=by rw[Lib.cell_of_heap hh];rfl
       clear hh;refine(Vec.Jo (HH.out.cap.kept K.out) HX1.out).mono ?_;rintro e w1 ⟨rfl,k1⟩;have K:=lH (K.out.trans k1);have c2:=cell_later k1 c2;have c3:=cell_later k1 c3;clear k1;go_wp2_with fail
       refine(Jo (HH.out.labels.kept K.out) HX2.out).mono ?_;rintro e w2 ⟨rfl,k2⟩;have K:=lH (K.out.trans k2);clear k2;go_wp2;go_ret;exact⟨jb HV.out.symm,K.out⟩
   · have HV:=lH (show zH n=x1 by rw[HV0.out,if_pos z1]);have z1':(x1 != 0)=true:=by simpa using z1
     clear z1;unfold zE;go_enter Tryz.func96,Tryz.ntmps96;go_wp2_with fail
     refine(Vec.ZA hsz h1).mono ?_;rintro e w' ⟨rfl,rfl⟩;go_wp2_with fail
     have K:=lH (ja w (.cells #[.string n.name,v1,v2,v3,.bool n.cordon] 113));have hh:=w.alloc_heap_new (.cells #[.string n.name,v1,v2,v3,.bool n.cordon] 113);have c2:(w.alloc (.cells #[.string n.name,v1,v2,v3,.bool n.cordon] 113)).cell? ⟨w.heap.size,2,none⟩=some v2:=by rw[Lib.cell_of_heap hh];rfl
     have c3:(w.alloc (.cells #[.string n.name,v1,v2,v3,.bool n.cordon] 113)).cell? ⟨w.heap.size,3,none⟩=some v3:=by rw[Lib.cell_of_heap hh];rfl
     clear hh;refine(Vec.Jo (HH.out.cap.kept K.out) HX1.out).mono ?_;rintro e w1 ⟨rfl,k1⟩;have K:=lH (K.out.trans k1);clear k1;go_wp2;go_ret;exact⟨jb HV.out.symm,K.out⟩
 · have h1:isName n.name=false:=by simpa using h1
   have HV:=lH (show zH n=3 by unfold zH;rw[if_pos h1]);clear h;unfold zE;go_enter Tryz.func96,Tryz.ntmps96;go_wp2_with (go_at_call 29;refine(Vec.ZA hsz h1).mono ?_;rintro e w' ⟨rfl,rfl⟩)
   go_ret;exact⟨jb HV.out.symm,ja _ _⟩
def zT (B:Nat) (w:World) (v:Value) (n:Nod):Prop:=∃a1 m1 c1 a2 m2 c2 a3 m3 c3,v=.agg #[.string n.name,.slice a1 m1 c1,.slice a2 m2 c2,.slice a3 m3 c3,.bool n.cordon]∧n.name.size≤maxLen∧Vec.Reads w (.slice a1 m1 c1) n.cap∧Reads jx w (.slice a2 m2 c2) n.labels∧Reads ju w (.slice a3 m3 c3) n.taints ∧
 (∀b off sp,a1=some ⟨b,off,sp⟩→B≤b)∧(∀b off sp,a2=some ⟨b,off,sp⟩→B≤b)∧(∀b off sp,a3=some ⟨b,off,sp⟩→B≤b)
theorem zT.toR {B:Nat} {w:World} {v:Value} {n:Nod} (h:zT B w v n):XQ w v n:=by
 obtain⟨a1,m1,c1,a2,m2,c2,a3,m3,c3,e,h0,h1,h2,h3,_⟩:=h;exact⟨_,_,_,e,h0,h1,h2,h3⟩
def qs (r:Int×Nod) (w:World) (e:Ending) (w':World):Prop:=(r.1=0→∃v,e=.returned v∧zT w.heap.size w' v r.2)∧(r.1≠0→e=.panicked [zk r.1])∧Kept w w'
theorem qs.good {r:Int×Nod} {w w':World} {v:Value} (h:r.1=0) (ho:zT w.heap.size w' v r.2) (hb:Kept w w'):qs r w (.returned v) w':=⟨fun _=>⟨v,rfl,ho⟩,fun g=>absurd h g,hb⟩
theorem qs.bad {r:Int×Nod} {w w':World} {c:Int} (h:r.1=c) (hc:c≠0) (hb:Kept w w'):qs r w (.panicked [zk c]) w':=⟨fun g=>absurd (h.symm.trans g) hc,fun _=>by rw[h],hb⟩
theorem Vec.Yd.spelt {r:Int×Vec.V} {w w':World} {e:Ending} (h:Vec.Yd r w e w'):∃a m cap,e=.returned (.tuple #[.slice a m cap,.int .i64 r.1])∧Vec.Reads w' (.slice a m cap) r.2∧(∀b off sp,a=some ⟨b,off,sp⟩→w.heap.size≤b∧b<w'.heap.size)∧Kept w w':=by
 obtain⟨v,rfl,ho,k⟩:=h;obtain⟨a,cap,rfl,h⟩:=ho.at_;exact⟨a,_,cap,rfl,⟨a,cap,rfl,h⟩,fun b off sp e=>ho.1.lt b (by subst e;rfl),k⟩
theorem ZP (w:World) (v0 v1 v2 v3 v4:Value) (T:TypeId) (W:World) (k:Kept (w.alloc (.cells #[v0,v1,v2,v3,v4] T)) W) :
 (W.cell? ⟨w.heap.size,0,none⟩=some v0∧W.cell? ⟨w.heap.size,1,none⟩=some v1∧W.cell? ⟨w.heap.size,2,none⟩=some v2∧W.cell? ⟨w.heap.size,3,none⟩=some v3∧W.cell? ⟨w.heap.size,4,none⟩=some v4) ∧
 W.frozen? ⟨w.heap.size,0,none⟩=false∧W.frozen? ⟨w.heap.size,1,none⟩=false∧W.frozen? ⟨w.heap.size,2,none⟩=false∧W.frozen? ⟨w.heap.size,3,none⟩=false∧W.frozen? ⟨w.heap.size,4,none⟩=false:=by
 have hh:=w.alloc_heap_new (.cells #[v0,v1,v2,v3,v4] T);have hf:∀j,W.frozen? ⟨w.heap.size,j,none⟩=false:=fun j=>by
  have:=k.frozen (p:=⟨w.heap.size,j,none⟩) (by simp);rw[this];unfold World.frozen?;rw[show (w.alloc (.cells #[v0,v1,v2,v3,v4] T)).heap[(⟨w.heap.size,j,none⟩:Addr).block]?=some (.cells #[v0,v1,v2,v3,v4] T) from hh];simp
 exact⟨⟨cell_later k (by rw[Lib.cell_of_heap hh];rfl),cell_later k (by rw[Lib.cell_of_heap hh];rfl),cell_later k (by rw[Lib.cell_of_heap hh];rfl),cell_later k (by rw[Lib.cell_of_heap hh];rfl),cell_later k (by rw[Lib.cell_of_heap hh];rfl)⟩,hf 0,hf 1,hf 2,hf 3,hf 4⟩
theorem X4 (W:World) (q:Nat) (u0 u1 u2 u3 u4:Value) (b:Nat) (h:b≠q) :
 (((((W.setCell ⟨q,0,none⟩ u0).setCell ⟨q,1,none⟩ u1).setCell ⟨q,2,none⟩ u2).setCell ⟨q,3,none⟩ u3).setCell ⟨q,4,none⟩ u4).heap[b]?=W.heap[b]? :=
 (Below.heap_setCell _ ⟨q,4,none⟩ _ b h).trans ((Below.heap_setCell _ ⟨q,3,none⟩ _ b h).trans ((Below.heap_setCell _ ⟨q,2,none⟩ _ b h).trans ((Below.heap_setCell _ ⟨q,1,none⟩ _ b h).trans (Below.heap_setCell _ ⟨q,0,none⟩ _ b h))))
theorem jeb (W:World) (q:Nat) (u0 u1 u2 u3 u4:Value) :
 (((((W.setCell ⟨q,0,none⟩ u0).setCell ⟨q,1,none⟩ u1).setCell ⟨q,2,none⟩ u2).setCell ⟨q,3,none⟩ u3).setCell ⟨q,4,none⟩ u4).heap.size=W.heap.size:=by simp[World.setCell]
theorem Reads.far {α:Type} {L:Lay α} {w w':World} {a:Option Addr} {m cap:Nat} {l:List α} (h:Reads L w (.slice a m cap) l) (hs:w'.heap.size=w.heap.size) (hb:∀b off sp,a=some ⟨b,off,sp⟩→w'.heap[b]?=w.heap[b]?):Reads L w' (.slice a m cap) l:=by
 obtain⟨a',cap',e,h1,h2,h3,h4,h5,h6⟩:=h
 cases e
 refine⟨a,cap,rfl,h1,h2,h3,h4,h5,h6.imp id ?_⟩;rintro ⟨b,off,rfl,hlt,hc⟩;exact⟨b,off,rfl,by rw[hs];exact hlt,fun i x j u hi hj=>(World.cell?_of_block (a:=⟨b,off+i*L.m+j,none⟩) (hb b off none rfl)).trans (hc i x j u hi hj)⟩
theorem Vec.Reads.far {w w':World} {a:Option Addr} {m cap:Nat} {l:Vec.V} (h:Vec.Reads w (.slice a m cap) l) (hs:w'.heap.size=w.heap.size) (hb:∀b off sp,a=some ⟨b,off,sp⟩→w'.heap[b]?=w.heap[b]?):Vec.Reads w' (.slice a m cap) l:=by
 obtain⟨a',cap',e,h1,h2,h3,h4,h5,h6⟩:=h
 cases e
 refine⟨a,cap,rfl,h1,h2,h3,h4,h5,h6.imp id ?_⟩;rintro ⟨b,off,rfl,hlt,hc⟩;exact⟨b,off,rfl,by rw[hs];exact hlt,fun i hi=>⟨(World.cell?_of_block (a:=⟨b,off+i*2,none⟩) (hb b off none rfl)).trans (hc i hi).1,(World.cell?_of_block (a:=⟨b,off+i*2+1,none⟩) (hb b off none rfl)).trans (hc i hi).2⟩⟩
theorem Y1 {W:World} {q:Nat} {v0 v1 v2 v3 v4 u0 u1 u2 u3 u4:Value} (y0:W.cell? ⟨q,0,none⟩=some v0) (y1:W.cell? ⟨q,1,none⟩=some v1) (y2:W.cell? ⟨q,2,none⟩=some v2) (y3:W.cell? ⟨q,3,none⟩=some v3) (y4:W.cell? ⟨q,4,none⟩=some v4) (W':World)
 (hW:(((((W.setCell ⟨q,0,none⟩ u0).setCell ⟨q,1,none⟩ u1).setCell ⟨q,2,none⟩ u2).setCell ⟨q,3,none⟩ u3).setCell ⟨q,4,none⟩ u4)=W') :
 W'.cell? ⟨q,0,none⟩=some u0∧W'.cell? ⟨q,1,none⟩=some u1∧W'.cell? ⟨q,2,none⟩=some u2∧W'.cell? ⟨q,3,none⟩=some u3∧W'.cell? ⟨q,4,none⟩=some u4:=by
 subst hW;refine⟨?_,?_,?_,?_,?_⟩<;>go_simp
theorem Vec.Reads.mk' {w:World} {a:Option Addr} {cap:Nat} {l:Vec.V} (h1:l.length≤cap) (h2:cap≤maxLen) (h3:Vec.jo w a l.length l):Vec.Reads w (.slice a l.length cap) l:=⟨a,cap,rfl,h1,h2,h3⟩
theorem Reads.mk' {α:Type} {L:Lay α} {w:World} {a:Option Addr} {cap:Nat} {l:List α} (h1:l.length≤cap) (h2:cap≤maxLen) (h3:jk L w a l.length l):Reads L w (.slice a l.length cap) l:=⟨a,cap,rfl,h1,h2,h3⟩
theorem XB (B:Nat) (q:Nat) (x y:Int) (w:World) (hq:w.cell? ⟨q,0,none⟩=some (.int .i64 y)) (hzq:w.frozen? ⟨q,0,none⟩=false) (hBq:B≤q) :
 CallsD Tryz.prog 118 #[.pointer (some ⟨q,0,none⟩)] (.panicking [zk x]) w fun e u' w' =>
  e=.returned (.tuple #[])∧u'=.panicking [{ zk x with recovered:=true }]∧w'=w.setCell ⟨q,0,none⟩ (.int .i64 x)∧w'.cell? ⟨q,0,none⟩=some (.int .i64 x)∧Below B w w':=by
 have hta:∀W,(Instr.typeAssert (.iface 49 (.int .i64 x)) 20 49 false).run Tryz.prog W=.ok (.int .i64 x) W:=fun _=>by kernel_rfl
 refine callsD_of_wpS Tryz.func118 rfl fun c₀ cs hu=>?_;apply wpS_seq;apply wpS_region;simp[wpOpsS,go_sem,recoverD,hu,Tryz.ntmps118,Exit.thenS];apply wpS_seq;apply wpS_region;simp[wpOpsS,go_sem,recoverD,Exit.thenS];refine wpS_cond (t:=true) (by simp[Act.eval,Array.replicate]) ?_;simp only[if_true];refine wpS_of_wp ?_;simp[Array.replicate];go_wp2;simp[bodyPostS,results,Tryz.results118];exact⟨World.cell?_setCell_same' _ _ _ (by rw[hq];rfl),(Below.refl B w).setCell (p:=⟨q,0,none⟩) hBq _⟩
theorem jbm (q:Addr) (w:World) :
 CallsD Tryz.prog 118 #[.pointer (some q)] .returning w fun e u' w'=>e=.returned (.tuple #[])∧u'=.returning∧w'=w:=by
 refine callsD_of_wpS Tryz.func118 rfl fun c₀ cs hu=>?_;apply wpS_seq;apply wpS_region;simp[wpOpsS,go_sem,recoverD,hu,Tryz.ntmps118,Exit.thenS];apply wpS_seq;apply wpS_region;simp[wpOpsS,go_sem,recoverD,hu,Exit.thenS];refine wpS_cond (t:=false) (by simp[Act.eval,Array.replicate]) ?_;simp only[Bool.false_eq_true,if_false];refine wpS_of_wp (wp_skip ?_)
 cases c₀
 simp_all [bodyPostS,results,Tryz.results118]
theorem YO (B:Nat) (w:World):zT B w (.agg #[.string ⟨#[]⟩,.slice none 0 0,.slice none 0 0,.slice none 0 0,.bool false]) Nod.zero :=
 ⟨none,0,0,none,0,0,none,0,0,rfl,(by decide:(0:Nat)≤maxLen),Vec.Reads.nil w,Reads.nil w,Reads.nil w,(fun _ _ _ e=>by cases e),(fun _ _ _ e=>by cases e),(fun _ _ _ e=>by cases e)⟩
theorem zT.less {B B':Nat} {w:World} {v:Value} {n:Nod} (h:zT B w v n) (hb:B'≤B):zT B' w v n:=by
 obtain⟨a1,m1,c1,a2,m2,c2,a3,m3,c3,e,h0,h1,h2,h3,g1,g2,g3⟩:=h;exact⟨a1,m1,c1,a2,m2,c2,a3,m3,c3,e,h0,h1,h2,h3,fun b o s e=>Nat.le_trans hb (g1 b o s e),fun b o s e=>Nat.le_trans hb (g2 b o s e),fun b o s e=>Nat.le_trans hb (g3 b o s e)⟩
theorem zT.far {B:Nat} {w w':World} {v:Value} {n:Nod} (h:zT B w v n) (hs:w'.heap.size=w.heap.size) (hb:∀b,B≤b→w'.heap[b]?=w.heap[b]?):zT B w' v n:=by
 obtain⟨a1,m1,c1,a2,m2,c2,a3,m3,c3,e,h0,h1,h2,h3,g1,g2,g3⟩:=h;exact⟨a1,m1,c1,a2,m2,c2,a3,m3,c3,e,h0,h1.far hs (fun b o s e=>hb b (g1 b o s e)),h2.far hs (fun b o s e=>hb b (g2 b o s e)),h3.far hs (fun b o s e=>hb b (g3 b o s e)),g1,g2,g3⟩
theorem zT.kept {B:Nat} {w w':World} {v:Value} {n:Nod} (h:zT B w v n) (k:Kept w w'):zT B w' v n:=by
 obtain⟨a1,m1,c1,a2,m2,c2,a3,m3,c3,e,h0,h1,h2,h3,g1,g2,g3⟩:=h;exact⟨a1,m1,c1,a2,m2,c2,a3,m3,c3,e,h0,h1.kept k,h2.kept k,h3.kept k,g1,g2,g3⟩
def jgN (q:Nat) (x:ByteArray) (a1 a2 a3:Option Addr) (m1 c1 m2 c2 m3 c3:Nat) (b:Bool) (W W':World):Prop :=
 (W'.cell? ⟨q,0,none⟩=some (.string x)∧W'.cell? ⟨q,1,none⟩=some (.slice a1 m1 c1)∧W'.cell? ⟨q,2,none⟩=some (.slice a2 m2 c2)∧W'.cell? ⟨q,3,none⟩=some (.slice a3 m3 c3)∧W'.cell? ⟨q,4,none⟩=some (.bool b)) ∧
  W'.heap.size=W.heap.size∧(∀j,j≠q→W'.heap[j]?=W.heap[j]?)∧∀B w,B≤q→Below B w W→Below B w W'
theorem Zp {W:World} {q:Nat} {v0 v1 v2 v3 v4:Value} (y:W.cell? ⟨q,0,none⟩=some v0∧W.cell? ⟨q,1,none⟩=some v1∧W.cell? ⟨q,2,none⟩=some v2∧W.cell? ⟨q,3,none⟩=some v3∧W.cell? ⟨q,4,none⟩=some v4) (x:ByteArray) (a1 a2 a3:Option Addr) (m1 c1 m2 c2 m3 c3:Nat) (b:Bool) :
 jgN q x a1 a2 a3 m1 c1 m2 c2 m3 c3 b W (((((W.setCell ⟨q,0,none⟩ (.string x)).setCell ⟨q,1,none⟩ (.slice a1 m1 c1)).setCell ⟨q,2,none⟩ (.slice a2 m2 c2)).setCell ⟨q,3,none⟩ (.slice a3 m3 c3)).setCell ⟨q,4,none⟩ (.bool b)) :=
 ⟨Y1 y.1 y.2.1 y.2.2.1 y.2.2.2.1 y.2.2.2.2 _ rfl,jeb _ _ _ _ _ _ _,fun j hj=>X4 _ _ _ _ _ _ _ j hj,
  fun B w hB hk=>((((hk.setCell (p:=⟨q,0,none⟩) hB _).setCell (p:=⟨q,1,none⟩) hB _).setCell (p:=⟨q,2,none⟩) hB _).setCell (p:=⟨q,3,none⟩) hB _).setCell (p:=⟨q,4,none⟩) hB _⟩
def Kind (t e:TypeId) (size bytes:Nat):Prop:=∃i z,Tryz.prog.underlying t=some (.slice e)∧Tryz.prog.info? e=some i∧i.zero=some z∧i.size=size∧i.bytes=bytes∧z.cells.size=size∧0<size
def Xf (w:World) (y:Value) (m:Nat) (news:List Value):Prop :=
 (∃ad c,y=.slice (some ad) m c∧∀j u,news[j]?=some u→w.cell? (ad.add j)=some u)∨(∃c,y=.slice none 0 c∧m=0)
theorem jbS {t e:TypeId} {size bytes:Nat} (K:Kind t e size bytes) (w:World) (B:Nat) (hB:B≤w.heap.size) (g n cap:Nat) (xs:List Value) (hown:w.ownsRow B e size (.slice (some ⟨g,0,none⟩) n cap) n xs) (y:Value) (m:Nat) (news:List Value) (hl:news.length=m*size) (hone:∀u ∈ news,u.oneCell'=true) (hy:Xf w y m news)
 (h63:n+m≤maxLen) (hb:((n+m)+(n+m) / 4+192)*bytes≤281474976710656) (ty:TypeId) :
 ∃g' cap' w',(Builtin.append_ #[t,t] ty #[.slice (some ⟨g,0,none⟩) n cap,y]).run Tryz.prog w=.ok (.slice (some ⟨g',0,none⟩) (n+m) cap') w'∧w'.ownsRow B e size (.slice (some ⟨g',0,none⟩) (n+m) cap') (n+m) (xs++news)∧Below B w w'∧w.grownBy w' (some g):=by
 obtain⟨i,z,ht,hi,hz,h1,h8,hzs,hsz⟩:=K;have hbg:B≤g:=by
  rcases hown.2 with ⟨h0,_⟩ | ⟨g2,cap2,cur,h0,hbg,_⟩
  · cases h0
  · cases h0;exact hbg
 rcases hy with ⟨ad,c,rfl,hc⟩ | ⟨c,rfl,rfl⟩
 · obtain⟨v',w',hr,ho,hg,hnil⟩:=run_append_own_wide w B t ty e i z size bytes ht hi hz h1 h8 hzs hsz _ n xs hown ad m c news hl hc hone h63 hb hB;have hb:=(Below.refl B w).grown hg hB (by intro k hk;cases hk;exact hbg);rcases ho.2 with ⟨h0,_⟩ | ⟨g2,cap2,cur,rfl,_⟩
   · have:=(hnil.1 h0).1
     cases this
   · exact⟨g2,cap2,w',hr,ho,hb,hg⟩
 · have:news=[]:=List.eq_nil_of_length_eq_zero (by rw[hl,Nat.zero_mul]);subst this;rcases hown.2 with ⟨h0,_⟩ | ⟨g2,cap2,cur,h0,_,hg,hnc,_⟩
   · cases h0
   · cases h0
     have hr:=run_append_room_src w t t ty e i ht hi g 0 n cap (.slice none 0 c) 0 [] (Src.ofNil w ht c) (by omega) (by intro j hj;simp at hj) (by intro j hj;simp at hj);exact⟨_,_,_,hr,by simpa [World.setCells] using hown,Below.refl B w,World.grownBy.refl _ _⟩
theorem jcP {t e:TypeId} {size bytes:Nat} (Kd:Kind t e size bytes) {o:Oper} {a:Act} {K:Act→World→Prop} {Q:Exit→Act→World→Prop} (s x:Operand) (w:World)
 (ho:o.op=.call { callee:=.builtin .append,args:=#[s,x],argTypes:=#[t,t] })
 (B:Nat) (hB:B≤w.heap.size) (g n cap:Nat) (xs:List Value) (hs:a.eval s=.slice (some ⟨g,0,none⟩) n cap) (hown:w.ownsRow B e size (.slice (some ⟨g,0,none⟩) n cap) n xs) (y:Value) (m:Nat) (news:List Value) (hx:a.eval x=y) (hl:news.length=m*size) (hone:∀u ∈ news,u.oneCell'=true) (hy:Xf w y m news)
 (h63:n+m≤maxLen) (hb:((n+m)+(n+m) / 4+192)*bytes≤281474976710656)
 (h:∀g' cap' w',w'.ownsRow B e size (.slice (some ⟨g',0,none⟩) (n+m) cap') (n+m) (xs++news)→Below B w w'→w.grownBy w' (some g)→K (a.put o.dst (.slice (some ⟨g',0,none⟩) (n+m) cap')) w'):o.wp Tryz.prog a w K Q:=by
 obtain⟨g',cap',w',hr,h2,h3,h4⟩:=jbS Kd w B hB g n cap xs hown y m news hl hone hy h63 hb o.type;unfold Oper.wp execOp;simp only[ho,resolve,invoke,builtin,Sem.run_bind,Sem.run_pure,Result.andThen_ok,List.map_toArray,List.map_cons,List.map_nil,hs,hx,hr];exact h g' cap' w' h2 h3 h4
theorem zy {t e:TypeId} {size bytes:Nat} (Kd:Kind t e size bytes) {ops:Array Oper} {rest:List Oper} {o:Oper} {a:Act} {Q:Exit→Act→World→Prop} (w:World) (hgd:o.guard=none) (s x:Operand)
 (ho:o.op=.call { callee:=.builtin .append,args:=#[s,x],argTypes:=#[t,t] })
 (B:Nat) (hB:B≤w.heap.size) (g n cap:Nat) (xs:List Value) (hs:a.eval s=.slice (some ⟨g,0,none⟩) n cap) (hown:w.ownsRow B e size (.slice (some ⟨g,0,none⟩) n cap) n xs) (y:Value) (m:Nat) (news:List Value) (hx:a.eval x=y) (hl:news.length=m*size) (hone:∀u ∈ news,u.oneCell'=true) (hy:Xf w y m news)
 (h63:n+m≤maxLen) (hb:((n+m)+(n+m) / 4+192)*bytes≤281474976710656)
 (h:∀g' cap' w',w'.ownsRow B e size (.slice (some ⟨g',0,none⟩) (n+m) cap') (n+m) (xs++news)→Below B w w'→w.grownBy w' (some g)→wpList Tryz.prog ops Q rest (a.put o.dst (.slice (some ⟨g',0,none⟩) (n+m) cap')) w'):wpList Tryz.prog ops Q (o::rest) a w :=
 wpList_plain hgd fun _ hK=>jcP Kd s x w ho B hB g n cap xs hs hown y m news hx hl hone hy h63 hb fun g' cap' w' h2 h3 h4=>hK _ _ (h g' cap' w' h2 h3 h4)
theorem Jn (w:World) (B size:Nat) (e:TypeId) (hB:B≤w.heap.size):(w.alloc (.cells #[] e)).ownsRow B e size (.slice (some ⟨w.heap.size,0,none⟩) 0 0) 0 [] :=
 ⟨by simp,.inr ⟨w.heap.size,0,#[],rfl,hB,World.alloc_heap_new w _,by omega,by unfold maxLen;omega,by simp,by simp⟩⟩
theorem Y3 {α:Type} (L:Lay α):∀(l:List α) (j:Nat) (u:Value),(jf L l)[j]?=some u→∃i x k,l[i]?=some x∧(L.cs x)[k]?=some u∧j=i*L.m+k
 | [],j,u,h=>by simp[jf] at h
 | y::t,j,u,h=>by
  unfold jf at h;rw[List.flatMap_cons] at h;by_cases hj:j<L.m
  · rw[List.getElem?_append_left (by rw[L.len];exact hj)] at h;exact⟨0,y,j,rfl,h,by omega⟩
  · rw[List.getElem?_append_right (by rw[L.len];omega),L.len] at h;obtain⟨i,x,k,h1,h2,h3⟩:=Y3 L t (j-L.m) u h;exact⟨i+1,x,k,by simpa using h1,h2,by rw[Nat.add_mul];omega⟩
theorem jk.src {α:Type} {L:Lay α} {w:World} {a:Option Addr} {len cap:Nat} {l:List α} (h:jk L w a len l):Xf w (.slice a len cap) len (jf L l):=by
 obtain⟨h0,h1,h2,h3⟩:=h;rcases h3 with h3 | ⟨b,off,rfl,hb,hc⟩
 · have hl:l=[]:=List.eq_nil_of_length_eq_zero (by omega);subst hl;subst h3
   cases a with
   | none=>exact .inr ⟨cap,rfl,rfl⟩
   | some ad=>exact .inl ⟨ad,cap,rfl,fun j u hu=>by simp[jf] at hu⟩
 · refine .inl ⟨_,cap,rfl,fun j u hu=>?_⟩;obtain⟨i,x,k,hi,hk,rfl⟩:=Y3 L l j u hu;have e:(⟨b,off,none⟩:Addr).add (i*L.m+k)=⟨b,off+i*L.m+k,none⟩:=by
    unfold Addr.add;split<;>simp_all [Nat.add_assoc]
   rw[e];exact hc i x k u hi hk
theorem jgW:Kind 30 121 2 32:=by
 obtain⟨i,hi,hz,h1,h2⟩:=info_parts (show (Tryz.prog.info? 121).map (fun i=>(i.zero,i.size,i.bytes))=some (some (.agg #[.string ByteArray.empty,.string ByteArray.empty]),2,32) by kernel_rfl);exact⟨i,_,Tryz.underlying30,hi,hz,h1,h2,rfl,by decide⟩
theorem jg1:Kind 63 71 3 40:=by
 obtain⟨i,hi,hz,h1,h2⟩:=info_parts (show (Tryz.prog.info? 71).map (fun i=>(i.zero,i.size,i.bytes))=some (some (.agg #[.string ByteArray.empty,.string ByteArray.empty,.bool false]),3,40) by kernel_rfl);exact⟨i,_,Tryz.underlying63,hi,hz,h1,h2,rfl,by decide⟩
theorem jg0:Kind 28 105 2 24:=by
 obtain⟨i,hi,hz,h1,h2⟩:=info_parts (show (Tryz.prog.info? 105).map (fun i=>(i.zero,i.size,i.bytes))=some (some (.agg #[.string ByteArray.empty,.int .i64 0]),2,24) by kernel_rfl);exact⟨i,_,Tryz.underlying28,hi,hz,h1,h2,rfl,by decide⟩
theorem qN:∀(l:Vec.V) (j:Nat) (u:Value),(Vec.cellsOf l)[j]?=some u→∃i,i<l.length∧((j=i*2∧u=.string (Vec.nm l i))∨(j=i*2+1∧u=.int .i64 (Vec.qn l i))):=by
 intro l j u h;have hlt:j<l.length*2:=by have:=(List.getElem?_eq_some_iff.1 h).1;rw[Vec.ZG] at this;exact this
 have hi:j / 2<l.length:=by omega
 obtain⟨h1,h2⟩:=Vec.YU l (j / 2) hi;refine⟨j / 2,hi,?_⟩;by_cases he:j % 2=0
 · have e:j=j / 2*2:=by omega
   rw[←e] at h1;rw[h1] at h;exact .inl ⟨e,by cases h;rfl⟩
 · have e:j=j / 2*2+1:=by omega
   rw[←e] at h2;rw[h2] at h;exact .inr ⟨e,by cases h;rfl⟩
theorem jfU {w:World} {a:Option Addr} {len cap:Nat} {l:Vec.V} (h:Vec.jo w a len l):Xf w (.slice a len cap) len (Vec.cellsOf l):=by
 obtain⟨h0,h1,h2,h3⟩:=h;rcases h3 with h3 | ⟨b,off,rfl,hb,hc⟩
 · have hl:l=[]:=List.eq_nil_of_length_eq_zero (by omega);subst hl;subst h3
   cases a with
   | none=>exact .inr ⟨cap,rfl,rfl⟩
   | some ad=>exact .inl ⟨ad,cap,rfl,fun j u hu=>by simp[Vec.cellsOf] at hu⟩
 · refine .inl ⟨_,cap,rfl,fun j u hu=>?_⟩;obtain⟨i,hi,hj⟩:=qN l j u hu;obtain⟨c1,c2⟩:=hc i (by omega);have e:(⟨b,off,none⟩:Addr).add j=⟨b,off+j,none⟩:=by
    unfold Addr.add;split<;>simp_all
   rw[e];rcases hj with ⟨rfl,rfl⟩ | ⟨rfl,rfl⟩
   · exact c1
   · rw[←Nat.add_assoc];exact c2
theorem YR (a:Option Addr) (len cap:Nat) (l:PL) (w:World) (hr:jk jx w a len l) (hc:len≤cap) (hm:cap≤maxLen) (hn:len≤1000000) :
 Calls Tryz.prog 78 #[.slice a len cap] w fun e w'=>∃a' m' c',e=.returned (.slice a' m' c')∧Reads jx w' (.slice a' m' c') l∧(∀b off sp,a'=some ⟨b,off,sp⟩→w.heap.size≤b)∧Kept w w':=by
 have hl:=hr.1;have q22:∀(w:World) (a:Option Addr) (n c n' c':Nat),(binOp .eql 30 (.slice a n c) (.slice none n' c')).run Tryz.prog w=.ok (.bool a.isNone) w:=fun w a n c n' c'=>Lib.run_eql_slice_nil w _ _ a n c n' c' Tryz.underlying30
 cases a with
 | none =>
  have h0:len=0:=by
   rcases hr.form with h | ⟨b,off,h⟩
   · exact h
   · cases h
  subst h0;have hl0:l=[]:=List.eq_nil_of_length_eq_zero hl;subst hl0;clear hr hl;go_enter Tryz.func78,Tryz.ntmps78;go_wp2;go_ret;exact⟨none,0,0,rfl,Reads.nil _,(fun b o s e=>by cases e),Kept.refl _⟩
 | some ad =>
  have HR:=lH hr;have HL:=lH hl;have hrl:(jf jx l).length=len*2:=by rw[jX,hl];rfl
  have hb1:0+len≤maxLen:=by unfold maxLen;omega
  have hb2:((0+len)+(0+len) / 4+192)*32≤281474976710656:=by omega
  clear hr hl;go_enter Tryz.func78,Tryz.ntmps78;go_wp2_with (at_builtin;refine zy jgW _ rfl (.tmp 5) (.tmp 6) rfl w.heap.size (by simp) w.heap.size 0 0 [] rfl (Jn w w.heap.size 2 _ (Nat.le_refl _)) _ len (jf jx l) rfl hrl (zN _ _) (jk.src (HR.out.kept (ja _ _))) hb1 hb2 ?_;intro g1 k1 W1 ho hd hg;have HO:=lH ho;have HD:=lH hd;clear ho hd hg;refine Hid.out ?_)
  refine lH ?_;simp only[Nat.zero_add,List.nil_append] at HO ⊢;go_wp2;go_ret;exact⟨_,_,_,rfl,Own.reads (⟨by rw[HL.out];exact HO.out,HR.out.2.2.1⟩:Own jx 121 W1 w.heap.size (.slice (some ⟨g1,0,none⟩) len k1) l),(fun b o s e=>by cases e;exact(HO.out.lt g1 rfl).1),Below.trans (ja w _) HD.out⟩
theorem qz (a:Option Addr) (len cap:Nat) (l:NL) (w:World) (hr:jk ju w a len l) (hc:len≤cap) (hm:cap≤maxLen) (hn:len≤1000000) :
 Calls Tryz.prog 115 #[.slice a len cap] w fun e w'=>∃a' m' c',e=.returned (.slice a' m' c')∧Reads ju w' (.slice a' m' c') l∧(∀b off sp,a'=some ⟨b,off,sp⟩→w.heap.size≤b)∧Kept w w':=by
 have hl:=hr.1;have q22:∀(w:World) (a:Option Addr) (n c n' c':Nat),(binOp .eql 63 (.slice a n c) (.slice none n' c')).run Tryz.prog w=.ok (.bool a.isNone) w:=fun w a n c n' c'=>Lib.run_eql_slice_nil w _ _ a n c n' c' Tryz.underlying63
 cases a with
 | none =>
  have h0:len=0:=by
   rcases hr.form with h | ⟨b,off,h⟩
   · exact h
   · cases h
  subst h0;have hl0:l=[]:=List.eq_nil_of_length_eq_zero hl;subst hl0;clear hr hl;go_enter Tryz.func115,Tryz.ntmps115;go_wp2;go_ret;exact⟨none,0,0,rfl,Reads.nil _,(fun b o s e=>by cases e),Kept.refl _⟩
 | some ad =>
  have HR:=lH hr;have HL:=lH hl;have hrl:(jf ju l).length=len*3:=by rw[jX,hl];rfl
  have hb1:0+len≤maxLen:=by unfold maxLen;omega
  have hb2:((0+len)+(0+len) / 4+192)*40≤281474976710656:=by omega
  clear hr hl;go_enter Tryz.func115,Tryz.ntmps115;go_wp2_with (at_builtin;refine zy jg1 _ rfl (.tmp 5) (.tmp 6) rfl w.heap.size (by simp) w.heap.size 0 0 [] rfl (Jn w w.heap.size 3 _ (Nat.le_refl _)) _ len (jf ju l) rfl hrl (zN _ _) (jk.src (HR.out.kept (ja _ _))) hb1 hb2 ?_;intro g1 k1 W1 ho hd hg;have HO:=lH ho;have HD:=lH hd;clear ho hd hg;refine Hid.out ?_)
  refine lH ?_;simp only[Nat.zero_add,List.nil_append] at HO ⊢;go_wp2;go_ret;exact⟨_,_,_,rfl,Own.reads (⟨by rw[HL.out];exact HO.out,HR.out.2.2.1⟩:Own ju 71 W1 w.heap.size (.slice (some ⟨g1,0,none⟩) len k1) l),(fun b o s e=>by cases e;exact(HO.out.lt g1 rfl).1),Below.trans (ja w _) HD.out⟩
theorem YZ (a:Option Addr) (len cap:Nat) (l:Vec.V) (w:World) (hr:Vec.jo w a len l) (hc:len≤cap) (hm:cap≤maxLen) (hn:len≤1000000) :
 Calls Tryz.prog 77 #[.slice a len cap] w fun e w'=>∃a' m' c',e=.returned (.slice a' m' c')∧Vec.Reads w' (.slice a' m' c') l∧(∀b off sp,a'=some ⟨b,off,sp⟩→w.heap.size≤b)∧Kept w w':=by
 have hl:=hr.1;have q22:∀(w:World) (a:Option Addr) (n c n' c':Nat),(binOp .eql 28 (.slice a n c) (.slice none n' c')).run Tryz.prog w=.ok (.bool a.isNone) w:=fun w a n c n' c'=>Lib.run_eql_slice_nil w _ _ a n c n' c' Tryz.underlying28
 cases a with
 | none =>
  have h0:len=0:=by
   rcases hr.form with h | ⟨b,off,h⟩
   · exact h
   · cases h
  subst h0;have hl0:l=[]:=List.eq_nil_of_length_eq_zero hl;subst hl0;clear hr hl;go_enter Tryz.func77,Tryz.ntmps77;go_wp2;go_ret;exact⟨none,0,0,rfl,Vec.Reads.nil _,(fun b o s e=>by cases e),Kept.refl _⟩
 | some ad =>
  have HR:=lH hr;have HL:=lH hl;have hrl:(Vec.cellsOf l).length=len*2:=by rw[Vec.ZG,hl]
  have hb1:0+len≤maxLen:=by unfold maxLen;omega
  have hb2:((0+len)+(0+len) / 4+192)*24≤281474976710656:=by omega
  clear hr hl;go_enter Tryz.func77,Tryz.ntmps77;go_wp2_with (at_builtin;refine zy jg0 _ rfl (.tmp 5) (.tmp 6) rfl w.heap.size (by simp) w.heap.size 0 0 [] rfl (Jn w w.heap.size 2 _ (Nat.le_refl _)) _ len (Vec.cellsOf l) rfl hrl (Vec.J8 _) (jfU (HR.out.kept (ja _ _))) hb1 hb2 ?_;intro g1 k1 W1 ho hd hg;have HO:=lH ho;have HD:=lH hd;clear ho hd hg;refine Hid.out ?_)
  refine lH ?_;simp only[Nat.zero_add,List.nil_append] at HO ⊢;go_wp2;go_ret;exact⟨_,_,_,rfl,Vec.jJ.reads (⟨by rw[HL.out];exact HO.out,HR.out.2.2.1⟩:Vec.jJ 105 W1 w.heap.size (.slice (some ⟨g1,0,none⟩) len k1) l),(fun b o s e=>by cases e;exact(HO.out.lt g1 rfl).1),Below.trans (ja w _) HD.out⟩
def zg (q:Nat) (v0 v1 v2 v3 v4:Value) (W:World):Prop :=
 (W.cell? ⟨q,0,none⟩=some v0∧W.cell? ⟨q,1,none⟩=some v1∧W.cell? ⟨q,2,none⟩=some v2∧W.cell? ⟨q,3,none⟩=some v3∧W.cell? ⟨q,4,none⟩=some v4) ∧
  W.frozen? ⟨q,0,none⟩=false∧W.frozen? ⟨q,1,none⟩=false∧W.frozen? ⟨q,2,none⟩=false∧W.frozen? ⟨q,3,none⟩=false∧W.frozen? ⟨q,4,none⟩=false
theorem zg.block {q:Nat} {v0 v1 v2 v3 v4:Value} {W W':World} (h:zg q v0 v1 v2 v3 v4 W) (e:W'.heap[q]?=W.heap[q]?):zg q v0 v1 v2 v3 v4 W':=by
 have c:∀j,W'.cell? ⟨q,j,none⟩=W.cell? ⟨q,j,none⟩:=fun j=>World.cell?_of_block (a:=⟨q,j,none⟩) e;have f:∀j,W'.frozen? ⟨q,j,none⟩=W.frozen? ⟨q,j,none⟩:=fun j=>World.frozen?_of_block (a:=⟨q,j,none⟩) e;unfold zg;simp only[c,f];exact h
theorem zg.kept {q:Nat} {v0 v1 v2 v3 v4:Value} {W W':World} (h:zg q v0 v1 v2 v3 v4 W) (k:Kept W W'):zg q v0 v1 v2 v3 v4 W':=h.block (k.block q (World.block_lt_of_cell? _ _ h.1.1))
theorem zg.other {q p j:Nat} {v0 v1 v2 v3 v4 u:Value} {W:World} (h:zg q v0 v1 v2 v3 v4 W) (hp:q≠p):zg q v0 v1 v2 v3 v4 (W.setCell ⟨p,j,none⟩ u):=h.block (Below.heap_setCell W ⟨p,j,none⟩ u q hp)
theorem zg.set1 {q:Nat} {v0 v1 v2 v3 v4:Value} {W:World} (h:zg q v0 v1 v2 v3 v4 W) (u:Value):zg q v0 u v2 v3 v4 (W.setCell ⟨q,1,none⟩ u):=by
 obtain⟨⟨y0,y1,y2,y3,y4⟩,x0,x1,x2,x3,x4⟩:=h;refine⟨⟨?_,?_,?_,?_,?_⟩,?_,?_,?_,?_,?_⟩<;>go_simp
theorem zg.set2 {q:Nat} {v0 v1 v2 v3 v4:Value} {W:World} (h:zg q v0 v1 v2 v3 v4 W) (u:Value):zg q v0 v1 u v3 v4 (W.setCell ⟨q,2,none⟩ u):=by
 obtain⟨⟨y0,y1,y2,y3,y4⟩,x0,x1,x2,x3,x4⟩:=h;refine⟨⟨?_,?_,?_,?_,?_⟩,?_,?_,?_,?_,?_⟩<;>go_simp
theorem zg.set3 {q:Nat} {v0 v1 v2 v3 v4:Value} {W:World} (h:zg q v0 v1 v2 v3 v4 W) (u:Value):zg q v0 v1 v2 u v4 (W.setCell ⟨q,3,none⟩ u):=by
 obtain⟨⟨y0,y1,y2,y3,y4⟩,x0,x1,x2,x3,x4⟩:=h;refine⟨⟨?_,?_,?_,?_,?_⟩,?_,?_,?_,?_,?_⟩<;>go_simp
theorem zW {α:Type} {L:Lay α} {B p j:Nat} {u:Value} {w:World} {a:Option Addr} {m c:Nat} {l:List α} (h:Reads L w (.slice a m c) l) (g:∀b off sp,a=some ⟨b,off,sp⟩→B≤b) (hp:p<B):Reads L (w.setCell ⟨p,j,none⟩ u) (.slice a m c) l :=
 h.far (by simp[World.setCell]) (fun b o s e=>Below.heap_setCell w ⟨p,j,none⟩ u b (show b≠p by have:=g b o s e;omega))
theorem Jm {B p j:Nat} {u:Value} {w:World} {a:Option Addr} {m c:Nat} {l:Vec.V} (h:Vec.Reads w (.slice a m c) l) (g:∀b off sp,a=some ⟨b,off,sp⟩→B≤b) (hp:p<B):Vec.Reads (w.setCell ⟨p,j,none⟩ u) (.slice a m c) l :=
 h.far (by simp[World.setCell]) (fun b o s e=>Below.heap_setCell w ⟨p,j,none⟩ u b (show b≠p by have:=g b o s e;omega))
structure zZ (n:Nod):Prop where
 cap:n.cap.length≤1000000
 labels:n.labels.length≤1000000
 taints:n.taints.length≤1000000
theorem jeN (n:Nod) (a1 a2 a3:Option Addr) (m1 c1 m2 c2 m3 c3:Nat) (w:World) (h:zq w (.slice a1 m1 c1) (.slice a2 m2 c2) (.slice a3 m3 c3) n) (hl:zZ n) :
 Calls Tryz.prog 149 #[.agg #[.string n.name,.slice a1 m1 c1,.slice a2 m2 c2,.slice a3 m3 c3,.bool n.cordon]] w fun e w'=>∃v,e=.returned v∧zT w.heap.size w' v n∧Kept w w':=by
 have hsz:=h.size;obtain⟨x1,y1,e1,p1,q1,r1⟩:=h.cap
 cases e1
 obtain⟨x2,y2,e2,p2,q2,r2⟩:=h.labels
 cases e2
 obtain⟨x3,y3,e3,p3,q3,r3⟩:=h.taints
 cases e3
 have H1:=lH (fun W (k:Kept w W)=>YZ a1 n.cap.length c1 n.cap W (r1.kept k) p1 q1 hl.cap);have H2:=lH (fun W (k:Kept w W)=>YR a2 n.labels.length c2 n.labels W (r2.kept k) p2 q2 hl.labels);have H3:=lH (fun W (k:Kept w W)=>qz a3 n.taints.length c3 n.taints W (r3.kept k) p3 q3 hl.taints);obtain⟨k1,hk1⟩:∃k,n.cap.length=k:=⟨_,rfl⟩
 obtain⟨k2,hk2⟩:∃k,n.labels.length=k:=⟨_,rfl⟩
 obtain⟨k3,hk3⟩:∃k,n.taints.length=k:=⟨_,rfl⟩
 obtain⟨x,hx⟩:∃x,n.name=x:=⟨_,rfl⟩
 obtain⟨cd,hcd⟩:∃x,n.cordon=x:=⟨_,rfl⟩
 have hxs:x.size≤maxLen:=by rw[←hx];exact hsz
 rw[hk1] at H1;rw[hk2] at H2;rw[hk3] at H3;rw[hk1,hk2,hk3,hx,hcd];have HX:=lH hx;have HCD:=lH hcd;clear h hl p1 q1 r1 p2 q2 r2 p3 q3 r3 hk1 hk2 hk3 hx hcd hsz;obtain⟨Z,hZ⟩:∃Z,(w.alloc (.cells #[.string x,.slice a1 k1 c1,.slice a2 k2 c2,.slice a3 k3 c3,.bool cd] 65)).alloc (.cells #[.string ⟨#[]⟩,.slice none 0 0,.slice none 0 0,.slice none 0 0,.bool false] 65)=Z:=⟨_,rfl⟩
 have hkz:Kept w Z:=by rw[←hZ];exact jr _ _ _
 have hzs:Z.heap.size=w.heap.size+2:=by rw[←hZ];simp
 have Q0:=lH (show zg w.heap.size (.string x) (.slice a1 k1 c1) (.slice a2 k2 c2) (.slice a3 k3 c3) (.bool cd) Z from ZP w _ _ _ _ _ 65 Z (by rw[←hZ];exact ja _ _));have Q1:=lH (show zg (w.heap.size+1) (.string ⟨#[]⟩) (.slice none 0 0) (.slice none 0 0) (.slice none 0 0) (.bool false) Z by
  have:=ZP (w.alloc (.cells #[.string x,.slice a1 k1 c1,.slice a2 k2 c2,.slice a3 k3 c3,.bool cd] 65)) (.string ⟨#[]⟩) (.slice none 0 0) (.slice none 0 0) (.slice none 0 0) (.bool false) 65 Z (by rw[hZ];exact Kept.refl _);rw[World.size_alloc] at this;exact this)
 have K:=lH hkz;have hs0:w.heap.size+2≤Z.heap.size:=by omega
 clear hkz hzs;obtain⟨⟨y0,y1,y2,y3,y4⟩,x0,x1,x2,x3,x4⟩:=Q0.out;go_enter Tryz.func149,Tryz.ntmps149;go_wp2_with fail
 try rw[hZ]
 clear hZ;clear y0 y1 y2 y3 y4 x0 x1 x2 x3 x4;refine(H1.out _ K.out).mono ?_;rintro e w1 ⟨b1,n1,d1,rfl,rr,gg,k⟩;have HBA:=lH (show ∀b off sp,b1=some ⟨b,off,sp⟩→w.heap.size+2≤b from fun b o s e=>by have:=gg b o s e;omega);have RA:=lH rr;have K:=lH (K.out.trans k);have hs1:w.heap.size+2≤w1.heap.size:=by have:=k.size;omega
 have Q0:=lH (Q0.out.kept k);have Q1:=lH (Q1.out.kept k);clear rr gg k hs0;obtain⟨⟨y0,y1,y2,y3,y4⟩,x0,x1,x2,x3,x4⟩:=Q0.out;have Q0:=lH (Q0.out.set1 (.slice b1 n1 d1));have Q1:=lH (Q1.out.other (p:=w.heap.size) (j:=1) (u:=.slice b1 n1 d1) (by omega));have RA:=lH (Jm (p:=w.heap.size) (j:=1) (u:=.slice b1 n1 d1) RA.out HBA.out (by omega));have K:=lH (show Kept w (w1.setCell ⟨w.heap.size,1,none⟩ (.slice b1 n1 d1)) from K.out.setCell (p:=⟨w.heap.size,1,none⟩) (Nat.le_refl _) _);have hs0:w.heap.size+2≤(w1.setCell ⟨w.heap.size,1,none⟩ (.slice b1 n1 d1)).heap.size:=by simpa [World.setCell] using hs1
 clear hs1;obtain⟨⟨z0,z1,z2,z3,z4⟩,-⟩:=Q0.out;go_wp2_with fail
 clear y0 y1 y2 y3 y4 x0 x1 x2 x3 x4 z0 z1 z2 z3 z4;obtain⟨W1,hW1⟩:∃W,w1.setCell ⟨w.heap.size,1,none⟩ (.slice b1 n1 d1)=W:=⟨_,rfl⟩
 rw[hW1] at Q0 Q1 RA K hs0 ⊢;clear hW1;refine(H2.out _ K.out).mono ?_;rintro e w2 ⟨b2,n2,d2,rfl,rr,gg,k⟩;have HBB:=lH (show ∀b off sp,b2=some ⟨b,off,sp⟩→w.heap.size+2≤b from fun b o s e=>by have:=gg b o s e;omega);have RB:=lH rr;have K:=lH (K.out.trans k);have hs1:w.heap.size+2≤w2.heap.size:=by have:=k.size;omega
 have Q0:=lH (Q0.out.kept k);have Q1:=lH (Q1.out.kept k);have RA:=lH (RA.out.kept k);clear rr gg k hs0;obtain⟨⟨y0,y1,y2,y3,y4⟩,x0,x1,x2,x3,x4⟩:=Q0.out;have Q0:=lH (Q0.out.set2 (.slice b2 n2 d2));have Q1:=lH (Q1.out.other (p:=w.heap.size) (j:=2) (u:=.slice b2 n2 d2) (by omega));have RA:=lH (Jm (p:=w.heap.size) (j:=2) (u:=.slice b2 n2 d2) RA.out HBA.out (by omega));have RB:=lH (zW (p:=w.heap.size) (j:=2) (u:=.slice b2 n2 d2) RB.out HBB.out (by omega));have K:=lH (show Kept w (w2.setCell ⟨w.heap.size,2,none⟩ (.slice b2 n2 d2)) from K.out.setCell (p:=⟨w.heap.size,2,none⟩) (Nat.le_refl _) _);have hs0:w.heap.size+2≤(w2.setCell ⟨w.heap.size,2,none⟩ (.slice b2 n2 d2)).heap.size:=by simpa [World.setCell] using hs1
 clear hs1;obtain⟨⟨z0,z1,z2,z3,z4⟩,-⟩:=Q0.out;go_wp2_with fail
 clear y0 y1 y2 y3 y4 x0 x1 x2 x3 x4 z0 z1 z2 z3 z4;obtain⟨W2,hW2⟩:∃W,w2.setCell ⟨w.heap.size,2,none⟩ (.slice b2 n2 d2)=W:=⟨_,rfl⟩
 rw[hW2] at Q0 Q1 RA RB K hs0 ⊢;clear hW2;refine(H3.out _ K.out).mono ?_;rintro e w3 ⟨b3,n3,d3,rfl,rr,gg,k⟩;have HBC:=lH (show ∀b off sp,b3=some ⟨b,off,sp⟩→w.heap.size+2≤b from fun b o s e=>by have:=gg b o s e;omega);have RC:=lH rr;have K:=lH (K.out.trans k);have hs1:w.heap.size+2≤w3.heap.size:=by have:=k.size;omega
 have Q0:=lH (Q0.out.kept k);have Q1:=lH (Q1.out.kept k);have RA:=lH (RA.out.kept k);have RB:=lH (RB.out.kept k);clear rr gg k hs0;obtain⟨⟨y0,y1,y2,y3,y4⟩,x0,x1,x2,x3,x4⟩:=Q0.out;have Q0:=lH (Q0.out.set3 (.slice b3 n3 d3));have Q1:=lH (Q1.out.other (p:=w.heap.size) (j:=3) (u:=.slice b3 n3 d3) (by omega));have RA:=lH (Jm (p:=w.heap.size) (j:=3) (u:=.slice b3 n3 d3) RA.out HBA.out (by omega));have RB:=lH (zW (p:=w.heap.size) (j:=3) (u:=.slice b3 n3 d3) RB.out HBB.out (by omega));have RC:=lH (zW (p:=w.heap.size) (j:=3) (u:=.slice b3 n3 d3) RC.out HBC.out (by omega));have K:=lH (show Kept w (w3.setCell ⟨w.heap.size,3,none⟩ (.slice b3 n3 d3)) from K.out.setCell (p:=⟨w.heap.size,3,none⟩) (Nat.le_refl _) _);have hs0:w.heap.size+2≤(w3.setCell ⟨w.heap.size,3,none⟩ (.slice b3 n3 d3)).heap.size:=by simpa [World.setCell] using hs1
 clear hs1;obtain⟨⟨z0,z1,z2,z3,z4⟩,-⟩:=Q0.out;obtain⟨⟨g0,g1,g2,g3,g4⟩,f0,f1,f2,f3,f4⟩:=Q1.out;go_wp2;have P:=lH (Zp ⟨g0,g1,g2,g3,g4⟩ x b1 b2 b3 n1 d1 n2 d2 n3 d3 cd);clear y0 y1 y2 y3 y4 x0 x1 x2 x3 x4 z0 z1 z2 z3 z4 g0 g1 g2 g3 g4 f0 f1 f2 f3 f4;obtain⟨W3,hW3⟩:∃W,w3.setCell ⟨w.heap.size,3,none⟩ (.slice b3 n3 d3)=W:=⟨_,rfl⟩
 rw[hW3] at RA RB RC K hs0 P ⊢;obtain⟨WE,hWE⟩:∃W,(((((W3.setCell ⟨w.heap.size+1,0,none⟩ (.string x)).setCell ⟨w.heap.size+1,1,none⟩ (.slice b1 n1 d1)).setCell ⟨w.heap.size+1,2,none⟩ (.slice b2 n2 d2)).setCell ⟨w.heap.size+1,3,none⟩ (.slice b3 n3 d3)).setCell ⟨w.heap.size+1,4,none⟩ (.bool cd))=W:=⟨_,rfl⟩
 rw[hWE] at P ⊢;clear hWE hW3;obtain⟨⟨e0,e1,e2,e3,e4⟩,hsz,hbl,hkp⟩:=P.out;refine bodyPost_ret (by simp[results,Tryz.results149,go_sem,e0,e1,e2,e3,e4];try rfl) rfl ?_;exact⟨_,rfl,⟨b1,n1,d1,b2,n2,d2,b3,n3,d3,by rw[HX.out,HCD.out],by rw[HX.out];exact hxs,RA.out.far hsz (fun b o s e=>hbl b (by have:=HBA.out b o s e;omega)),RB.out.far hsz (fun b o s e=>hbl b (by have:=HBB.out b o s e;omega)),RC.out.far hsz (fun b o s e=>hbl b (by have:=HBC.out b o s e;omega)),fun b o s e=>Nat.le_trans (Nat.le_add_right _ 2) (HBA.out b o s e),fun b o s e=>Nat.le_trans (Nat.le_add_right _ 2) (HBB.out b o s e),fun b o s e=>Nat.le_trans (Nat.le_add_right _ 2) (HBC.out b o s e)⟩,hkp _ _ (Nat.le_succ _) K.out⟩
def js (w:World) (a:Option Addr) (len:Nat) (l:List Nod):Prop :=
 l.length=len∧len≤maxLen∧(len=0∨∃b off,a=some ⟨b,off,none⟩∧b<w.heap.size∧∀i n,l[i]?=some n→∃a1 m1 c1 a2 m2 c2 a3 m3 c3,
  w.cell? ⟨b,off+i*5,none⟩=some (.string n.name)∧w.cell? ⟨b,off+i*5+1,none⟩=some (.slice a1 m1 c1)∧w.cell? ⟨b,off+i*5+2,none⟩=some (.slice a2 m2 c2)∧w.cell? ⟨b,off+i*5+3,none⟩=some (.slice a3 m3 c3)∧w.cell? ⟨b,off+i*5+4,none⟩=some (.bool n.cordon) ∧
  zq w (.slice a1 m1 c1) (.slice a2 m2 c2) (.slice a3 m3 c3) n)
theorem js.kept {w w':World} {a:Option Addr} {len:Nat} {l:List Nod} (h:js w a len l) (k:Kept w w'):js w' a len l:=by
 obtain⟨h0,h1,h2⟩:=h;refine⟨h0,h1,h2.imp id ?_⟩;rintro ⟨b,off,rfl,hb,hc⟩;refine⟨b,off,rfl,Nat.lt_of_lt_of_le hb k.size,fun i n hi=>?_⟩;obtain⟨a1,m1,c1,a2,m2,c2,a3,m3,c3,p0,p1,p2,p3,p4,hn⟩:=hc i n hi;exact⟨a1,m1,c1,a2,m2,c2,a3,m3,c3,cell_later k p0,cell_later k p1,cell_later k p2,cell_later k p3,cell_later k p4,hn.kept k⟩
theorem js.form {w:World} {a:Option Addr} {len:Nat} {l:List Nod} (h:js w a len l):len=0∨∃b off,a=some ⟨b,off,none⟩:=by
 obtain⟨_,_,h2⟩:=h;exact h2.imp id fun ⟨b,off,e,_⟩=>⟨b,off,e⟩
theorem js.at_ {w:World} {b off len:Nat} {l:List Nod} {k:Nat} (h:js w (some ⟨b,off,none⟩) len l) (hk:k<len):∃n a1 m1 c1 a2 m2 c2 a3 m3 c3,l[k]?=some n∧l.drop k=n::l.drop (k+1)∧b<w.heap.size ∧
 w.cell? ⟨b,off+k*5,none⟩=some (.string n.name)∧w.cell? ⟨b,off+k*5+1,none⟩=some (.slice a1 m1 c1)∧w.cell? ⟨b,off+k*5+2,none⟩=some (.slice a2 m2 c2)∧w.cell? ⟨b,off+k*5+3,none⟩=some (.slice a3 m3 c3)∧w.cell? ⟨b,off+k*5+4,none⟩=some (.bool n.cordon) ∧
 zq w (.slice a1 m1 c1) (.slice a2 m2 c2) (.slice a3 m3 c3) n:=by
 obtain⟨h0,_,h3⟩:=h;have hkl:k<l.length:=by omega
 rcases h3 with h3 | ⟨b',off',e,hb,hc⟩
 · omega
 · injection e with e;injection e with e1 e2 e3;subst e1;subst e2;have he:l[k]?=some l[k]:=List.getElem?_eq_getElem hkl;obtain⟨a1,m1,c1,a2,m2,c2,a3,m3,c3,r⟩:=hc k _ he;exact⟨l[k],a1,m1,c1,a2,m2,c2,a3,m3,c3,he,List.drop_eq_getElem_cons hkl,hb,r⟩
def zM (w:World) (v:Value) (l:List Nod):Prop:=∃a cap,v=.slice a l.length cap∧l.length≤cap∧cap≤maxLen∧js w a l.length l
theorem zM.kept {w w':World} {v:Value} {l:List Nod} (h:zM w v l) (k:Kept w w'):zM w' v l:=by
 obtain⟨a,cap,e,h1,h2,h3⟩:=h;exact⟨a,cap,e,h1,h2,h3.kept k⟩
structure je (q:Nat) (vs:List Value) (W:World):Prop where
 at_:∀i v,vs[i]?=some v→W.cell? ⟨q,i,none⟩=some v
 free:∀i,W.frozen? ⟨q,i,none⟩=false
theorem je.block {q:Nat} {vs:List Value} {W W':World} (h:je q vs W) (e:W'.heap[q]?=W.heap[q]?):je q vs W' :=
 ⟨fun i v hv=>(World.cell?_of_block (a:=⟨q,i,none⟩) e).trans (h.at_ i v hv),fun i=>(World.frozen?_of_block (a:=⟨q,i,none⟩) e).trans (h.free i)⟩
theorem je.lt {q:Nat} {v:Value} {vs:List Value} {W:World} (h:je q (v::vs) W):q<W.heap.size:=World.block_lt_of_cell? _ _ (h.at_ 0 v rfl)
theorem je.kept {q:Nat} {v:Value} {vs:List Value} {W W':World} (h:je q (v::vs) W) (k:Kept W W'):je q (v::vs) W':=h.block (k.block q h.lt)
theorem je.other {q p j:Nat} {u:Value} {vs:List Value} {W:World} (h:je q vs W) (hp:q≠p):je q vs (W.setCell ⟨p,j,none⟩ u):=h.block (Below.heap_setCell W ⟨p,j,none⟩ u q hp)
theorem jc (w:World) (v:Value) (vs:List Value) (T:TypeId) (W:World) (k:Kept (w.alloc (.cells (v::vs).toArray T)) W):je w.heap.size (v::vs) W:=by
 have hh:=w.alloc_heap_new (.cells (v::vs).toArray T);have h:je w.heap.size (v::vs) (w.alloc (.cells (v::vs).toArray T)):=⟨fun i u hu=>by rw[Lib.cell_of_heap hh];simpa using hu,fun i=>by
  unfold World.frozen?;rw[show (w.alloc (.cells (v::vs).toArray T)).heap[(⟨w.heap.size,i,none⟩:Addr).block]?=some (.cells (v::vs).toArray T) from hh];simp⟩
 exact h.kept k
theorem je.set {q j:Nat} {u:Value} {vs:List Value} {W:World} (h:je q vs W) (hj:j<vs.length):je q (vs.set j u) (W.setCell ⟨q,j,none⟩ u):=by
 refine⟨fun i v hv=>?_,fun i=>by rw[World.frozen?_setCell];exact h.free i⟩;by_cases e:j=i
 · subst e;have hv':v=u:=by rw[List.getElem?_set_self hj] at hv;exact(Option.some.inj hv).symm
   subst hv';exact World.cell?_setCell_same _ _ _ (h.at_ j _ (List.getElem?_eq_getElem hj))
 · rw[List.getElem?_set_ne e] at hv;rw[World.cell?_setCell_other _ _ _ _ (by simp)];exact h.at_ i v hv
theorem Y5 (q:Nat):∀(vs:List Value) (o:Nat) (W:World),(W.setCells q o vs).heap.size=W.heap.size
 | [],_,_=>rfl
 | v::r,o,W=>by rw[World.setCells,Y5 q r];simp[World.setCell]
theorem JY (q:Nat):∀(vs:List Value) (o:Nat) (W:World) (b:Nat),b≠q→(W.setCells q o vs).heap[b]?=W.heap[b]?
 | [],_,_,_,_=>rfl
 | v::r,o,W,b,h=>by rw[World.setCells,JY q r _ _ b h];exact Below.heap_setCell W ⟨q,o,none⟩ v b h
theorem jw (q:Nat):∀(vs:List Value) (o:Nat) (W:World) (B:Nat) (w:World),B≤q→Below B w W→Below B w (W.setCells q o vs)
 | [],_,_,_,_,_,k=>k
 | v::r,o,W,B,w,h,k=>by rw[World.setCells];exact jw q r _ _ B w h (k.setCell (p:=⟨q,o,none⟩) h _)
structure jg9 (q:Nat) (vs:List Value) (W W':World):Prop where
 cells:je q vs W'
 size:W'.heap.size=W.heap.size
 far:∀b,b≠q→W'.heap[b]?=W.heap[b]?
 below:∀B w,B≤q→Below B w W→Below B w W'
theorem zv {q:Nat} {us vs:List Value} {W:World} (h:je q us W) (hl:us.length=vs.length):jg9 q vs W (W.setCells q 0 vs):=by
 refine⟨⟨fun i v hv=>?_,fun i=>by rw[World.frozen?_setCells];exact h.free i⟩,Y5 q vs 0 W,fun b hb=>JY q vs 0 W b hb,fun B w hB k=>jw q vs 0 W B w hB k⟩;have hi:i<vs.length:=(List.getElem?_eq_some_iff.1 hv).1;have:=World.cell?_setCells_in q vs 0 W (fun j hj=>by rw[Nat.zero_add,h.at_ j _ (List.getElem?_eq_getElem (by omega))];rfl) i hi;rw[Nat.zero_add] at this;rw[this];obtain⟨_,e⟩:=List.getElem?_eq_some_iff.1 hv;rw[e]
theorem jbN (n:Nod) (v1 v2 v3:Value) (w:World):Calls Tryz.prog 101 #[zE n v1 v2 v3] w fun e w'=>e=.returned (.string n.name)∧Kept w w':=by
 unfold zE;go_enter Tryz.func101,Tryz.ntmps101;go_wp2;go_ret;exact⟨rfl,ja _ _⟩
theorem jcg (n:Nod) (v1 v2 v3:Value) (p q:Addr) (x:ByteArray) (w:World) (hp:w.cell? p=some (.func (.func 101) #[] #[])) (hq:w.cell? q=some (.string x)) :
 Calls Tryz.prog 167 #[zE n v1 v2 v3,.pointer (some p),.pointer (some q)] w fun e w'=>e=.returned (.bool (eqS n.name x))∧Kept w w':=by
 have HB:=lH (show ∀W,Kept (w.alloc (.cells #[.string n.name,v1,v2,v3,.bool n.cordon] 65)) W→W.cell? p=some (.func (.func 101) #[] #[])∧W.cell? q=some (.string x)∧W.cell? ⟨w.heap.size,0,none⟩=some (.string n.name)∧W.cell? ⟨w.heap.size,1,none⟩=some (v1)∧W.cell? ⟨w.heap.size,2,none⟩=some (v2)∧W.cell? ⟨w.heap.size,3,none⟩=some (v3)∧W.cell? ⟨w.heap.size,4,none⟩=some (.bool n.cordon) from fun W k=>⟨cell_later ((ja _ _).trans k) hp,cell_later ((ja _ _).trans k) hq,(jc w (.string n.name) [v1,v2,v3,.bool n.cordon] 65 W k).at_ 0 _ rfl,(jc w (.string n.name) [v1,v2,v3,.bool n.cordon] 65 W k).at_ 1 _ rfl,(jc w (.string n.name) [v1,v2,v3,.bool n.cordon] 65 W k).at_ 2 _ rfl,(jc w (.string n.name) [v1,v2,v3,.bool n.cordon] 65 W k).at_ 3 _ rfl,(jc w (.string n.name) [v1,v2,v3,.bool n.cordon] 65 W k).at_ 4 _ rfl⟩);have HN:=lH (fun W=>jbN n v1 v2 v3 W);unfold zE at HN ⊢;obtain⟨b,hb⟩:∃b,eqS n.name x=b:=⟨_,rfl⟩
 have t1:(n.name.toList==x.toList)=b:=hb;rw[hb];clear hp hq hb;go_enter Tryz.func167,Tryz.ntmps167;go_wp2;go_region_held3 (fun W=>W.cell? p=some (.func (.func 101) #[] #[])∧W.cell? q=some (.string x)∧W.cell? ⟨w.heap.size,0,none⟩=some (.string n.name)∧W.cell? ⟨w.heap.size,1,none⟩=some (v1)∧W.cell? ⟨w.heap.size,2,none⟩=some (v2)∧W.cell? ⟨w.heap.size,3,none⟩=some (v3)∧W.cell? ⟨w.heap.size,4,none⟩=some (.bool n.cordon))
  (first | exact HB.out _ (Kept.drew _) | exact HB.out _ K1.out)
  (first | (go_at_call 101;refine(HN.out _).mono ?_;rintro e1 w1 ⟨rfl,k1⟩;have K1:=lH ((Kept.drew _).trans k1);clear k1))
 go_wp2;go_ret;exact⟨jd rfl,(ja _ _).trans K1.out⟩
def jm (l:List Nod) (x:ByteArray):Option Nod:=l.find? fun n=>eqS n.name x
def jfM (l:List Nod) (x:ByteArray) (i:Int):Prop:=(∃(k:Nat) (n:Nod),i=(k:Int)∧l[k]?=some n∧jm l x=some n)∨(i=-1∧jm l x=none)
theorem jdn (a:Option Addr) (len cap:Nat) (l:List Nod) (x:ByteArray) (p q:Addr) (w:World) (hr:js w a len l) (hp:w.cell? p=some (.func (.func 101) #[] #[])) (hq:w.cell? q=some (.string x)) :
 Calls Tryz.prog 166 #[.slice a len cap,.func (.func 167) #[] #[.pointer (some p),.pointer (some q)]] w fun e w'=>∃i,e=.returned (.int .i64 i)∧jfM l x i∧Kept w w':=by
 have hl:=hr.1;have hm:=hr.2.1;unfold maxLen at hm;have HL:=lH hl;by_cases h0:len=0
 · subst h0;have hl0:l=[]:=List.eq_nil_of_length_eq_zero hl;have HF:=lH (show jm l x=none by rw[hl0];rfl);clear hr hl hp hq;go_enter Tryz.func166,Tryz.ntmps166;go_wp2;refine wp_loop_rounds 1 ?_;rw[rounds_succ];go_wp2;go_ret;exact⟨-1,rfl,.inr ⟨rfl,HF.out⟩,Kept.refl _⟩
 · obtain⟨b,off,rfl⟩:=hr.form.resolve_left h0;have HR:=lH hr;have HP:=lH hp;have HQ:=lH hq;clear hr hl hp hq h0;go_enter Tryz.func166,Tryz.ntmps166;go_wp2;go_loopw [8] (fun i wr=>∃k:Nat,k≤len∧i=.int .i64 k∧jm (l.drop k) x=jm l x∧Kept w wr) (fun i _=>len-(intOf i).toNat)
   case atStart=>exact⟨0,Nat.zero_le _,rfl,rfl,Kept.refl _⟩
   case round =>
    obtain⟨k,hk,rfl,hrest,hK⟩:=hrel;have HS:=lH hrest;have HK:=lH hK;by_cases hlt:k<len
    · obtain⟨n,a1,m1,c1,a2,m2,c2,a3,m3,c3,hn,hd,hb,p0,p1,p2,p3,p4,hat⟩:=(HR.out.kept hK).at_ hlt;have HN:=lH hn;have HD:=lH hd;have HC:=lH (jcg n (.slice a1 m1 c1) (.slice a2 m2 c2) (.slice a3 m3 c3) p q x wr (cell_later hK HP.out) (cell_later hK HQ.out));unfold zE at HC;obtain⟨t,ht⟩:∃t,eqS n.name x=t:=⟨_,rfl⟩
      have HT:=lH ht;rw[ht] at HC;clear hrest hK hat hd hn ht
      cases t with
      | true =>
       have HF:=lH (show jm l x=some n by rw[←HS.out,HD.out];unfold jm;rw[List.find?_cons,HT.out]);go_wp2_with fail
       refine HC.out.mono ?_;rintro e w1 ⟨rfl,k1⟩;have K1:=lH (HK.out.trans k1);clear k1;go_wp2;go_ret;exact⟨(k:Int),rfl,.inl ⟨k,n,rfl,HN.out,HF.out⟩,K1.out⟩
      | false =>
       have HE:=lH (show jm (l.drop k) x=jm (l.drop (k+1)) x by rw[HD.out];unfold jm;rw[List.find?_cons,HT.out]);go_wp2_with fail
       refine HC.out.mono ?_;rintro e w1 ⟨rfl,k1⟩;have K1:=lH (HK.out.trans k1);clear k1;go_wp2;go_roundw
       case rel=>exact⟨k+1,by omega,by go_num,HE.out.symm.trans HS.out,K1.out⟩
       case measure=>simp[intOf];omega
    · have HF:=lH (show jm l x=none by rw[←hrest,List.drop_of_length_le (by rw[HL.out];omega)];rfl);clear hrest hK;go_wp2;go_ret;exact⟨-1,rfl,.inr ⟨rfl,HF.out⟩,HK.out⟩
theorem jaI (a:Option Addr) (len cap:Nat) (l:List Nod) (x:ByteArray) (w:World) (hr:js w a len l) (hlow:∀n ∈ l,zZ n) :
 Calls Tryz.prog 148 #[.slice a len cap,.string x,.func (.func 101) #[] #[],.func (.func 149) #[] #[]] w fun e w'=>∃v,e=.returned (.tuple #[v,.bool (jm l x).isSome])∧zT w.heap.size w' v ((jm l x).getD Nod.zero)∧Kept w w':=by
 have hmf:=hmfL (P:=Tryz.prog);have hl:=hr.1;have hm:=hr.2.1;unfold maxLen at hm;obtain⟨Z,hZ⟩:∃Z,((w.alloc (.cells #[.string x] 9)).alloc (.cells #[.func (.func 101) #[] #[]] 168)).alloc (.cells #[.string ⟨#[]⟩,.slice none 0 0,.slice none 0 0,.slice none 0 0,.bool false] 65)=Z:=⟨_,rfl⟩
 have hkz:Kept w Z:=by rw[←hZ];exact(jr _ _ _).trans (ja _ _)
 have hzs:Z.heap.size=w.heap.size+3:=by rw[←hZ];simp
 have hq:=(jc w (.string x) [] 9 Z (by rw[←hZ];exact jr _ _ _)).at_ 0 _ rfl;have hp:Z.cell? ⟨w.heap.size+1,0,none⟩=some (.func (.func 101) #[] #[]):=by
  have:=(jc (w.alloc (.cells #[.string x] 9)) (.func (.func 101) #[] #[]) [] 168 Z (by rw[←hZ];exact ja _ _)).at_ 0 _ rfl;rw[World.size_alloc] at this;exact this
 have HQ0:=lH (show je (w.heap.size+2) [.string ⟨#[]⟩,.slice none 0 0,.slice none 0 0,.slice none 0 0,.bool false] Z by
  have:=jc ((w.alloc (.cells #[.string x] 9)).alloc (.cells #[.func (.func 101) #[] #[]] 168)) (.string ⟨#[]⟩) [.slice none 0 0,.slice none 0 0,.slice none 0 0,.bool false] 65 Z (by rw[hZ];exact Kept.refl _);rw[World.size_alloc,World.size_alloc] at this;exact this)
 have HIX:=lH (jdn a len cap l x ⟨w.heap.size+1,0,none⟩ ⟨w.heap.size,0,none⟩ Z (hr.kept hkz) hp hq);have HKZ:=lH hkz;have HZS:=lH hzs;have HR:=lH (hr.kept hkz);have HLOW:=lH hlow;have HL:=lH hl;clear hr hl hlow hkz hq hp hzs;go_enter Tryz.func148,Tryz.ntmps148;go_wp2_with fail
 try rw[hZ]
 clear hZ;refine HIX.out.mono ?_;rintro e w1 ⟨i,rfl,hs,k1⟩;have K1:=lH k1;rcases hs with ⟨k,n9,rfl,hn9,hf⟩ | ⟨rfl,hf⟩
 · have HF:=lH hf;have hkl:k<len:=by have:=(List.getElem?_eq_some_iff.1 hn9).1;rw[HL.out] at this;exact this
   have hk0:decide ((k:Int)<0)=false:=by simp
   have hkk:(k:Int)<(len:Int):=by omega
   obtain⟨b,off,rfl⟩:=HR.out.form.resolve_left (by omega);obtain⟨n,a1,m1,c1,a2,m2,c2,a3,m3,c3,hn,hd,hb,p0,p1,p2,p3,p4,hat⟩:=(HR.out.kept k1).at_ hkl;obtain rfl:n9=n:=by rw[hn9] at hn;exact Option.some.inj hn
   have HLN:=lH (HLOW.out n9 (List.mem_of_getElem? hn9));have HAT:=lH hat;have HQZ:=lH (HQ0.out.kept k1);have HZ1:=lH (show w.heap.size+3≤w1.heap.size by have:=k1.size;rw[HZS.out] at this;exact this);have HOW:=lH (jeN n9 a1 a2 a3 m1 c1 m2 c2 m3 c3 w1 HAT.out HLN.out);clear hn9 hn hd hat hf k1;go_wp2_with fail
   refine HOW.out.mono ?_;rintro e w2 ⟨v,rfl,hn,k2⟩;have HN:=lH hn;have KW:=lH (HKZ.out.trans (K1.out.trans k2));have HQZ:=lH (HQZ.out.kept k2);obtain⟨b1,n1,d1,b2,n2,d2,b3,n3,d3,rfl,-⟩:=hn;obtain⟨z,hz⟩:∃z,n9.name=z:=⟨_,rfl⟩
   obtain⟨cd,hcd⟩:∃z,n9.cordon=z:=⟨_,rfl⟩
   rw[hz,hcd];rw[hz,hcd] at HN;clear k2 p0 p1 p2 p3 p4 hb hkl hk0 hkk;have y0:=HQZ.out.at_ 0 _ rfl;have y1:=HQZ.out.at_ 1 _ rfl;have y2:=HQZ.out.at_ 2 _ rfl;have y3:=HQZ.out.at_ 3 _ rfl;have y4:=HQZ.out.at_ 4 _ rfl;have x0:=HQZ.out.free 0;have x1:=HQZ.out.free 1;have x2:=HQZ.out.free 2;have x3:=HQZ.out.free 3;have x4:=HQZ.out.free 4;have P:=lH (zv (vs:=[.string z,.slice b1 n1 d1,.slice b2 n2 d2,.slice b3 n3 d3,.bool cd]) HQZ.out rfl);clear HQZ;go_wp2;obtain⟨WE,hWE⟩:∃W,w2.setCells (w.heap.size+2) 0 [.string z,.slice b1 n1 d1,.slice b2 n2 d2,.slice b3 n3 d3,.bool cd]=W:=⟨_,rfl⟩
   have hWE2:(((((w2.setCell ⟨(w.heap.size+2),0,none⟩ (.string z)).setCell ⟨(w.heap.size+2),1,none⟩ (.slice b1 n1 d1)).setCell ⟨(w.heap.size+2),2,none⟩ (.slice b2 n2 d2)).setCell ⟨(w.heap.size+2),3,none⟩ (.slice b3 n3 d3)).setCell ⟨(w.heap.size+2),4,none⟩ (.bool cd))=WE:=hWE;rw[hWE] at P;rw[hWE2];clear hWE hWE2;obtain⟨PC,hsz,hbl,hkp⟩:=P.out;refine bodyPost_ret (by simp[results,Tryz.results148,go_sem,PC.at_ 0 _ rfl,PC.at_ 1 _ rfl,PC.at_ 2 _ rfl,PC.at_ 3 _ rfl,PC.at_ 4 _ rfl];try rfl) rfl ?_;rw[HF.out];exact⟨_,rfl,(HN.out.far hsz (fun b hb=>hbl b (by have:=HZ1.out;omega))).less (by have:=HZ1.out;omega),hkp _ _ (by omega) KW.out⟩
 · have HF:=lH hf;have HQZ:=lH (HQ0.out.kept k1);have KW:=lH (HKZ.out.trans k1);clear hf k1;have y0:=HQZ.out.at_ 0 _ rfl;have y1:=HQZ.out.at_ 1 _ rfl;have y2:=HQZ.out.at_ 2 _ rfl;have y3:=HQZ.out.at_ 3 _ rfl;have y4:=HQZ.out.at_ 4 _ rfl;have x0:=HQZ.out.free 0;have x1:=HQZ.out.free 1;have x2:=HQZ.out.free 2;have x3:=HQZ.out.free 3;have x4:=HQZ.out.free 4;have P:=lH (zv (vs:=[.string ⟨#[]⟩,.slice none 0 0,.slice none 0 0,.slice none 0 0,.bool false]) HQZ.out rfl);clear HQZ;go_wp2;obtain⟨WE,hWE⟩:∃W,w1.setCells (w.heap.size+2) 0 [.string ⟨#[]⟩,.slice none 0 0,.slice none 0 0,.slice none 0 0,.bool false]=W:=⟨_,rfl⟩
   have hWE2:(((((w1.setCell ⟨(w.heap.size+2),0,none⟩ (.string ⟨#[]⟩)).setCell ⟨(w.heap.size+2),1,none⟩ (.slice none 0 0)).setCell ⟨(w.heap.size+2),2,none⟩ (.slice none 0 0)).setCell ⟨(w.heap.size+2),3,none⟩ (.slice none 0 0)).setCell ⟨(w.heap.size+2),4,none⟩ (.bool false))=WE:=hWE;rw[hWE] at P;rw[hWE2];clear hWE hWE2;obtain⟨PC,hsz,hbl,hkp⟩:=P.out;refine bodyPost_ret (by simp[results,Tryz.results148,go_sem,PC.at_ 0 _ rfl,PC.at_ 1 _ rfl,PC.at_ 2 _ rfl,PC.at_ 3 _ rfl,PC.at_ 4 _ rfl];try rfl) rfl ?_;rw[HF.out];exact⟨_,rfl,YO _ _,hkp _ _ (by omega) KW.out⟩
theorem jdQ (a:Option Addr) (len cap:Nat) (l:List Nod) (x:ByteArray) (w:World) (hr:js w a len l) (hlow:∀n ∈ l,zZ n) :
 Calls Tryz.prog 109 #[.slice a len cap,.string x] w fun e w'=>∃v,e=.returned (.tuple #[v,.bool (jm l x).isSome])∧zT w.heap.size w' v ((jm l x).getD Nod.zero)∧Kept w w':=by
 obtain⟨Z,hZ⟩:∃Z,w.alloc (.cells #[.string ⟨#[]⟩,.slice none 0 0,.slice none 0 0,.slice none 0 0,.bool false] 65)=Z:=⟨_,rfl⟩
 have hkz:Kept w Z:=by rw[←hZ];exact ja _ _
 have hzs:Z.heap.size=w.heap.size+1:=by rw[←hZ];simp
 have HQ0:=lH (show je w.heap.size [.string ⟨#[]⟩,.slice none 0 0,.slice none 0 0,.slice none 0 0,.bool false] Z from jc w (.string ⟨#[]⟩) [.slice none 0 0,.slice none 0 0,.slice none 0 0,.bool false] 65 Z (by rw[hZ];exact Kept.refl _));have HRF:=lH (jaI a len cap l x Z (hr.kept hkz) hlow);have HKZ:=lH hkz;have HZS:=lH hzs;obtain⟨n9,hn9⟩:∃n,(jm l x).getD Nod.zero=n:=⟨_,rfl⟩
 obtain⟨is,his⟩:∃n,(jm l x).isSome=n:=⟨_,rfl⟩
 rw[hn9,his] at HRF;rw[hn9,his];clear hr hlow hkz hzs hn9 his;go_enter Tryz.func109,Tryz.ntmps109;go_wp2_with fail
 try rw[hZ]
 clear hZ;refine HRF.out.mono ?_;rintro e w1 ⟨v,rfl,hn,k1⟩;have HN:=lH hn;have HQZ:=lH (HQ0.out.kept k1);have KW:=lH (HKZ.out.trans k1);obtain⟨b1,n1,d1,b2,n2,d2,b3,n3,d3,rfl,-⟩:=hn;obtain⟨z,hz⟩:∃z,n9.name=z:=⟨_,rfl⟩
 obtain⟨cd,hcd⟩:∃z,n9.cordon=z:=⟨_,rfl⟩
 rw[hz,hcd];rw[hz,hcd] at HN;clear k1;have y0:=HQZ.out.at_ 0 _ rfl;have y1:=HQZ.out.at_ 1 _ rfl;have y2:=HQZ.out.at_ 2 _ rfl;have y3:=HQZ.out.at_ 3 _ rfl;have y4:=HQZ.out.at_ 4 _ rfl;have x0:=HQZ.out.free 0;have x1:=HQZ.out.free 1;have x2:=HQZ.out.free 2;have x3:=HQZ.out.free 3;have x4:=HQZ.out.free 4;have P:=lH (zv (vs:=[.string z,.slice b1 n1 d1,.slice b2 n2 d2,.slice b3 n3 d3,.bool cd]) HQZ.out rfl);clear HQZ;go_wp2;obtain⟨WE,hWE⟩:∃W,w1.setCells w.heap.size 0 [.string z,.slice b1 n1 d1,.slice b2 n2 d2,.slice b3 n3 d3,.bool cd]=W:=⟨_,rfl⟩
 have hWE2:(((((w1.setCell ⟨w.heap.size,0,none⟩ (.string z)).setCell ⟨w.heap.size,1,none⟩ (.slice b1 n1 d1)).setCell ⟨w.heap.size,2,none⟩ (.slice b2 n2 d2)).setCell ⟨w.heap.size,3,none⟩ (.slice b3 n3 d3)).setCell ⟨w.heap.size,4,none⟩ (.bool cd))=WE:=hWE;rw[hWE] at P;rw[hWE2];clear hWE hWE2;obtain⟨PC,hsz,hbl,hkp⟩:=P.out;refine bodyPost_ret (by simp[results,Tryz.results109,go_sem,PC.at_ 0 _ rfl,PC.at_ 1 _ rfl,PC.at_ 2 _ rfl,PC.at_ 3 _ rfl,PC.at_ 4 _ rfl];try rfl) rfl ?_;exact⟨_,rfl,(HN.out.far hsz (fun b hb=>hbl b (by have:=HZS.out;omega))).less (by have:=HZS.out;omega),hkp _ _ (Nat.le_refl _) KW.out⟩
def zn:Option ByteArray→List Nod→Int
 | _,[]=>0
 | prev,n::t=>if zH n≠0 then zH n else if Vec.jz prev n.name=true then 13 else zn (some n.name) t
def jU (l:List Nod):Int:=if 32<l.length then 4 else zn none l
def Z1 (l:List Nod) (k:Nat):Option ByteArray:=if k=0 then none else (l[k-1]?).map Nod.name
theorem jc4 {l:List Nod} {k:Nat} (h:k=0) (s:ByteArray):Vec.jz (Z1 l k) s=false:=by unfold Z1;rw[if_pos h];rfl
theorem jc8 {l:List Nod} {k:Nat} {n:Nod} (h:¬k=0) (hn:l[k-1]?=some n) (s:ByteArray):Vec.jz (Z1 l k) s=leS s n.name:=by unfold Z1;rw[if_neg h,hn];rfl
theorem jc2 {l:List Nod} {k:Nat} {n:Nod} (hn:l[k]?=some n):Z1 l (k+1)=some n.name:=by unfold Z1;rw[if_neg (by omega),Nat.add_sub_cancel,hn];rfl
theorem jaR {p:Option ByteArray} {n:Nod} {t:List Nod} (h:zH n≠0):zn p (n::t)=zH n:=by rw[zn,if_pos h]
theorem qE {p:Option ByteArray} {n:Nod} {t:List Nod} (h:zH n=0) (b:Vec.jz p n.name=true):zn p (n::t)=13:=by rw[zn,if_neg (by rw[h];decide),if_pos b]
theorem Xm {p:Option ByteArray} {n:Nod} {t:List Nod} (h:zH n=0) (b:Vec.jz p n.name=false):zn p (n::t)=zn (some n.name) t:=by rw[zn,if_neg (by rw[h];decide),if_neg (by rw[b];decide)]
theorem jaA (a:Option Addr) (len cap:Nat) (l:List Nod) (w:World) (hr:js w a len l) :
 Calls Tryz.prog 56 #[.slice a len cap] w (Say (.int .i64 (jU l)) w):=by
 have hl:=hr.1;have hm:=hr.2.1;unfold maxLen at hm;by_cases h32:32<len
 · have HV:=lH (show jU l=4 by unfold jU;rw[if_pos (by omega)]);clear hr hl;go_enter Tryz.func56,Tryz.ntmps56;go_wp2;go_ret;exact⟨jb HV.out.symm,Kept.refl _⟩
 · have HV:=lH (show jU l=zn none l by unfold jU;rw[if_neg (by omega)]);have h32':len≤32:=by omega
   by_cases h0:len=0
   · subst h0;have HE:=lH (show jU l=0 by rw[HV.out,List.eq_nil_of_length_eq_zero hl];rfl);clear hr hl h32;go_enter Tryz.func56,Tryz.ntmps56;go_wp2;refine wp_loop_rounds 1 ?_;rw[rounds_succ];go_wp2;go_ret;exact⟨jb HE.out.symm,Kept.refl _⟩
   · obtain⟨b,off,rfl⟩:=hr.form.resolve_left h0;have HR:=lH hr;have HL:=lH hl;clear hr hl h0 h32;go_enter Tryz.func56,Tryz.ntmps56;go_wp2;go_loopw [3] (fun i wr=>∃k:Nat,k≤len∧i=.int .i64 k∧zn (Z1 l k) (l.drop k)=zn none l∧Kept w wr) (fun i _=>len-(intOf i).toNat)
     case atStart=>exact⟨0,Nat.zero_le _,rfl,rfl,Kept.refl _⟩
     case round =>
      obtain⟨k,hk,rfl,hrest,hK⟩:=hrel;have HS:=lH (HV.out.trans hrest.symm);have HT:=lH hrest;have HK:=lH hK;by_cases hlt:k<len
      · obtain⟨n,a1,m1,c1,a2,m2,c2,a3,m3,c3,hn,hd,hb,p0,p1,p2,p3,p4,hat⟩:=(HR.out.kept hK).at_ hlt;have HAT:=lH hat;have HD:=lH hd;have HNX:=lH (jc2 hn);have HCK:=lH (fun W (kk:Kept wr W)=>jb5 n (.slice a1 m1 c1) (.slice a2 m2 c2) (.slice a3 m3 c3) W (HAT.out.kept kk));unfold zE at HCK;obtain⟨ck,hck⟩:∃x,zH n=x:=⟨_,rfl⟩
        have HCN:=lH hck;rw[hck] at HCK;have hkk:(k:Int)<(len:Int):=by omega
        clear hrest hK hat hd hck;by_cases z1:ck=0
        · subst z1;by_cases h0:k=0
          · have hd0:decide (0<k)=false:=by subst h0;decide
            have HP:=lH (jc4 (l:=l) h0 n.name);clear h0;go_wp2_with fail
            refine(HCK.out _ (Kept.refl _)).mono ?_;rintro e w1 ⟨rfl,kk⟩;have KW:=lH kk;clear kk;go_wp2;go_quiet (fail)
            go_wp2;go_roundw
            case rel=>exact⟨k+1,by omega,by go_num,(show zn (Z1 l (k+1)) (l.drop (k+1))=zn none l by rw[←HT.out,HD.out,Xm HCN.out HP.out,HNX.out]),HK.out.trans (KW.out.trans (Kept.drewN _ _))⟩
            case measure=>simp[intOf];omega
          · have hd0:decide (0<k)=true:=by simp;omega
            have g1:0≤(k:Int)-1:=by omega
            have g2:(k:Int)-1<(len:Int):=by omega
            have g3:((k:Int)-1).toNat=k-1:=by omega
            obtain⟨n9,_,_,_,_,_,_,_,_,_,hn9,-,hb9,o0,-⟩:=(HR.out.kept HK.out).at_ (show k-1<len by omega);have HP:=lH (jc8 (l:=l) h0 hn9 n.name);clear h0 hn9;by_cases n3:leS n.name n9.name=true
            · have n3':(Op.bytesLess n.name.toList n9.name.toList||n.name.toList==n9.name.toList)=true:=n3;have N3:=lH n3;clear n3;go_wp2_with fail
              refine(HCK.out _ (Kept.refl _)).mono ?_;rintro e w1 ⟨rfl,kk⟩;have KW:=lH kk;have o1:=cell_later kk o0;have p9:=cell_later kk p0;clear kk;go_wp2;go_quiet (fail)
              go_wp2;go_ret;exact⟨jb (show (13:Int)=jU l by rw[HS.out,HD.out,qE HCN.out (HP.out.trans N3.out)]),HK.out.trans (KW.out.trans (Kept.drewN _ _))⟩
            · have n3:leS n.name n9.name=false:=by simpa using n3
              have n3':(Op.bytesLess n.name.toList n9.name.toList||n.name.toList==n9.name.toList)=false:=n3;have N3:=lH n3;clear n3;go_wp2_with fail
              refine(HCK.out _ (Kept.refl _)).mono ?_;rintro e w1 ⟨rfl,kk⟩;have KW:=lH kk;have o1:=cell_later kk o0;have p9:=cell_later kk p0;clear kk;go_wp2;go_quiet (fail)
              go_wp2;go_roundw
              case rel=>exact⟨k+1,by omega,by go_num,(show zn (Z1 l (k+1)) (l.drop (k+1))=zn none l by rw[←HT.out,HD.out,Xm HCN.out (HP.out.trans N3.out),HNX.out]),HK.out.trans (KW.out.trans (Kept.drewN _ _))⟩
              case measure=>simp[intOf];omega
        · have z1':(ck != 0)=true:=by simpa using z1
          have HB:=lH (show jU l=ck by rw[HS.out,HD.out,jaR (by rw[HCN.out];exact z1),HCN.out]);clear z1;go_wp2_with fail
          refine(HCK.out _ (Kept.refl _)).mono ?_;rintro e w1 ⟨rfl,kk⟩;have KW:=lH kk;clear kk;go_wp2;go_ret;exact⟨jb HB.out.symm,HK.out.trans KW.out⟩
      · have HE:=lH (show jU l=0 by rw[HS.out,List.drop_of_length_le (by rw[HL.out];omega)];rfl);clear hrest hK;go_wp2;go_ret;exact⟨jb HE.out.symm,HK.out⟩
theorem jdf {v:Value} {l:List Nod} {c:Int} {w:World} (h:zM w v l) (hc:jU l=c):Calls Tryz.prog 56 #[v] w (Say (.int .i64 c) w):=by
 subst hc;obtain⟨a,cap,rfl,_,_,hr⟩:=h;exact jaA a _ cap l w hr
def zU (x:NT):Bool:=decide (x.1.size≤50)&&decide (x.2.1.size≤50)
def Jl (l:NL):Bool:=decide (l.length≤20)&&l.all zU
theorem jfs (a:Option Addr) (len cap:Nat) (l:NL) (w:World) (hr:jk ju w a len l) :
 Calls Tryz.prog 95 #[.slice a len cap] w fun e w'=>e=.returned (.bool (Jl l))∧w=w':=by
 have hl:=hr.1;have hm:=hr.2.1;unfold maxLen at hm;by_cases h20:len≤20
 · have HV:=lH (show Jl l=l.all zU by unfold Jl;rw[decide_eq_true (by omega)];rfl);rcases hr.form with h0 | ⟨b,off,rfl⟩
   · subst h0;have HE:=lH (show Jl l=true by rw[HV.out,List.eq_nil_of_length_eq_zero hl];rfl);clear hr hl;go_enter Tryz.func95,Tryz.ntmps95;go_wp2;refine wp_loop_rounds 1 ?_;rw[rounds_succ];go_wp2;go_ret;exact⟨jd HE.out.symm,rfl⟩
   · have HR:=lH hr;have HL:=lH hl;clear hr hl;go_enter Tryz.func95,Tryz.ntmps95;go_wp2;go_loop [3] (fun i=>∃k:Nat,k≤len∧i=.int .i64 k∧(l.drop k).all zU=l.all zU) (fun i=>len-(intOf i).toNat)
     case atStart=>exact⟨0,Nat.zero_le _,rfl,rfl⟩
     case round =>
      obtain⟨k,hk,rfl,hrest⟩:=hrel;by_cases hlt:k<len
      · obtain⟨x,y,m,hx,hd,hb,hz,hz2,c1,c2,c3⟩:=HR.out.tri hlt;have HT:=lH (hrest.symm.trans ((congrArg (fun z=>z.all zU) hd).trans (all_cons _ _ _)));clear hrest hx hd;unfold maxLen at hz hz2;by_cases e:x.size≤50
        · by_cases e2:y.size≤50
          · have E:=lH (show zU (x,y,m)=true by unfold zU;rw[decide_eq_true e,decide_eq_true e2];rfl);go_wp2;go_round
            case rel=>exact⟨k+1,by omega,by go_num,(HT.out.trans (by rw[E.out];exact Bool.true_and _)).symm⟩
            case measure=>simp[intOf];omega
          · have E:=lH (show zU (x,y,m)=false by unfold zU;rw[decide_eq_false e2];exact Bool.and_false _);have e2':50<y.size:=by omega
            clear e2;go_wp2;go_ret;exact⟨jd (HV.out.trans (HT.out.trans (by rw[E.out];exact Bool.false_and _))).symm,rfl⟩
        · have E:=lH (show zU (x,y,m)=false by unfold zU;rw[decide_eq_false e];exact Bool.false_and _);have e':50<x.size:=by omega
          clear e;go_wp2;go_ret;exact⟨jd (HV.out.trans (HT.out.trans (by rw[E.out];exact Bool.false_and _))).symm,rfl⟩
      · have HS:=lH ((HV.out.trans hrest.symm).trans (congrArg (fun z=>z.all zU) (zQ (by rw[HL.out];exact hlt))));clear hrest;go_wp2;go_ret;exact⟨jd (HS.out.trans rfl).symm,rfl⟩
 · have HV:=lH (show Jl l=false by unfold Jl;rw[decide_eq_false (by omega)];rfl);have h9:20<len:=by omega
   clear h20 hr hl;go_enter Tryz.func95,Tryz.ntmps95;go_wp2;go_ret;exact⟨jd HV.out.symm,rfl⟩
theorem jeQ (a:Option Addr) (len cap:Nat) (l:NL) (w:World) (hr:jk ju w a len l) :
 Calls Tryz.prog 28 #[.slice a len cap] w fun e w'=>e=.returned (.bool (Jl l))∧w=w':=by
 have hl:=hr.1;have hm:=hr.2.1;unfold maxLen at hm;by_cases h20:len≤20
 · have HV:=lH (show Jl l=l.all zU by unfold Jl;rw[decide_eq_true (by omega)];rfl);rcases hr.form with h0 | ⟨b,off,rfl⟩
   · subst h0;have HE:=lH (show Jl l=true by rw[HV.out,List.eq_nil_of_length_eq_zero hl];rfl);clear hr hl;go_enter Tryz.func28,Tryz.ntmps28;go_wp2;refine wp_loop_rounds 1 ?_;rw[rounds_succ];go_wp2;go_ret;exact⟨jd HE.out.symm,rfl⟩
   · have HR:=lH hr;have HL:=lH hl;clear hr hl;go_enter Tryz.func28,Tryz.ntmps28;go_wp2;go_loop [3] (fun i=>∃k:Nat,k≤len∧i=.int .i64 k∧(l.drop k).all zU=l.all zU) (fun i=>len-(intOf i).toNat)
     case atStart=>exact⟨0,Nat.zero_le _,rfl,rfl⟩
     case round =>
      obtain⟨k,hk,rfl,hrest⟩:=hrel;by_cases hlt:k<len
      · obtain⟨x,y,m,hx,hd,hb,hz,hz2,c1,c2,c3⟩:=HR.out.tri hlt;have HT:=lH (hrest.symm.trans ((congrArg (fun z=>z.all zU) hd).trans (all_cons _ _ _)));clear hrest hx hd;unfold maxLen at hz hz2;by_cases e:x.size≤50
        · by_cases e2:y.size≤50
          · have E:=lH (show zU (x,y,m)=true by unfold zU;rw[decide_eq_true e,decide_eq_true e2];rfl);go_wp2;go_round
            case rel=>exact⟨k+1,by omega,by go_num,(HT.out.trans (by rw[E.out];exact Bool.true_and _)).symm⟩
            case measure=>simp[intOf];omega
          · have E:=lH (show zU (x,y,m)=false by unfold zU;rw[decide_eq_false e2];exact Bool.and_false _);have e2':50<y.size:=by omega
            clear e2;go_wp2;go_ret;exact⟨jd (HV.out.trans (HT.out.trans (by rw[E.out];exact Bool.false_and _))).symm,rfl⟩
        · have E:=lH (show zU (x,y,m)=false by unfold zU;rw[decide_eq_false e];exact Bool.false_and _);have e':50<x.size:=by omega
          clear e;go_wp2;go_ret;exact⟨jd (HV.out.trans (HT.out.trans (by rw[E.out];exact Bool.false_and _))).symm,rfl⟩
      · have HS:=lH ((HV.out.trans hrest.symm).trans (congrArg (fun z=>z.all zU) (zQ (by rw[HL.out];exact hlt))));clear hrest;go_wp2;go_ret;exact⟨jd (HS.out.trans rfl).symm,rfl⟩
 · have HV:=lH (show Jl l=false by unfold Jl;rw[decide_eq_false (by omega)];rfl);have h9:20<len:=by omega
   clear h20 hr hl;go_enter Tryz.func28,Tryz.ntmps28;go_wp2;go_ret;exact⟨jd HV.out.symm,rfl⟩
theorem jgK {v:Value} {l:NL} {w:World} (h:Reads ju w v l):Calls Tryz.prog 95 #[v] w fun e w'=>e=.returned (.bool (Jl l))∧w=w':=by
 obtain⟨a,cap,rfl,_,_,hr⟩:=h;exact jfs a _ cap l w hr
theorem jgT {v:Value} {l:NL} {w:World} (h:Reads ju w v l):Calls Tryz.prog 28 #[v] w fun e w'=>e=.returned (.bool (Jl l))∧w=w':=by
 obtain⟨a,cap,rfl,_,_,hr⟩:=h;exact jeQ a _ cap l w hr
theorem jcB {s:NL} (h:Jl s=true):s.length≤20∧∀x ∈ s,x.1.size≤50∧x.2.1.size≤50:=by
 unfold Jl at h;simp only[Bool.and_eq_true,decide_eq_true_eq,List.all_eq_true] at h;refine⟨h.1,fun x hx=>?_⟩;have:=h.2 x hx;unfold zU at this;simpa using this
end Go.Proofs.YtgfoenfaohhjcabGreat
