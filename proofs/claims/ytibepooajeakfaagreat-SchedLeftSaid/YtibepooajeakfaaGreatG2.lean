/- C. -/
import Derived.Test.YtibepooajeakfaaGreatG0
import Derived.Test.YtibepooajeakfaaGreatG1
import Derived.Handy
import Derived.Deep.CutRange
import Derived.Deep.AppendSrc
import Derived.Deep.DeepAppendWide
set_option linter.unusedVariables false
set_option maxRecDepth 100000
set_option maxHeartbeats 25600000
namespace Go.Proofs.YtibepooajeakfaaGreat
open Go.RowKit Go.Sort
theorem jdu (a:Option Addr) (len cap:Nat) (l:NL) (w:World) (hr:jn jz w a len l) :
 Calls Tryz.prog 163 #[.slice a len cap] w fun e w'=>e=.returned (.int .i64 (ZY l))∧Kept w w':=by
 have hl:=hr.1;have hm:=hr.2.1;unfold maxLen at hm;by_cases h8:len≤8
 · have HV:=lH (show ZY l=if l.all Jz=true then 0 else 3 by unfold ZY;rw[if_neg (by omega)]);rcases hr.form with h0 | ⟨b,off,rfl⟩
   · subst h0;have HE:=lH (show ZY l=0 by rw[HV.out];rw[List.eq_nil_of_length_eq_zero hl];rfl);clear hr hl;go_enter Tryz.func163,Tryz.ntmps163;go_wp2;refine wp_loop_rounds 1 ?_;rw[rounds_succ];go_wp2;go_ret;exact⟨jc HE.out.symm,Kept.refl _⟩
   · have HR:=lH hr;have HL:=lH hl;clear hr hl;go_enter Tryz.func163,Tryz.ntmps163;go_wp2;go_loopw [3] (fun i wr=>∃k:Nat,k≤len∧i=.int .i64 k∧(l.drop k).all Jz=l.all Jz∧Kept w wr) (fun i _=>len-(intOf i).toNat)
     case atStart=>exact⟨0,Nat.zero_le _,rfl,rfl,Kept.refl _⟩
     case round =>
      obtain⟨k,hk,rfl,hrest,hK⟩:=hrel;by_cases hlt:k<len
      · obtain⟨x,y,m,hx,hd,hb,hz,hz2,c1,c2,c3⟩:=(HR.out.kept hK).tri hlt;have HK:=lH hK;have HS:=lH (hrest.symm.trans ((congrArg (fun z=>z.all Jz) hd).trans jjq));obtain⟨q0,hq0⟩:=eX ((x.toList==([]:List UInt8)))
        obtain⟨q2,hq2⟩:=eX ((y.toList==([]:List UInt8)))
        obtain⟨n1,hn1⟩:=eX (isName x)
        obtain⟨n2,hn2⟩:=eX (isName y)
        have HN:=lH (show Jz (x,y,m)=((q0||n1)&&(if m=true then q2 else n2)) by unfold Jz;rw[ZN,ZN,hq0,hq2,hn1,hn2]);clear hK hrest hx hd
        cases q0 with
        | true =>
         cases m with
         | true =>
          cases q2 with
          | true =>
           have HQ:=lH (show Jz (x,y,true)=true by rw[HN.out];rfl);go_wp2_with (go_at_call 158;refine(jo _ _ (by assumption)).mono ?_;rintro e w' ⟨rfl,rfl⟩)
           go_roundw
           case rel=>exact⟨k+1,by omega,by go_num,(HS.out.trans (by rw[HQ.out];exact Bool.true_and _)).symm,HK.out.trans (ja _ _)⟩
           case measure=>simp[intOf];omega
          | false =>
           have HQ:=lH (show ZY l=3 by rw[HV.out,HS.out,HN.out];rfl);go_wp2_with (go_at_call 158;refine(jo _ _ (by assumption)).mono ?_;rintro e w' ⟨rfl,rfl⟩)
           go_ret;exact⟨jc HQ.out.symm,HK.out.trans (ja _ _)⟩
         | false =>
          cases n2 with
          | true =>
           have HQ:=lH (show Jz (x,y,false)=true by rw[HN.out];rfl);go_wp2_with (go_at_call 158;refine(jo _ _ (by assumption)).mono ?_;rintro e w' ⟨rfl,rfl⟩)
           go_roundw
           case rel=>exact⟨k+1,by omega,by go_num,(HS.out.trans (by rw[HQ.out];exact Bool.true_and _)).symm,HK.out.trans (ja _ _)⟩
           case measure=>simp[intOf];omega
          | false =>
           have HQ:=lH (show ZY l=3 by rw[HV.out,HS.out,HN.out];rfl);go_wp2_with (go_at_call 158;refine(jo _ _ (by assumption)).mono ?_;rintro e w' ⟨rfl,rfl⟩)
           go_ret;exact⟨jc HQ.out.symm,HK.out.trans (ja _ _)⟩
        | false =>
         cases n1 with
         | true =>
          cases m with
          | true =>
           cases q2 with
           | true =>
            have HQ:=lH (show Jz (x,y,true)=true by rw[HN.out];rfl);go_wp2_with (go_at_call 158;refine(jo _ _ (by assumption)).mono ?_;rintro e w' ⟨rfl,rfl⟩)
            go_roundw
            case rel=>exact⟨k+1,by omega,by go_num,(HS.out.trans (by rw[HQ.out];exact Bool.true_and _)).symm,HK.out.trans (ja _ _)⟩
            case measure=>simp[intOf];omega
           | false =>
            have HQ:=lH (show ZY l=3 by rw[HV.out,HS.out,HN.out];rfl);go_wp2_with (go_at_call 158;refine(jo _ _ (by assumption)).mono ?_;rintro e w' ⟨rfl,rfl⟩)
            go_ret;exact⟨jc HQ.out.symm,HK.out.trans (ja _ _)⟩
          | false =>
           cases n2 with
           | true =>
            have HQ:=lH (show Jz (x,y,false)=true by rw[HN.out];rfl);go_wp2_with (go_at_call 158;refine(jo _ _ (by assumption)).mono ?_;rintro e w' ⟨rfl,rfl⟩)
            go_roundw
            case rel=>exact⟨k+1,by omega,by go_num,(HS.out.trans (by rw[HQ.out];exact Bool.true_and _)).symm,HK.out.trans (ja _ _)⟩
            case measure=>simp[intOf];omega
           | false =>
            have HQ:=lH (show ZY l=3 by rw[HV.out,HS.out,HN.out];rfl);go_wp2_with (go_at_call 158;refine(jo _ _ (by assumption)).mono ?_;rintro e w' ⟨rfl,rfl⟩)
            go_ret;exact⟨jc HQ.out.symm,HK.out.trans (ja _ _)⟩
         | false =>
          have HQ:=lH (show ZY l=3 by rw[HV.out,HS.out,HN.out];rfl);go_wp2_with (go_at_call 158;refine(jo _ _ (by assumption)).mono ?_;rintro e w' ⟨rfl,rfl⟩)
          go_ret;exact⟨jc HQ.out.symm,HK.out.trans (ja _ _)⟩
      · have HK:=lH hK;have HS:=lH (hrest.symm.trans (congrArg (fun z=>z.all Jz) (zZ (by rw[HL.out];exact hlt))));have HF:=lH (show ZY l=0 by rw[HV.out,HS.out];rfl);clear hK hrest;go_wp2;go_ret;exact⟨jc HF.out.symm,HK.out⟩
 · have HV:=lH (show ZY l=4 by unfold ZY;rw[if_pos (by omega)]);have h9:8<len:=by omega
   clear h8 hr hl;go_enter Tryz.func163,Tryz.ntmps163;go_wp2;go_ret;exact⟨jc HV.out.symm,Kept.refl _⟩
theorem jhC {l:NL} {k j:Nat} {t z:NT} (hj:j<k) (hz:l[j]?=some z) (h:Ya t z=true):(l.take k).any (Ya t)=true:=by
 rw[List.any_eq_true];refine⟨z,List.mem_of_getElem? (i:=j) ?_,h⟩;rw[List.getElem?_take,if_pos hj];exact hz
theorem jcO {l:NL} {j:Nat} {t z:NT} (hz:l[j]?=some z) (h:(l.take j).any (Ya t)=false) (g:Ya t z=false):(l.take (j+1)).any (Ya t)=false:=by
 rw[zF hz,List.any_append,h];simp[g]
theorem jdE (a:Option Addr) (len cap:Nat) (l:NL) (w:World) (hr:jn jz w a len l) :
 Calls Tryz.prog 161 #[.slice a len cap] w fun e w'=>e=.returned (.int .i64 (qd l))∧Kept w w':=by
 have hl:=hr.1;have hm:=hr.2.1;unfold maxLen at hm;by_cases h8:len≤8
 · have HV:=lH (show qd l=Zk [] l by unfold qd;rw[if_neg (by omega)]);rcases hr.form with h0 | ⟨b,off,rfl⟩
   · subst h0;have HE:=lH (show qd l=0 by rw[HV.out];rw[List.eq_nil_of_length_eq_zero hl];rfl);clear hr hl;go_enter Tryz.func161,Tryz.ntmps161;go_wp2;refine wp_loop_rounds 1 ?_;rw[rounds_succ];go_wp2;go_ret;exact⟨jc HE.out.symm,Kept.refl _⟩
   · have HR:=lH hr;have HL:=lH hl;clear hr hl;go_enter Tryz.func161,Tryz.ntmps161;go_wp2;go_loopw [3] (fun i wr=>∃k:Nat,k≤len∧i=.int .i64 k∧Zk (l.take k) (l.drop k)=Zk [] l∧Kept w wr) (fun i _=>len-(intOf i).toNat)
     case atStart=>exact⟨0,Nat.zero_le _,rfl,rfl,Kept.refl _⟩
     case round =>
      obtain⟨k,hk,rfl,hrest,hK⟩:=hrel;by_cases hlt:k<len
      · obtain⟨x,y,m,hx,hd,hb,hz,hz2,c1,c2,c3⟩:=(HR.out.kept hK).tri hlt;obtain⟨HX,HK,HT⟩:=lH3 hx hK (hrest.symm.trans (congrArg (Zk (l.take k)) hd));have HS:=lH (HV.out.trans HT.out);clear hK hrest hx hd;by_cases n1:isName x=true
        · by_cases n2:isName y=true
          · have N1:=lH n1;have N2:=lH n2;go_wp2_with (go_at_call 158;refine(jo _ _ (by assumption)).mono ?_;rintro e w' ⟨rfl,rfl⟩)
            go_loopw [4] (fun i wr2=>∃j:Nat,j≤k∧i=.int .i64 j∧(l.take j).any (Ya (x,y,m))=false∧Kept w wr2) (fun i _=>k-(intOf i).toNat)
            case atStart=>exact⟨0,Nat.zero_le _,rfl,rfl,HK.out⟩
            case round =>
             obtain⟨j,hj,rfl,hnone,hK2⟩:=hrel;have VR:=lH hK2;have Ug:=lH hnone;by_cases hjk:j<k
             · obtain⟨x',y',m',hx',_,hb',_,_,d1,d2,d3⟩:=(HR.out.kept hK2).tri (show j<len by omega);obtain⟨x9,y9,m9,hx9,_,_,_,_,e1,e2,e3⟩:=(HR.out.kept hK2).tri hlt;obtain⟨rfl,rfl,rfl⟩:x=x9∧y=y9∧m=m9:=by rw[HX.out] at hx9;simpa using hx9
               have HX':=lH hx';obtain⟨q1,hq1⟩:=eX ((x'.toList==x.toList))
               obtain⟨q2,hq2⟩:=eX ((y'.toList==y.toList))
               have Ua:=lH (show Ya (x,y,m) (x',y',m')=(q1&&q2) by unfold Ya eqS;rw[hq1,hq2]);have hjl:(j:Int)<(len:Int):=by omega
               clear hx9 hx' hnone hK2
               cases q1 with
               | true =>
                cases q2 with
                | true =>
                 go_wp2_with fail
                 go_quiet (fail)
                 go_wp2;go_ret;exact⟨jc (HS.out.trans (jgQ N1.out N2.out (jhC hjk HX'.out Ua.out))).symm,VR.out.trans (Kept.drewN _ _)⟩
                | false =>
                 go_wp2_with fail
                 go_quiet (fail)
                 go_wp2;go_roundw
                 case rel=>exact⟨j+1,by omega,by go_num,jcO HX'.out Ug.out Ua.out,VR.out.trans (Kept.drewN _ _)⟩
                 case measure=>simp[intOf];omega
               | false =>
                go_wp2_with fail
                go_quiet (fail)
                go_wp2;go_roundw
                case rel=>exact⟨j+1,by omega,by go_num,jcO HX'.out Ug.out Ua.out,VR.out.trans (Kept.drewN _ _)⟩
                case measure=>simp[intOf];omega
             · obtain rfl:j=k:=by omega
               clear hnone hK2;go_wp2;go_roundw
               case rel=>exact⟨j+1,by omega,by go_num,by rw[zF HX.out];exact(jiN N1.out N2.out Ug.out).symm.trans HT.out.symm,VR.out⟩
               case measure=>simp[intOf];omega
          · have n2:isName y=false:=by simpa using n2
            have N:=lH (show (isName x&&isName y)=false by rw[n2,Bool.and_false]);go_wp2_with (go_at_call 158;refine(jo _ _ (by assumption)).mono ?_;rintro e w' ⟨rfl,rfl⟩)
            go_ret;exact⟨jc (HS.out.trans (jc4 N.out)).symm,HK.out⟩
        · have n1:isName x=false:=by simpa using n1
          have N:=lH (show (isName x&&isName y)=false by rw[n1,Bool.false_and]);go_wp2_with (go_at_call 158;refine(jo _ _ (by assumption)).mono ?_;rintro e w' ⟨rfl,rfl⟩)
          go_ret;exact⟨jc (HS.out.trans (jc4 N.out)).symm,HK.out⟩
      · have HK:=lH hK;have HS:=lH ((HV.out.trans hrest.symm).trans (congrArg (Zk (l.take k)) (zZ (by rw[HL.out];exact hlt))));clear hK hrest;go_wp2;go_ret;exact⟨jc (HS.out.trans rfl).symm,HK.out⟩
 · have HV:=lH (show qd l=4 by unfold qd;rw[if_pos (by omega)]);have h9:8<len:=by omega
   clear h8 hr hl;go_enter Tryz.func161,Tryz.ntmps161;go_wp2;go_ret;exact⟨jc HV.out.symm,Kept.refl _⟩
theorem jhu {v:Value} {l:NL} {c:Int} {w:World} (h:Reads jz w v l) (hc:qd l=c):Calls Tryz.prog 161 #[v] w (Say (.int .i64 c) w):=by
 obtain⟨a,cap,rfl,_,_,hr⟩:=h;exact(jdE a _ cap l w hr).mono fun e w' ⟨he,k⟩=>⟨by rw[he,hc],k⟩
theorem jhU {v:Value} {l:NL} {c:Int} {w:World} (h:Reads jz w v l) (hc:ZY l=c):Calls Tryz.prog 163 #[v] w (Say (.int .i64 c) w):=by
 obtain⟨a,cap,rfl,_,_,hr⟩:=h;exact(jdu a _ cap l w hr).mono fun e w' ⟨he,k⟩=>⟨by rw[he,hc],k⟩
end Go.Proofs.YtibepooajeakfaaGreat
namespace Go.Proofs.YtibepooajeakfaaGreat.Vec
open Go.RowKit Go.Proofs.YtibepooajeakfaaGreat
def XD (w:World) (v:Value) (vs:List (Nat×Nat)) (ps:List (List UInt8)):Prop :=
 ∀(i:Nat) (x:Nat×Nat) (p:List UInt8),vs[i]?=some x→ps[i]?=some p→x.1<w.heap.size∧v.ownBlock≠some x.1 ∧
  w.cell? ⟨x.1,0,none⟩=some (.string (bytes (nameOf p)))∧w.cell? ⟨x.1,1,none⟩=some (.string (bytes (jh7 p)))
theorem XD.nil (w:World) (v:Value) (ps:List (List UInt8)):XD w v [] ps:=fun i x p h=>by simp at h
theorem XD.kept {w w':World} {v:Value} {vs:List (Nat×Nat)} {ps:List (List UInt8)} (h:XD w v vs ps) (k:Kept w w'):XD w' v vs ps:=fun i x p hx hp=>by
 obtain⟨h1,h2,h3,h4⟩:=h i x p hx hp;exact⟨Nat.lt_of_lt_of_le h1 k.size,h2,cell_later k h3,cell_later k h4⟩
theorem XD.snoc {w w':World} {v:Value} {vs:List (Nat×Nat)} {ps:List (List UInt8)} {g n cap b c:Nat} {p:List UInt8} (h:XD w v vs ps) (hg:w.grownBy w' v.ownBlock) (hgo:v.ownBlock=some g∨g=w.heap.size)
 (hp:ps[vs.length]?=some p) (hb:b<w.heap.size) (hne:v.ownBlock≠some b)
 (c0:w.cell? ⟨b,0,none⟩=some (.string (bytes (nameOf p)))) (c1:w.cell? ⟨b,1,none⟩=some (.string (bytes (jh7 p)))) :
 XD w' (.slice (some ⟨g,0,none⟩) n cap) (vs++[(b,c)]) ps:=by
 have far:∀d,d<w.heap.size→v.ownBlock≠some d→d<w'.heap.size∧(Value.slice (some ⟨g,0,none⟩) n cap).ownBlock≠some d∧∀j,w'.cell? ⟨d,j,none⟩=w.cell? ⟨d,j,none⟩:=fun d hd hn=>by
  refine⟨Nat.lt_of_lt_of_le hd hg.size,?_,fun j=>hg.cell_far ⟨d,j,none⟩ hd (fun e=>hn e.symm)⟩;show some g≠some d;intro e;have e':g=d:=Option.some.inj e;rcases hgo with h1 | h1
  · exact hn (by rw[h1,e'])
  · omega
 intro i x q hx hq;by_cases hi:i<vs.length
 · rw[List.getElem?_append_left hi] at hx;obtain⟨h1,h2,h3,h4⟩:=h i x q hx hq;obtain⟨f1,f2,f3⟩:=far x.1 h1 h2;exact⟨f1,f2,(f3 0).trans h3,(f3 1).trans h4⟩
 · have hi2:i=vs.length:=by
    have:=(List.getElem?_eq_some_iff.1 hx).1;simp at this;omega
   subst hi2;have hxx:(b,c)=x:=by simpa using hx
   have hqq:q=p:=Option.some.inj (hq.symm.trans hp);subst hxx;subst hqq;obtain⟨f1,f2,f3⟩:=far b hb hne;exact⟨f1,f2,(f3 0).trans c0,(f3 1).trans c1⟩
open Go.RowKit
theorem jig (a b:Int) (w:World) (ha:0≤a) (hb:0≤b) (hb':b≤9223372036854775807) (h:9223372036854775807<a+b):Calls Tryz.prog 166 #[.int .i64 a,.int .i64 b] w (YN 0 5 w):=by
 go_enter Tryz.func166,Tryz.ntmps166;go_wp2;go_ret2
 exact⟨rfl,rfl⟩
theorem jk9 (a b:Int) (w:World) (ha:0≤a) (hb:0≤b) (h:a+b≤9223372036854775807):Calls Tryz.prog 166 #[.int .i64 a,.int .i64 b] w (YN (a+b) 0 w):=by
 go_enter Tryz.func166,Tryz.ntmps166;go_wp2;go_ret2
 exact⟨rfl,rfl⟩
def Told (c:Int) (m:V) (w:World) (e:Ending) (w':World):Prop:=∃x,e=.returned (.tuple #[x,.int .i64 c])∧jQ 138 w' w.heap.size x m∧Kept w w'
theorem Told.none {c:Int} {w w':World} (k:Kept w w'):Told c [] w (.returned (.tuple #[.slice none 0 0,.int .i64 c])) w':=⟨_,rfl,jQ.nil _ _ _,k⟩
theorem Ys (a:Option Addr) (len cap:Nat) (l:V) (n:ByteArray) (w:World) (hr:ju w a len l) :
 Calls Tryz.prog 116 #[.slice a len cap,.string n] w fun e w'=>e=.returned (.int .i64 (jh l n))∧Kept w w':=by
 have hl:=hr.1;have hm:=hr.2.1;unfold maxLen at hm;rcases hr.form with h0 | ⟨b,off,rfl⟩
 · subst h0;have HE:=lH (show jh l n=0 by rw[List.eq_nil_of_length_eq_zero hl];rfl);clear hr hl;go_enter Tryz.func116,Tryz.ntmps116;go_wp2;refine wp_loop_rounds 1 ?_;rw[rounds_succ];go_wp2;go_ret;exact⟨jc HE.out.symm,Kept.refl _⟩
 · have HR:=lH hr;have HL:=lH hl;clear hr hl;go_enter Tryz.func116,Tryz.ntmps116;go_wp2;go_loopw [5] (fun i wr=>∃k:Nat,k≤len∧i=.int .i64 k∧jh (l.drop k) n=jh l n∧Kept w wr) (fun i _=>len-(intOf i).toNat)
   case atStart=>exact⟨0,Nat.zero_le _,rfl,rfl,Kept.refl _⟩
   case round =>
    obtain⟨k,hk,rfl,hrest,hK⟩:=hrel;have HK:=lH hK;have HS:=lH hrest;by_cases hlt:k<len
    · obtain⟨hb,c1,c2⟩:=(HR.out.kept hK).cells hlt;clear hK hrest;have HI:=lH (show k<l.length by rw[HL.out];exact hlt);by_cases e:eqS (nm l k) n=true
      · have E:=lH e;have e':((nm l k).toList==n.toList)=true:=e;clear e;go_wp2;go_ret;exact⟨jc (HS.out.symm.trans (jex HI.out E.out)).symm,HK.out⟩
      · have e:eqS (nm l k) n=false:=by simpa using e
        have E:=lH e;have e':((nm l k).toList==n.toList)=false:=e;clear e;go_wp2;go_roundw
        case rel=>exact⟨k+1,by omega,by go_num,(jd1 HI.out E.out).symm.trans HS.out,HK.out⟩
        case measure=>simp[intOf];omega
    · have HI:=lH (show ¬k<l.length by rw[HL.out];exact hlt);clear hK hrest;go_wp2;go_ret;exact⟨jc (HS.out.symm.trans (jgA HI.out)).symm,HK.out⟩
theorem jid (a a':Option Addr) (len cap len' cap':Nat) (l l':V) (w:World) (hr:ju w a len l) (hr':ju w a' len' l') :
 Calls Tryz.prog 65 #[.slice a len cap,.slice a' len' cap'] w fun e w'=>e=.returned (.bool (jx l' l))∧Kept w w':=by
 have hl:=hr.1;have hm:=hr.2.1;unfold maxLen at hm;rcases hr.form with h0 | ⟨b,off,rfl⟩
 · subst h0;have HE:=lH (show jx l' l=true by rw[List.eq_nil_of_length_eq_zero hl];rfl);clear hr hl hr';go_enter Tryz.func65,Tryz.ntmps65;go_wp2;refine wp_loop_rounds 1 ?_;rw[rounds_succ];go_wp2;go_ret;exact⟨jf HE.out.symm,Kept.refl _⟩
 · have HR:=lH hr;have HL:=lH hl;have HR':=lH hr';clear hr hl hr';go_enter Tryz.func65,Tryz.ntmps65;go_wp2;go_loopw [5] (fun i wr=>∃k:Nat,k≤len∧i=.int .i64 k∧jx l' (l.drop k)=jx l' l∧Kept w wr) (fun i _=>len-(intOf i).toNat)
   case atStart=>exact⟨0,Nat.zero_le _,rfl,rfl,Kept.refl _⟩
   case round =>
    obtain⟨k,hk,rfl,hrest,hK⟩:=hrel;have HS:=lH hrest;have HK:=lH hK;by_cases hlt:k<len
    · obtain⟨hb,c1,c2⟩:=(HR.out.kept hK).cells hlt;clear hrest hK;have HI:=lH (show k<l.length by rw[HL.out];exact hlt);by_cases e:qn l k≤jh l' (nm l k)
      · have E:=lH (show jx l' (l.drop k)=jx l' (l.drop (k+1)) by rw[drop_cons HI.out,jx,decide_eq_true e];rfl);go_wp2;have f1:wr.drew.cell? ⟨b,off+k*2,none⟩=some (.string (nm l k)):=c1;have f2:wr.drew.cell? ⟨b,off+k*2+1,none⟩=some (.int .i64 (qn l k)):=c2;have f3:Kept w wr.drew:=HK.out.trans (Kept.drewN _ 1)
        go_region_held3 (fun W=>W.cell? ⟨b,off+k*2,none⟩=some (.string (nm l k))∧W.cell? ⟨b,off+k*2+1,none⟩=some (.int .i64 (qn l k))∧Kept w W) (first | exact⟨f1,f2,f3⟩ | assumption | exact XE (by assumption) (by assumption))
         (first | (go_at_call 116;refine(Ys _ _ _ l' _ _ (HR'.out.kept (J4 (by assumption)))).mono ?_;rintro e W2 ⟨rfl,hk2⟩))
        all_goals
         go_wp2;go_roundw
         case rel=>exact⟨k+1,by omega,by go_num,E.out.symm.trans HS.out,J4 (by assumption)⟩
         case measure=>simp[intOf];omega
      · have E:=lH (show jx l' (l.drop k)=false by rw[drop_cons HI.out,jx,decide_eq_false e];rfl);have e':jh l' (nm l k)<qn l k:=by omega
        clear e;go_wp2;have f1:wr.drew.cell? ⟨b,off+k*2,none⟩=some (.string (nm l k)):=c1;have f2:wr.drew.cell? ⟨b,off+k*2+1,none⟩=some (.int .i64 (qn l k)):=c2;have f3:Kept w wr.drew:=HK.out.trans (Kept.drewN _ 1)
        go_region_held3 (fun W=>W.cell? ⟨b,off+k*2,none⟩=some (.string (nm l k))∧W.cell? ⟨b,off+k*2+1,none⟩=some (.int .i64 (qn l k))∧Kept w W) (first | exact⟨f1,f2,f3⟩ | assumption | exact XE (by assumption) (by assumption))
         (first | (go_at_call 116;refine(Ys _ _ _ l' _ _ (HR'.out.kept (J4 (by assumption)))).mono ?_;rintro e W2 ⟨rfl,hk2⟩))
        all_goals
         go_wp2;go_ret;exact⟨jf (HS.out.symm.trans E.out).symm,J4 (by assumption)⟩
    · have E:=lH (show jx l' (l.drop k)=true by rw[List.drop_of_length_le (by rw[HL.out];omega),jx]);clear hrest hK;go_wp2;go_ret;exact⟨jf (HS.out.symm.trans E.out).symm,HK.out⟩
theorem jQ.reads {e:TypeId} {w:World} {B:Nat} {v:Value} {l:V} (h:jQ e w B v l):Reads w v l:=h.at_
theorem Yf {n:ByteArray} {c:Bool} {w:World} (h:n.size≤maxLen) (e:isName n=c) :
 Calls Tryz.prog 158 #[.string n] w fun x w'=>x=.returned (.bool c)∧w=w':=by
 subst e;exact jo n w h
end Go.Proofs.YtibepooajeakfaaGreat.Vec
namespace Go.Proofs.YtibepooajeakfaaGreat
open Go.RowKit
structure Nod where
 name:ByteArray
 cap:Vec.V
 labels:PL
 taints:NL
 cordon:Bool
def Nod.zero:Nod:=⟨ByteArray.empty,[],[],[],false⟩
abbrev zC (n:Nod) (v1 v2 v3:Value):Value:=.agg #[.string n.name,v1,v2,v3,.bool n.cordon]
structure zk (w:World) (v1 v2 v3:Value) (n:Nod):Prop where
 size:n.name.size≤maxLen
 cap:Vec.Reads w v1 n.cap
 labels:Reads jy w v2 n.labels
 taints:Reads jz w v3 n.taints
theorem zk.kept {w w':World} {v1 v2 v3:Value} {n:Nod} (h:zk w v1 v2 v3 n) (k:Kept w w'):zk w' v1 v2 v3 n:=⟨h.size,h.cap.kept k,h.labels.kept k,h.taints.kept k⟩
def jbe (w:World) (v:Value) (n:Nod):Prop:=∃v1 v2 v3,v=zC n v1 v2 v3∧zk w v1 v2 v3 n
theorem jbe.kept {w w':World} {v:Value} {n:Nod} (h:jbe w v n) (k:Kept w w'):jbe w' v n:=by
 obtain⟨v1,v2,v3,e,h⟩:=h;exact⟨v1,v2,v3,e,h.kept k⟩
def zA (n:Nod):Int:=if isName n.name=false then 3 else if Vec.jv n.cap≠0 then Vec.jv n.cap else if YX n.labels≠0 then YX n.labels else qd n.taints
def or3 (a b c:Int):Int:=if a≠0 then a else if b≠0 then b else c
theorem jfu (n:Nod) (v1 v2 v3:Value) (w:World) (h:zk w v1 v2 v3 n) :
 Calls Tryz.prog 112 #[zC n v1 v2 v3] w (Say (.int .i64 (zA n)) w):=by
 have hsz:=h.size;have HH:=lH h;by_cases h1:isName n.name=true
 · obtain⟨x1,hx1⟩:=eX (Vec.jv n.cap)
   obtain⟨x2,hx2⟩:=eX (YX n.labels)
   obtain⟨x3,hx3⟩:=eX (qd n.taints)
   obtain⟨Um,Ux,UD,Uh⟩:=lH4 hx1 hx2 hx3 (show zA n=if x1≠0 then x1 else if x2≠0 then x2 else x3 by unfold zA;rw[if_neg (by rw[h1];decide),hx1,hx2,hx3]);clear hx1 hx2 hx3 h;by_cases z1:x1=0
   · subst z1;by_cases z2:x2=0
     · subst z2;have HV:=lH (show zA n=x3 from Uh.out);unfold zC;go_enter Tryz.func112,Tryz.ntmps112;go_wp2_with fail
       refine(Vec.Yf hsz h1).mono ?_;rintro e w' ⟨rfl,rfl⟩;go_wp2_with fail
       have K:=lH (ja w (.cells #[.string n.name,v1,v2,v3,.bool n.cordon] 122));have hh:=w.alloc_heap_new (.cells #[.string n.name,v1,v2,v3,.bool n.cordon] 122);have c2:(w.alloc (.cells #[.string n.name,v1,v2,v3,.bool n.cordon] 122)).cell? ⟨w.heap.size,2,none⟩=some v2:=by rw[Lib.cell_of_heap hh];rfl
       have c3:(w.alloc (.cells #[.string n.name,v1,v2,v3,.bool n.cordon] 122)).cell? ⟨w.heap.size,3,none⟩=some v3:=by rw[Lib.cell_of_heap hh];rfl
       clear hh;refine(Vec.JZ (HH.out.cap.kept K.out) Um.out).mono ?_;rintro e w1 ⟨rfl,k1⟩;have K:=lH (K.out.trans k1);have c2:=cell_later k1 c2;have c3:=cell_later k1 c3;clear k1;go_wp2_with fail
       refine(JZ (HH.out.labels.kept K.out) Ux.out).mono ?_;rintro e w2 ⟨rfl,k2⟩;have K:=lH (K.out.trans k2);have c2:=cell_later k2 c2;have c3:=cell_later k2 c3;clear k2;go_wp2_with fail
       refine(jhu (HH.out.taints.kept K.out) UD.out).mono ?_;rintro e w3 ⟨rfl,k3⟩;have K:=lH (K.out.trans k3);clear k3;go_wp2;go_ret;exact⟨jc HV.out.symm,K.out⟩
     · have HV:=lH (show zA n=x2 by rw[Uh.out,if_neg (by decide),if_pos z2]);have z2':(x2 != 0)=true:=by simpa using z2
       clear z2;unfold zC;go_enter Tryz.func112,Tryz.ntmps112;go_wp2_with fail
       refine(Vec.Yf hsz h1).mono ?_;rintro e w' ⟨rfl,rfl⟩;go_wp2_with fail
       have K:=lH (ja w (.cells #[.string n.name,v1,v2,v3,.bool n.cordon] 122));have hh:=w.alloc_heap_new (.cells #[.string n.name,v1,v2,v3,.bool n.cordon] 122);have c2:(w.alloc (.cells #[.string n.name,v1,v2,v3,.bool n.cordon] 122)).cell? ⟨w.heap.size,2,none⟩=some v2:=by rw[Lib.cell_of_heap hh];rfl
       have c3:(w.alloc (.cells #[.string n.name,v1,v2,v3,.bool n.cordon] 122)).cell? ⟨w.heap.size,3,none⟩=some v3:=by rw[Lib.cell_of_heap hh];rfl
       clear hh;refine(Vec.JZ (HH.out.cap.kept K.out) Um.out).mono ?_;rintro e w1 ⟨rfl,k1⟩;have K:=lH (K.out.trans k1);have c2:=cell_later k1 c2;have c3:=cell_later k1 c3;clear k1;go_wp2_with fail
       refine(JZ (HH.out.labels.kept K.out) Ux.out).mono ?_;rintro e w2 ⟨rfl,k2⟩;have K:=lH (K.out.trans k2);clear k2;go_wp2;go_ret;exact⟨jc HV.out.symm,K.out⟩
   · have HV:=lH (show zA n=x1 by rw[Uh.out,if_pos z1]);have z1':(x1 != 0)=true:=by simpa using z1
     clear z1;unfold zC;go_enter Tryz.func112,Tryz.ntmps112;go_wp2_with fail
     refine(Vec.Yf hsz h1).mono ?_;rintro e w' ⟨rfl,rfl⟩;go_wp2_with fail
     have K:=lH (ja w (.cells #[.string n.name,v1,v2,v3,.bool n.cordon] 122));have hh:=w.alloc_heap_new (.cells #[.string n.name,v1,v2,v3,.bool n.cordon] 122);have c2:(w.alloc (.cells #[.string n.name,v1,v2,v3,.bool n.cordon] 122)).cell? ⟨w.heap.size,2,none⟩=some v2:=by rw[Lib.cell_of_heap hh];rfl
     have c3:(w.alloc (.cells #[.string n.name,v1,v2,v3,.bool n.cordon] 122)).cell? ⟨w.heap.size,3,none⟩=some v3:=by rw[Lib.cell_of_heap hh];rfl
     clear hh;refine(Vec.JZ (HH.out.cap.kept K.out) Um.out).mono ?_;rintro e w1 ⟨rfl,k1⟩;have K:=lH (K.out.trans k1);clear k1;go_wp2;go_ret;exact⟨jc HV.out.symm,K.out⟩
 · have h1:isName n.name=false:=by simpa using h1
   have HV:=lH (show zA n=3 by unfold zA;rw[if_pos h1]);clear h;unfold zC;go_enter Tryz.func112,Tryz.ntmps112;go_wp2_with (go_at_call 158;refine(Vec.Yf hsz h1).mono ?_;rintro e w' ⟨rfl,rfl⟩)
   go_ret;exact⟨jc HV.out.symm,ja _ _⟩
def Js (B:Nat) (w:World) (v:Value) (n:Nod):Prop:=∃a1 m1 c1 a2 m2 c2 a3 m3 c3,v=.agg #[.string n.name,.slice a1 m1 c1,.slice a2 m2 c2,.slice a3 m3 c3,.bool n.cordon]∧n.name.size≤maxLen∧Vec.Reads w (.slice a1 m1 c1) n.cap∧Reads jy w (.slice a2 m2 c2) n.labels∧Reads jz w (.slice a3 m3 c3) n.taints ∧
 (∀b off sp,a1=some ⟨b,off,sp⟩→B≤b)∧(∀b off sp,a2=some ⟨b,off,sp⟩→B≤b)∧(∀b off sp,a3=some ⟨b,off,sp⟩→B≤b)
theorem Js.toR {B:Nat} {w:World} {v:Value} {n:Nod} (h:Js B w v n):jbe w v n:=by
 obtain⟨a1,m1,c1,a2,m2,c2,a3,m3,c3,e,h0,h1,h2,h3,_⟩:=h;exact⟨_,_,_,e,h0,h1,h2,h3⟩
def jb1 (r:Int×Nod) (w:World) (e:Ending) (w':World):Prop:=(r.1=0→∃v,e=.returned v∧Js w.heap.size w' v r.2)∧(r.1≠0→e=.panicked [zo r.1])∧Kept w w'
theorem jb1.good {r:Int×Nod} {w w':World} {v:Value} (h:r.1=0) (ho:Js w.heap.size w' v r.2) (hb:Kept w w'):jb1 r w (.returned v) w':=⟨fun _=>⟨v,rfl,ho⟩,fun g=>absurd h g,hb⟩
theorem jb1.bad {r:Int×Nod} {w w':World} {c:Int} (h:r.1=c) (hc:c≠0) (hb:Kept w w'):jb1 r w (.panicked [zo c]) w':=⟨fun g=>absurd (h.symm.trans g) hc,fun _=>by rw[h],hb⟩
theorem Vec.YB.spelt {r:Int×Vec.V} {w w':World} {e:Ending} (h:Vec.YB r w e w'):∃a m cap,e=.returned (.tuple #[.slice a m cap,.int .i64 r.1])∧Vec.Reads w' (.slice a m cap) r.2∧(∀b off sp,a=some ⟨b,off,sp⟩→w.heap.size≤b∧b<w'.heap.size)∧Kept w w':=by
 obtain⟨v,rfl,ho,k⟩:=h;obtain⟨a,cap,rfl,h⟩:=ho.at_;exact⟨a,_,cap,rfl,⟨a,cap,rfl,h⟩,fun b off sp e=>ho.1.lt b (by subst e;rfl),k⟩
theorem YS (w:World) (v0 v1 v2 v3 v4:Value) (T:TypeId) (W:World) (k:Kept (w.alloc (.cells #[v0,v1,v2,v3,v4] T)) W) :
 (W.cell? ⟨w.heap.size,0,none⟩=some v0∧W.cell? ⟨w.heap.size,1,none⟩=some v1∧W.cell? ⟨w.heap.size,2,none⟩=some v2∧W.cell? ⟨w.heap.size,3,none⟩=some v3∧W.cell? ⟨w.heap.size,4,none⟩=some v4) ∧
 W.frozen? ⟨w.heap.size,0,none⟩=false∧W.frozen? ⟨w.heap.size,1,none⟩=false∧W.frozen? ⟨w.heap.size,2,none⟩=false∧W.frozen? ⟨w.heap.size,3,none⟩=false∧W.frozen? ⟨w.heap.size,4,none⟩=false:=by
 have hh:=w.alloc_heap_new (.cells #[v0,v1,v2,v3,v4] T);have hf:∀j,W.frozen? ⟨w.heap.size,j,none⟩=false:=fun j=>by
  have:=k.frozen (p:=⟨w.heap.size,j,none⟩) (by simp);rw[this];unfold World.frozen?;rw[show (w.alloc (.cells #[v0,v1,v2,v3,v4] T)).heap[(⟨w.heap.size,j,none⟩:Addr).block]?=some (.cells #[v0,v1,v2,v3,v4] T) from hh];simp
 exact⟨⟨cell_later k (by rw[Lib.cell_of_heap hh];rfl),cell_later k (by rw[Lib.cell_of_heap hh];rfl),cell_later k (by rw[Lib.cell_of_heap hh];rfl),cell_later k (by rw[Lib.cell_of_heap hh];rfl),cell_later k (by rw[Lib.cell_of_heap hh];rfl)⟩,hf 0,hf 1,hf 2,hf 3,hf 4⟩
theorem jbz (W:World) (q:Nat) (u0 u1 u2 u3 u4:Value) (b:Nat) (h:b≠q) :
 (((((W.setCell ⟨q,0,none⟩ u0).setCell ⟨q,1,none⟩ u1).setCell ⟨q,2,none⟩ u2).setCell ⟨q,3,none⟩ u3).setCell ⟨q,4,none⟩ u4).heap[b]?=W.heap[b]? :=
 (Below.heap_setCell _ ⟨q,4,none⟩ _ b h).trans ((Below.heap_setCell _ ⟨q,3,none⟩ _ b h).trans ((Below.heap_setCell _ ⟨q,2,none⟩ _ b h).trans ((Below.heap_setCell _ ⟨q,1,none⟩ _ b h).trans (Below.heap_setCell _ ⟨q,0,none⟩ _ b h))))
theorem jiI (W:World) (q:Nat) (u0 u1 u2 u3 u4:Value) :
 (((((W.setCell ⟨q,0,none⟩ u0).setCell ⟨q,1,none⟩ u1).setCell ⟨q,2,none⟩ u2).setCell ⟨q,3,none⟩ u3).setCell ⟨q,4,none⟩ u4).heap.size=W.heap.size:=by simp[World.setCell]
theorem Reads.far {α:Type} {L:Lay α} {w w':World} {a:Option Addr} {m cap:Nat} {l:List α} (h:Reads L w (.slice a m cap) l) (hs:w'.heap.size=w.heap.size) (hb:∀b off sp,a=some ⟨b,off,sp⟩→w'.heap[b]?=w.heap[b]?):Reads L w' (.slice a m cap) l:=by
 obtain⟨a',cap',e,h1,h2,h3,h4,h5,h6⟩:=h
 cases e
 refine⟨a,cap,rfl,h1,h2,h3,h4,h5,h6.imp id ?_⟩;rintro ⟨b,off,rfl,hlt,hc⟩;exact⟨b,off,rfl,by rw[hs];exact hlt,fun i x j u hi hj=>(World.cell?_of_block (a:=⟨b,off+i*L.m+j,none⟩) (hb b off none rfl)).trans (hc i x j u hi hj)⟩
theorem Vec.Reads.far {w w':World} {a:Option Addr} {m cap:Nat} {l:Vec.V} (h:Vec.Reads w (.slice a m cap) l) (hs:w'.heap.size=w.heap.size) (hb:∀b off sp,a=some ⟨b,off,sp⟩→w'.heap[b]?=w.heap[b]?):Vec.Reads w' (.slice a m cap) l:=by
 obtain⟨a',cap',e,h1,h2,h3,h4,h5,h6⟩:=h
 cases e
 refine⟨a,cap,rfl,h1,h2,h3,h4,h5,h6.imp id ?_⟩;rintro ⟨b,off,rfl,hlt,hc⟩;exact⟨b,off,rfl,by rw[hs];exact hlt,fun i hi=>⟨(World.cell?_of_block (a:=⟨b,off+i*2,none⟩) (hb b off none rfl)).trans (hc i hi).1,(World.cell?_of_block (a:=⟨b,off+i*2+1,none⟩) (hb b off none rfl)).trans (hc i hi).2⟩⟩
theorem qF {W:World} {q:Nat} {v0 v1 v2 v3 v4 u0 u1 u2 u3 u4:Value} (y0:W.cell? ⟨q,0,none⟩=some v0) (y1:W.cell? ⟨q,1,none⟩=some v1) (y2:W.cell? ⟨q,2,none⟩=some v2) (y3:W.cell? ⟨q,3,none⟩=some v3) (y4:W.cell? ⟨q,4,none⟩=some v4) (W':World)
 (hW:(((((W.setCell ⟨q,0,none⟩ u0).setCell ⟨q,1,none⟩ u1).setCell ⟨q,2,none⟩ u2).setCell ⟨q,3,none⟩ u3).setCell ⟨q,4,none⟩ u4)=W') :
 W'.cell? ⟨q,0,none⟩=some u0∧W'.cell? ⟨q,1,none⟩=some u1∧W'.cell? ⟨q,2,none⟩=some u2∧W'.cell? ⟨q,3,none⟩=some u3∧W'.cell? ⟨q,4,none⟩=some u4:=by
 subst hW;refine⟨?_,?_,?_,?_,?_⟩<;>go_simp
theorem Vec.Reads.mk' {w:World} {a:Option Addr} {cap:Nat} {l:Vec.V} (h1:l.length≤cap) (h2:cap≤maxLen) (h3:Vec.ju w a l.length l):Vec.Reads w (.slice a l.length cap) l:=⟨a,cap,rfl,h1,h2,h3⟩
theorem Reads.mk' {α:Type} {L:Lay α} {w:World} {a:Option Addr} {cap:Nat} {l:List α} (h1:l.length≤cap) (h2:cap≤maxLen) (h3:jn L w a l.length l):Reads L w (.slice a l.length cap) l:=⟨a,cap,rfl,h1,h2,h3⟩
theorem jaM (B:Nat) (q:Nat) (x y:Int) (w:World) (hq:w.cell? ⟨q,0,none⟩=some (.int .i64 y)) (hzq:w.frozen? ⟨q,0,none⟩=false) (hBq:B≤q) :
 CallsD Tryz.prog 151 #[.pointer (some ⟨q,0,none⟩)] (.panicking [zo x]) w fun e u' w' =>
  e=.returned (.tuple #[])∧u'=.panicking [{ zo x with recovered:=true }]∧w'=w.setCell ⟨q,0,none⟩ (.int .i64 x)∧w'.cell? ⟨q,0,none⟩=some (.int .i64 x)∧Below B w w':=by
 have hta:∀W,(Instr.typeAssert (.iface 69 (.int .i64 x)) 20 69 false).run Tryz.prog W=.ok (.int .i64 x) W:=fun _=>by kernel_rfl
 refine callsD_of_wpS Tryz.func151 rfl fun c₀ cs hu=>?_;apply wpS_seq;apply wpS_region;simp[wpOpsS,go_sem,recoverD,hu,Tryz.ntmps151,Exit.thenS];apply wpS_seq;apply wpS_region;simp[wpOpsS,go_sem,recoverD,Exit.thenS];refine wpS_cond (t:=true) (by simp[Act.eval,Array.replicate]) ?_;simp only[if_true];refine wpS_of_wp ?_;simp[Array.replicate];go_wp2;simp[bodyPostS,results,Tryz.results151];exact⟨World.cell?_setCell_same' _ _ _ (by rw[hq];rfl),(Below.refl B w).setCell (p:=⟨q,0,none⟩) hBq _⟩
theorem jeK (q:Addr) (w:World) :
 CallsD Tryz.prog 151 #[.pointer (some q)] .returning w fun e u' w'=>e=.returned (.tuple #[])∧u'=.returning∧w'=w:=by
 refine callsD_of_wpS Tryz.func151 rfl fun c₀ cs hu=>?_;apply wpS_seq;apply wpS_region;simp[wpOpsS,go_sem,recoverD,hu,Tryz.ntmps151,Exit.thenS];apply wpS_seq;apply wpS_region;simp[wpOpsS,go_sem,recoverD,hu,Exit.thenS];refine wpS_cond (t:=false) (by simp[Act.eval,Array.replicate]) ?_;simp only[Bool.false_eq_true,if_false];refine wpS_of_wp (wp_skip ?_)
 cases c₀
 simp_all [bodyPostS,results,Tryz.results151]
theorem qf (B:Nat) (w:World):Js B w (.agg #[.string ⟨#[]⟩,.slice none 0 0,.slice none 0 0,.slice none 0 0,.bool false]) Nod.zero :=
 ⟨none,0,0,none,0,0,none,0,0,rfl,(by decide:(0:Nat)≤maxLen),Vec.Reads.nil w,Reads.nil w,Reads.nil w,(fun _ _ _ e=>by cases e),(fun _ _ _ e=>by cases e),(fun _ _ _ e=>by cases e)⟩
theorem Js.less {B B':Nat} {w:World} {v:Value} {n:Nod} (h:Js B w v n) (hb:B'≤B):Js B' w v n:=by
 obtain⟨a1,m1,c1,a2,m2,c2,a3,m3,c3,e,h0,h1,h2,h3,g1,g2,g3⟩:=h;exact⟨a1,m1,c1,a2,m2,c2,a3,m3,c3,e,h0,h1,h2,h3,fun b o s e=>Nat.le_trans hb (g1 b o s e),fun b o s e=>Nat.le_trans hb (g2 b o s e),fun b o s e=>Nat.le_trans hb (g3 b o s e)⟩
theorem Js.far {B:Nat} {w w':World} {v:Value} {n:Nod} (h:Js B w v n) (hs:w'.heap.size=w.heap.size) (hb:∀b,B≤b→w'.heap[b]?=w.heap[b]?):Js B w' v n:=by
 obtain⟨a1,m1,c1,a2,m2,c2,a3,m3,c3,e,h0,h1,h2,h3,g1,g2,g3⟩:=h;exact⟨a1,m1,c1,a2,m2,c2,a3,m3,c3,e,h0,h1.far hs (fun b o s e=>hb b (g1 b o s e)),h2.far hs (fun b o s e=>hb b (g2 b o s e)),h3.far hs (fun b o s e=>hb b (g3 b o s e)),g1,g2,g3⟩
theorem Js.kept {B:Nat} {w w':World} {v:Value} {n:Nod} (h:Js B w v n) (k:Kept w w'):Js B w' v n:=by
 obtain⟨a1,m1,c1,a2,m2,c2,a3,m3,c3,e,h0,h1,h2,h3,g1,g2,g3⟩:=h;exact⟨a1,m1,c1,a2,m2,c2,a3,m3,c3,e,h0,h1.kept k,h2.kept k,h3.kept k,g1,g2,g3⟩
def jmJ (q:Nat) (x:ByteArray) (a1 a2 a3:Option Addr) (m1 c1 m2 c2 m3 c3:Nat) (b:Bool) (W W':World):Prop :=
 (W'.cell? ⟨q,0,none⟩=some (.string x)∧W'.cell? ⟨q,1,none⟩=some (.slice a1 m1 c1)∧W'.cell? ⟨q,2,none⟩=some (.slice a2 m2 c2)∧W'.cell? ⟨q,3,none⟩=some (.slice a3 m3 c3)∧W'.cell? ⟨q,4,none⟩=some (.bool b)) ∧
  W'.heap.size=W.heap.size∧(∀j,j≠q→W'.heap[j]?=W.heap[j]?)∧∀B w,B≤q→Below B w W→Below B w W'
theorem Zd {W:World} {q:Nat} {v0 v1 v2 v3 v4:Value} (y:W.cell? ⟨q,0,none⟩=some v0∧W.cell? ⟨q,1,none⟩=some v1∧W.cell? ⟨q,2,none⟩=some v2∧W.cell? ⟨q,3,none⟩=some v3∧W.cell? ⟨q,4,none⟩=some v4) (x:ByteArray) (a1 a2 a3:Option Addr) (m1 c1 m2 c2 m3 c3:Nat) (b:Bool) :
 jmJ q x a1 a2 a3 m1 c1 m2 c2 m3 c3 b W (((((W.setCell ⟨q,0,none⟩ (.string x)).setCell ⟨q,1,none⟩ (.slice a1 m1 c1)).setCell ⟨q,2,none⟩ (.slice a2 m2 c2)).setCell ⟨q,3,none⟩ (.slice a3 m3 c3)).setCell ⟨q,4,none⟩ (.bool b)) :=
 ⟨qF y.1 y.2.1 y.2.2.1 y.2.2.2.1 y.2.2.2.2 _ rfl,jiI _ _ _ _ _ _ _,fun j hj=>jbz _ _ _ _ _ _ _ j hj,
  fun B w hB hk=>((((hk.setCell (p:=⟨q,0,none⟩) hB _).setCell (p:=⟨q,1,none⟩) hB _).setCell (p:=⟨q,2,none⟩) hB _).setCell (p:=⟨q,3,none⟩) hB _).setCell (p:=⟨q,4,none⟩) hB _⟩
def Kind (t e:TypeId) (size bytes:Nat):Prop:=∃i z,Tryz.prog.underlying t=some (.slice e)∧Tryz.prog.info? e=some i∧i.zero=some z∧i.size=size∧i.bytes=bytes∧z.cells.size=size∧0<size
def jaz (w:World) (y:Value) (m:Nat) (news:List Value):Prop :=
 (∃ad c,y=.slice (some ad) m c∧∀j u,news[j]?=some u→w.cell? (ad.add j)=some u)∨(∃c,y=.slice none 0 c∧m=0)
theorem jfF {t e:TypeId} {size bytes:Nat} (K:Kind t e size bytes) (w:World) (B:Nat) (hB:B≤w.heap.size) (g n cap:Nat) (xs:List Value) (hown:w.ownsRow B e size (.slice (some ⟨g,0,none⟩) n cap) n xs) (y:Value) (m:Nat) (news:List Value) (hl:news.length=m*size) (hone:∀u ∈ news,u.oneCell'=true) (hy:jaz w y m news)
 (h63:n+m≤maxLen) (hb:((n+m)+(n+m) / 4+192)*bytes≤281474976710656) (ty:TypeId) :
 ∃g' cap' w',(Builtin.append_ #[t,t] ty #[.slice (some ⟨g,0,none⟩) n cap,y]).run Tryz.prog w=.ok (.slice (some ⟨g',0,none⟩) (n+m) cap') w'∧w'.ownsRow B e size (.slice (some ⟨g',0,none⟩) (n+m) cap') (n+m) (xs++news)∧Below B w w'∧w.grownBy w' (some g):=by
 obtain⟨i,z,ht,hi,hz,h1,h8,hzs,hsz⟩:=K;have hbg:B≤g:=by
  rcases hown.2 with ⟨h0,_⟩ | ⟨g2,cap2,cur,h0,hbg,_⟩
  · cases h0
  · cases h0;exact hbg
 rcases hy with ⟨ad,c,rfl,hc⟩ | ⟨c,rfl,rfl⟩
 · obtain⟨v',w',hr,ho,hg,hnil⟩:=run_append_own_wide w B t ty e i z size bytes ht hi hz h1 h8 hzs hsz _ n xs hown ad m c news hl hc hone h63 hb hB;have hb:=(Below.refl B w).grown hg hB (by intro k hk;cases hk;exact hbg);rcases ho.2 with ⟨h0,_⟩ | ⟨g2,cap2,cur,rfl,_⟩
   · have:=(hnil.1 h0).1
     cases this
   · exact⟨g2,cap2,w',hr,ho,hb,hg⟩
 · have:news=[]:=List.eq_nil_of_length_eq_zero (by rw[hl,Nat.zero_mul]);subst this;rcases hown.2 with ⟨h0,_⟩ | ⟨g2,cap2,cur,h0,_,hg,hnc,_⟩
   · cases h0
   · cases h0
     have hr:=run_append_room_src w t t ty e i ht hi g 0 n cap (.slice none 0 c) 0 [] (Src.ofNil w ht c) (by omega) (by intro j hj;simp at hj) (by intro j hj;simp at hj);exact⟨_,_,_,hr,by simpa [World.setCells] using hown,Below.refl B w,World.grownBy.refl _ _⟩
theorem jhx {t e:TypeId} {size bytes:Nat} (Kd:Kind t e size bytes) {o:Oper} {a:Act} {K:Act→World→Prop} {Q:Exit→Act→World→Prop} (s x:Operand) (w:World)
 (ho:o.op=.call { callee:=.builtin .append,args:=#[s,x],argTypes:=#[t,t] })
 (B:Nat) (hB:B≤w.heap.size) (g n cap:Nat) (xs:List Value) (hs:a.eval s=.slice (some ⟨g,0,none⟩) n cap) (hown:w.ownsRow B e size (.slice (some ⟨g,0,none⟩) n cap) n xs) (y:Value) (m:Nat) (news:List Value) (hx:a.eval x=y) (hl:news.length=m*size) (hone:∀u ∈ news,u.oneCell'=true) (hy:jaz w y m news)
 (h63:n+m≤maxLen) (hb:((n+m)+(n+m) / 4+192)*bytes≤281474976710656)
 (h:∀g' cap' w',w'.ownsRow B e size (.slice (some ⟨g',0,none⟩) (n+m) cap') (n+m) (xs++news)→Below B w w'→w.grownBy w' (some g)→K (a.put o.dst (.slice (some ⟨g',0,none⟩) (n+m) cap')) w'):o.wp Tryz.prog a w K Q:=by
 obtain⟨g',cap',w',hr,h2,h3,h4⟩:=jfF Kd w B hB g n cap xs hown y m news hl hone hy h63 hb o.type;unfold Oper.wp execOp;simp only[ho,resolve,invoke,builtin,Sem.run_bind,Sem.run_pure,Result.andThen_ok,List.map_toArray,List.map_cons,List.map_nil,hs,hx,hr];exact h g' cap' w' h2 h3 h4
theorem zL {t e:TypeId} {size bytes:Nat} (Kd:Kind t e size bytes) {ops:Array Oper} {rest:List Oper} {o:Oper} {a:Act} {Q:Exit→Act→World→Prop} (w:World) (hgd:o.guard=none) (s x:Operand)
 (ho:o.op=.call { callee:=.builtin .append,args:=#[s,x],argTypes:=#[t,t] })
 (B:Nat) (hB:B≤w.heap.size) (g n cap:Nat) (xs:List Value) (hs:a.eval s=.slice (some ⟨g,0,none⟩) n cap) (hown:w.ownsRow B e size (.slice (some ⟨g,0,none⟩) n cap) n xs) (y:Value) (m:Nat) (news:List Value) (hx:a.eval x=y) (hl:news.length=m*size) (hone:∀u ∈ news,u.oneCell'=true) (hy:jaz w y m news)
 (h63:n+m≤maxLen) (hb:((n+m)+(n+m) / 4+192)*bytes≤281474976710656)
 (h:∀g' cap' w',w'.ownsRow B e size (.slice (some ⟨g',0,none⟩) (n+m) cap') (n+m) (xs++news)→Below B w w'→w.grownBy w' (some g)→wpList Tryz.prog ops Q rest (a.put o.dst (.slice (some ⟨g',0,none⟩) (n+m) cap')) w'):wpList Tryz.prog ops Q (o::rest) a w :=
 wpList_plain hgd fun _ hK=>jhx Kd s x w ho B hB g n cap xs hs hown y m news hx hl hone hy h63 hb fun g' cap' w' h2 h3 h4=>hK _ _ (h g' cap' w' h2 h3 h4)
theorem JY (w:World) (B size:Nat) (e:TypeId) (hB:B≤w.heap.size):(w.alloc (.cells #[] e)).ownsRow B e size (.slice (some ⟨w.heap.size,0,none⟩) 0 0) 0 [] :=
 ⟨by simp,.inr ⟨w.heap.size,0,#[],rfl,hB,World.alloc_heap_new w _,by omega,by unfold maxLen;omega,by simp,by simp⟩⟩
theorem qN {α:Type} (L:Lay α):∀(l:List α) (j:Nat) (u:Value),(jd L l)[j]?=some u→∃i x k,l[i]?=some x∧(L.cs x)[k]?=some u∧j=i*L.m+k
 | [],j,u,h=>by simp[jd] at h
 | y::t,j,u,h=>by
  unfold jd at h;rw[List.flatMap_cons] at h;by_cases hj:j<L.m
  · rw[List.getElem?_append_left (by rw[L.len];exact hj)] at h;exact⟨0,y,j,rfl,h,by omega⟩
  · rw[List.getElem?_append_right (by rw[L.len];omega),L.len] at h;obtain⟨i,x,k,h1,h2,h3⟩:=qN L t (j-L.m) u h;exact⟨i+1,x,k,by simpa using h1,h2,by rw[Nat.add_mul];omega⟩
theorem jn.src {α:Type} {L:Lay α} {w:World} {a:Option Addr} {len cap:Nat} {l:List α} (h:jn L w a len l):jaz w (.slice a len cap) len (jd L l):=by
 obtain⟨h0,h1,h2,h3⟩:=h;rcases h3 with h3 | ⟨b,off,rfl,hb,hc⟩
 · have hl:l=[]:=List.eq_nil_of_length_eq_zero (by omega);subst hl;subst h3
   cases a with
   | none=>exact .inr ⟨cap,rfl,rfl⟩
   | some ad=>exact .inl ⟨ad,cap,rfl,fun j u hu=>by simp[jd] at hu⟩
 · refine .inl ⟨_,cap,rfl,fun j u hu=>?_⟩;obtain⟨i,x,k,hi,hk,rfl⟩:=qN L l j u hu;have e:(⟨b,off,none⟩:Addr).add (i*L.m+k)=⟨b,off+i*L.m+k,none⟩:=by
    unfold Addr.add;split<;>simp_all [Nat.add_assoc]
   rw[e];exact hc i x k u hi hk
theorem jmG:Kind 47 140 2 32:=by
 obtain⟨i,hi,hz,h1,h2⟩:=info_parts (show (Tryz.prog.info? 140).map (fun i=>(i.zero,i.size,i.bytes))=some (some (.agg #[.string ByteArray.empty,.string ByteArray.empty]),2,32) by kernel_rfl);exact⟨i,_,Tryz.underlying47,hi,hz,h1,h2,rfl,by decide⟩
theorem jmv:Kind 76 172 3 40:=by
 obtain⟨i,hi,hz,h1,h2⟩:=info_parts (show (Tryz.prog.info? 172).map (fun i=>(i.zero,i.size,i.bytes))=some (some (.agg #[.string ByteArray.empty,.string ByteArray.empty,.bool false]),3,40) by kernel_rfl);exact⟨i,_,Tryz.underlying76,hi,hz,h1,h2,rfl,by decide⟩
theorem jmQ:Kind 45 114 2 24:=by
 obtain⟨i,hi,hz,h1,h2⟩:=info_parts (show (Tryz.prog.info? 114).map (fun i=>(i.zero,i.size,i.bytes))=some (some (.agg #[.string ByteArray.empty,.int .i64 0]),2,24) by kernel_rfl);exact⟨i,_,Tryz.underlying45,hi,hz,h1,h2,rfl,by decide⟩
theorem jcx:∀(l:Vec.V) (j:Nat) (u:Value),(Vec.cellsOf l)[j]?=some u→∃i,i<l.length∧((j=i*2∧u=.string (Vec.nm l i))∨(j=i*2+1∧u=.int .i64 (Vec.qn l i))):=by
 intro l j u h;have hlt:j<l.length*2:=by have:=(List.getElem?_eq_some_iff.1 h).1;rw[Vec.YC] at this;exact this
 have hi:j / 2<l.length:=by omega
 obtain⟨h1,h2⟩:=Vec.qp l (j / 2) hi;refine⟨j / 2,hi,?_⟩;by_cases he:j % 2=0
 · have e:j=j / 2*2:=by omega
   rw[←e] at h1;rw[h1] at h;exact .inl ⟨e,by cases h;rfl⟩
 · have e:j=j / 2*2+1:=by omega
   rw[←e] at h2;rw[h2] at h;exact .inr ⟨e,by cases h;rfl⟩
theorem jlu {w:World} {a:Option Addr} {len cap:Nat} {l:Vec.V} (h:Vec.ju w a len l):jaz w (.slice a len cap) len (Vec.cellsOf l):=by
 obtain⟨h0,h1,h2,h3⟩:=h;rcases h3 with h3 | ⟨b,off,rfl,hb,hc⟩
 · have hl:l=[]:=List.eq_nil_of_length_eq_zero (by omega);subst hl;subst h3
   cases a with
   | none=>exact .inr ⟨cap,rfl,rfl⟩
   | some ad=>exact .inl ⟨ad,cap,rfl,fun j u hu=>by simp[Vec.cellsOf] at hu⟩
 · refine .inl ⟨_,cap,rfl,fun j u hu=>?_⟩;obtain⟨i,hi,hj⟩:=jcx l j u hu;obtain⟨c1,c2⟩:=hc i (by omega);have e:(⟨b,off,none⟩:Addr).add j=⟨b,off+j,none⟩:=by
    unfold Addr.add;split<;>simp_all
   rw[e];rcases hj with ⟨rfl,rfl⟩ | ⟨rfl,rfl⟩
   · exact c1
   · rw[←Nat.add_assoc];exact c2
theorem qq (a:Option Addr) (len cap:Nat) (l:PL) (w:World) (hr:jn jy w a len l) (hc:len≤cap) (hm:cap≤maxLen) (hn:len≤1000000) :
 Calls Tryz.prog 131 #[.slice a len cap] w fun e w'=>∃a' m' c',e=.returned (.slice a' m' c')∧Reads jy w' (.slice a' m' c') l∧(∀b off sp,a'=some ⟨b,off,sp⟩→w.heap.size≤b)∧Kept w w':=by
 have hl:=hr.1;have q22:∀(w:World) (a:Option Addr) (n c n' c':Nat),(binOp .eql 47 (.slice a n c) (.slice none n' c')).run Tryz.prog w=.ok (.bool a.isNone) w:=fun w a n c n' c'=>Lib.run_eql_slice_nil w _ _ a n c n' c' Tryz.underlying47
 cases a with
 | none =>
  have h0:len=0:=by
   rcases hr.form with h | ⟨b,off,h⟩
   · exact h
   · cases h
  subst h0;have hl0:l=[]:=List.eq_nil_of_length_eq_zero hl;subst hl0;clear hr hl;go_enter Tryz.func131,Tryz.ntmps131;go_wp2;go_ret;exact⟨none,0,0,rfl,Reads.nil _,(fun b o s e=>by cases e),Kept.refl _⟩
 | some ad =>
  have HR:=lH hr;have HL:=lH hl;have hrl:(jd jy l).length=len*2:=by rw[jS,hl];rfl
  have hb1:0+len≤maxLen:=by unfold maxLen;omega
  have hb2:((0+len)+(0+len) / 4+192)*32≤281474976710656:=by omega
  clear hr hl;go_enter Tryz.func131,Tryz.ntmps131;go_wp2_with (at_builtin;refine zL jmG _ rfl (.tmp 5) (.tmp 6) rfl w.heap.size (by simp) w.heap.size 0 0 [] rfl (JY w w.heap.size 2 _ (Nat.le_refl _)) _ len (jd jy l) rfl hrl (zS _ _) (jn.src (HR.out.kept (ja _ _))) hb1 hb2 ?_;intro g1 k1 W1 ho hd hg;have HO:=lH ho;have HD:=lH hd;clear ho hd hg;refine Hid.out ?_)
  refine lH ?_;simp only[Nat.zero_add,List.nil_append] at HO ⊢;go_wp2;go_ret;exact⟨_,_,_,rfl,Own.reads (⟨by rw[HL.out];exact HO.out,HR.out.2.2.1⟩:Own jy 140 W1 w.heap.size (.slice (some ⟨g1,0,none⟩) len k1) l),(fun b o s e=>by cases e;exact(HO.out.lt g1 rfl).1),Below.trans (ja w _) HD.out⟩
theorem jck (a:Option Addr) (len cap:Nat) (l:NL) (w:World) (hr:jn jz w a len l) (hc:len≤cap) (hm:cap≤maxLen) (hn:len≤1000000) :
 Calls Tryz.prog 132 #[.slice a len cap] w fun e w'=>∃a' m' c',e=.returned (.slice a' m' c')∧Reads jz w' (.slice a' m' c') l∧(∀b off sp,a'=some ⟨b,off,sp⟩→w.heap.size≤b)∧Kept w w':=by
 have hl:=hr.1;have q22:∀(w:World) (a:Option Addr) (n c n' c':Nat),(binOp .eql 76 (.slice a n c) (.slice none n' c')).run Tryz.prog w=.ok (.bool a.isNone) w:=fun w a n c n' c'=>Lib.run_eql_slice_nil w _ _ a n c n' c' Tryz.underlying76
 cases a with
 | none =>
  have h0:len=0:=by
   rcases hr.form with h | ⟨b,off,h⟩
   · exact h
   · cases h
  subst h0;have hl0:l=[]:=List.eq_nil_of_length_eq_zero hl;subst hl0;clear hr hl;go_enter Tryz.func132,Tryz.ntmps132;go_wp2;go_ret;exact⟨none,0,0,rfl,Reads.nil _,(fun b o s e=>by cases e),Kept.refl _⟩
 | some ad =>
  have HR:=lH hr;have HL:=lH hl;have hrl:(jd jz l).length=len*3:=by rw[jS,hl];rfl
  have hb1:0+len≤maxLen:=by unfold maxLen;omega
  have hb2:((0+len)+(0+len) / 4+192)*40≤281474976710656:=by omega
  clear hr hl;go_enter Tryz.func132,Tryz.ntmps132;go_wp2_with (at_builtin;refine zL jmv _ rfl (.tmp 5) (.tmp 6) rfl w.heap.size (by simp) w.heap.size 0 0 [] rfl (JY w w.heap.size 3 _ (Nat.le_refl _)) _ len (jd jz l) rfl hrl (zS _ _) (jn.src (HR.out.kept (ja _ _))) hb1 hb2 ?_;intro g1 k1 W1 ho hd hg;have HO:=lH ho;have HD:=lH hd;clear ho hd hg;refine Hid.out ?_)
  refine lH ?_;simp only[Nat.zero_add,List.nil_append] at HO ⊢;go_wp2;go_ret;exact⟨_,_,_,rfl,Own.reads (⟨by rw[HL.out];exact HO.out,HR.out.2.2.1⟩:Own jz 172 W1 w.heap.size (.slice (some ⟨g1,0,none⟩) len k1) l),(fun b o s e=>by cases e;exact(HO.out.lt g1 rfl).1),Below.trans (ja w _) HD.out⟩
theorem qG (a:Option Addr) (len cap:Nat) (l:Vec.V) (w:World) (hr:Vec.ju w a len l) (hc:len≤cap) (hm:cap≤maxLen) (hn:len≤1000000) :
 Calls Tryz.prog 130 #[.slice a len cap] w fun e w'=>∃a' m' c',e=.returned (.slice a' m' c')∧Vec.Reads w' (.slice a' m' c') l∧(∀b off sp,a'=some ⟨b,off,sp⟩→w.heap.size≤b)∧Kept w w':=by
 have hl:=hr.1;have q22:∀(w:World) (a:Option Addr) (n c n' c':Nat),(binOp .eql 45 (.slice a n c) (.slice none n' c')).run Tryz.prog w=.ok (.bool a.isNone) w:=fun w a n c n' c'=>Lib.run_eql_slice_nil w _ _ a n c n' c' Tryz.underlying45
 cases a with
 | none =>
  have h0:len=0:=by
   rcases hr.form with h | ⟨b,off,h⟩
   · exact h
   · cases h
  subst h0;have hl0:l=[]:=List.eq_nil_of_length_eq_zero hl;subst hl0;clear hr hl;go_enter Tryz.func130,Tryz.ntmps130;go_wp2;go_ret;exact⟨none,0,0,rfl,Vec.Reads.nil _,(fun b o s e=>by cases e),Kept.refl _⟩
 | some ad =>
  have HR:=lH hr;have HL:=lH hl;have hrl:(Vec.cellsOf l).length=len*2:=by rw[Vec.YC,hl]
  have hb1:0+len≤maxLen:=by unfold maxLen;omega
  have hb2:((0+len)+(0+len) / 4+192)*24≤281474976710656:=by omega
  clear hr hl;go_enter Tryz.func130,Tryz.ntmps130;go_wp2_with (at_builtin;refine zL jmQ _ rfl (.tmp 5) (.tmp 6) rfl w.heap.size (by simp) w.heap.size 0 0 [] rfl (JY w w.heap.size 2 _ (Nat.le_refl _)) _ len (Vec.cellsOf l) rfl hrl (Vec.ZO _) (jlu (HR.out.kept (ja _ _))) hb1 hb2 ?_;intro g1 k1 W1 ho hd hg;have HO:=lH ho;have HD:=lH hd;clear ho hd hg;refine Hid.out ?_)
  refine lH ?_;simp only[Nat.zero_add,List.nil_append] at HO ⊢;go_wp2;go_ret;exact⟨_,_,_,rfl,Vec.jQ.reads (⟨by rw[HL.out];exact HO.out,HR.out.2.2.1⟩:Vec.jQ 114 W1 w.heap.size (.slice (some ⟨g1,0,none⟩) len k1) l),(fun b o s e=>by cases e;exact(HO.out.lt g1 rfl).1),Below.trans (ja w _) HD.out⟩
def zh (q:Nat) (v0 v1 v2 v3 v4:Value) (W:World):Prop :=
 (W.cell? ⟨q,0,none⟩=some v0∧W.cell? ⟨q,1,none⟩=some v1∧W.cell? ⟨q,2,none⟩=some v2∧W.cell? ⟨q,3,none⟩=some v3∧W.cell? ⟨q,4,none⟩=some v4) ∧
  W.frozen? ⟨q,0,none⟩=false∧W.frozen? ⟨q,1,none⟩=false∧W.frozen? ⟨q,2,none⟩=false∧W.frozen? ⟨q,3,none⟩=false∧W.frozen? ⟨q,4,none⟩=false
theorem zh.block {q:Nat} {v0 v1 v2 v3 v4:Value} {W W':World} (h:zh q v0 v1 v2 v3 v4 W) (e:W'.heap[q]?=W.heap[q]?):zh q v0 v1 v2 v3 v4 W':=by
 have c:∀j,W'.cell? ⟨q,j,none⟩=W.cell? ⟨q,j,none⟩:=fun j=>World.cell?_of_block (a:=⟨q,j,none⟩) e;have f:∀j,W'.frozen? ⟨q,j,none⟩=W.frozen? ⟨q,j,none⟩:=fun j=>World.frozen?_of_block (a:=⟨q,j,none⟩) e;unfold zh;simp only[c,f];exact h
theorem zh.kept {q:Nat} {v0 v1 v2 v3 v4:Value} {W W':World} (h:zh q v0 v1 v2 v3 v4 W) (k:Kept W W'):zh q v0 v1 v2 v3 v4 W':=h.block (k.block q (World.block_lt_of_cell? _ _ h.1.1))
theorem zh.other {q p j:Nat} {v0 v1 v2 v3 v4 u:Value} {W:World} (h:zh q v0 v1 v2 v3 v4 W) (hp:q≠p):zh q v0 v1 v2 v3 v4 (W.setCell ⟨p,j,none⟩ u):=h.block (Below.heap_setCell W ⟨p,j,none⟩ u q hp)
theorem zh.set1 {q:Nat} {v0 v1 v2 v3 v4:Value} {W:World} (h:zh q v0 v1 v2 v3 v4 W) (u:Value):zh q v0 u v2 v3 v4 (W.setCell ⟨q,1,none⟩ u):=by
 obtain⟨⟨y0,y1,y2,y3,y4⟩,x0,x1,x2,x3,x4⟩:=h;refine⟨⟨?_,?_,?_,?_,?_⟩,?_,?_,?_,?_,?_⟩<;>go_simp
theorem zh.set2 {q:Nat} {v0 v1 v2 v3 v4:Value} {W:World} (h:zh q v0 v1 v2 v3 v4 W) (u:Value):zh q v0 v1 u v3 v4 (W.setCell ⟨q,2,none⟩ u):=by
 obtain⟨⟨y0,y1,y2,y3,y4⟩,x0,x1,x2,x3,x4⟩:=h;refine⟨⟨?_,?_,?_,?_,?_⟩,?_,?_,?_,?_,?_⟩<;>go_simp
theorem zh.set3 {q:Nat} {v0 v1 v2 v3 v4:Value} {W:World} (h:zh q v0 v1 v2 v3 v4 W) (u:Value):zh q v0 v1 v2 u v4 (W.setCell ⟨q,3,none⟩ u):=by
 obtain⟨⟨y0,y1,y2,y3,y4⟩,x0,x1,x2,x3,x4⟩:=h;refine⟨⟨?_,?_,?_,?_,?_⟩,?_,?_,?_,?_,?_⟩<;>go_simp
theorem Jv {α:Type} {L:Lay α} {B p j:Nat} {u:Value} {w:World} {a:Option Addr} {m c:Nat} {l:List α} (h:Reads L w (.slice a m c) l) (g:∀b off sp,a=some ⟨b,off,sp⟩→B≤b) (hp:p<B):Reads L (w.setCell ⟨p,j,none⟩ u) (.slice a m c) l :=
 h.far (by simp[World.setCell]) (fun b o s e=>Below.heap_setCell w ⟨p,j,none⟩ u b (show b≠p by have:=g b o s e;omega))
theorem JS {B p j:Nat} {u:Value} {w:World} {a:Option Addr} {m c:Nat} {l:Vec.V} (h:Vec.Reads w (.slice a m c) l) (g:∀b off sp,a=some ⟨b,off,sp⟩→B≤b) (hp:p<B):Vec.Reads (w.setCell ⟨p,j,none⟩ u) (.slice a m c) l :=
 h.far (by simp[World.setCell]) (fun b o s e=>Below.heap_setCell w ⟨p,j,none⟩ u b (show b≠p by have:=g b o s e;omega))
structure zW (n:Nod):Prop where
 cap:n.cap.length≤1000000
 labels:n.labels.length≤1000000
 taints:n.taints.length≤1000000
theorem jhX (n:Nod) (a1 a2 a3:Option Addr) (m1 c1 m2 c2 m3 c3:Nat) (w:World) (h:zk w (.slice a1 m1 c1) (.slice a2 m2 c2) (.slice a3 m3 c3) n) (hl:zW n) :
 Calls Tryz.prog 187 #[.agg #[.string n.name,.slice a1 m1 c1,.slice a2 m2 c2,.slice a3 m3 c3,.bool n.cordon]] w fun e w'=>∃v,e=.returned v∧Js w.heap.size w' v n∧Kept w w':=by
 have hsz:=h.size;obtain⟨x1,y1,e1,p1,q1,r1⟩:=h.cap
 cases e1
 obtain⟨x2,y2,e2,p2,q2,r2⟩:=h.labels
 cases e2
 obtain⟨x3,y3,e3,p3,q3,r3⟩:=h.taints
 cases e3
 obtain⟨H1,H2,H3⟩:=lH3 (fun W (k:Kept w W)=>qG a1 n.cap.length c1 n.cap W (r1.kept k) p1 q1 hl.cap) (fun W (k:Kept w W)=>qq a2 n.labels.length c2 n.labels W (r2.kept k) p2 q2 hl.labels) (fun W (k:Kept w W)=>jck a3 n.taints.length c3 n.taints W (r3.kept k) p3 q3 hl.taints);obtain⟨k1,hk1⟩:=eX (n.cap.length)
 obtain⟨k2,hk2⟩:=eX (n.labels.length)
 obtain⟨k3,hk3⟩:=eX (n.taints.length)
 obtain⟨x,hx⟩:=eX (n.name)
 obtain⟨cd,hcd⟩:=eX (n.cordon)
 have hxs:x.size≤maxLen:=by rw[←hx];exact hsz
 rw[hk1] at H1;rw[hk2] at H2;rw[hk3] at H3;rw[hk1,hk2,hk3,hx,hcd];have HX:=lH hx;have TX:=lH hcd;clear h hl p1 q1 r1 p2 q2 r2 p3 q3 r3 hk1 hk2 hk3 hx hcd hsz;obtain⟨Z,hZ⟩:=eX ((w.alloc (.cells #[.string x,.slice a1 k1 c1,.slice a2 k2 c2,.slice a3 k3 c3,.bool cd] 78)).alloc (.cells #[.string ⟨#[]⟩,.slice none 0 0,.slice none 0 0,.slice none 0 0,.bool false] 78))
 have hkz:Kept w Z:=by rw[←hZ];exact jm _ _ _
 have hzs:Z.heap.size=w.heap.size+2:=by rw[←hZ];simp
 have Q0:=lH (show zh w.heap.size (.string x) (.slice a1 k1 c1) (.slice a2 k2 c2) (.slice a3 k3 c3) (.bool cd) Z from YS w _ _ _ _ _ 78 Z (by rw[←hZ];exact ja _ _));have Q1:=lH (show zh (w.heap.size+1) (.string ⟨#[]⟩) (.slice none 0 0) (.slice none 0 0) (.slice none 0 0) (.bool false) Z by
  have:=YS (w.alloc (.cells #[.string x,.slice a1 k1 c1,.slice a2 k2 c2,.slice a3 k3 c3,.bool cd] 78)) (.string ⟨#[]⟩) (.slice none 0 0) (.slice none 0 0) (.slice none 0 0) (.bool false) 78 Z (by rw[hZ];exact Kept.refl _);rw[World.size_alloc] at this;exact this)
 have K:=lH hkz;have hs0:w.heap.size+2≤Z.heap.size:=by omega
 clear hkz hzs;obtain⟨⟨y0,y1,y2,y3,y4⟩,x0,x1,x2,x3,x4⟩:=Q0.out;go_enter Tryz.func187,Tryz.ntmps187;go_wp2_with fail
 try rw[hZ]
 clear hZ;clear y0 y1 y2 y3 y4 x0 x1 x2 x3 x4;refine(H1.out _ K.out).mono ?_;rintro e w1 ⟨b1,n1,d1,rfl,rr,gg,k⟩;obtain⟨Un,RA,K⟩:=lH3 (show ∀b off sp,b1=some ⟨b,off,sp⟩→w.heap.size+2≤b from fun b o s e=>by have:=gg b o s e;omega) rr (K.out.trans k);have hs1:w.heap.size+2≤w1.heap.size:=by have:=k.size;omega
 have Q0:=lH (Q0.out.kept k);have Q1:=lH (Q1.out.kept k);clear rr gg k hs0;obtain⟨⟨y0,y1,y2,y3,y4⟩,x0,x1,x2,x3,x4⟩:=Q0.out;obtain⟨Q0,Q1,RA,K⟩:=lH4 (Q0.out.set1 (.slice b1 n1 d1)) (Q1.out.other (p:=w.heap.size) (j:=1) (u:=.slice b1 n1 d1) (by omega)) (JS (p:=w.heap.size) (j:=1) (u:=.slice b1 n1 d1) RA.out Un.out (by omega)) (show Kept w (w1.setCell ⟨w.heap.size,1,none⟩ (.slice b1 n1 d1)) from K.out.setCell (p:=⟨w.heap.size,1,none⟩) (Nat.le_refl _) _);have hs0:w.heap.size+2≤(w1.setCell ⟨w.heap.size,1,none⟩ (.slice b1 n1 d1)).heap.size:=by simpa [World.setCell] using hs1
 clear hs1;obtain⟨⟨z0,z1,z2,z3,z4⟩,-⟩:=Q0.out;go_wp2_with fail
 clear y0 y1 y2 y3 y4 x0 x1 x2 x3 x4 z0 z1 z2 z3 z4;obtain⟨W1,hW1⟩:=eX (w1.setCell ⟨w.heap.size,1,none⟩ (.slice b1 n1 d1))
 rw[hW1] at Q0 Q1 RA K hs0 ⊢;clear hW1;refine(H2.out _ K.out).mono ?_;rintro e w2 ⟨b2,n2,d2,rfl,rr,gg,k⟩;obtain⟨Ve,RB,K⟩:=lH3 (show ∀b off sp,b2=some ⟨b,off,sp⟩→w.heap.size+2≤b from fun b o s e=>by have:=gg b o s e;omega) rr (K.out.trans k);have hs1:w.heap.size+2≤w2.heap.size:=by have:=k.size;omega
 obtain⟨Q0,Q1,RA⟩:=lH3 (Q0.out.kept k) (Q1.out.kept k) (RA.out.kept k);clear rr gg k hs0;obtain⟨⟨y0,y1,y2,y3,y4⟩,x0,x1,x2,x3,x4⟩:=Q0.out;obtain⟨Q0,Q1,RA,RB,K⟩:=lH5 (Q0.out.set2 (.slice b2 n2 d2)) (Q1.out.other (p:=w.heap.size) (j:=2) (u:=.slice b2 n2 d2) (by omega)) (JS (p:=w.heap.size) (j:=2) (u:=.slice b2 n2 d2) RA.out Un.out (by omega)) (Jv (p:=w.heap.size) (j:=2) (u:=.slice b2 n2 d2) RB.out Ve.out (by omega)) (show Kept w (w2.setCell ⟨w.heap.size,2,none⟩ (.slice b2 n2 d2)) from K.out.setCell (p:=⟨w.heap.size,2,none⟩) (Nat.le_refl _) _);have hs0:w.heap.size+2≤(w2.setCell ⟨w.heap.size,2,none⟩ (.slice b2 n2 d2)).heap.size:=by simpa [World.setCell] using hs1
 clear hs1;obtain⟨⟨z0,z1,z2,z3,z4⟩,-⟩:=Q0.out;go_wp2_with fail
 clear y0 y1 y2 y3 y4 x0 x1 x2 x3 x4 z0 z1 z2 z3 z4;obtain⟨W2,hW2⟩:=eX (w2.setCell ⟨w.heap.size,2,none⟩ (.slice b2 n2 d2))
 rw[hW2] at Q0 Q1 RA RB K hs0 ⊢;clear hW2;refine(H3.out _ K.out).mono ?_;rintro e w3 ⟨b3,n3,d3,rfl,rr,gg,k⟩;obtain⟨U0,RC,K⟩:=lH3 (show ∀b off sp,b3=some ⟨b,off,sp⟩→w.heap.size+2≤b from fun b o s e=>by have:=gg b o s e;omega) rr (K.out.trans k);have hs1:w.heap.size+2≤w3.heap.size:=by have:=k.size;omega
 obtain⟨Q0,Q1,RA,RB⟩:=lH4 (Q0.out.kept k) (Q1.out.kept k) (RA.out.kept k) (RB.out.kept k);clear rr gg k hs0;obtain⟨⟨y0,y1,y2,y3,y4⟩,x0,x1,x2,x3,x4⟩:=Q0.out;obtain⟨Q0,Q1,RA,RB,RC,K⟩:=lH6 (Q0.out.set3 (.slice b3 n3 d3)) (Q1.out.other (p:=w.heap.size) (j:=3) (u:=.slice b3 n3 d3) (by omega)) (JS (p:=w.heap.size) (j:=3) (u:=.slice b3 n3 d3) RA.out Un.out (by omega)) (Jv (p:=w.heap.size) (j:=3) (u:=.slice b3 n3 d3) RB.out Ve.out (by omega)) (Jv (p:=w.heap.size) (j:=3) (u:=.slice b3 n3 d3) RC.out U0.out (by omega)) (show Kept w (w3.setCell ⟨w.heap.size,3,none⟩ (.slice b3 n3 d3)) from K.out.setCell (p:=⟨w.heap.size,3,none⟩) (Nat.le_refl _) _);have hs0:w.heap.size+2≤(w3.setCell ⟨w.heap.size,3,none⟩ (.slice b3 n3 d3)).heap.size:=by simpa [World.setCell] using hs1
 clear hs1;obtain⟨⟨z0,z1,z2,z3,z4⟩,-⟩:=Q0.out;obtain⟨⟨g0,g1,g2,g3,g4⟩,f0,f1,f2,f3,f4⟩:=Q1.out;go_wp2;have P:=lH (Zd ⟨g0,g1,g2,g3,g4⟩ x b1 b2 b3 n1 d1 n2 d2 n3 d3 cd);clear y0 y1 y2 y3 y4 x0 x1 x2 x3 x4 z0 z1 z2 z3 z4 g0 g1 g2 g3 g4 f0 f1 f2 f3 f4;obtain⟨W3,hW3⟩:=eX (w3.setCell ⟨w.heap.size,3,none⟩ (.slice b3 n3 d3))
 rw[hW3] at RA RB RC K hs0 P ⊢;obtain⟨WE,hWE⟩:=eX ((((((W3.setCell ⟨w.heap.size+1,0,none⟩ (.string x)).setCell ⟨w.heap.size+1,1,none⟩ (.slice b1 n1 d1)).setCell ⟨w.heap.size+1,2,none⟩ (.slice b2 n2 d2)).setCell ⟨w.heap.size+1,3,none⟩ (.slice b3 n3 d3)).setCell ⟨w.heap.size+1,4,none⟩ (.bool cd)))
 rw[hWE] at P ⊢;clear hWE hW3;obtain⟨⟨e0,e1,e2,e3,e4⟩,hsz,hbl,hkp⟩:=P.out;refine bodyPost_ret (by simp[results,Tryz.results187,go_sem,e0,e1,e2,e3,e4];try rfl) rfl ?_;exact⟨_,rfl,⟨b1,n1,d1,b2,n2,d2,b3,n3,d3,by rw[HX.out,TX.out],by rw[HX.out];exact hxs,RA.out.far hsz (fun b o s e=>hbl b (by have:=Un.out b o s e;omega)),RB.out.far hsz (fun b o s e=>hbl b (by have:=Ve.out b o s e;omega)),RC.out.far hsz (fun b o s e=>hbl b (by have:=U0.out b o s e;omega)),fun b o s e=>Nat.le_trans (Nat.le_add_right _ 2) (Un.out b o s e),fun b o s e=>Nat.le_trans (Nat.le_add_right _ 2) (Ve.out b o s e),fun b o s e=>Nat.le_trans (Nat.le_add_right _ 2) (U0.out b o s e)⟩,hkp _ _ (Nat.le_succ _) K.out⟩
def jt (w:World) (a:Option Addr) (len:Nat) (l:List Nod):Prop :=
 l.length=len∧len≤maxLen∧(len=0∨∃b off,a=some ⟨b,off,none⟩∧b<w.heap.size∧∀i n,l[i]?=some n→∃a1 m1 c1 a2 m2 c2 a3 m3 c3,
  w.cell? ⟨b,off+i*5,none⟩=some (.string n.name)∧w.cell? ⟨b,off+i*5+1,none⟩=some (.slice a1 m1 c1)∧w.cell? ⟨b,off+i*5+2,none⟩=some (.slice a2 m2 c2)∧w.cell? ⟨b,off+i*5+3,none⟩=some (.slice a3 m3 c3)∧w.cell? ⟨b,off+i*5+4,none⟩=some (.bool n.cordon) ∧
  zk w (.slice a1 m1 c1) (.slice a2 m2 c2) (.slice a3 m3 c3) n)
theorem jt.kept {w w':World} {a:Option Addr} {len:Nat} {l:List Nod} (h:jt w a len l) (k:Kept w w'):jt w' a len l:=by
 obtain⟨h0,h1,h2⟩:=h;refine⟨h0,h1,h2.imp id ?_⟩;rintro ⟨b,off,rfl,hb,hc⟩;refine⟨b,off,rfl,Nat.lt_of_lt_of_le hb k.size,fun i n hi=>?_⟩;obtain⟨a1,m1,c1,a2,m2,c2,a3,m3,c3,p0,p1,p2,p3,p4,hn⟩:=hc i n hi;exact⟨a1,m1,c1,a2,m2,c2,a3,m3,c3,cell_later k p0,cell_later k p1,cell_later k p2,cell_later k p3,cell_later k p4,hn.kept k⟩
theorem jt.form {w:World} {a:Option Addr} {len:Nat} {l:List Nod} (h:jt w a len l):len=0∨∃b off,a=some ⟨b,off,none⟩:=by
 obtain⟨_,_,h2⟩:=h;exact h2.imp id fun ⟨b,off,e,_⟩=>⟨b,off,e⟩
theorem jt.at_ {w:World} {b off len:Nat} {l:List Nod} {k:Nat} (h:jt w (some ⟨b,off,none⟩) len l) (hk:k<len):∃n a1 m1 c1 a2 m2 c2 a3 m3 c3,l[k]?=some n∧l.drop k=n::l.drop (k+1)∧b<w.heap.size ∧
 w.cell? ⟨b,off+k*5,none⟩=some (.string n.name)∧w.cell? ⟨b,off+k*5+1,none⟩=some (.slice a1 m1 c1)∧w.cell? ⟨b,off+k*5+2,none⟩=some (.slice a2 m2 c2)∧w.cell? ⟨b,off+k*5+3,none⟩=some (.slice a3 m3 c3)∧w.cell? ⟨b,off+k*5+4,none⟩=some (.bool n.cordon) ∧
 zk w (.slice a1 m1 c1) (.slice a2 m2 c2) (.slice a3 m3 c3) n:=by
 obtain⟨h0,_,h3⟩:=h;have hkl:k<l.length:=by omega
 rcases h3 with h3 | ⟨b',off',e,hb,hc⟩
 · omega
 · injection e with e;injection e with e1 e2 e3;subst e1;subst e2;have he:l[k]?=some l[k]:=List.getElem?_eq_getElem hkl;obtain⟨a1,m1,c1,a2,m2,c2,a3,m3,c3,r⟩:=hc k _ he;exact⟨l[k],a1,m1,c1,a2,m2,c2,a3,m3,c3,he,List.drop_eq_getElem_cons hkl,hb,r⟩
def Jh (w:World) (v:Value) (l:List Nod):Prop:=∃a cap,v=.slice a l.length cap∧l.length≤cap∧cap≤maxLen∧jt w a l.length l
theorem Jh.kept {w w':World} {v:Value} {l:List Nod} (h:Jh w v l) (k:Kept w w'):Jh w' v l:=by
 obtain⟨a,cap,e,h1,h2,h3⟩:=h;exact⟨a,cap,e,h1,h2,h3.kept k⟩
structure je (q:Nat) (vs:List Value) (W:World):Prop where
 at_:∀i v,vs[i]?=some v→W.cell? ⟨q,i,none⟩=some v
 free:∀i,W.frozen? ⟨q,i,none⟩=false
theorem je.block {q:Nat} {vs:List Value} {W W':World} (h:je q vs W) (e:W'.heap[q]?=W.heap[q]?):je q vs W' :=
 ⟨fun i v hv=>(World.cell?_of_block (a:=⟨q,i,none⟩) e).trans (h.at_ i v hv),fun i=>(World.frozen?_of_block (a:=⟨q,i,none⟩) e).trans (h.free i)⟩
theorem je.at3 {q:Nat} {a b c:Value} {r9:List Value} {W:World} (h:je q (a::b::c::r9) W):W.cell? ⟨q,0,none⟩=some a∧W.cell? ⟨q,1,none⟩=some b∧W.cell? ⟨q,2,none⟩=some c:=⟨h.at_ 0 _ rfl,h.at_ 1 _ rfl,h.at_ 2 _ rfl⟩
theorem je.at4 {q:Nat} {a b c d:Value} {r9:List Value} {W:World} (h:je q (a::b::c::d::r9) W):W.cell? ⟨q,0,none⟩=some a∧W.cell? ⟨q,1,none⟩=some b∧W.cell? ⟨q,2,none⟩=some c∧W.cell? ⟨q,3,none⟩=some d:=⟨h.at_ 0 _ rfl,h.at_ 1 _ rfl,h.at_ 2 _ rfl,h.at_ 3 _ rfl⟩
theorem je.at5 {q:Nat} {a b c d e:Value} {r9:List Value} {W:World} (h:je q (a::b::c::d::e::r9) W):W.cell? ⟨q,0,none⟩=some a∧W.cell? ⟨q,1,none⟩=some b∧W.cell? ⟨q,2,none⟩=some c∧W.cell? ⟨q,3,none⟩=some d∧W.cell? ⟨q,4,none⟩=some e:=⟨h.at_ 0 _ rfl,h.at_ 1 _ rfl,h.at_ 2 _ rfl,h.at_ 3 _ rfl,h.at_ 4 _ rfl⟩
theorem je.at11 {q:Nat} {a b c d e f g i j k l:Value} {r9:List Value} {W:World} (h:je q (a::b::c::d::e::f::g::i::j::k::l::r9) W):W.cell? ⟨q,0,none⟩=some a∧W.cell? ⟨q,1,none⟩=some b∧W.cell? ⟨q,2,none⟩=some c∧W.cell? ⟨q,3,none⟩=some d∧W.cell? ⟨q,4,none⟩=some e∧W.cell? ⟨q,5,none⟩=some f∧W.cell? ⟨q,6,none⟩=some g∧W.cell? ⟨q,7,none⟩=some i∧W.cell? ⟨q,8,none⟩=some j∧W.cell? ⟨q,9,none⟩=some k∧W.cell? ⟨q,10,none⟩=some l:=⟨h.at_ 0 _ rfl,h.at_ 1 _ rfl,h.at_ 2 _ rfl,h.at_ 3 _ rfl,h.at_ 4 _ rfl,h.at_ 5 _ rfl,h.at_ 6 _ rfl,h.at_ 7 _ rfl,h.at_ 8 _ rfl,h.at_ 9 _ rfl,h.at_ 10 _ rfl⟩
theorem je.lt {q:Nat} {v:Value} {vs:List Value} {W:World} (h:je q (v::vs) W):q<W.heap.size:=World.block_lt_of_cell? _ _ (h.at_ 0 v rfl)
theorem je.kept {q:Nat} {v:Value} {vs:List Value} {W W':World} (h:je q (v::vs) W) (k:Kept W W'):je q (v::vs) W':=h.block (k.block q h.lt)
theorem je.other {q p j:Nat} {u:Value} {vs:List Value} {W:World} (h:je q vs W) (hp:q≠p):je q vs (W.setCell ⟨p,j,none⟩ u):=h.block (Below.heap_setCell W ⟨p,j,none⟩ u q hp)
theorem jb (w:World) (v:Value) (vs:List Value) (T:TypeId) (W:World) (k:Kept (w.alloc (.cells (v::vs).toArray T)) W):je w.heap.size (v::vs) W:=by
 have hh:=w.alloc_heap_new (.cells (v::vs).toArray T);have h:je w.heap.size (v::vs) (w.alloc (.cells (v::vs).toArray T)):=⟨fun i u hu=>by rw[Lib.cell_of_heap hh];simpa using hu,fun i=>by
  unfold World.frozen?;rw[show (w.alloc (.cells (v::vs).toArray T)).heap[(⟨w.heap.size,i,none⟩:Addr).block]?=some (.cells (v::vs).toArray T) from hh];simp⟩
 exact h.kept k
theorem je.set {q j:Nat} {u:Value} {vs:List Value} {W:World} (h:je q vs W) (hj:j<vs.length):je q (vs.set j u) (W.setCell ⟨q,j,none⟩ u):=by
 refine⟨fun i v hv=>?_,fun i=>by rw[World.frozen?_setCell];exact h.free i⟩;by_cases e:j=i
 · subst e;have hv':v=u:=by rw[List.getElem?_set_self hj] at hv;exact(Option.some.inj hv).symm
   subst hv';exact World.cell?_setCell_same _ _ _ (h.at_ j _ (List.getElem?_eq_getElem hj))
 · rw[List.getElem?_set_ne e] at hv;rw[World.cell?_setCell_other _ _ _ _ (by simp)];exact h.at_ i v hv
theorem qM (q:Nat):∀(vs:List Value) (o:Nat) (W:World),(W.setCells q o vs).heap.size=W.heap.size
 | [],_,_=>rfl
 | v::r,o,W=>by rw[World.setCells,qM q r];simp[World.setCell]
theorem ZB (q:Nat):∀(vs:List Value) (o:Nat) (W:World) (b:Nat),b≠q→(W.setCells q o vs).heap[b]?=W.heap[b]?
 | [],_,_,_,_=>rfl
 | v::r,o,W,b,h=>by rw[World.setCells,ZB q r _ _ b h];exact Below.heap_setCell W ⟨q,o,none⟩ v b h
theorem js (q:Nat):∀(vs:List Value) (o:Nat) (W:World) (B:Nat) (w:World),B≤q→Below B w W→Below B w (W.setCells q o vs)
 | [],_,_,_,_,_,k=>k
 | v::r,o,W,B,w,h,k=>by rw[World.setCells];exact js q r _ _ B w h (k.setCell (p:=⟨q,o,none⟩) h _)
structure jmZ (q:Nat) (vs:List Value) (W W':World):Prop where
 cells:je q vs W'
 size:W'.heap.size=W.heap.size
 far:∀b,b≠q→W'.heap[b]?=W.heap[b]?
 below:∀B w,B≤q→Below B w W→Below B w W'
theorem j4 {q:Nat} {us vs:List Value} {W:World} (h:je q us W) (hl:us.length=vs.length):jmZ q vs W (W.setCells q 0 vs):=by
 refine⟨⟨fun i v hv=>?_,fun i=>by rw[World.frozen?_setCells];exact h.free i⟩,qM q vs 0 W,fun b hb=>ZB q vs 0 W b hb,fun B w hB k=>js q vs 0 W B w hB k⟩;have hi:i<vs.length:=(List.getElem?_eq_some_iff.1 hv).1;have:=World.cell?_setCells_in q vs 0 W (fun j hj=>by rw[Nat.zero_add,h.at_ j _ (List.getElem?_eq_getElem (by omega))];rfl) i hi;rw[Nat.zero_add] at this;rw[this];obtain⟨_,e⟩:=List.getElem?_eq_some_iff.1 hv;rw[e]
theorem jfR (n:Nod) (v1 v2 v3:Value) (w:World):Calls Tryz.prog 138 #[zC n v1 v2 v3] w fun e w'=>e=.returned (.string n.name)∧Kept w w':=by
 unfold zC;go_enter Tryz.func138,Tryz.ntmps138;go_wp2;go_ret;exact⟨rfl,ja _ _⟩
theorem jf4 (n:Nod) (v1 v2 v3:Value) (p q:Addr) (x:ByteArray) (w:World) (hp:w.cell? p=some (.func (.func 138) #[] #[])) (hq:w.cell? q=some (.string x)) :
 Calls Tryz.prog 217 #[zC n v1 v2 v3,.pointer (some p),.pointer (some q)] w fun e w'=>e=.returned (.bool (eqS n.name x))∧Kept w w':=by
 have HB:=lH (show ∀W,Kept (w.alloc (.cells #[.string n.name,v1,v2,v3,.bool n.cordon] 78)) W→W.cell? p=some (.func (.func 138) #[] #[])∧W.cell? q=some (.string x)∧W.cell? ⟨w.heap.size,0,none⟩=some (.string n.name)∧W.cell? ⟨w.heap.size,1,none⟩=some (v1)∧W.cell? ⟨w.heap.size,2,none⟩=some (v2)∧W.cell? ⟨w.heap.size,3,none⟩=some (v3)∧W.cell? ⟨w.heap.size,4,none⟩=some (.bool n.cordon) from fun W k=>⟨cell_later ((ja _ _).trans k) hp,cell_later ((ja _ _).trans k) hq,(jb w (.string n.name) [v1,v2,v3,.bool n.cordon] 78 W k).at_ 0 _ rfl,(jb w (.string n.name) [v1,v2,v3,.bool n.cordon] 78 W k).at_ 1 _ rfl,(jb w (.string n.name) [v1,v2,v3,.bool n.cordon] 78 W k).at_ 2 _ rfl,(jb w (.string n.name) [v1,v2,v3,.bool n.cordon] 78 W k).at_ 3 _ rfl,(jb w (.string n.name) [v1,v2,v3,.bool n.cordon] 78 W k).at_ 4 _ rfl⟩);have HN:=lH (fun W=>jfR n v1 v2 v3 W);unfold zC at HN ⊢;obtain⟨b,hb⟩:=eX (eqS n.name x)
 have t1:(n.name.toList==x.toList)=b:=hb;rw[hb];clear hp hq hb;go_enter Tryz.func217,Tryz.ntmps217;go_wp2
 go_region_held3 (fun W=>W.cell? p=some (.func (.func 138) #[] #[])∧W.cell? q=some (.string x)∧W.cell? ⟨w.heap.size,0,none⟩=some (.string n.name)∧W.cell? ⟨w.heap.size,1,none⟩=some (v1)∧W.cell? ⟨w.heap.size,2,none⟩=some (v2)∧W.cell? ⟨w.heap.size,3,none⟩=some (v3)∧W.cell? ⟨w.heap.size,4,none⟩=some (.bool n.cordon))
  (first | exact HB.out _ (Kept.drew _) | exact HB.out _ K1.out)
  (first | (go_at_call 138;refine(HN.out _).mono ?_;rintro e1 w1 ⟨rfl,k1⟩;have K1:=lH ((Kept.drew _).trans k1);clear k1))
 go_wp2;go_ret;exact⟨jf rfl,(ja _ _).trans K1.out⟩
def jk (l:List Nod) (x:ByteArray):Option Nod:=l.find? fun n=>eqS n.name x
def jk7 (l:List Nod) (x:ByteArray) (i:Int):Prop:=(∃(k:Nat) (n:Nod),i=(k:Int)∧l[k]?=some n∧jk l x=some n)∨(i=-1∧jk l x=none)
theorem jg5 (a:Option Addr) (len cap:Nat) (l:List Nod) (x:ByteArray) (p q:Addr) (w:World) (hr:jt w a len l) (hp:w.cell? p=some (.func (.func 138) #[] #[])) (hq:w.cell? q=some (.string x)) :
 Calls Tryz.prog 216 #[.slice a len cap,.func (.func 217) #[] #[.pointer (some p),.pointer (some q)]] w fun e w'=>∃i,e=.returned (.int .i64 i)∧jk7 l x i∧Kept w w':=by
 have hl:=hr.1;have hm:=hr.2.1;unfold maxLen at hm;have HL:=lH hl;by_cases h0:len=0
 · subst h0;have hl0:l=[]:=List.eq_nil_of_length_eq_zero hl;have HF:=lH (show jk l x=none by rw[hl0];rfl);clear hr hl hp hq;go_enter Tryz.func216,Tryz.ntmps216;go_wp2;refine wp_loop_rounds 1 ?_;rw[rounds_succ];go_wp2;go_ret;exact⟨-1,rfl,.inr ⟨rfl,HF.out⟩,Kept.refl _⟩
 · obtain⟨b,off,rfl⟩:=hr.form.resolve_left h0;obtain⟨HR,HP,HQ⟩:=lH3 hr hp hq;clear hr hl hp hq h0;go_enter Tryz.func216,Tryz.ntmps216;go_wp2;go_loopw [8] (fun i wr=>∃k:Nat,k≤len∧i=.int .i64 k∧jk (l.drop k) x=jk l x∧Kept w wr) (fun i _=>len-(intOf i).toNat)
   case atStart=>exact⟨0,Nat.zero_le _,rfl,rfl,Kept.refl _⟩
   case round =>
    obtain⟨k,hk,rfl,hrest,hK⟩:=hrel;have HS:=lH hrest;have HK:=lH hK;by_cases hlt:k<len
    · obtain⟨n,a1,m1,c1,a2,m2,c2,a3,m3,c3,hn,hd,hb,p0,p1,p2,p3,p4,hat⟩:=(HR.out.kept hK).at_ hlt;obtain⟨HN,HD,HC⟩:=lH3 hn hd (jf4 n (.slice a1 m1 c1) (.slice a2 m2 c2) (.slice a3 m3 c3) p q x wr (cell_later hK HP.out) (cell_later hK HQ.out));unfold zC at HC;obtain⟨t,ht⟩:=eX (eqS n.name x)
      have HT:=lH ht;rw[ht] at HC;clear hrest hK hat hd hn ht
      cases t with
      | true =>
       have HF:=lH (show jk l x=some n by rw[←HS.out,HD.out];unfold jk;rw[List.find?_cons,HT.out]);go_wp2_with fail
       refine HC.out.mono ?_;rintro e w1 ⟨rfl,k1⟩;have K1:=lH (HK.out.trans k1);clear k1;go_wp2;go_ret;exact⟨(k:Int),rfl,.inl ⟨k,n,rfl,HN.out,HF.out⟩,K1.out⟩
      | false =>
       have HE:=lH (show jk (l.drop k) x=jk (l.drop (k+1)) x by rw[HD.out];unfold jk;rw[List.find?_cons,HT.out]);go_wp2_with fail
       refine HC.out.mono ?_;rintro e w1 ⟨rfl,k1⟩;have K1:=lH (HK.out.trans k1);clear k1;go_wp2;go_roundw
       case rel=>exact⟨k+1,by omega,by go_num,HE.out.symm.trans HS.out,K1.out⟩
       case measure=>simp[intOf];omega
    · have HF:=lH (show jk l x=none by rw[←hrest,List.drop_of_length_le (by rw[HL.out];omega)];rfl);clear hrest hK;go_wp2;go_ret;exact⟨-1,rfl,.inr ⟨rfl,HF.out⟩,HK.out⟩
theorem jdC (a:Option Addr) (len cap:Nat) (l:List Nod) (x:ByteArray) (w:World) (hr:jt w a len l) (hlow:∀n ∈ l,zW n) :
 Calls Tryz.prog 186 #[.slice a len cap,.string x,.func (.func 138) #[] #[],.func (.func 187) #[] #[]] w fun e w'=>∃v,e=.returned (.tuple #[v,.bool (jk l x).isSome])∧Js w.heap.size w' v ((jk l x).getD Nod.zero)∧Kept w w':=by
 have hmf:=hmfL (P:=Tryz.prog);have hl:=hr.1;have hm:=hr.2.1;unfold maxLen at hm;obtain⟨Z,hZ⟩:=eX (((w.alloc (.cells #[.string x] 9)).alloc (.cells #[.func (.func 138) #[] #[]] 211)).alloc (.cells #[.string ⟨#[]⟩,.slice none 0 0,.slice none 0 0,.slice none 0 0,.bool false] 78))
 have hkz:Kept w Z:=by rw[←hZ];exact(jm _ _ _).trans (ja _ _)
 have hzs:Z.heap.size=w.heap.size+3:=by rw[←hZ];simp
 have hq:=(jb w (.string x) [] 9 Z (by rw[←hZ];exact jm _ _ _)).at_ 0 _ rfl;have hp:Z.cell? ⟨w.heap.size+1,0,none⟩=some (.func (.func 138) #[] #[]):=by
  have:=(jb (w.alloc (.cells #[.string x] 9)) (.func (.func 138) #[] #[]) [] 211 Z (by rw[←hZ];exact ja _ _)).at_ 0 _ rfl;rw[World.size_alloc] at this;exact this
 have UE:=lH (show je (w.heap.size+2) [.string ⟨#[]⟩,.slice none 0 0,.slice none 0 0,.slice none 0 0,.bool false] Z by
  have:=jb ((w.alloc (.cells #[.string x] 9)).alloc (.cells #[.func (.func 138) #[] #[]] 211)) (.string ⟨#[]⟩) [.slice none 0 0,.slice none 0 0,.slice none 0 0,.bool false] 78 Z (by rw[hZ];exact Kept.refl _);rw[World.size_alloc,World.size_alloc] at this;exact this)
 obtain⟨Nc,Vc,Vf,HR,Vr,HL⟩:=lH6 (jg5 a len cap l x ⟨w.heap.size+1,0,none⟩ ⟨w.heap.size,0,none⟩ Z (hr.kept hkz) hp hq) hkz hzs (hr.kept hkz) hlow hl;clear hr hl hlow hkz hq hp hzs;go_enter Tryz.func186,Tryz.ntmps186;go_wp2_with fail
 try rw[hZ]
 clear hZ;refine Nc.out.mono ?_;rintro e w1 ⟨i,rfl,hs,k1⟩;have K1:=lH k1;rcases hs with ⟨k,n9,rfl,hn9,hf⟩ | ⟨rfl,hf⟩
 · have HF:=lH hf;have hkl:k<len:=by have:=(List.getElem?_eq_some_iff.1 hn9).1;rw[HL.out] at this;exact this
   have hk0:decide ((k:Int)<0)=false:=by simp
   have hkk:(k:Int)<(len:Int):=by omega
   obtain⟨b,off,rfl⟩:=HR.out.form.resolve_left (by omega);obtain⟨n,a1,m1,c1,a2,m2,c2,a3,m3,c3,hn,hd,hb,p0,p1,p2,p3,p4,hat⟩:=(HR.out.kept k1).at_ hkl;obtain rfl:n9=n:=by rw[hn9] at hn;exact Option.some.inj hn
   obtain⟨Tt,VD,VG,Td⟩:=lH4 (Vr.out n9 (List.mem_of_getElem? hn9)) hat (UE.out.kept k1) (show w.heap.size+3≤w1.heap.size by have:=k1.size;rw[Vf.out] at this;exact this);have VH:=lH (jhX n9 a1 a2 a3 m1 c1 m2 c2 m3 c3 w1 VD.out Tt.out);clear hn9 hn hd hat hf k1;go_wp2_with fail
   refine VH.out.mono ?_;rintro e w2 ⟨v,rfl,hn,k2⟩;obtain⟨HN,KW,VG⟩:=lH3 hn (Vc.out.trans (K1.out.trans k2)) (VG.out.kept k2);obtain⟨b1,n1,d1,b2,n2,d2,b3,n3,d3,rfl,-⟩:=hn;obtain⟨z,hz⟩:=eX (n9.name)
   obtain⟨cd,hcd⟩:=eX (n9.cordon)
   rw[hz,hcd];rw[hz,hcd] at HN;clear k2 p0 p1 p2 p3 p4 hb hkl hk0 hkk;obtain⟨y0,y1,y2,y3,y4⟩:=VG.out.at5;have x0:=VG.out.free 0;have x1:=VG.out.free 1;have x2:=VG.out.free 2;have x3:=VG.out.free 3;have x4:=VG.out.free 4;have P:=lH (j4 (vs:=[.string z,.slice b1 n1 d1,.slice b2 n2 d2,.slice b3 n3 d3,.bool cd]) VG.out rfl);clear VG;go_wp2;obtain⟨WE,hWE⟩:=eX (w2.setCells (w.heap.size+2) 0 [.string z,.slice b1 n1 d1,.slice b2 n2 d2,.slice b3 n3 d3,.bool cd])
   have hWE2:(((((w2.setCell ⟨(w.heap.size+2),0,none⟩ (.string z)).setCell ⟨(w.heap.size+2),1,none⟩ (.slice b1 n1 d1)).setCell ⟨(w.heap.size+2),2,none⟩ (.slice b2 n2 d2)).setCell ⟨(w.heap.size+2),3,none⟩ (.slice b3 n3 d3)).setCell ⟨(w.heap.size+2),4,none⟩ (.bool cd))=WE:=hWE;rw[hWE] at P;rw[hWE2];clear hWE hWE2;obtain⟨PC,hsz,hbl,hkp⟩:=P.out;refine bodyPost_ret (by simp[results,Tryz.results186,go_sem,PC.at_ 0 _ rfl,PC.at_ 1 _ rfl,PC.at_ 2 _ rfl,PC.at_ 3 _ rfl,PC.at_ 4 _ rfl];try rfl) rfl ?_;rw[HF.out];exact⟨_,rfl,(HN.out.far hsz (fun b hb=>hbl b (by have:=Td.out;omega))).less (by have:=Td.out;omega),hkp _ _ (by omega) KW.out⟩
 · obtain⟨HF,VG,KW⟩:=lH3 hf (UE.out.kept k1) (Vc.out.trans k1);clear hf k1;obtain⟨y0,y1,y2,y3,y4⟩:=VG.out.at5;have x0:=VG.out.free 0;have x1:=VG.out.free 1;have x2:=VG.out.free 2;have x3:=VG.out.free 3;have x4:=VG.out.free 4;have P:=lH (j4 (vs:=[.string ⟨#[]⟩,.slice none 0 0,.slice none 0 0,.slice none 0 0,.bool false]) VG.out rfl);clear VG;go_wp2;obtain⟨WE,hWE⟩:=eX (w1.setCells (w.heap.size+2) 0 [.string ⟨#[]⟩,.slice none 0 0,.slice none 0 0,.slice none 0 0,.bool false])
   have hWE2:(((((w1.setCell ⟨(w.heap.size+2),0,none⟩ (.string ⟨#[]⟩)).setCell ⟨(w.heap.size+2),1,none⟩ (.slice none 0 0)).setCell ⟨(w.heap.size+2),2,none⟩ (.slice none 0 0)).setCell ⟨(w.heap.size+2),3,none⟩ (.slice none 0 0)).setCell ⟨(w.heap.size+2),4,none⟩ (.bool false))=WE:=hWE;rw[hWE] at P;rw[hWE2];clear hWE hWE2;obtain⟨PC,hsz,hbl,hkp⟩:=P.out;refine bodyPost_ret (by simp[results,Tryz.results186,go_sem,PC.at_ 0 _ rfl,PC.at_ 1 _ rfl,PC.at_ 2 _ rfl,PC.at_ 3 _ rfl,PC.at_ 4 _ rfl];try rfl) rfl ?_;rw[HF.out];exact⟨_,rfl,qf _ _,hkp _ _ (by omega) KW.out⟩
theorem jij (a:Option Addr) (len cap:Nat) (l:List Nod) (x:ByteArray) (w:World) (hr:jt w a len l) (hlow:∀n ∈ l,zW n) :
 Calls Tryz.prog 146 #[.slice a len cap,.string x] w fun e w'=>∃v,e=.returned (.tuple #[v,.bool (jk l x).isSome])∧Js w.heap.size w' v ((jk l x).getD Nod.zero)∧Kept w w':=by
 obtain⟨Z,hZ⟩:=eX (w.alloc (.cells #[.string ⟨#[]⟩,.slice none 0 0,.slice none 0 0,.slice none 0 0,.bool false] 78))
 have hkz:Kept w Z:=by rw[←hZ];exact ja _ _
 have hzs:Z.heap.size=w.heap.size+1:=by rw[←hZ];simp
 obtain⟨UE,Rz,Vc,Vf⟩:=lH4 (show je w.heap.size [.string ⟨#[]⟩,.slice none 0 0,.slice none 0 0,.slice none 0 0,.bool false] Z from jb w (.string ⟨#[]⟩) [.slice none 0 0,.slice none 0 0,.slice none 0 0,.bool false] 78 Z (by rw[hZ];exact Kept.refl _)) (jdC a len cap l x Z (hr.kept hkz) hlow) hkz hzs;obtain⟨n9,hn9⟩:=eX ((jk l x).getD Nod.zero)
 obtain⟨is,his⟩:=eX ((jk l x).isSome)
 rw[hn9,his] at Rz;rw[hn9,his];clear hr hlow hkz hzs hn9 his;go_enter Tryz.func146,Tryz.ntmps146;go_wp2_with fail
 try rw[hZ]
 clear hZ;refine Rz.out.mono ?_;rintro e w1 ⟨v,rfl,hn,k1⟩;obtain⟨HN,VG,KW⟩:=lH3 hn (UE.out.kept k1) (Vc.out.trans k1);obtain⟨b1,n1,d1,b2,n2,d2,b3,n3,d3,rfl,-⟩:=hn;obtain⟨z,hz⟩:=eX (n9.name)
 obtain⟨cd,hcd⟩:=eX (n9.cordon)
 rw[hz,hcd];rw[hz,hcd] at HN;clear k1;obtain⟨y0,y1,y2,y3,y4⟩:=VG.out.at5;have x0:=VG.out.free 0;have x1:=VG.out.free 1;have x2:=VG.out.free 2;have x3:=VG.out.free 3;have x4:=VG.out.free 4;have P:=lH (j4 (vs:=[.string z,.slice b1 n1 d1,.slice b2 n2 d2,.slice b3 n3 d3,.bool cd]) VG.out rfl);clear VG;go_wp2;obtain⟨WE,hWE⟩:=eX (w1.setCells w.heap.size 0 [.string z,.slice b1 n1 d1,.slice b2 n2 d2,.slice b3 n3 d3,.bool cd])
 have hWE2:(((((w1.setCell ⟨w.heap.size,0,none⟩ (.string z)).setCell ⟨w.heap.size,1,none⟩ (.slice b1 n1 d1)).setCell ⟨w.heap.size,2,none⟩ (.slice b2 n2 d2)).setCell ⟨w.heap.size,3,none⟩ (.slice b3 n3 d3)).setCell ⟨w.heap.size,4,none⟩ (.bool cd))=WE:=hWE;rw[hWE] at P;rw[hWE2];clear hWE hWE2;obtain⟨PC,hsz,hbl,hkp⟩:=P.out;refine bodyPost_ret (by simp[results,Tryz.results146,go_sem,PC.at_ 0 _ rfl,PC.at_ 1 _ rfl,PC.at_ 2 _ rfl,PC.at_ 3 _ rfl,PC.at_ 4 _ rfl];try rfl) rfl ?_;exact⟨_,rfl,(HN.out.far hsz (fun b hb=>hbl b (by have:=Vf.out;omega))).less (by have:=Vf.out;omega),hkp _ _ (Nat.le_refl _) KW.out⟩
def zt:Option ByteArray→List Nod→Int
 | _,[]=>0
 | prev,n::t=>if zA n≠0 then zA n else if Vec.jG prev n.name=true then 13 else zt (some n.name) t
def jV (l:List Nod):Int:=if 32<l.length then 4 else zt none l
def Y3 (l:List Nod) (k:Nat):Option ByteArray:=if k=0 then none else (l[k-1]?).map Nod.name
theorem jhG {l:List Nod} {k:Nat} (h:k=0) (s:ByteArray):Vec.jG (Y3 l k) s=false:=by unfold Y3;rw[if_pos h];rfl
theorem jha {l:List Nod} {k:Nat} {n:Nod} (h:¬k=0) (hn:l[k-1]?=some n) (s:ByteArray):Vec.jG (Y3 l k) s=leS s n.name:=by unfold Y3;rw[if_neg h,hn];rfl
theorem jhK {l:List Nod} {k:Nat} {n:Nod} (hn:l[k]?=some n):Y3 l (k+1)=some n.name:=by unfold Y3;rw[if_neg (by omega),Nat.add_sub_cancel,hn];rfl
theorem jeN {p:Option ByteArray} {n:Nod} {t:List Nod} (h:zA n≠0):zt p (n::t)=zA n:=by rw[zt,if_pos h]
theorem jbF {p:Option ByteArray} {n:Nod} {t:List Nod} (h:zA n=0) (b:Vec.jG p n.name=true):zt p (n::t)=13:=by rw[zt,if_neg (by rw[h];decide),if_pos b]
theorem jan {p:Option ByteArray} {n:Nod} {t:List Nod} (h:zA n=0) (b:Vec.jG p n.name=false):zt p (n::t)=zt (some n.name) t:=by rw[zt,if_neg (by rw[h];decide),if_neg (by rw[b];decide)]
theorem jdF (a:Option Addr) (len cap:Nat) (l:List Nod) (w:World) (hr:jt w a len l) :
 Calls Tryz.prog 60 #[.slice a len cap] w (Say (.int .i64 (jV l)) w):=by
 have hl:=hr.1;have hm:=hr.2.1;unfold maxLen at hm;by_cases h32:32<len
 · have HV:=lH (show jV l=4 by unfold jV;rw[if_pos (by omega)]);clear hr hl;go_enter Tryz.func60,Tryz.ntmps60;go_wp2;go_ret;exact⟨jc HV.out.symm,Kept.refl _⟩
 · have HV:=lH (show jV l=zt none l by unfold jV;rw[if_neg (by omega)]);have h32':len≤32:=by omega
   by_cases h0:len=0
   · subst h0;have HE:=lH (show jV l=0 by rw[HV.out,List.eq_nil_of_length_eq_zero hl];rfl);clear hr hl h32;go_enter Tryz.func60,Tryz.ntmps60;go_wp2;refine wp_loop_rounds 1 ?_;rw[rounds_succ];go_wp2;go_ret;exact⟨jc HE.out.symm,Kept.refl _⟩
   · obtain⟨b,off,rfl⟩:=hr.form.resolve_left h0;have HR:=lH hr;have HL:=lH hl;clear hr hl h0 h32;go_enter Tryz.func60,Tryz.ntmps60;go_wp2;go_loopw [3] (fun i wr=>∃k:Nat,k≤len∧i=.int .i64 k∧zt (Y3 l k) (l.drop k)=zt none l∧Kept w wr) (fun i _=>len-(intOf i).toNat)
     case atStart=>exact⟨0,Nat.zero_le _,rfl,rfl,Kept.refl _⟩
     case round =>
      obtain⟨k,hk,rfl,hrest,hK⟩:=hrel;obtain⟨HS,HT,HK⟩:=lH3 (HV.out.trans hrest.symm) hrest hK;by_cases hlt:k<len
      · obtain⟨n,a1,m1,c1,a2,m2,c2,a3,m3,c3,hn,hd,hb,p0,p1,p2,p3,p4,hat⟩:=(HR.out.kept hK).at_ hlt;obtain⟨VD,HD,VC⟩:=lH3 hat hd (jhK hn);have VT:=lH (fun W (kk:Kept wr W)=>jfu n (.slice a1 m1 c1) (.slice a2 m2 c2) (.slice a3 m3 c3) W (VD.out.kept kk));unfold zC at VT;obtain⟨ck,hck⟩:=eX (zA n)
        have VW:=lH hck;rw[hck] at VT;have hkk:(k:Int)<(len:Int):=by omega
        clear hrest hK hat hd hck;by_cases z1:ck=0
        · subst z1;by_cases h0:k=0
          · have hd0:decide (0<k)=false:=by subst h0;decide
            have HP:=lH (jhG (l:=l) h0 n.name);clear h0;go_wp2_with fail
            refine(VT.out _ (Kept.refl _)).mono ?_;rintro e w1 ⟨rfl,kk⟩;have KW:=lH kk;clear kk;go_wp2;go_quiet (fail)
            go_wp2;go_roundw
            case rel=>exact⟨k+1,by omega,by go_num,(show zt (Y3 l (k+1)) (l.drop (k+1))=zt none l by rw[←HT.out,HD.out,jan VW.out HP.out,VC.out]),HK.out.trans (KW.out.trans (Kept.drewN _ _))⟩
            case measure=>simp[intOf];omega
          · have hd0:decide (0<k)=true:=by simp;omega
            have g1:0≤(k:Int)-1:=by omega
            have g2:(k:Int)-1<(len:Int):=by omega
            have g3:((k:Int)-1).toNat=k-1:=by omega
            obtain⟨n9,_,_,_,_,_,_,_,_,_,hn9,-,hb9,o0,-⟩:=(HR.out.kept HK.out).at_ (show k-1<len by omega);have HP:=lH (jha (l:=l) h0 hn9 n.name);clear h0 hn9;by_cases n3:leS n.name n9.name=true
            · have n3':(Op.bytesLess n.name.toList n9.name.toList||n.name.toList==n9.name.toList)=true:=n3;have N3:=lH n3;clear n3;go_wp2_with fail
              refine(VT.out _ (Kept.refl _)).mono ?_;rintro e w1 ⟨rfl,kk⟩;have KW:=lH kk;have o1:=cell_later kk o0;have p9:=cell_later kk p0;clear kk;go_wp2;go_quiet (fail)
              go_wp2;go_ret;exact⟨jc (show (13:Int)=jV l by rw[HS.out,HD.out,jbF VW.out (HP.out.trans N3.out)]),HK.out.trans (KW.out.trans (Kept.drewN _ _))⟩
            · have n3:leS n.name n9.name=false:=by simpa using n3
              have n3':(Op.bytesLess n.name.toList n9.name.toList||n.name.toList==n9.name.toList)=false:=n3;have N3:=lH n3;clear n3;go_wp2_with fail
              refine(VT.out _ (Kept.refl _)).mono ?_;rintro e w1 ⟨rfl,kk⟩;have KW:=lH kk;have o1:=cell_later kk o0;have p9:=cell_later kk p0;clear kk;go_wp2;go_quiet (fail)
              go_wp2;go_roundw
              case rel=>exact⟨k+1,by omega,by go_num,(show zt (Y3 l (k+1)) (l.drop (k+1))=zt none l by rw[←HT.out,HD.out,jan VW.out (HP.out.trans N3.out),VC.out]),HK.out.trans (KW.out.trans (Kept.drewN _ _))⟩
              case measure=>simp[intOf];omega
        · have z1':(ck != 0)=true:=by simpa using z1
          have HB:=lH (show jV l=ck by rw[HS.out,HD.out,jeN (by rw[VW.out];exact z1),VW.out]);clear z1;go_wp2_with fail
          refine(VT.out _ (Kept.refl _)).mono ?_;rintro e w1 ⟨rfl,kk⟩;have KW:=lH kk;clear kk;go_wp2;go_ret;exact⟨jc HB.out.symm,HK.out.trans KW.out⟩
      · have HE:=lH (show jV l=0 by rw[HS.out,List.drop_of_length_le (by rw[HL.out];omega)];rfl);clear hrest hK;go_wp2;go_ret;exact⟨jc HE.out.symm,HK.out⟩
theorem jhN {v:Value} {l:List Nod} {c:Int} {w:World} (h:Jh w v l) (hc:jV l=c):Calls Tryz.prog 60 #[v] w (Say (.int .i64 c) w):=by
 subst hc;obtain⟨a,cap,rfl,_,_,hr⟩:=h;exact jdF a _ cap l w hr
def Jq (x:NT):Bool:=decide (x.1.size≤50)&&decide (x.2.1.size≤50)
def JQ (l:NL):Bool:=decide (l.length≤20)&&l.all Jq
theorem jkH (a:Option Addr) (len cap:Nat) (l:NL) (w:World) (hr:jn jz w a len l) :
 Calls Tryz.prog 110 #[.slice a len cap] w fun e w'=>e=.returned (.bool (JQ l))∧w=w':=by
 have hl:=hr.1;have hm:=hr.2.1;unfold maxLen at hm;by_cases h20:len≤20
 · have HV:=lH (show JQ l=l.all Jq by unfold JQ;rw[decide_eq_true (by omega)];rfl);rcases hr.form with h0 | ⟨b,off,rfl⟩
   · subst h0;have HE:=lH (show JQ l=true by rw[HV.out,List.eq_nil_of_length_eq_zero hl];rfl);clear hr hl;go_enter Tryz.func110,Tryz.ntmps110;go_wp2;refine wp_loop_rounds 1 ?_;rw[rounds_succ];go_wp2;go_ret;exact⟨jf HE.out.symm,rfl⟩
   · have HR:=lH hr;have HL:=lH hl;clear hr hl;go_enter Tryz.func110,Tryz.ntmps110;go_wp2;go_loop [3] (fun i=>∃k:Nat,k≤len∧i=.int .i64 k∧(l.drop k).all Jq=l.all Jq) (fun i=>len-(intOf i).toNat)
     case atStart=>exact⟨0,Nat.zero_le _,rfl,rfl⟩
     case round =>
      obtain⟨k,hk,rfl,hrest⟩:=hrel;by_cases hlt:k<len
      · obtain⟨x,y,m,hx,hd,hb,hz,hz2,c1,c2,c3⟩:=HR.out.tri hlt;have HT:=lH (hrest.symm.trans ((congrArg (fun z=>z.all Jq) hd).trans (all_cons _ _ _)));clear hrest hx hd;unfold maxLen at hz hz2;by_cases e:x.size≤50
        · by_cases e2:y.size≤50
          · have E:=lH (show Jq (x,y,m)=true by unfold Jq;rw[decide_eq_true e,decide_eq_true e2];rfl);go_wp2;go_round
            case rel=>exact⟨k+1,by omega,by go_num,(HT.out.trans (by rw[E.out];exact Bool.true_and _)).symm⟩
            case measure=>simp[intOf];omega
          · have E:=lH (show Jq (x,y,m)=false by unfold Jq;rw[decide_eq_false e2];exact Bool.and_false _);have e2':50<y.size:=by omega
            clear e2;go_wp2;go_ret;exact⟨jf (HV.out.trans (HT.out.trans (by rw[E.out];exact Bool.false_and _))).symm,rfl⟩
        · have E:=lH (show Jq (x,y,m)=false by unfold Jq;rw[decide_eq_false e];exact Bool.false_and _);have e':50<x.size:=by omega
          clear e;go_wp2;go_ret;exact⟨jf (HV.out.trans (HT.out.trans (by rw[E.out];exact Bool.false_and _))).symm,rfl⟩
      · have HS:=lH ((HV.out.trans hrest.symm).trans (congrArg (fun z=>z.all Jq) (zZ (by rw[HL.out];exact hlt))));clear hrest;go_wp2;go_ret;exact⟨jf (HS.out.trans rfl).symm,rfl⟩
 · have HV:=lH (show JQ l=false by unfold JQ;rw[decide_eq_false (by omega)];rfl);have h9:20<len:=by omega
   clear h20 hr hl;go_enter Tryz.func110,Tryz.ntmps110;go_wp2;go_ret;exact⟨jf HV.out.symm,rfl⟩
theorem jkO (a:Option Addr) (len cap:Nat) (l:NL) (w:World) (hr:jn jz w a len l) :
 Calls Tryz.prog 111 #[.slice a len cap] w fun e w'=>e=.returned (.bool (JQ l))∧w=w':=by
 have hl:=hr.1;have hm:=hr.2.1;unfold maxLen at hm;by_cases h20:len≤20
 · have HV:=lH (show JQ l=l.all Jq by unfold JQ;rw[decide_eq_true (by omega)];rfl);rcases hr.form with h0 | ⟨b,off,rfl⟩
   · subst h0;have HE:=lH (show JQ l=true by rw[HV.out,List.eq_nil_of_length_eq_zero hl];rfl);clear hr hl;go_enter Tryz.func111,Tryz.ntmps111;go_wp2;refine wp_loop_rounds 1 ?_;rw[rounds_succ];go_wp2;go_ret;exact⟨jf HE.out.symm,rfl⟩
   · have HR:=lH hr;have HL:=lH hl;clear hr hl;go_enter Tryz.func111,Tryz.ntmps111;go_wp2;go_loop [3] (fun i=>∃k:Nat,k≤len∧i=.int .i64 k∧(l.drop k).all Jq=l.all Jq) (fun i=>len-(intOf i).toNat)
     case atStart=>exact⟨0,Nat.zero_le _,rfl,rfl⟩
     case round =>
      obtain⟨k,hk,rfl,hrest⟩:=hrel;by_cases hlt:k<len
      · obtain⟨x,y,m,hx,hd,hb,hz,hz2,c1,c2,c3⟩:=HR.out.tri hlt;have HT:=lH (hrest.symm.trans ((congrArg (fun z=>z.all Jq) hd).trans (all_cons _ _ _)));clear hrest hx hd;unfold maxLen at hz hz2;by_cases e:x.size≤50
        · by_cases e2:y.size≤50
          · have E:=lH (show Jq (x,y,m)=true by unfold Jq;rw[decide_eq_true e,decide_eq_true e2];rfl);go_wp2;go_round
            case rel=>exact⟨k+1,by omega,by go_num,(HT.out.trans (by rw[E.out];exact Bool.true_and _)).symm⟩
            case measure=>simp[intOf];omega
          · have E:=lH (show Jq (x,y,m)=false by unfold Jq;rw[decide_eq_false e2];exact Bool.and_false _);have e2':50<y.size:=by omega
            clear e2;go_wp2;go_ret;exact⟨jf (HV.out.trans (HT.out.trans (by rw[E.out];exact Bool.false_and _))).symm,rfl⟩
        · have E:=lH (show Jq (x,y,m)=false by unfold Jq;rw[decide_eq_false e];exact Bool.false_and _);have e':50<x.size:=by omega
          clear e;go_wp2;go_ret;exact⟨jf (HV.out.trans (HT.out.trans (by rw[E.out];exact Bool.false_and _))).symm,rfl⟩
      · have HS:=lH ((HV.out.trans hrest.symm).trans (congrArg (fun z=>z.all Jq) (zZ (by rw[HL.out];exact hlt))));clear hrest;go_wp2;go_ret;exact⟨jf (HS.out.trans rfl).symm,rfl⟩
 · have HV:=lH (show JQ l=false by unfold JQ;rw[decide_eq_false (by omega)];rfl);have h9:20<len:=by omega
   clear h20 hr hl;go_enter Tryz.func111,Tryz.ntmps111;go_wp2;go_ret;exact⟨jf HV.out.symm,rfl⟩
theorem jmx {v:Value} {l:NL} {w:World} (h:Reads jz w v l):Calls Tryz.prog 110 #[v] w fun e w'=>e=.returned (.bool (JQ l))∧w=w':=by
 obtain⟨a,cap,rfl,_,_,hr⟩:=h;exact jkH a _ cap l w hr
theorem jmE {v:Value} {l:NL} {w:World} (h:Reads jz w v l):Calls Tryz.prog 111 #[v] w fun e w'=>e=.returned (.bool (JQ l))∧w=w':=by
 obtain⟨a,cap,rfl,_,_,hr⟩:=h;exact jkO a _ cap l w hr
theorem jge {s:NL} (h:JQ s=true):s.length≤20∧∀x ∈ s,x.1.size≤50∧x.2.1.size≤50:=by
 unfold JQ at h;simp only[Bool.and_eq_true,decide_eq_true_eq,List.all_eq_true] at h;refine⟨h.1,fun x hx=>?_⟩;have:=h.2 x hx;unfold Jq at this;simpa using this
end Go.Proofs.YtibepooajeakfaaGreat
