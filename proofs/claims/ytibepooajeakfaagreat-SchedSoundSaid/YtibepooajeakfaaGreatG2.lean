/- C. -/
import Derived.Test.YtibepooajeakfaaGreatG0
import Derived.Test.YtibepooajeakfaaGreatG1
import Derived.Shelf.SlSortCmp.QuietGrown
import Derived.Handy
import Derived.Deep.CutRange
set_option linter.unusedVariables false
set_option maxRecDepth 100000
set_option maxHeartbeats 25600000
namespace Go.Proofs.YtibepooajeakfaaGreat
open Go.RowKit
def Y4 (x:ByteArray×ByteArray):Bool:=decide (x.1.size≤50)&&decide (x.2.size≤50)
def Y6 (x:Int×ByteArray×ByteArray):Bool:=decide (x.2.1.size≤50)&&decide (x.2.2.size≤50)
def YB (l:PL):Bool:=decide (l.length≤20)&&l.all Y4
def YD (l:TL):Bool:=decide (l.length≤20)&&l.all Y6
theorem jdn (a:Option Addr) (len cap:Nat) (l:PL) (w:World) (hr:jk jz w a len l) :
 Calls Tryz.prog 109 #[.slice a len cap] w fun e w'=>e=.returned (.bool (YB l))∧w=w':=by
 have hl:=hr.1;have hm:=hr.2.1;unfold maxLen at hm;by_cases h20:len≤20
 · have HV:=lH (show YB l=l.all Y4 by unfold YB;rw[decide_eq_true (by omega)];rfl);rcases hr.form with h0 | ⟨b,off,rfl⟩
   · subst h0;have HE:=lH (show YB l=true by rw[HV.out,List.eq_nil_of_length_eq_zero hl];rfl);clear hr hl;go_enter Tryz.func109,Tryz.ntmps109;go_wp2;refine wp_loop_rounds 1 ?_;rw[rounds_succ];go_wp2;go_ret;exact⟨jd HE.out.symm,rfl⟩
   · have HR:=lH hr;have HL:=lH hl;clear hr hl;go_enter Tryz.func109,Tryz.ntmps109;go_wp2;go_loop [3] (fun i=>∃k:Nat,k≤len∧i=.int .i64 k∧(l.drop k).all Y4=l.all Y4) (fun i=>len-(intOf i).toNat)
     case atStart=>exact⟨0,Nat.zero_le _,rfl,rfl⟩
     case round =>
      obtain⟨k,hk,rfl,hrest⟩:=hrel;by_cases hlt:k<len
      · obtain⟨x,y,hx,hd,hb,hz,hz2,c1,c2⟩:=HR.out.pair hlt;have HT:=lH (hrest.symm.trans ((congrArg (fun z=>z.all Y4) hd).trans (all_cons _ _ _)));clear hrest hx hd;unfold maxLen at hz hz2;by_cases e:x.size≤50
        · by_cases e2:y.size≤50
          · have E:=lH (show Y4 (x,y)=true by unfold Y4;rw[decide_eq_true e,decide_eq_true e2];rfl);go_wp2;go_round
            case rel=>exact⟨k+1,by omega,by go_num,(HT.out.trans (by rw[E.out];exact Bool.true_and _)).symm⟩
            case measure=>simp[intOf];omega
          · have E:=lH (show Y4 (x,y)=false by unfold Y4;rw[decide_eq_false e2];exact Bool.and_false _);have e2':50<y.size:=by omega
            clear e2;go_wp2;go_ret;exact⟨jd (HV.out.trans (HT.out.trans (by rw[E.out];exact Bool.false_and _))).symm,rfl⟩
        · have E:=lH (show Y4 (x,y)=false by unfold Y4;rw[decide_eq_false e];exact Bool.false_and _);have e':50<x.size:=by omega
          clear e;go_wp2;go_ret;exact⟨jd (HV.out.trans (HT.out.trans (by rw[E.out];exact Bool.false_and _))).symm,rfl⟩
      · have HS:=lH ((HV.out.trans hrest.symm).trans (congrArg (fun z=>z.all Y4) (zB (by rw[HL.out];exact hlt))));clear hrest;go_wp2;go_ret;exact⟨jd (HS.out.trans rfl).symm,rfl⟩
 · have HV:=lH (show YB l=false by unfold YB;rw[decide_eq_false (by omega)];rfl);have h9:20<len:=by omega
   clear h20 hr hl;go_enter Tryz.func109,Tryz.ntmps109;go_wp2;go_ret;exact⟨jd HV.out.symm,rfl⟩
theorem jiG (a:Option Addr) (len cap:Nat) (l:TL) (w:World) (hr:jk jP w a len l) :
 Calls Tryz.prog 107 #[.slice a len cap] w fun e w'=>e=.returned (.bool (YD l))∧w=w':=by
 have hl:=hr.1;have hm:=hr.2.1;unfold maxLen at hm;by_cases h20:len≤20
 · have HV:=lH (show YD l=l.all Y6 by unfold YD;rw[decide_eq_true (by omega)];rfl);rcases hr.form with h0 | ⟨b,off,rfl⟩
   · subst h0;have HE:=lH (show YD l=true by rw[HV.out,List.eq_nil_of_length_eq_zero hl];rfl);clear hr hl;go_enter Tryz.func107,Tryz.ntmps107;go_wp2;refine wp_loop_rounds 1 ?_;rw[rounds_succ];go_wp2;go_ret;exact⟨jd HE.out.symm,rfl⟩
   · have HR:=lH hr;have HL:=lH hl;clear hr hl;go_enter Tryz.func107,Tryz.ntmps107;go_wp2;go_loop [3] (fun i=>∃k:Nat,k≤len∧i=.int .i64 k∧(l.drop k).all Y6=l.all Y6) (fun i=>len-(intOf i).toNat)
     case atStart=>exact⟨0,Nat.zero_le _,rfl,rfl⟩
     case round =>
      obtain⟨k,hk,rfl,hrest⟩:=hrel;by_cases hlt:k<len
      · obtain⟨o,x,y,hx,hd,hb,ho,hz,hz2,c0,c1,c2⟩:=HR.out.term hlt;have HT:=lH (hrest.symm.trans ((congrArg (fun z=>z.all Y6) hd).trans (all_cons _ _ _)));clear hrest hx hd;unfold maxLen at hz hz2;by_cases e:x.size≤50
        · by_cases e2:y.size≤50
          · have E:=lH (show Y6 (o,x,y)=true by unfold Y6;rw[decide_eq_true e,decide_eq_true e2];rfl);go_wp2;go_round
            case rel=>exact⟨k+1,by omega,by go_num,(HT.out.trans (by rw[E.out];exact Bool.true_and _)).symm⟩
            case measure=>simp[intOf];omega
          · have E:=lH (show Y6 (o,x,y)=false by unfold Y6;rw[decide_eq_false e2];exact Bool.and_false _);have e2':50<y.size:=by omega
            clear e2;go_wp2;go_ret;exact⟨jd (HV.out.trans (HT.out.trans (by rw[E.out];exact Bool.false_and _))).symm,rfl⟩
        · have E:=lH (show Y6 (o,x,y)=false by unfold Y6;rw[decide_eq_false e];exact Bool.false_and _);have e':50<x.size:=by omega
          clear e;go_wp2;go_ret;exact⟨jd (HV.out.trans (HT.out.trans (by rw[E.out];exact Bool.false_and _))).symm,rfl⟩
      · have HS:=lH ((HV.out.trans hrest.symm).trans (congrArg (fun z=>z.all Y6) (zB (by rw[HL.out];exact hlt))));clear hrest;go_wp2;go_ret;exact⟨jd (HS.out.trans rfl).symm,rfl⟩
 · have HV:=lH (show YD l=false by unfold YD;rw[decide_eq_false (by omega)];rfl);have h9:20<len:=by omega
   clear h20 hr hl;go_enter Tryz.func107,Tryz.ntmps107;go_wp2;go_ret;exact⟨jd HV.out.symm,rfl⟩
theorem jcZ (a:Option Addr) (len cap:Nat) (l:PL) (w:World) (hr:jk jz w a len l) :
 Calls Tryz.prog 160 #[.slice a len cap] w fun e w'=>e=.returned (.int .i64 (J9 l))∧Kept w w':=by
 have hl:=hr.1;have hm:=hr.2.1;unfold maxLen at hm;by_cases h8:len≤8
 · have HV:=lH (show J9 l=zM none l by unfold J9;rw[if_neg (by omega)]);rcases hr.form with h0 | ⟨b,off,rfl⟩
   · subst h0;have HE:=lH (show J9 l=0 by rw[HV.out];rw[List.eq_nil_of_length_eq_zero hl];rfl);clear hr hl;go_enter Tryz.func160,Tryz.ntmps160;go_wp2;refine wp_loop_rounds 1 ?_;rw[rounds_succ];go_wp2;go_ret;exact⟨jb HE.out.symm,Kept.refl _⟩
   · have HR:=lH hr;have HL:=lH hl;clear hr hl;go_enter Tryz.func160,Tryz.ntmps160;go_wp2;go_loopw [3] (fun i wr=>∃k:Nat,k≤len∧i=.int .i64 k∧zM (Yt l k) (l.drop k)=zM none l∧Kept w wr) (fun i _=>len-(intOf i).toNat)
     case atStart=>exact⟨0,Nat.zero_le _,rfl,rfl,Kept.refl _⟩
     case round =>
      obtain⟨k,hk,rfl,hrest,hK⟩:=hrel;by_cases hlt:k<len
      · obtain⟨x,y,hx,hd,hb,hz,hz2,c1,c2⟩:=(HR.out.kept hK).pair hlt;obtain⟨HX,HK,HT⟩:=lH3 hx hK (hrest.symm.trans (congrArg (zM (Yt l k)) hd));have HS:=lH (HV.out.trans HT.out);clear hK hrest hx hd;by_cases n1:isName x=true
        · by_cases n2:isName y=true
          · have N1:=lH n1;have N2:=lH n2;by_cases h0:k=0
            · have hd:decide (0<k)=false:=by subst h0;decide
              have HP:=lH (Ym (l:=l) h0 x);clear h0;go_wp2_with (go_at_call 158;refine(jq _ _ (by assumption)).mono ?_;rintro e w' ⟨rfl,rfl⟩)
              go_quiet (fail)
              go_wp2;go_roundw
              case rel=>exact⟨k+1,by omega,by go_num,by rw[YL HX.out];exact(ZA N1.out N2.out HP.out).symm.trans HT.out.symm,HK.out.trans (Kept.drewN _ _)⟩
              case measure=>simp[intOf];omega
            · have hd:decide (0<k)=true:=by simp;omega
              have g1:0≤(k:Int)-1:=by omega
              have g2:(k:Int)-1<(len:Int):=by omega
              have g3:((k:Int)-1).toNat=k-1:=by omega
              obtain⟨px,py,hpx,_,_,_,_,d1,d2⟩:=(HR.out.kept HK.out).pair (show k-1<len by omega);have HP:=lH (Yo (l:=l) h0 hpx x);clear hpx;by_cases n3:leS x px=true
              · have n3':(Op.bytesLess x.toList px.toList||x.toList==px.toList)=true:=n3;have N3:=lH n3;clear n3;go_wp2_with (go_at_call 158;refine(jq _ _ (by assumption)).mono ?_;rintro e w' ⟨rfl,rfl⟩)
                go_quiet (fail)
                go_wp2;go_ret;exact⟨jb (HS.out.trans (Xo N1.out N2.out (HP.out.trans N3.out))).symm,HK.out.trans (Kept.drewN _ _)⟩
              · have n3:leS x px=false:=by simpa using n3
                have n3':(Op.bytesLess x.toList px.toList||x.toList==px.toList)=false:=n3;have N3:=lH n3;clear n3;go_wp2_with (go_at_call 158;refine(jq _ _ (by assumption)).mono ?_;rintro e w' ⟨rfl,rfl⟩)
                go_quiet (fail)
                go_wp2;go_roundw
                case rel=>exact⟨k+1,by omega,by go_num,by rw[YL HX.out];exact(ZA N1.out N2.out (HP.out.trans N3.out)).symm.trans HT.out.symm,HK.out.trans (Kept.drewN _ _)⟩
                case measure=>simp[intOf];omega
          · have n2:isName y=false:=by simpa using n2
            have N:=lH (show (isName x&&isName y)=false by rw[n2,Bool.and_false]);go_wp2_with (go_at_call 158;refine(jq _ _ (by assumption)).mono ?_;rintro e w' ⟨rfl,rfl⟩)
            go_ret;exact⟨jb (HS.out.trans (Yz N.out)).symm,HK.out⟩
        · have n1:isName x=false:=by simpa using n1
          have N:=lH (show (isName x&&isName y)=false by rw[n1,Bool.false_and]);go_wp2_with (go_at_call 158;refine(jq x _ hz).mono ?_;rintro e w' ⟨rfl,rfl⟩)
          go_ret;exact⟨jb (HS.out.trans (Yz N.out)).symm,HK.out⟩
      · have HK:=lH hK;have HS:=lH ((HV.out.trans hrest.symm).trans (congrArg (zM (Yt l k)) (zB (by rw[HL.out];exact hlt))));clear hK hrest;go_wp2;go_ret;exact⟨jb (HS.out.trans rfl).symm,HK.out⟩
 · have HV:=lH (show J9 l=4 by unfold J9;rw[if_pos (by omega)]);have h9:8<len:=by omega
   clear h8 hr hl;go_enter Tryz.func160,Tryz.ntmps160;go_wp2;go_ret;exact⟨jb HV.out.symm,Kept.refl _⟩
theorem jcQ (a:Option Addr) (len cap:Nat) (l:TL) (w:World) (hr:jk jP w a len l) :
 Calls Tryz.prog 162 #[.slice a len cap] w fun e w'=>e=.returned (.int .i64 (Zq l))∧Kept w w':=by
 have hl:=hr.1;have hm:=hr.2.1;unfold maxLen at hm;by_cases h8:len≤8
 · have HV:=lH (show Zq l=ZK l by unfold Zq;rw[if_neg (by omega)]);rcases hr.form with h0 | ⟨b,off,rfl⟩
   · subst h0;have HE:=lH (show Zq l=0 by rw[HV.out];rw[List.eq_nil_of_length_eq_zero hl];rfl);clear hr hl;go_enter Tryz.func162,Tryz.ntmps162;go_wp2;refine wp_loop_rounds 1 ?_;rw[rounds_succ];go_wp2;go_ret;exact⟨jb HE.out.symm,Kept.refl _⟩
   · have HR:=lH hr;have HL:=lH hl;clear hr hl;go_enter Tryz.func162,Tryz.ntmps162;go_wp2;go_loopw [3] (fun i wr=>∃k:Nat,k≤len∧i=.int .i64 k∧ZK (l.drop k)=ZK l∧Kept w wr) (fun i _=>len-(intOf i).toNat)
     case atStart=>exact⟨0,Nat.zero_le _,rfl,rfl,Kept.refl _⟩
     case round =>
      obtain⟨k,hk,rfl,hrest,hK⟩:=hrel;by_cases hlt:k<len
      · obtain⟨o,x,y,hx,hd,hb,ho,hz,hz2,c1,c2,c3⟩:=(HR.out.kept hK).term hlt;have HK:=lH hK;have HT:=lH (hrest.symm.trans ((congrArg ZK hd).trans (jc0 _ _)));have HS:=lH (HV.out.trans HT.out);clear hK hrest hx hd;by_cases g1:o<1
        · have N:=lH (show JG (o,x,y)=1 by rw[JT,if_neg (by omega),if_neg (by omega)]);go_wp2_with (go_at_call 158;refine(jq _ _ (by assumption)).mono ?_;rintro e w' ⟨rfl,rfl⟩)
          go_ret;exact⟨jb (HS.out.trans ((if_pos (by rw[N.out];decide)).trans N.out)).symm,HK.out.trans (ja _ _)⟩
        · by_cases g4:4<o
          · have g1':¬o<1:=g1;have N:=lH (show JG (o,x,y)=1 by rw[JT,if_neg (by omega),if_neg (by omega)]);go_wp2_with (go_at_call 158;refine(jq _ _ (by assumption)).mono ?_;rintro e w' ⟨rfl,rfl⟩)
            go_ret;exact⟨jb (HS.out.trans ((if_pos (by rw[N.out];decide)).trans N.out)).symm,HK.out.trans (ja _ _)⟩
          · have hcase:(o=1∨o=2)∨(o=3∨o=4):=by omega
            clear g1 g4;rcases hcase with hcase | hcase
            · have hc:=hcase;by_cases n1:isName x=true
              · by_cases n2:isName y=true
                · have NN:=lH (show JG (o,x,y)=0 by rw[JT,if_pos hc,if_pos (by rw[n1,n2];rfl)]);clear hc;rcases hcase with rfl | rfl
                  · have N:=lH (NN.out);go_wp2_with (go_at_call 158;refine(jq _ _ (by assumption)).mono ?_;rintro e w' ⟨rfl,rfl⟩)
                    go_roundw
                    case rel=>exact⟨k+1,by omega,by go_num,(HT.out.trans (if_neg (by rw[N.out];decide))).symm,HK.out.trans (ja _ _)⟩
                    case measure=>simp[intOf];omega
                  · have N:=lH (NN.out);go_wp2_with (go_at_call 158;refine(jq _ _ (by assumption)).mono ?_;rintro e w' ⟨rfl,rfl⟩)
                    go_roundw
                    case rel=>exact⟨k+1,by omega,by go_num,(HT.out.trans (if_neg (by rw[N.out];decide))).symm,HK.out.trans (ja _ _)⟩
                    case measure=>simp[intOf];omega
                · have n2:isName y=false:=by simpa using n2
                  have NN:=lH (show JG (o,x,y)=3 by rw[JT,if_pos hc,if_neg (by rw[n2,Bool.and_false];decide)]);clear hc;rcases hcase with rfl | rfl
                  · have N:=lH (NN.out);go_wp2_with (go_at_call 158;refine(jq _ _ (by assumption)).mono ?_;rintro e w' ⟨rfl,rfl⟩)
                    go_ret;exact⟨jb (HS.out.trans ((if_pos (by rw[N.out];decide)).trans N.out)).symm,HK.out.trans (ja _ _)⟩
                  · have N:=lH (NN.out);go_wp2_with (go_at_call 158;refine(jq _ _ (by assumption)).mono ?_;rintro e w' ⟨rfl,rfl⟩)
                    go_ret;exact⟨jb (HS.out.trans ((if_pos (by rw[N.out];decide)).trans N.out)).symm,HK.out.trans (ja _ _)⟩
              · have n1:isName x=false:=by simpa using n1
                have NN:=lH (show JG (o,x,y)=3 by rw[JT,if_pos hc,if_neg (by rw[n1,Bool.false_and];decide)]);clear hc;rcases hcase with rfl | rfl
                · have N:=lH (NN.out);go_wp2_with (go_at_call 158;refine(jq _ _ (by assumption)).mono ?_;rintro e w' ⟨rfl,rfl⟩)
                  go_ret;exact⟨jb (HS.out.trans ((if_pos (by rw[N.out];decide)).trans N.out)).symm,HK.out.trans (ja _ _)⟩
                · have N:=lH (NN.out);go_wp2_with (go_at_call 158;refine(jq _ _ (by assumption)).mono ?_;rintro e w' ⟨rfl,rfl⟩)
                  go_ret;exact⟨jb (HS.out.trans ((if_pos (by rw[N.out];decide)).trans N.out)).symm,HK.out.trans (ja _ _)⟩
            · have hc:=hcase;have hn:¬(o=1∨o=2):=by omega
              by_cases n1:isName x=true
              · by_cases n2:eqS y ByteArray.empty=true
                · have NN:=lH (show JG (o,x,y)=0 by rw[JT,if_neg hn,if_pos hc,if_pos (by rw[n1,n2];rfl)]);have n2':(y.toList==([]:List UInt8))=true:=by unfold eqS at n2;simpa using n2
                  clear hc hn n2;rcases hcase with rfl | rfl
                  · have N:=lH (NN.out);go_wp2_with (go_at_call 158;refine(jq _ _ (by assumption)).mono ?_;rintro e w' ⟨rfl,rfl⟩)
                    go_roundw
                    case rel=>exact⟨k+1,by omega,by go_num,(HT.out.trans (if_neg (by rw[N.out];decide))).symm,HK.out.trans (ja _ _)⟩
                    case measure=>simp[intOf];omega
                  · have N:=lH (NN.out);go_wp2_with (go_at_call 158;refine(jq _ _ (by assumption)).mono ?_;rintro e w' ⟨rfl,rfl⟩)
                    go_roundw
                    case rel=>exact⟨k+1,by omega,by go_num,(HT.out.trans (if_neg (by rw[N.out];decide))).symm,HK.out.trans (ja _ _)⟩
                    case measure=>simp[intOf];omega
                · have n2:eqS y ByteArray.empty=false:=by simpa using n2
                  have NN:=lH (show JG (o,x,y)=3 by rw[JT,if_neg hn,if_pos hc,if_neg (by rw[n2,Bool.and_false];decide)]);have n2':(y.toList==([]:List UInt8))=false:=by unfold eqS at n2;simpa using n2
                  clear hc hn n2;rcases hcase with rfl | rfl
                  · have N:=lH (NN.out);go_wp2_with (go_at_call 158;refine(jq _ _ (by assumption)).mono ?_;rintro e w' ⟨rfl,rfl⟩)
                    go_ret;exact⟨jb (HS.out.trans ((if_pos (by rw[N.out];decide)).trans N.out)).symm,HK.out.trans (ja _ _)⟩
                  · have N:=lH (NN.out);go_wp2_with (go_at_call 158;refine(jq _ _ (by assumption)).mono ?_;rintro e w' ⟨rfl,rfl⟩)
                    go_ret;exact⟨jb (HS.out.trans ((if_pos (by rw[N.out];decide)).trans N.out)).symm,HK.out.trans (ja _ _)⟩
              · have n1:isName x=false:=by simpa using n1
                have NN:=lH (show JG (o,x,y)=3 by rw[JT,if_neg hn,if_pos hc,if_neg (by rw[n1,Bool.false_and];decide)]);clear hc hn;rcases hcase with rfl | rfl
                · have N:=lH (NN.out);go_wp2_with (go_at_call 158;refine(jq _ _ (by assumption)).mono ?_;rintro e w' ⟨rfl,rfl⟩)
                  go_ret;exact⟨jb (HS.out.trans ((if_pos (by rw[N.out];decide)).trans N.out)).symm,HK.out.trans (ja _ _)⟩
                · have N:=lH (NN.out);go_wp2_with (go_at_call 158;refine(jq _ _ (by assumption)).mono ?_;rintro e w' ⟨rfl,rfl⟩)
                  go_ret;exact⟨jb (HS.out.trans ((if_pos (by rw[N.out];decide)).trans N.out)).symm,HK.out.trans (ja _ _)⟩
      · have HK:=lH hK;have HS:=lH ((HV.out.trans hrest.symm).trans (congrArg ZK (zB (by rw[HL.out];exact hlt))));clear hK hrest;go_wp2;go_ret;exact⟨jb (HS.out.trans rfl).symm,HK.out⟩
 · have HV:=lH (show Zq l=4 by unfold Zq;rw[if_pos (by omega)]);have h9:8<len:=by omega
   clear h8 hr hl;go_enter Tryz.func162,Tryz.ntmps162;go_wp2;go_ret;exact⟨jb HV.out.symm,Kept.refl _⟩
theorem jlP:(Tryz.prog.info? 141).map (fun i=>(i.zero,i.size,i.bytes))=some (some (.agg #[.string ByteArray.empty,.string ByteArray.empty]),2,32):=by kernel_rfl
theorem jfz (a:Option Addr) (len cap:Nat) (l:PL) (w:World) (hr:jk jz w a len l) (hlen:len≤1000000) :
 Calls Tryz.prog 36 #[.slice a len cap] w (fun e w'=>∃x,e=.returned x∧Own jz 141 w' w.heap.size x l∧Kept w w'):=by
 have hl:=hr.1;obtain⟨i0,hi,hz0,hz1,hz2'⟩:=info_parts jlP;rcases hr.form with h0 | ⟨b,off,rfl⟩
 · subst h0;have hl0:l=[]:=List.eq_nil_of_length_eq_zero hl;subst hl0;clear hr hl hi hz0 hz1 hz2';go_enter Tryz.func36,Tryz.ntmps36;go_wp2;refine wp_loop_rounds 1 ?_;rw[rounds_succ];go_wp2;go_ret;exact⟨_,rfl,Own.nil _ _ _,Kept.refl _⟩
 · have HR:=lH hr;have HL:=lH hl;clear hr hl;go_enter Tryz.func36,Tryz.ntmps36;go_wp2;go_loopw [3,4] (fun v i wr=>∃k:Nat,k≤len∧i=.int .i64 k∧Own jz 141 wr w.heap.size v (l.take k)∧Below w.heap.size w wr) (fun _ i _=>len-(intOf i).toNat)
   case atStart=>exact⟨0,Nat.zero_le _,rfl,Own.nil _ _ _,Below.refl _ _⟩
   case round =>
    obtain⟨k,hk,rfl,ho,hB⟩:=hrel;obtain⟨HO,HB,HT⟩:=lH3 ho hB (show (l.take k).length=k by rw[List.length_take,HL.out];omega);have Vk:=lH (show wr.ownsRow w.heap.size 141 2 u3 k (je jz (l.take k)) by have:=HO.out.1;rw[HT.out] at this;exact this);by_cases hlt:k<len
    · obtain⟨x,y,hx,hd,hb,hz,hz2,c1,c2⟩:=(HR.out.kept hB).pair hlt;have HX:=lH hx;have hbw:b<w.heap.size:=by obtain⟨z,_,_,h,_⟩:=HR.out.cells hlt;exact h
      have hbase:w.heap.size≤wr.heap.size:=hB.size;have V0:=lH (show u3.ownBlock≠some b by
       intro e;have:=(Vk.out.lt b e).1;omega)
      have VL:=lH (show w.heap.size≤(wr.alloc (.cells #[.string x,.string y] 141)).drew.heap.size by simp;omega);have UJ:=lH (show Below w.heap.size w ((wr.alloc (.cells #[.string x,.string y] 141)).drew) from HB.out.trans (Below.mono ((ja wr _).trans (Kept.drewN _ 1)) hbase));have hk1:(k:Int)<(len:Int):=by omega
      have Ur:=lH (show jz.fine (x,y) from⟨hz,hz2⟩);clear ho hB hx hd hz hz2;go_wp2_with fail
      go_region_held3 (fun W=>W.cell? ⟨b,off+k*2,none⟩=some (.string x)∧W.cell? ⟨b,off+k*2+1,none⟩=some (.string y))
       (first
         | go_keep
         | (go_split_ands
            refine⟨?_,?_⟩
            · (refine(hgrow.cell_far ⟨b,off+k*2,none⟩ (by simp;omega) (Ne.symm V0.out)).trans ?_;assumption)
            · (refine(hgrow.cell_far ⟨b,off+k*2+1,none⟩ (by simp;omega) (Ne.symm V0.out)).trans ?_;assumption)))
       ((refine step_append_lies _ (by rfl) _ _ _ (by rfl) w.heap.size 141 i0 _ 2 32 Tryz.underlying38 hi hz0 hz1 hz2' rfl (by decide) u3 k (je jz (l.take k)) (by rfl) ((Vk.out.alloc _).drew)
          ⟨wr.heap.size,0,none⟩ 1 1 [.string x,.string y] (by rfl) (by rfl) (World.news_of_block (cs:=#[.string x,.string y]) (t:=141) (fr:=(0,0)) (heap_alloc_new wr _)) (jgi x y)
          (by decide) (by unfold maxLen;omega) (by omega) (by simp;omega) (wr.heap.size+1) (by simp) ?_;intro gg cap1 w1 hown1 hgrow hat hlt1))
      all_goals
       go_wp2;go_roundw
       case rel=>exact⟨k+1,by omega,by go_num,by rw[zI HX.out];exact Own.snoc hown1 (by rw[HT.out]) HO.out.2 Ur.out,UJ.out.grown hgrow VL.out (fun j hj=>(Vk.out.lt j hj).1)⟩
       case measure=>simp[intOf];omega
    · have HK:=lH (show l.take k=l by rw[List.take_of_length_le (by rw[HL.out];omega)]);clear ho hB;go_wp2;go_ret;exact⟨_,rfl,by have h:=HO.out;rw[HK.out] at h;exact h,HB.out⟩
theorem jl2:(Tryz.prog.info? 144).map (fun i=>(i.zero,i.size,i.bytes))=some (some (.agg #[.int .i64 0,.string ByteArray.empty,.string ByteArray.empty]),3,40):=by kernel_rfl
theorem jkq (a:Option Addr) (len cap:Nat) (l:TL) (w:World) (hr:jk jP w a len l) (hlen:len≤1000000) :
 Calls Tryz.prog 37 #[.slice a len cap] w (fun e w'=>∃x,e=.returned x∧Own jP 144 w' w.heap.size x l∧Kept w w'):=by
 have hl:=hr.1;obtain⟨i0,hi,hz0,hz1,hz2'⟩:=info_parts jl2;rcases hr.form with h0 | ⟨b,off,rfl⟩
 · subst h0;have hl0:l=[]:=List.eq_nil_of_length_eq_zero hl;subst hl0;clear hr hl hi hz0 hz1 hz2';go_enter Tryz.func37,Tryz.ntmps37;go_wp2;refine wp_loop_rounds 1 ?_;rw[rounds_succ];go_wp2;go_ret;exact⟨_,rfl,Own.nil _ _ _,Kept.refl _⟩
 · have HR:=lH hr;have HL:=lH hl;clear hr hl;go_enter Tryz.func37,Tryz.ntmps37;go_wp2;go_loopw [3,4] (fun v i wr=>∃k:Nat,k≤len∧i=.int .i64 k∧Own jP 144 wr w.heap.size v (l.take k)∧Below w.heap.size w wr) (fun _ i _=>len-(intOf i).toNat)
   case atStart=>exact⟨0,Nat.zero_le _,rfl,Own.nil _ _ _,Below.refl _ _⟩
   case round =>
    obtain⟨k,hk,rfl,ho,hB⟩:=hrel;obtain⟨HO,HB,HT⟩:=lH3 ho hB (show (l.take k).length=k by rw[List.length_take,HL.out];omega);have Vk:=lH (show wr.ownsRow w.heap.size 144 3 u3 k (je jP (l.take k)) by have:=HO.out.1;rw[HT.out] at this;exact this);by_cases hlt:k<len
    · obtain⟨o,x,y,hx,hd,hb,ho9,hz,hz2,c0,c1,c2⟩:=(HR.out.kept hB).term hlt;have HX:=lH hx;have hbw:b<w.heap.size:=by obtain⟨z,_,_,h,_⟩:=HR.out.cells hlt;exact h
      have hbase:w.heap.size≤wr.heap.size:=hB.size;have V0:=lH (show u3.ownBlock≠some b by
       intro e;have:=(Vk.out.lt b e).1;omega)
      have VL:=lH (show w.heap.size≤(wr.alloc (.cells #[.int .i64 o,.string x,.string y] 144)).drew.heap.size by simp;omega);have UJ:=lH (show Below w.heap.size w ((wr.alloc (.cells #[.int .i64 o,.string x,.string y] 144)).drew) from HB.out.trans (Below.mono ((ja wr _).trans (Kept.drewN _ 1)) hbase));have hk1:(k:Int)<(len:Int):=by omega
      have Ur:=lH (show jP.fine (o,x,y) from⟨ho9,hz,hz2⟩);clear ho hB hx hd hz hz2;go_wp2_with fail
      go_region_held3 (fun W=>W.cell? ⟨b,off+k*3,none⟩=some (.int .i64 o)∧W.cell? ⟨b,off+k*3+1,none⟩=some (.string x)∧W.cell? ⟨b,off+k*3+2,none⟩=some (.string y))
       (first
         | go_keep
         | (go_split_ands
            refine⟨?_,?_,?_⟩
            · (refine(hgrow.cell_far ⟨b,off+k*3,none⟩ (by simp;omega) (Ne.symm V0.out)).trans ?_;assumption)
            · (refine(hgrow.cell_far ⟨b,off+k*3+1,none⟩ (by simp;omega) (Ne.symm V0.out)).trans ?_;assumption)
            · (refine(hgrow.cell_far ⟨b,off+k*3+2,none⟩ (by simp;omega) (Ne.symm V0.out)).trans ?_;assumption)))
       ((refine step_append_lies _ (by rfl) _ _ _ (by rfl) w.heap.size 144 i0 _ 3 40 Tryz.underlying39 hi hz0 hz1 hz2' rfl (by decide) u3 k (je jP (l.take k)) (by rfl) ((Vk.out.alloc _).drew)
          ⟨wr.heap.size,0,none⟩ 1 1 [.int .i64 o,.string x,.string y] (by rfl) (by rfl) (World.news_of_block (cs:=#[.int .i64 o,.string x,.string y]) (t:=144) (fr:=(0,0)) (heap_alloc_new wr _)) (jho o x y)
          (by decide) (by unfold maxLen;omega) (by omega) (by simp;omega) (wr.heap.size+1) (by simp) ?_;intro gg cap1 w1 hown1 hgrow hat hlt1))
      all_goals
       go_wp2;go_roundw
       case rel=>exact⟨k+1,by omega,by go_num,by rw[zI HX.out];exact Own.snoc hown1 (by rw[HT.out]) HO.out.2 Ur.out,UJ.out.grown hgrow VL.out (fun j hj=>(Vk.out.lt j hj).1)⟩
       case measure=>simp[intOf];omega
    · have HK:=lH (show l.take k=l by rw[List.take_of_length_le (by rw[HL.out];omega)]);clear ho hB;go_wp2;go_ret;exact⟨_,rfl,by have h:=HO.out;rw[HK.out] at h;exact h,HB.out⟩
theorem jfE {v:Value} {l:PL} {w:World} (h:Reads jz w v l):Calls Tryz.prog 109 #[v] w fun e w'=>e=.returned (.bool (YB l))∧w=w':=by
 obtain⟨a,cap,rfl,_,_,hr⟩:=h;exact jdn a _ cap l w hr
theorem jdP {v:Value} {l:TL} {w:World} (h:Reads jP w v l):Calls Tryz.prog 107 #[v] w fun e w'=>e=.returned (.bool (YD l))∧w=w':=by
 obtain⟨a,cap,rfl,_,_,hr⟩:=h;exact jiG a _ cap l w hr
theorem Zv {v:Value} {l:PL} {c:Int} {w:World} (h:Reads jz w v l) (hc:J9 l=c):Calls Tryz.prog 160 #[v] w (Say (.int .i64 c) w):=by
 obtain⟨a,cap,rfl,_,_,hr⟩:=h;exact(jcZ a _ cap l w hr).mono fun e w' ⟨he,k⟩=>⟨by rw[he,hc],k⟩
theorem jbk {v:Value} {l:TL} {c:Int} {w:World} (h:Reads jP w v l) (hc:Zq l=c):Calls Tryz.prog 162 #[v] w (Say (.int .i64 c) w):=by
 obtain⟨a,cap,rfl,_,_,hr⟩:=h;exact(jcQ a _ cap l w hr).mono fun e w' ⟨he,k⟩=>⟨by rw[he,hc],k⟩
open Go.RowKit Go.Sort
def Grw (w w':World):Prop:=∃q os,w'=grow (w.drewN q) os
theorem Grw.refl (w:World):Grw w w:=⟨0,#[],by rw[grow_empty];rfl⟩
theorem Grw.grown {w W:World} (h:Grw w W) (n:Nat) (os:Array Obj):Grw w (grow (W.drewN n) os):=by
 obtain⟨q,os0,rfl⟩:=h;exact⟨q+n,os0++os,by show grow (grow ((w.drewN q).drewN n) os0) os=_;rw[grow_grow,World.drewN_drewN]⟩
theorem Grw.trans {a b c:World} (h:Grw a b) (k:Grw b c):Grw a c:=by
 obtain⟨q,os,rfl⟩:=k;exact h.grown q os
theorem Grw.alloc (w:World) (o:Obj):Grw w (w.alloc o):=⟨0,#[o],alloc_eq_grow _ _⟩
theorem Grw.drewN (w:World) (n:Nat):Grw w (w.drewN n):=⟨n,#[],by rw[grow_empty]⟩
theorem ZR (w:World) (n:Nat) (os:Array Obj):Kept w (grow (w.drewN n) os):=Go.Lib.below_grow w.heap.size w (Nat.le_refl _) n os
theorem Grw.kept {w w':World} (h:Grw w w'):Kept w w':=by
 obtain⟨q,os,rfl⟩:=h;exact ZR w q os
def Zo (w:World) (c:Nat) (t:NT):Prop:=w.cell? ⟨c,0,none⟩=some (.string t.1)∧w.cell? ⟨c,1,none⟩=some (.string t.2.1)∧w.cell? ⟨c,2,none⟩=some (.bool t.2.2)
theorem Zo.kept {w w':World} {c:Nat} {t:NT} (h:Zo w c t) (k:Kept w w'):Zo w' c t:=⟨cell_later k h.1,cell_later k h.2.1,cell_later k h.2.2⟩
theorem Zo.new (w:World) (x y:ByteArray) (m:Bool) (T:TypeId):Zo (w.alloc (.cells #[.string x,.string y,.bool m] T)) w.heap.size (x,y,m):=by
 have hh:=w.alloc_heap_new (.cells #[.string x,.string y,.bool m] T);exact⟨by rw[Lib.cell_of_heap hh];rfl,by rw[Lib.cell_of_heap hh];rfl,by rw[Lib.cell_of_heap hh];rfl⟩
theorem jf4 (c:Nat) (t:NT) (x y:ByteArray) (m:Bool) (w:World) (h:Zo w c t) :
 Calls Tryz.prog 245 #[NV x y m,.pointer (some ⟨c,0,none⟩)] w fun e w'=>e=.returned (.bool (Jd t (x,y,m)))∧Grw w w':=by
 obtain⟨t1,t2,t3⟩:=t;obtain⟨h1,h2,h3⟩:=h;dsimp only at h1 h2 h3;have g1:=cell_later (ja w (.cells #[.string x,.string y,.bool m] 172)) h1;have g2:=cell_later (ja w (.cells #[.string x,.string y,.bool m] 172)) h2;have g3:=cell_later (ja w (.cells #[.string x,.string y,.bool m] 172)) h3;obtain⟨q1,hq1⟩:=eX ((x.toList==t1.toList))
 obtain⟨q2,hq2⟩:=eX ((y.toList==t2.toList))
 have HV:=lH (show Jd (t1,t2,t3) (x,y,m)=(q1&&q2) by unfold Jd eqS;rw[hq1,hq2])
 cases q1<;>cases q2 <;>
 (go_enter Tryz.func245,Tryz.ntmps245
  go_wp2;go_ret;exact⟨jd HV.out.symm,Grw.alloc _ _⟩)
theorem jlB (t1 t2:ByteArray) (t3:Bool) (x y:ByteArray) (m:Bool) (w:World) :
 Calls Tryz.prog 250 #[NV x y m,NV t1 t2 t3] w fun e w'=>e=.returned (.bool (Zp (t1,t2,t3) (x,y,m)))∧Grw w w':=by
 obtain⟨q0,hq0⟩:=eX ((x.toList==([]:List UInt8)))
 obtain⟨q1,hq1⟩:=eX ((x.toList==t1.toList))
 obtain⟨q2,hq2⟩:=eX ((y.toList==t2.toList))
 have HV:=lH (show Zp (t1,t2,t3) (x,y,m)=((q0||q1)&&(m||q2)) by unfold Zp;rw[JX,hq0];unfold eqS;rw[hq1,hq2])
 cases q0<;>cases q1<;>cases m<;>cases q2 <;>
 (go_enter Tryz.func250,Tryz.ntmps250
  go_wp2;go_ret;exact⟨jd HV.out.symm,(Grw.alloc _ _).trans (Grw.alloc _ _)⟩)
theorem jc8 (c:Nat) (t:NT) (x y:ByteArray) (m:Bool) (w:World) (h:Zo w c t) :
 Calls Tryz.prog 249 #[NV x y m,.pointer (some ⟨c,0,none⟩)] w fun e w'=>e=.returned (.bool (Zp t (x,y,m)))∧Grw w w':=by
 obtain⟨t1,t2,t3⟩:=t;obtain⟨h1,h2,h3⟩:=h;dsimp only at h1 h2 h3;have g1:=cell_later (ja w (.cells #[.string x,.string y,.bool m] 146)) h1;have g2:=cell_later (ja w (.cells #[.string x,.string y,.bool m] 146)) h2;have g3:=cell_later (ja w (.cells #[.string x,.string y,.bool m] 146)) h3;go_enter Tryz.func249,Tryz.ntmps249;go_wp2_with (go_at_call 250;refine(jlB t1 t2 t3 x y m _).mono ?_;rintro e w1 ⟨rfl,k1⟩;have K1:=lH k1;clear k1)
 go_ret;exact⟨rfl,(Grw.alloc _ _).trans K1.out⟩
theorem jib (a:Option Addr) (len cap:Nat) (l:NL) (c:Nat) (t:NT) (w:World) (hr:jk ju w a len l) (ht:Zo w c t) :
 Calls Tryz.prog 267 #[.slice a len cap,.func (.func 245) #[] #[.pointer (some ⟨c,0,none⟩)]] w fun e w'=>∃i:Int,e=.returned (.int .i64 i)∧decide (0≤i)=l.any (Jd t)∧Grw w w':=by
 have hl:=hr.1;have hm:=hr.2.1;unfold maxLen at hm;rcases hr.form with h0 | ⟨b,off,rfl⟩
 · subst h0;have HE:=lH (show l.any (Jd t)=false by rw[List.eq_nil_of_length_eq_zero hl];rfl);clear hr hl ht;go_enter Tryz.func267,Tryz.ntmps267;go_wp2;refine wp_loop_rounds 1 ?_;rw[rounds_succ];go_wp2;go_ret;exact⟨-1,rfl,HE.out.symm,Grw.refl _⟩
 · obtain⟨HR,HL,HT⟩:=lH3 hr hl ht;clear hr hl ht;go_enter Tryz.func267,Tryz.ntmps267;go_wp2;go_loopw [8] (fun i wr=>∃k:Nat,k≤len∧i=.int .i64 k∧(l.drop k).any (Jd t)=l.any (Jd t)∧Grw w wr) (fun i _=>len-(intOf i).toNat)
   case atStart=>exact⟨0,Nat.zero_le _,rfl,rfl,Grw.refl _⟩
   case round =>
    obtain⟨k,hk,rfl,hrest,hG⟩:=hrel;have hK:=hG.kept;have HG:=lH hG;by_cases hlt:k<len
    · obtain⟨x,y,m,hx,hd,hb,hz,hz2,c1,c2,c3⟩:=(HR.out.kept hK).tri hlt;have HK:=lH hK;have HS:=lH (hrest.symm.trans ((congrArg (fun z=>z.any (Jd t)) hd).trans (List.any_cons)));obtain⟨q,hq⟩:=eX (Jd t (x,y,m))
      rw[hq] at HS;have HQ:=lH hq;have HC:=lH (HT.out.kept hK);clear hK hrest hx hd hG hq
      cases q with
      | true =>
       go_wp2_with (go_at_call 245;refine(jf4 c t x y m _ HC.out).mono ?_;rw[HQ.out];rintro e w1 ⟨rfl,k1⟩;have K1:=lH k1;clear k1)
       go_ret;exact⟨(k:Int),rfl,by rw[HS.out];simp,HG.out.trans K1.out⟩
      | false =>
       go_wp2_with (go_at_call 245;refine(jf4 c t x y m _ HC.out).mono ?_;rw[HQ.out];rintro e w1 ⟨rfl,k1⟩;have K1:=lH k1;clear k1)
       go_roundw
       case rel=>exact⟨k+1,by omega,by go_num,(HS.out.trans (Bool.false_or _)).symm,HG.out.trans K1.out⟩
       case measure=>simp[intOf];omega
    · have HS:=lH (hrest.symm.trans (congrArg (fun z=>z.any (Jd t)) (zB (by rw[HL.out];exact hlt))));clear hK hrest hG;go_wp2;go_ret;exact⟨-1,rfl,by rw[HS.out];rfl,HG.out⟩
theorem jeT (a:Option Addr) (len cap:Nat) (l:NL) (c:Nat) (t:NT) (w:World) (hr:jk ju w a len l) (ht:Zo w c t) :
 Calls Tryz.prog 244 #[.slice a len cap,.func (.func 245) #[] #[.pointer (some ⟨c,0,none⟩)]] w fun e w'=>e=.returned (.bool (l.any (Jd t)))∧Grw w w':=by
 have HI:=lH (jib a len cap l c t w hr ht);clear hr ht;go_enter Tryz.func244,Tryz.ntmps244;go_wp2_with fail
 refine HI.out.mono ?_;rintro e w1 ⟨i,rfl,hi,k1⟩;have K1:=lH k1;have HB:=lH hi;clear hi k1;go_wp2;go_ret;exact⟨jd HB.out,K1.out⟩
theorem jjI (a:Option Addr) (len cap:Nat) (l:NL) (t1 t2:ByteArray) (t3:Bool) (w:World) (hr:jk ju w a len l) :
 Calls Tryz.prog 212 #[.slice a len cap,NV t1 t2 t3] w fun e w'=>e=.returned (.bool (l.any (Jd (t1,t2,t3))))∧Grw w w':=by
 have hmf:=hmfL (P:=Tryz.prog);have HI:=lH (jeT a len cap l w.heap.size (t1,t2,t3) (w.alloc (.cells #[.string t1,.string t2,.bool t3] 172)) (hr.kept (ja _ _)) (Zo.new w t1 t2 t3 _));clear hr;go_enter Tryz.func212,Tryz.ntmps212;go_wp2_with fail
 refine HI.out.mono ?_;rintro e w1 ⟨rfl,k1⟩;have K1:=lH k1;clear k1;go_wp2;go_ret;exact⟨rfl,(Grw.alloc _ _).trans K1.out⟩
theorem jiS (a:Option Addr) (len cap:Nat) (l:NL) (c:Nat) (t:NT) (w:World) (hr:jk ju w a len l) (ht:Zo w c t) :
 Calls Tryz.prog 268 #[.slice a len cap,.func (.func 249) #[] #[.pointer (some ⟨c,0,none⟩)]] w fun e w'=>∃i:Int,e=.returned (.int .i64 i)∧decide (0≤i)=l.any (Zp t)∧Grw w w':=by
 have hl:=hr.1;have hm:=hr.2.1;unfold maxLen at hm;rcases hr.form with h0 | ⟨b,off,rfl⟩
 · subst h0;have HE:=lH (show l.any (Zp t)=false by rw[List.eq_nil_of_length_eq_zero hl];rfl);clear hr hl ht;go_enter Tryz.func268,Tryz.ntmps268;go_wp2;refine wp_loop_rounds 1 ?_;rw[rounds_succ];go_wp2;go_ret;exact⟨-1,rfl,HE.out.symm,Grw.refl _⟩
 · obtain⟨HR,HL,HT⟩:=lH3 hr hl ht;clear hr hl ht;go_enter Tryz.func268,Tryz.ntmps268;go_wp2;go_loopw [8] (fun i wr=>∃k:Nat,k≤len∧i=.int .i64 k∧(l.drop k).any (Zp t)=l.any (Zp t)∧Grw w wr) (fun i _=>len-(intOf i).toNat)
   case atStart=>exact⟨0,Nat.zero_le _,rfl,rfl,Grw.refl _⟩
   case round =>
    obtain⟨k,hk,rfl,hrest,hG⟩:=hrel;have hK:=hG.kept;have HG:=lH hG;by_cases hlt:k<len
    · obtain⟨x,y,m,hx,hd,hb,hz,hz2,c1,c2,c3⟩:=(HR.out.kept hK).tri hlt;have HK:=lH hK;have HS:=lH (hrest.symm.trans ((congrArg (fun z=>z.any (Zp t)) hd).trans (List.any_cons)));obtain⟨q,hq⟩:=eX (Zp t (x,y,m))
      rw[hq] at HS;have HQ:=lH hq;have HC:=lH (HT.out.kept hK);clear hK hrest hx hd hG hq
      cases q with
      | true =>
       go_wp2_with (go_at_call 249;refine(jc8 c t x y m _ HC.out).mono ?_;rw[HQ.out];rintro e w1 ⟨rfl,k1⟩;have K1:=lH k1;clear k1)
       go_ret;exact⟨(k:Int),rfl,by rw[HS.out];simp,HG.out.trans K1.out⟩
      | false =>
       go_wp2_with (go_at_call 249;refine(jc8 c t x y m _ HC.out).mono ?_;rw[HQ.out];rintro e w1 ⟨rfl,k1⟩;have K1:=lH k1;clear k1)
       go_roundw
       case rel=>exact⟨k+1,by omega,by go_num,(HS.out.trans (Bool.false_or _)).symm,HG.out.trans K1.out⟩
       case measure=>simp[intOf];omega
    · have HS:=lH (hrest.symm.trans (congrArg (fun z=>z.any (Zp t)) (zB (by rw[HL.out];exact hlt))));clear hK hrest hG;go_wp2;go_ret;exact⟨-1,rfl,by rw[HS.out];rfl,HG.out⟩
theorem jeu (a:Option Addr) (len cap:Nat) (l:NL) (c:Nat) (t:NT) (w:World) (hr:jk ju w a len l) (ht:Zo w c t) :
 Calls Tryz.prog 248 #[.slice a len cap,.func (.func 249) #[] #[.pointer (some ⟨c,0,none⟩)]] w fun e w'=>e=.returned (.bool (l.any (Zp t)))∧Grw w w':=by
 have HI:=lH (jiS a len cap l c t w hr ht);clear hr ht;go_enter Tryz.func248,Tryz.ntmps248;go_wp2_with fail
 refine HI.out.mono ?_;rintro e w1 ⟨i,rfl,hi,k1⟩;have K1:=lH k1;have HB:=lH hi;clear hi k1;go_wp2;go_ret;exact⟨jd HB.out,K1.out⟩
theorem bears_any (a:Option Addr) (len cap:Nat) (l:NL) (t1 t2:ByteArray) (t3:Bool) (w:World) (hr:jk ju w a len l) :
 Calls Tryz.prog 225 #[.slice a len cap,NV t1 t2 t3] w fun e w'=>e=.returned (.bool (l.any (Zp (t1,t2,t3))))∧Grw w w':=by
 have hmf:=hmfL (P:=Tryz.prog);have HI:=lH (jeu a len cap l w.heap.size (t1,t2,t3) (w.alloc (.cells #[.string t1,.string t2,.bool t3] 172)) (hr.kept (ja _ _)) (Zo.new w t1 t2 t3 _));clear hr;go_enter Tryz.func225,Tryz.ntmps225;go_wp2_with fail
 refine HI.out.mono ?_;rintro e w1 ⟨rfl,k1⟩;have K1:=lH k1;clear k1;go_wp2;go_ret;exact⟨rfl,(Grw.alloc _ _).trans K1.out⟩
theorem jjW (x y:ByteArray) (m:Bool) (w:World) (hx:x.size≤maxLen) (hy:y.size≤maxLen) :
 Calls Tryz.prog 215 #[NV x y m] w fun e w'=>e=.returned (.bool (zD (x,y,m)))∧Kept w w':=by
 obtain⟨q0,hq0⟩:=eX ((x.toList==([]:List UInt8)))
 obtain⟨q2,hq2⟩:=eX ((y.toList==([]:List UInt8)))
 obtain⟨n1,hn1⟩:=eX (isName x)
 obtain⟨n2,hn2⟩:=eX (isName y)
 have HV:=lH (show zD (x,y,m)=((q0||n1)&&(if m=true then q2 else n2)) by unfold zD;rw[JX,JX,hq0,hq2,hn1,hn2])
 cases q0<;>cases n1<;>cases m<;>cases q2<;>cases n2 <;>
 (go_enter Tryz.func215,Tryz.ntmps215
  go_wp2_with (go_at_call 174;refine(zg _ _ (by assumption)).mono ?_;rintro e w' ⟨rfl,rfl⟩)
  go_ret;exact⟨jd HV.out.symm,ja _ _⟩)
theorem jdZ {x:NT} {t:NL}:(x::t).all zD=(zD x&&t.all zD):=rfl
theorem jiP (a:Option Addr) (len cap:Nat) (l:NL) (w:World) (hr:jk ju w a len l) :
 Calls Tryz.prog 181 #[.slice a len cap] w fun e w'=>e=.returned (.int .i64 (JI l))∧Kept w w':=by
 have hl:=hr.1;have hm:=hr.2.1;unfold maxLen at hm;by_cases h8:len≤8
 · have HV:=lH (show JI l=if l.all zD=true then 0 else 3 by unfold JI;rw[if_neg (by omega)]);rcases hr.form with h0 | ⟨b,off,rfl⟩
   · subst h0;have HE:=lH (show JI l=0 by rw[HV.out];rw[List.eq_nil_of_length_eq_zero hl];rfl);clear hr hl;go_enter Tryz.func181,Tryz.ntmps181;go_wp2;refine wp_loop_rounds 1 ?_;rw[rounds_succ];go_wp2;go_ret;exact⟨jb HE.out.symm,Kept.refl _⟩
   · have HR:=lH hr;have HL:=lH hl;clear hr hl;go_enter Tryz.func181,Tryz.ntmps181;go_wp2;go_loopw [10] (fun i wr=>∃k:Nat,k≤len∧i=.int .i64 k∧(l.drop k).all zD=l.all zD∧Kept w wr) (fun i _=>len-(intOf i).toNat)
     case atStart=>exact⟨0,Nat.zero_le _,rfl,rfl,Kept.refl _⟩
     case round =>
      obtain⟨k,hk,rfl,hrest,hK⟩:=hrel;by_cases hlt:k<len
      · obtain⟨x,y,m,hx,hd,hb,hz,hz2,c1,c2,c3⟩:=(HR.out.kept hK).tri hlt;have HK:=lH hK;obtain⟨q,hq⟩:=eX (zD (x,y,m))
        have HS:=lH (hrest.symm.trans ((congrArg (fun z=>z.all zD) hd).trans (jdZ.trans (by rw[hq]))));have HC:=lH (fun W=>jjW x y m W hz hz2);rw[hq] at HC;clear hK hrest hx hd hq
        cases q with
        | true =>
         go_wp2_with (go_at_call 215;refine(HC.out _).mono ?_;rintro e w1 ⟨rfl,k1⟩;have K1:=lH k1;clear k1)
         go_roundw
         case rel=>exact⟨k+1,by omega,by go_num,(HS.out.trans (Bool.true_and _)).symm,HK.out.trans ((ja _ _).trans K1.out)⟩
         case measure=>simp[intOf];omega
        | false =>
         have HF:=lH (show JI l=3 by rw[HV.out,HS.out];rfl);go_wp2_with (go_at_call 215;refine(HC.out _).mono ?_;rintro e w1 ⟨rfl,k1⟩;have K1:=lH k1;clear k1)
         go_ret;exact⟨jb HF.out.symm,HK.out.trans ((ja _ _).trans K1.out)⟩
      · have HK:=lH hK;have HS:=lH (hrest.symm.trans (congrArg (fun z=>z.all zD) (zB (by rw[HL.out];exact hlt))));have HF:=lH (show JI l=0 by rw[HV.out,HS.out];rfl);clear hK hrest;go_wp2;go_ret;exact⟨jb HF.out.symm,HK.out⟩
 · have HV:=lH (show JI l=4 by unfold JI;rw[if_pos (by omega)]);have h9:8<len:=by omega
   clear h8 hr hl;go_enter Tryz.func181,Tryz.ntmps181;go_wp2;go_ret;exact⟨jb HV.out.symm,Kept.refl _⟩
theorem jk.front {α:Type} {L:Lay α} {w:World} {a:Option Addr} {len:Nat} {l:List α} (h:jk L w a len l) {k:Nat} (hk:k≤len):jk L w a k (l.take k):=by
 obtain⟨h0,h1,h2,h3⟩:=h;refine⟨by rw[List.length_take];omega,by omega,fun x hx=>h2 x (List.mem_of_mem_take hx),?_⟩;rcases h3 with h3 | ⟨b,off,e,hb,hc⟩
 · exact .inl (by omega)
 · refine .inr ⟨b,off,e,hb,fun i x j u hi hj=>?_⟩;rw[List.getElem?_take] at hi;split at hi
   · exact hc i x j u hi hj
   · cases hi
theorem jiY (a:Option Addr) (len cap:Nat) (l:NL) (w:World) (hr:jk ju w a len l) (hc:len≤cap) :
 Calls Tryz.prog 177 #[.slice a len cap] w fun e w'=>e=.returned (.int .i64 (ZJ l))∧Kept w w':=by
 have hl:=hr.1;have hm:=hr.2.1;unfold maxLen at hm;by_cases h8:len≤8
 · have HV:=lH (show ZJ l=JL [] l by unfold ZJ;rw[if_neg (by omega)]);rcases hr.form with h0 | ⟨b,off,rfl⟩
   · subst h0;have HE:=lH (show ZJ l=0 by rw[HV.out];rw[List.eq_nil_of_length_eq_zero hl];rfl);clear hr hl;go_enter Tryz.func177,Tryz.ntmps177;go_wp2;refine wp_loop_rounds 1 ?_;rw[rounds_succ];go_wp2;go_ret;exact⟨jb HE.out.symm,Kept.refl _⟩
   · have HR:=lH hr;have HL:=lH hl;clear hr hl;go_enter Tryz.func177,Tryz.ntmps177;go_wp2;go_loopw [10] (fun i wr=>∃k:Nat,k≤len∧i=.int .i64 k∧JL (l.take k) (l.drop k)=JL [] l∧Kept w wr) (fun i _=>len-(intOf i).toNat)
     case atStart=>exact⟨0,Nat.zero_le _,rfl,rfl,Kept.refl _⟩
     case round =>
      obtain⟨k,hk,rfl,hrest,hK⟩:=hrel;by_cases hlt:k<len
      · obtain⟨x,y,m,hx,hd,hb,hz,hz2,c1,c2,c3⟩:=(HR.out.kept hK).tri hlt;obtain⟨HX,HK,HT⟩:=lH3 hx hK (hrest.symm.trans (congrArg (JL (l.take k)) hd));have HS:=lH (HV.out.trans HT.out);have V9:=lH ((HR.out.kept hK).front hk);clear hK hrest hx hd;by_cases n1:isName x=true
        · by_cases n2:isName y=true
          · have N1:=lH n1;have N2:=lH n2;obtain⟨q,hq⟩:=eX ((l.take k).any (Jd (x,y,m)))
            have HQ:=lH hq;have tn:=Zo.new wr x y m 172;have l1:∀(n:Nat) (os:Array Obj),(grow ((wr.alloc (.cells #[.string x,.string y,.bool m] 172)).drewN n) os).cell? ⟨wr.heap.size,0,none⟩=some (.string x):=fun n os=>cell_later (ZR _ n os) tn.1;have l2:∀(n:Nat) (os:Array Obj),(grow ((wr.alloc (.cells #[.string x,.string y,.bool m] 172)).drewN n) os).cell? ⟨wr.heap.size,1,none⟩=some (.string y):=fun n os=>cell_later (ZR _ n os) tn.2.1;have l3:∀(n:Nat) (os:Array Obj),(grow ((wr.alloc (.cells #[.string x,.string y,.bool m] 172)).drewN n) os).cell? ⟨wr.heap.size,2,none⟩=some (.bool m):=fun n os=>cell_later (ZR _ n os) tn.2.2;have cz:∀(n:Nat) (os:Array Obj),Calls Tryz.prog 212 #[.slice (some ⟨b,off,none⟩) k cap,NV x y m] (grow ((wr.alloc (.cells #[.string x,.string y,.bool m] 172)).drewN n) os) fun e w''=>e=.returned (.bool q)∧∃q' os',w''=grow ((grow ((wr.alloc (.cells #[.string x,.string y,.bool m] 172)).drewN n) os).drewN q') os':=fun n os=>by
             rw[←hq];exact jjI (some ⟨b,off,none⟩) k cap (l.take k) x y m _ ((V9.out.kept (ja _ _)).kept (ZR _ n os))
            have r1:(k:Int)≤(cap:Int):=by omega
            have r2:k≤cap:=by omega
            have mixed:Tryz.prog.follows Departure.mixedOrders=true:=by kernel_rfl
            clear tn hq
            cases q with
            | true =>
             go_wp2_with (go_at_call 174;refine(zg _ _ (by assumption)).mono ?_;rintro e w' ⟨rfl,rfl⟩)
             go_quiet_grown (first | (go_at_call 212;refine Calls.grown_of (cz _ _)))
             go_wp2;go_ret;exact⟨jb (HS.out.trans (jcC N1.out N2.out HQ.out)).symm,HK.out.trans ((ja _ _).trans (ZR _ _ _))⟩
            | false =>
             go_wp2_with (go_at_call 174;refine(zg _ _ (by assumption)).mono ?_;rintro e w' ⟨rfl,rfl⟩)
             go_quiet_grown (first | (go_at_call 212;refine Calls.grown_of (cz _ _)))
             go_wp2;go_roundw
             case rel=>exact⟨k+1,by omega,by go_num,by rw[zI HX.out];exact(jee N1.out N2.out HQ.out).symm.trans HT.out.symm,HK.out.trans ((ja _ _).trans (ZR _ _ _))⟩
             case measure=>simp[intOf];omega
          · have n2:isName y=false:=by simpa using n2
            have N:=lH (show (isName x&&isName y)=false by rw[n2,Bool.and_false]);go_wp2_with (go_at_call 174;refine(zg _ _ (by assumption)).mono ?_;rintro e w' ⟨rfl,rfl⟩)
            go_ret;exact⟨jb (HS.out.trans (qg N.out)).symm,HK.out.trans (ja _ _)⟩
        · have n1:isName x=false:=by simpa using n1
          have N:=lH (show (isName x&&isName y)=false by rw[n1,Bool.false_and]);go_wp2_with (go_at_call 174;refine(zg x _ hz).mono ?_;rintro e w' ⟨rfl,rfl⟩)
          go_ret;exact⟨jb (HS.out.trans (qg N.out)).symm,HK.out.trans (ja _ _)⟩
      · have HK:=lH hK;have HS:=lH ((HV.out.trans hrest.symm).trans (congrArg (JL (l.take k)) (zB (by rw[HL.out];exact hlt))));clear hK hrest;go_wp2;go_ret;exact⟨jb (HS.out.trans rfl).symm,HK.out⟩
 · have HV:=lH (show ZJ l=4 by unfold ZJ;rw[if_pos (by omega)]);have h9:8<len:=by omega
   clear h8 hr hl;go_enter Tryz.func177,Tryz.ntmps177;go_wp2;go_ret;exact⟨jb HV.out.symm,Kept.refl _⟩
open Go.RowKit Go.Shelf
attribute [local go_sem] Oper.semAt_some
end Go.Proofs.YtibepooajeakfaaGreat
namespace Go.Proofs.YtibepooajeakfaaGreat
open Go.RowKit Go.Shelf
attribute [local go_sem] Oper.semAt_some
end Go.Proofs.YtibepooajeakfaaGreat
namespace Go.Proofs.YtibepooajeakfaaGreat
open Go.RowKit Go.Sort
theorem jil {l:NL} {t:NT} {r:NL}:Jh l (t::r)=if (t.2.2&&!qy l t)=true then some t else Jh l r:=rfl
theorem jj5 {l:NL} {t:NT} {r:NL}:softN l (t::r)=(if (!t.2.2&&!qy l t)=true then 1 else 0)+softN l r:=rfl
theorem jl6 (w:World) (x y:ByteArray) (m:Bool) (T:TypeId):(w.alloc (.cells #[.string x,.string y,.bool m] T)).frozen? ⟨w.heap.size,0,none⟩=false∧(w.alloc (.cells #[.string x,.string y,.bool m] T)).frozen? ⟨w.heap.size,1,none⟩=false∧(w.alloc (.cells #[.string x,.string y,.bool m] T)).frozen? ⟨w.heap.size,2,none⟩=false:=by
 refine⟨?_,?_,?_⟩<;>go_simp
theorem Yi {w w':World} {c i:Nat} (k:Kept w w') (hc:c<w.heap.size) (h:w.frozen? ⟨c,i,none⟩=false):w'.frozen? ⟨c,i,none⟩=false:=(k.frozen (p:=⟨c,i,none⟩) hc).trans h
theorem jen (w:World) (c:Nat) (u0 u1 u2:Value) {o0 o1 o2:Value} (h0:w.cell? ⟨c,0,none⟩=some o0) (h1:w.cell? ⟨c,1,none⟩=some o1) (h2:w.cell? ⟨c,2,none⟩=some o2) :
 (w.setCell ⟨c,0,none⟩ u0).cell? ⟨c,0,none⟩=some u0∧((w.setCell ⟨c,0,none⟩ u0).setCell ⟨c,1,none⟩ u1).cell? ⟨c,1,none⟩=some u1∧(((w.setCell ⟨c,0,none⟩ u0).setCell ⟨c,1,none⟩ u1).setCell ⟨c,2,none⟩ u2).cell? ⟨c,2,none⟩=some u2:=by
 refine⟨World.cell?_setCell_same' _ _ _ (by rw[h0];rfl),World.cell?_setCell_same' _ _ _ ?_,World.cell?_setCell_same' _ _ _ ?_⟩
 · rw[World.cell?_setCell_other _ _ _ _ (by intro e;injection e with e1 e2;cases e2),h1];rfl
 · rw[World.cell?_setCell_other _ _ _ _ (by intro e;injection e with e1 e2;cases e2),World.cell?_setCell_other _ _ _ _ (by intro e;injection e with e1 e2;cases e2),h2];rfl
def wT (o:Option NT):NT:=o.getD (ByteArray.empty,ByteArray.empty,false)
theorem jkF (a a':Option Addr) (len cap len' cap':Nat) (l t:NL) (w:World) (hr:jk ju w a len l) (hr':jk ju w a' len' t) :
 Calls Tryz.prog 193 #[.slice a len cap,.slice a' len' cap'] w fun e w'=>e=.returned (.tuple #[NV (wT (Jh l t)).1 (wT (Jh l t)).2.1 (wT (Jh l t)).2.2,.bool (Jh l t).isSome])∧Kept w w':=by
 have hl:=hr'.1;have hm:=hr'.2.1;unfold maxLen at hm;rcases hr'.form with h0 | ⟨b,off,rfl⟩
 · subst h0;have HE:=lH (show Jh l t=none by rw[List.eq_nil_of_length_eq_zero hl];rfl);rw[HE.out];clear hr hr' hl;go_enter Tryz.func193,Tryz.ntmps193;go_wp2;refine wp_loop_rounds 1 ?_;rw[rounds_succ];go_wp2;(try simp only[Exit.inBlock,Exit.then])
   refine bodyPost_ret (v:=.tuple #[NV ⟨#[]⟩ ⟨#[]⟩ false,.bool false]) (by simp[results,Tryz.results193,go_sem]) rfl ?_;exact⟨rfl,ja _ _⟩
 · have HR:=lH hr;have HR':=lH hr';have HL:=lH hl;clear hr hr' hl;go_enter Tryz.func193,Tryz.ntmps193;go_wp2;go_loopw [10] (fun i wr=>∃k:Nat,k≤len'∧i=.int .i64 k∧Jh l (t.drop k)=Jh l t∧Kept (w.alloc (.cells #[.string ⟨#[]⟩,.string ⟨#[]⟩,.bool false] 172)) wr) (fun i _=>len'-(intOf i).toNat)
   case atStart=>exact⟨0,Nat.zero_le _,rfl,rfl,Kept.refl _⟩
   case round =>
    obtain⟨k,hk,rfl,hrest,hK⟩:=hrel;have hKw:Kept w wr:=(ja w _).trans hK;have tn:=(Zo.new w ⟨#[]⟩ ⟨#[]⟩ false 172).kept hK;have d1:=tn.1;have d2:=tn.2.1;have d3:=tn.2.2;dsimp only at d1 d2 d3;have hbs:w.heap.size<wr.heap.size:=by have:=hK.size;simp at this;omega
    have fr:=jl6 w ⟨#[]⟩ ⟨#[]⟩ false 172;have z1:=Yi hK (by simp) fr.1;have z2:=Yi hK (by simp) fr.2.1;have z3:=Yi hK (by simp) fr.2.2;clear tn fr;by_cases hlt:k<len'
    · obtain⟨x,y,m,hx,hd,hb,hz,hz2,c1,c2,c3⟩:=(HR'.out.kept hKw).tri hlt;have HK:=lH hKw;obtain⟨q,hq⟩:=eX (qy l (x,y,m))
      have HS:=lH (hrest.symm.trans ((congrArg (Jh l) hd).trans (jil.trans (by rw[hq]))));have HC:=lH (fun W (h:Kept w W)=>bears_any a len cap l x y m W (HR.out.kept h));rw[show l.any (Zp (x,y,m))=q from hq] at HC;have UK:=lH hK;clear hK hrest hx hd hq hKw
      cases m with
      | false =>
       go_wp2_with fail
       go_roundw
       case rel=>exact⟨k+1,by omega,by go_num,HS.out.symm,UK.out.trans (ja _ _)⟩
       case measure=>simp[intOf];omega
      | true =>
       cases q with
       | true =>
        go_wp2_with (go_at_call 225;refine(HC.out _ (HK.out.trans (ja _ _))).mono ?_;rintro e w1 ⟨rfl,k1⟩;have K1:=lH k1.kept;clear k1)
        go_roundw
        case rel=>exact⟨k+1,by omega,by go_num,HS.out.symm,UK.out.trans ((ja _ _).trans K1.out)⟩
        case measure=>simp[intOf];omega
       | false =>
        have HW:=lH (show Jh l t=some (x,y,true) from HS.out);have e1:=cell_later (ja wr (.cells #[.string x,.string y,.bool true] 172)) d1;have e2:=cell_later (ja wr (.cells #[.string x,.string y,.bool true] 172)) d2;have e3:=cell_later (ja wr (.cells #[.string x,.string y,.bool true] 172)) d3;have tn:=Zo.new wr x y true 172;go_wp2_with (go_at_call 225;refine(HC.out _ (HK.out.trans (ja _ _))).mono ?_;rintro e w1 ⟨rfl,k1⟩;have K1:=lH k1.kept;have y1:=Yi (Kept.trans (ja wr _) K1.out) hbs z1;have y2:=Yi (Kept.trans (ja wr _) K1.out) hbs z2;have y3:=Yi (Kept.trans (ja wr _) K1.out) hbs z3;have f1:=cell_later K1.out e1;have f2:=cell_later K1.out e2;have f3:=cell_later K1.out e3;have g1:=cell_later K1.out tn.1;have g2:=cell_later K1.out tn.2.1;have g3:=cell_later K1.out tn.2.2;dsimp only at g1 g2 g3;clear k1)
        (try simp only[Exit.inBlock,Exit.then])
        have s3:=jen w1 w.heap.size (.string x) (.string y) (.bool true) f1 f2 f3;refine bodyPost_ret (v:=.tuple #[NV x y true,.bool true]) (by simp[results,Tryz.results193,go_sem,s3.1,s3.2.1,s3.2.2]) rfl ?_;exact⟨by rw[HW.out];rfl,JQ (JQ (JQ (HK.out.trans ((ja _ _).trans K1.out)) (Nat.le_refl _) _) (Nat.le_refl _) _) (Nat.le_refl _) _⟩
    · have UK:=lH hKw;have HS:=lH (show Jh l t=none from(hrest.symm.trans (congrArg (Jh l) (zB (by rw[HL.out];exact hlt)))));clear hK hrest hKw;go_wp2;(try simp only[Exit.inBlock,Exit.then])
      have s3:=jen wr w.heap.size (.string ⟨#[]⟩) (.string ⟨#[]⟩) (.bool false) d1 d2 d3;refine bodyPost_ret (v:=.tuple #[NV ⟨#[]⟩ ⟨#[]⟩ false,.bool false]) (by simp[results,Tryz.results193,go_sem,s3.1,s3.2.1,s3.2.2]) rfl ?_;exact⟨by rw[HS.out];rfl,JQ (JQ (JQ UK.out (Nat.le_refl _) _) (Nat.le_refl _) _) (Nat.le_refl _) _⟩
theorem jlC (a a':Option Addr) (len cap len' cap':Nat) (l t:NL) (w:World) (hr:jk ju w a len l) (hr':jk ju w a' len' t) :
 Calls Tryz.prog 235 #[.slice a len cap,.slice a' len' cap'] w fun e w'=>e=.returned (.int .i64 (softN l t))∧Kept w w':=by
 have hl:=hr'.1;have hm:=hr'.2.1;unfold maxLen at hm;rcases hr'.form with h0 | ⟨b,off,rfl⟩
 · subst h0;have HE:=lH (show (softN l t:Int)=0 by rw[List.eq_nil_of_length_eq_zero hl];rfl);rw[HE.out];clear hr hr' hl;go_enter Tryz.func235,Tryz.ntmps235;go_wp2;refine wp_loop_rounds 1 ?_;rw[rounds_succ];go_wp2;go_ret;exact⟨rfl,Kept.refl _⟩
 · have HR:=lH hr;have HR':=lH hr';have HL:=lH hl;clear hr hr' hl;go_enter Tryz.func235,Tryz.ntmps235;go_wp2;go_loopw [5,10] (fun v i wr=>∃k n:Nat,k≤len'∧i=.int .i64 k∧v=.int .i64 n∧n≤k∧n+softN l (t.drop k)=softN l t∧Kept w wr) (fun _ i _=>len'-(intOf i).toNat)
   case atStart=>exact⟨0,0,Nat.zero_le _,rfl,rfl,Nat.le_refl _,by simp,Kept.refl _⟩
   case round =>
    obtain⟨k,n,hk,rfl,rfl,hn,hrest,hK⟩:=hrel;by_cases hlt:k<len'
    · obtain⟨x,y,m,hx,hd,hb,hz,hz2,c1,c2,c3⟩:=(HR'.out.kept hK).tri hlt;have HK:=lH hK;obtain⟨q,hq⟩:=eX (qy l (x,y,m))
      have HS:=lH (show n+((if (!m&&!q)=true then 1 else 0)+softN l (t.drop (k+1)))=softN l t by rw[←hrest,hd,jj5,hq]);have HC:=lH (fun W (h:Kept w W)=>bears_any a len cap l x y m W (HR.out.kept h));rw[show l.any (Zp (x,y,m))=q from hq] at HC;clear hK hrest hx hd hq
      cases m with
      | true =>
       go_wp2_with fail
       go_roundw
       case rel=>exact⟨k+1,n,by omega,by go_num,rfl,by omega,by have:=HS.out;simpa using this,HK.out.trans (ja _ _)⟩
       case measure=>simp[intOf];omega
      | false =>
       cases q with
       | true =>
        go_wp2_with (go_at_call 225;refine(HC.out _ (HK.out.trans (ja _ _))).mono ?_;rintro e w1 ⟨rfl,k1⟩;have K1:=lH k1.kept;clear k1)
        go_roundw
        case rel=>exact⟨k+1,n,by omega,by go_num,rfl,by omega,by have:=HS.out;simpa using this,HK.out.trans ((ja _ _).trans K1.out)⟩
        case measure=>simp[intOf];omega
       | false =>
        go_wp2_with (go_at_call 225;refine(HC.out _ (HK.out.trans (ja _ _))).mono ?_;rintro e w1 ⟨rfl,k1⟩;have K1:=lH k1.kept;clear k1)
        go_roundw
        case rel=>exact⟨k+1,n+1,by omega,by go_num,by go_num,by omega,by have:=HS.out;simp at this;omega,HK.out.trans ((ja _ _).trans K1.out)⟩
        case measure=>simp[intOf];omega
    · have UK:=lH hK;have HS:=lH (show softN l t=n by rw[←hrest,zB (by rw[HL.out];exact hlt)];rfl);clear hK hrest;go_wp2;go_ret;exact⟨by rw[HS.out];rfl,UK.out⟩
open Go.RowKit
theorem jmC {v:Value} {l:NL} {c:Int} {w:World} (h:Reads ju w v l) (hc:ZJ l=c) :
 Calls Tryz.prog 177 #[v] w (Say (.int .i64 c) w):=by
 obtain⟨a,cap,rfl,hcap,_,hr⟩:=h;exact(jiY a _ cap l w hr hcap).mono fun e w' ⟨he,k⟩=>⟨by rw[he,hc],k⟩
theorem jmJ {v:Value} {l:NL} {c:Int} {w:World} (h:Reads ju w v l) (hc:JI l=c) :
 Calls Tryz.prog 181 #[v] w (Say (.int .i64 c) w):=by
 obtain⟨a,cap,rfl,_,_,hr⟩:=h;exact(jiP a _ cap l w hr).mono fun e w' ⟨he,k⟩=>⟨by rw[he,hc],k⟩
theorem jnF {v v':Value} {l t:NL} {x y:ByteArray} {m b:Bool} {w:World} (h:Reads ju w v l) (h':Reads ju w v' t) (hx:wT (Jh l t)=(x,y,m)) (hb:(Jh l t).isSome=b) :
 Calls Tryz.prog 193 #[v,v'] w (Say (.tuple #[NV x y m,.bool b]) w):=by
 obtain⟨a,cap,rfl,_,_,hr⟩:=h;obtain⟨a',cap',rfl,_,_,hr'⟩:=h';exact(jkF a a' _ cap _ cap' l t w hr hr').mono fun e w' ⟨he,k⟩=>⟨by rw[he,hx,hb],k⟩
theorem joe {v v':Value} {l t:NL} {n:Nat} {w:World} (h:Reads ju w v l) (h':Reads ju w v' t) (hn:softN l t=n) :
 Calls Tryz.prog 235 #[v,v'] w (Say (.int .i64 n) w):=by
 obtain⟨a,cap,rfl,_,_,hr⟩:=h;obtain⟨a',cap',rfl,_,_,hr'⟩:=h';exact(jlC a a' _ cap _ cap' l t w hr hr').mono fun e w' ⟨he,k⟩=>⟨by rw[he,hn],k⟩
theorem jeG (a:Option Addr) (len cap:Nat) (l:NL) (w:World) (hr:jk ju w a len l) :
 Calls Tryz.prog 163 #[.slice a len cap] w fun e w'=>e=.returned (.int .i64 (JI l))∧Kept w w':=by
 have hl:=hr.1;have hm:=hr.2.1;unfold maxLen at hm;by_cases h8:len≤8
 · have HV:=lH (show JI l=if l.all zD=true then 0 else 3 by unfold JI;rw[if_neg (by omega)]);rcases hr.form with h0 | ⟨b,off,rfl⟩
   · subst h0;have HE:=lH (show JI l=0 by rw[HV.out];rw[List.eq_nil_of_length_eq_zero hl];rfl);clear hr hl;go_enter Tryz.func163,Tryz.ntmps163;go_wp2;refine wp_loop_rounds 1 ?_;rw[rounds_succ];go_wp2;go_ret;exact⟨jb HE.out.symm,Kept.refl _⟩
   · have HR:=lH hr;have HL:=lH hl;clear hr hl;go_enter Tryz.func163,Tryz.ntmps163;go_wp2;go_loopw [3] (fun i wr=>∃k:Nat,k≤len∧i=.int .i64 k∧(l.drop k).all zD=l.all zD∧Kept w wr) (fun i _=>len-(intOf i).toNat)
     case atStart=>exact⟨0,Nat.zero_le _,rfl,rfl,Kept.refl _⟩
     case round =>
      obtain⟨k,hk,rfl,hrest,hK⟩:=hrel;by_cases hlt:k<len
      · obtain⟨x,y,m,hx,hd,hb,hz,hz2,c1,c2,c3⟩:=(HR.out.kept hK).tri hlt;have HK:=lH hK;have HS:=lH (hrest.symm.trans ((congrArg (fun z=>z.all zD) hd).trans jdZ));obtain⟨q0,hq0⟩:=eX ((x.toList==([]:List UInt8)))
        obtain⟨q2,hq2⟩:=eX ((y.toList==([]:List UInt8)))
        obtain⟨n1,hn1⟩:=eX (isName x)
        obtain⟨n2,hn2⟩:=eX (isName y)
        have HN:=lH (show zD (x,y,m)=((q0||n1)&&(if m=true then q2 else n2)) by unfold zD;rw[JX,JX,hq0,hq2,hn1,hn2]);clear hK hrest hx hd
        cases q0 with
        | true =>
         cases m with
         | true =>
          cases q2 with
          | true =>
           have HQ:=lH (show zD (x,y,true)=true by rw[HN.out];rfl);go_wp2_with (go_at_call 158;refine(jq _ _ (by assumption)).mono ?_;rintro e w' ⟨rfl,rfl⟩)
           go_roundw
           case rel=>exact⟨k+1,by omega,by go_num,(HS.out.trans (by rw[HQ.out];exact Bool.true_and _)).symm,HK.out.trans (ja _ _)⟩
           case measure=>simp[intOf];omega
          | false =>
           have HQ:=lH (show JI l=3 by rw[HV.out,HS.out,HN.out];rfl);go_wp2_with (go_at_call 158;refine(jq _ _ (by assumption)).mono ?_;rintro e w' ⟨rfl,rfl⟩)
           go_ret;exact⟨jb HQ.out.symm,HK.out.trans (ja _ _)⟩
         | false =>
          cases n2 with
          | true =>
           have HQ:=lH (show zD (x,y,false)=true by rw[HN.out];rfl);go_wp2_with (go_at_call 158;refine(jq _ _ (by assumption)).mono ?_;rintro e w' ⟨rfl,rfl⟩)
           go_roundw
           case rel=>exact⟨k+1,by omega,by go_num,(HS.out.trans (by rw[HQ.out];exact Bool.true_and _)).symm,HK.out.trans (ja _ _)⟩
           case measure=>simp[intOf];omega
          | false =>
           have HQ:=lH (show JI l=3 by rw[HV.out,HS.out,HN.out];rfl);go_wp2_with (go_at_call 158;refine(jq _ _ (by assumption)).mono ?_;rintro e w' ⟨rfl,rfl⟩)
           go_ret;exact⟨jb HQ.out.symm,HK.out.trans (ja _ _)⟩
        | false =>
         cases n1 with
         | true =>
          cases m with
          | true =>
           cases q2 with
           | true =>
            have HQ:=lH (show zD (x,y,true)=true by rw[HN.out];rfl);go_wp2_with (go_at_call 158;refine(jq _ _ (by assumption)).mono ?_;rintro e w' ⟨rfl,rfl⟩)
            go_roundw
            case rel=>exact⟨k+1,by omega,by go_num,(HS.out.trans (by rw[HQ.out];exact Bool.true_and _)).symm,HK.out.trans (ja _ _)⟩
            case measure=>simp[intOf];omega
           | false =>
            have HQ:=lH (show JI l=3 by rw[HV.out,HS.out,HN.out];rfl);go_wp2_with (go_at_call 158;refine(jq _ _ (by assumption)).mono ?_;rintro e w' ⟨rfl,rfl⟩)
            go_ret;exact⟨jb HQ.out.symm,HK.out.trans (ja _ _)⟩
          | false =>
           cases n2 with
           | true =>
            have HQ:=lH (show zD (x,y,false)=true by rw[HN.out];rfl);go_wp2_with (go_at_call 158;refine(jq _ _ (by assumption)).mono ?_;rintro e w' ⟨rfl,rfl⟩)
            go_roundw
            case rel=>exact⟨k+1,by omega,by go_num,(HS.out.trans (by rw[HQ.out];exact Bool.true_and _)).symm,HK.out.trans (ja _ _)⟩
            case measure=>simp[intOf];omega
           | false =>
            have HQ:=lH (show JI l=3 by rw[HV.out,HS.out,HN.out];rfl);go_wp2_with (go_at_call 158;refine(jq _ _ (by assumption)).mono ?_;rintro e w' ⟨rfl,rfl⟩)
            go_ret;exact⟨jb HQ.out.symm,HK.out.trans (ja _ _)⟩
         | false =>
          have HQ:=lH (show JI l=3 by rw[HV.out,HS.out,HN.out];rfl);go_wp2_with (go_at_call 158;refine(jq _ _ (by assumption)).mono ?_;rintro e w' ⟨rfl,rfl⟩)
          go_ret;exact⟨jb HQ.out.symm,HK.out.trans (ja _ _)⟩
      · have HK:=lH hK;have HS:=lH (hrest.symm.trans (congrArg (fun z=>z.all zD) (zB (by rw[HL.out];exact hlt))));have HF:=lH (show JI l=0 by rw[HV.out,HS.out];rfl);clear hK hrest;go_wp2;go_ret;exact⟨jb HF.out.symm,HK.out⟩
 · have HV:=lH (show JI l=4 by unfold JI;rw[if_pos (by omega)]);have h9:8<len:=by omega
   clear h8 hr hl;go_enter Tryz.func163,Tryz.ntmps163;go_wp2;go_ret;exact⟨jb HV.out.symm,Kept.refl _⟩
theorem jji {l:NL} {k j:Nat} {t z:NT} (hj:j<k) (hz:l[j]?=some z) (h:Jd t z=true):(l.take k).any (Jd t)=true:=by
 rw[List.any_eq_true];refine⟨z,List.mem_of_getElem? (i:=j) ?_,h⟩;rw[List.getElem?_take,if_pos hj];exact hz
theorem jep {l:NL} {j:Nat} {t z:NT} (hz:l[j]?=some z) (h:(l.take j).any (Jd t)=false) (g:Jd t z=false):(l.take (j+1)).any (Jd t)=false:=by
 rw[zI hz,List.any_append,h];simp[g]
theorem jeQ (a:Option Addr) (len cap:Nat) (l:NL) (w:World) (hr:jk ju w a len l) :
 Calls Tryz.prog 161 #[.slice a len cap] w fun e w'=>e=.returned (.int .i64 (ZJ l))∧Kept w w':=by
 have hl:=hr.1;have hm:=hr.2.1;unfold maxLen at hm;by_cases h8:len≤8
 · have HV:=lH (show ZJ l=JL [] l by unfold ZJ;rw[if_neg (by omega)]);rcases hr.form with h0 | ⟨b,off,rfl⟩
   · subst h0;have HE:=lH (show ZJ l=0 by rw[HV.out];rw[List.eq_nil_of_length_eq_zero hl];rfl);clear hr hl;go_enter Tryz.func161,Tryz.ntmps161;go_wp2;refine wp_loop_rounds 1 ?_;rw[rounds_succ];go_wp2;go_ret;exact⟨jb HE.out.symm,Kept.refl _⟩
   · have HR:=lH hr;have HL:=lH hl;clear hr hl;go_enter Tryz.func161,Tryz.ntmps161;go_wp2;go_loopw [3] (fun i wr=>∃k:Nat,k≤len∧i=.int .i64 k∧JL (l.take k) (l.drop k)=JL [] l∧Kept w wr) (fun i _=>len-(intOf i).toNat)
     case atStart=>exact⟨0,Nat.zero_le _,rfl,rfl,Kept.refl _⟩
     case round =>
      obtain⟨k,hk,rfl,hrest,hK⟩:=hrel;by_cases hlt:k<len
      · obtain⟨x,y,m,hx,hd,hb,hz,hz2,c1,c2,c3⟩:=(HR.out.kept hK).tri hlt;obtain⟨HX,HK,HT⟩:=lH3 hx hK (hrest.symm.trans (congrArg (JL (l.take k)) hd));have HS:=lH (HV.out.trans HT.out);clear hK hrest hx hd;by_cases n1:isName x=true
        · by_cases n2:isName y=true
          · have N1:=lH n1;have N2:=lH n2;go_wp2_with (go_at_call 158;refine(jq _ _ (by assumption)).mono ?_;rintro e w' ⟨rfl,rfl⟩)
            go_loopw [4] (fun i wr2=>∃j:Nat,j≤k∧i=.int .i64 j∧(l.take j).any (Jd (x,y,m))=false∧Kept w wr2) (fun i _=>k-(intOf i).toNat)
            case atStart=>exact⟨0,Nat.zero_le _,rfl,rfl,HK.out⟩
            case round =>
             obtain⟨j,hj,rfl,hnone,hK2⟩:=hrel;have TT:=lH hK2;have Ua:=lH hnone;by_cases hjk:j<k
             · obtain⟨x',y',m',hx',_,hb',_,_,d1,d2,d3⟩:=(HR.out.kept hK2).tri (show j<len by omega);obtain⟨x9,y9,m9,hx9,_,_,_,_,e1,e2,e3⟩:=(HR.out.kept hK2).tri hlt;obtain⟨rfl,rfl,rfl⟩:x=x9∧y=y9∧m=m9:=by rw[HX.out] at hx9;simpa using hx9
               have HX':=lH hx';obtain⟨q1,hq1⟩:=eX ((x'.toList==x.toList))
               obtain⟨q2,hq2⟩:=eX ((y'.toList==y.toList))
               have UL:=lH (show Jd (x,y,m) (x',y',m')=(q1&&q2) by unfold Jd eqS;rw[hq1,hq2]);have hjl:(j:Int)<(len:Int):=by omega
               clear hx9 hx' hnone hK2
               cases q1 with
               | true =>
                cases q2 with
                | true =>
                 go_wp2_with fail
                 go_quiet (fail)
                 go_wp2;go_ret;exact⟨jb (HS.out.trans (jcC N1.out N2.out (jji hjk HX'.out UL.out))).symm,TT.out.trans (Kept.drewN _ _)⟩
                | false =>
                 go_wp2_with fail
                 go_quiet (fail)
                 go_wp2;go_roundw
                 case rel=>exact⟨j+1,by omega,by go_num,jep HX'.out Ua.out UL.out,TT.out.trans (Kept.drewN _ _)⟩
                 case measure=>simp[intOf];omega
               | false =>
                go_wp2_with fail
                go_quiet (fail)
                go_wp2;go_roundw
                case rel=>exact⟨j+1,by omega,by go_num,jep HX'.out Ua.out UL.out,TT.out.trans (Kept.drewN _ _)⟩
                case measure=>simp[intOf];omega
             · obtain rfl:j=k:=by omega
               clear hnone hK2;go_wp2;go_roundw
               case rel=>exact⟨j+1,by omega,by go_num,by rw[zI HX.out];exact(jee N1.out N2.out Ua.out).symm.trans HT.out.symm,TT.out⟩
               case measure=>simp[intOf];omega
          · have n2:isName y=false:=by simpa using n2
            have N:=lH (show (isName x&&isName y)=false by rw[n2,Bool.and_false]);go_wp2_with (go_at_call 158;refine(jq _ _ (by assumption)).mono ?_;rintro e w' ⟨rfl,rfl⟩)
            go_ret;exact⟨jb (HS.out.trans (qg N.out)).symm,HK.out⟩
        · have n1:isName x=false:=by simpa using n1
          have N:=lH (show (isName x&&isName y)=false by rw[n1,Bool.false_and]);go_wp2_with (go_at_call 158;refine(jq _ _ (by assumption)).mono ?_;rintro e w' ⟨rfl,rfl⟩)
          go_ret;exact⟨jb (HS.out.trans (qg N.out)).symm,HK.out⟩
      · have HK:=lH hK;have HS:=lH ((HV.out.trans hrest.symm).trans (congrArg (JL (l.take k)) (zB (by rw[HL.out];exact hlt))));clear hK hrest;go_wp2;go_ret;exact⟨jb (HS.out.trans rfl).symm,HK.out⟩
 · have HV:=lH (show ZJ l=4 by unfold ZJ;rw[if_pos (by omega)]);have h9:8<len:=by omega
   clear h8 hr hl;go_enter Tryz.func161,Tryz.ntmps161;go_wp2;go_ret;exact⟨jb HV.out.symm,Kept.refl _⟩
theorem jii {v:Value} {l:NL} {c:Int} {w:World} (h:Reads ju w v l) (hc:ZJ l=c):Calls Tryz.prog 161 #[v] w (Say (.int .i64 c) w):=by
 obtain⟨a,cap,rfl,_,_,hr⟩:=h;exact(jeQ a _ cap l w hr).mono fun e w' ⟨he,k⟩=>⟨by rw[he,hc],k⟩
theorem jih {v:Value} {l:NL} {c:Int} {w:World} (h:Reads ju w v l) (hc:JI l=c):Calls Tryz.prog 163 #[v] w (Say (.int .i64 c) w):=by
 obtain⟨a,cap,rfl,_,_,hr⟩:=h;exact(jeG a _ cap l w hr).mono fun e w' ⟨he,k⟩=>⟨by rw[he,hc],k⟩
end Go.Proofs.YtibepooajeakfaaGreat
namespace Go.Proofs.YtibepooajeakfaaGreat.Vec
open Go.RowKit Go.Proofs.YtibepooajeakfaaGreat
def qc (w:World) (v:Value) (vs:List (Nat×Nat)) (ps:List (List UInt8)):Prop :=
 ∀(i:Nat) (x:Nat×Nat) (p:List UInt8),vs[i]?=some x→ps[i]?=some p→x.1<w.heap.size∧v.ownBlock≠some x.1 ∧
  w.cell? ⟨x.1,0,none⟩=some (.string (bytes (nameOf p)))∧w.cell? ⟨x.1,1,none⟩=some (.string (bytes (jjs p)))
theorem qc.nil (w:World) (v:Value) (ps:List (List UInt8)):qc w v [] ps:=fun i x p h=>by simp at h
theorem qc.kept {w w':World} {v:Value} {vs:List (Nat×Nat)} {ps:List (List UInt8)} (h:qc w v vs ps) (k:Kept w w'):qc w' v vs ps:=fun i x p hx hp=>by
 obtain⟨h1,h2,h3,h4⟩:=h i x p hx hp;exact⟨Nat.lt_of_lt_of_le h1 k.size,h2,cell_later k h3,cell_later k h4⟩
theorem qc.snoc {w w':World} {v:Value} {vs:List (Nat×Nat)} {ps:List (List UInt8)} {g n cap b c:Nat} {p:List UInt8} (h:qc w v vs ps) (hg:w.grownBy w' v.ownBlock) (hgo:v.ownBlock=some g∨g=w.heap.size)
 (hp:ps[vs.length]?=some p) (hb:b<w.heap.size) (hne:v.ownBlock≠some b)
 (c0:w.cell? ⟨b,0,none⟩=some (.string (bytes (nameOf p)))) (c1:w.cell? ⟨b,1,none⟩=some (.string (bytes (jjs p)))) :
 qc w' (.slice (some ⟨g,0,none⟩) n cap) (vs++[(b,c)]) ps:=by
 have far:∀d,d<w.heap.size→v.ownBlock≠some d→d<w'.heap.size∧(Value.slice (some ⟨g,0,none⟩) n cap).ownBlock≠some d∧∀j,w'.cell? ⟨d,j,none⟩=w.cell? ⟨d,j,none⟩:=fun d hd hn=>by
  refine⟨Nat.lt_of_lt_of_le hd hg.size,?_,fun j=>hg.cell_far ⟨d,j,none⟩ hd (fun e=>hn e.symm)⟩;show some g≠some d;intro e;have e':g=d:=Option.some.inj e;rcases hgo with h1 | h1
  · exact hn (by rw[h1,e'])
  · omega
 intro i x q hx hq;by_cases hi:i<vs.length
 · rw[List.getElem?_append_left hi] at hx;obtain⟨h1,h2,h3,h4⟩:=h i x q hx hq;obtain⟨f1,f2,f3⟩:=far x.1 h1 h2;exact⟨f1,f2,(f3 0).trans h3,(f3 1).trans h4⟩
 · have hi2:i=vs.length:=by
    have:=(List.getElem?_eq_some_iff.1 hx).1;simp at this;omega
   subst hi2;have hxx:(b,c)=x:=by simpa using hx
   have hqq:q=p:=Option.some.inj (hq.symm.trans hp);subst hxx;subst hqq;obtain⟨f1,f2,f3⟩:=far b hb hne;exact⟨f1,f2,(f3 0).trans c0,(f3 1).trans c1⟩
open Go.RowKit
theorem jjQ (a b:Int) (w:World) (ha:0≤a) (hb:0≤b) (hb':b≤9223372036854775807) (h:9223372036854775807<a+b):Calls Tryz.prog 166 #[.int .i64 a,.int .i64 b] w (Xj 0 5 w):=by
 go_enter Tryz.func166,Tryz.ntmps166;go_wp2;go_ret2
 exact⟨rfl,rfl⟩
theorem jnh (a b:Int) (w:World) (ha:0≤a) (hb:0≤b) (h:a+b≤9223372036854775807):Calls Tryz.prog 166 #[.int .i64 a,.int .i64 b] w (Xj (a+b) 0 w):=by
 go_enter Tryz.func166,Tryz.ntmps166;go_wp2;go_ret2
 exact⟨rfl,rfl⟩
def Told (c:Int) (m:V) (w:World) (e:Ending) (w':World):Prop:=∃x,e=.returned (.tuple #[x,.int .i64 c])∧jT 138 w' w.heap.size x m∧Kept w w'
theorem Told.none {c:Int} {w w':World} (k:Kept w w'):Told c [] w (.returned (.tuple #[.slice none 0 0,.int .i64 c])) w':=⟨_,rfl,jT.nil _ _ _,k⟩
theorem Y9 (a:Option Addr) (len cap:Nat) (l:V) (n:ByteArray) (w:World) (hr:jw w a len l) :
 Calls Tryz.prog 116 #[.slice a len cap,.string n] w fun e w'=>e=.returned (.int .i64 (jh l n))∧Kept w w':=by
 have hl:=hr.1;have hm:=hr.2.1;unfold maxLen at hm;rcases hr.form with h0 | ⟨b,off,rfl⟩
 · subst h0;have HE:=lH (show jh l n=0 by rw[List.eq_nil_of_length_eq_zero hl];rfl);clear hr hl;go_enter Tryz.func116,Tryz.ntmps116;go_wp2;refine wp_loop_rounds 1 ?_;rw[rounds_succ];go_wp2;go_ret;exact⟨jb HE.out.symm,Kept.refl _⟩
 · have HR:=lH hr;have HL:=lH hl;clear hr hl;go_enter Tryz.func116,Tryz.ntmps116;go_wp2;go_loopw [5] (fun i wr=>∃k:Nat,k≤len∧i=.int .i64 k∧jh (l.drop k) n=jh l n∧Kept w wr) (fun i _=>len-(intOf i).toNat)
   case atStart=>exact⟨0,Nat.zero_le _,rfl,rfl,Kept.refl _⟩
   case round =>
    obtain⟨k,hk,rfl,hrest,hK⟩:=hrel;have HK:=lH hK;have HS:=lH hrest;by_cases hlt:k<len
    · obtain⟨hb,c1,c2⟩:=(HR.out.kept hK).cells hlt;clear hK hrest;have HI:=lH (show k<l.length by rw[HL.out];exact hlt);by_cases e:eqS (nm l k) n=true
      · have E:=lH e;have e':((nm l k).toList==n.toList)=true:=e;clear e;go_wp2;go_ret;exact⟨jb (HS.out.symm.trans (jgg HI.out E.out)).symm,HK.out⟩
      · have e:eqS (nm l k) n=false:=by simpa using e
        have E:=lH e;have e':((nm l k).toList==n.toList)=false:=e;clear e;go_wp2;go_roundw
        case rel=>exact⟨k+1,by omega,by go_num,(jfS HI.out E.out).symm.trans HS.out,HK.out⟩
        case measure=>simp[intOf];omega
    · have HI:=lH (show ¬k<l.length by rw[HL.out];exact hlt);clear hK hrest;go_wp2;go_ret;exact⟨jb (HS.out.symm.trans (jhT HI.out)).symm,HK.out⟩
theorem jkd (a a':Option Addr) (len cap len' cap':Nat) (l l':V) (w:World) (hr:jw w a len l) (hr':jw w a' len' l') :
 Calls Tryz.prog 65 #[.slice a len cap,.slice a' len' cap'] w fun e w'=>e=.returned (.bool (jB l' l))∧Kept w w':=by
 have hl:=hr.1;have hm:=hr.2.1;unfold maxLen at hm;rcases hr.form with h0 | ⟨b,off,rfl⟩
 · subst h0;have HE:=lH (show jB l' l=true by rw[List.eq_nil_of_length_eq_zero hl];rfl);clear hr hl hr';go_enter Tryz.func65,Tryz.ntmps65;go_wp2;refine wp_loop_rounds 1 ?_;rw[rounds_succ];go_wp2;go_ret;exact⟨jd HE.out.symm,Kept.refl _⟩
 · have HR:=lH hr;have HL:=lH hl;have HR':=lH hr';clear hr hl hr';go_enter Tryz.func65,Tryz.ntmps65;go_wp2;go_loopw [5] (fun i wr=>∃k:Nat,k≤len∧i=.int .i64 k∧jB l' (l.drop k)=jB l' l∧Kept w wr) (fun i _=>len-(intOf i).toNat)
   case atStart=>exact⟨0,Nat.zero_le _,rfl,rfl,Kept.refl _⟩
   case round =>
    obtain⟨k,hk,rfl,hrest,hK⟩:=hrel;have HS:=lH hrest;have HK:=lH hK;by_cases hlt:k<len
    · obtain⟨hb,c1,c2⟩:=(HR.out.kept hK).cells hlt;clear hrest hK;have HI:=lH (show k<l.length by rw[HL.out];exact hlt);by_cases e:qn l k≤jh l' (nm l k)
      · have E:=lH (show jB l' (l.drop k)=jB l' (l.drop (k+1)) by rw[drop_cons HI.out,jB,decide_eq_true e];rfl);go_wp2;have f1:wr.drew.cell? ⟨b,off+k*2,none⟩=some (.string (nm l k)):=c1;have f2:wr.drew.cell? ⟨b,off+k*2+1,none⟩=some (.int .i64 (qn l k)):=c2;have f3:Kept w wr.drew:=HK.out.trans (Kept.drewN _ 1)
        go_region_held3 (fun W=>W.cell? ⟨b,off+k*2,none⟩=some (.string (nm l k))∧W.cell? ⟨b,off+k*2+1,none⟩=some (.int .i64 (qn l k))∧Kept w W) (first | exact⟨f1,f2,f3⟩ | assumption | exact X8 (by assumption) (by assumption))
         (first | (go_at_call 116;refine(Y9 _ _ _ l' _ _ (HR'.out.kept (Zu (by assumption)))).mono ?_;rintro e W2 ⟨rfl,hk2⟩))
        all_goals
         go_wp2;go_roundw
         case rel=>exact⟨k+1,by omega,by go_num,E.out.symm.trans HS.out,Zu (by assumption)⟩
         case measure=>simp[intOf];omega
      · have E:=lH (show jB l' (l.drop k)=false by rw[drop_cons HI.out,jB,decide_eq_false e];rfl);have e':jh l' (nm l k)<qn l k:=by omega
        clear e;go_wp2;have f1:wr.drew.cell? ⟨b,off+k*2,none⟩=some (.string (nm l k)):=c1;have f2:wr.drew.cell? ⟨b,off+k*2+1,none⟩=some (.int .i64 (qn l k)):=c2;have f3:Kept w wr.drew:=HK.out.trans (Kept.drewN _ 1)
        go_region_held3 (fun W=>W.cell? ⟨b,off+k*2,none⟩=some (.string (nm l k))∧W.cell? ⟨b,off+k*2+1,none⟩=some (.int .i64 (qn l k))∧Kept w W) (first | exact⟨f1,f2,f3⟩ | assumption | exact X8 (by assumption) (by assumption))
         (first | (go_at_call 116;refine(Y9 _ _ _ l' _ _ (HR'.out.kept (Zu (by assumption)))).mono ?_;rintro e W2 ⟨rfl,hk2⟩))
        all_goals
         go_wp2;go_ret;exact⟨jd (HS.out.symm.trans E.out).symm,Zu (by assumption)⟩
    · have E:=lH (show jB l' (l.drop k)=true by rw[List.drop_of_length_le (by rw[HL.out];omega),jB]);clear hrest hK;go_wp2;go_ret;exact⟨jd (HS.out.symm.trans E.out).symm,HK.out⟩
theorem jT.reads {e:TypeId} {w:World} {B:Nat} {v:Value} {l:V} (h:jT e w B v l):Reads w v l:=h.at_
theorem YO {n:ByteArray} {c:Bool} {w:World} (h:n.size≤maxLen) (e:isName n=c) :
 Calls Tryz.prog 158 #[.string n] w fun x w'=>x=.returned (.bool c)∧w=w':=by
 subst e;exact jq n w h
end Go.Proofs.YtibepooajeakfaaGreat.Vec
namespace Go.Proofs.YtibepooajeakfaaGreat
open Go.RowKit
structure Nod where
 name:ByteArray
 cap:Vec.V
 labels:PL
 taints:NL
 cordon:Bool
def Nod.zero:Nod:=⟨ByteArray.empty,[],[],[],false⟩
abbrev zi (n:Nod) (v1 v2 v3:Value):Value:=.agg #[.string n.name,v1,v2,v3,.bool n.cordon]
structure zr (w:World) (v1 v2 v3:Value) (n:Nod):Prop where
 size:n.name.size≤maxLen
 cap:Vec.Reads w v1 n.cap
 labels:Reads jz w v2 n.labels
 taints:Reads ju w v3 n.taints
theorem zr.kept {w w':World} {v1 v2 v3:Value} {n:Nod} (h:zr w v1 v2 v3 n) (k:Kept w w'):zr w' v1 v2 v3 n:=⟨h.size,h.cap.kept k,h.labels.kept k,h.taints.kept k⟩
def jaq (w:World) (v:Value) (n:Nod):Prop:=∃v1 v2 v3,v=zi n v1 v2 v3∧zr w v1 v2 v3 n
theorem jaq.kept {w w':World} {v:Value} {n:Nod} (h:jaq w v n) (k:Kept w w'):jaq w' v n:=by
 obtain⟨v1,v2,v3,e,h⟩:=h;exact⟨v1,v2,v3,e,h.kept k⟩
def zk (n:Nod):Int:=if isName n.name=false then 3 else if Vec.jv n.cap≠0 then Vec.jv n.cap else if J9 n.labels≠0 then J9 n.labels else ZJ n.taints
def Jl (a b:Nod):Bool:=eqS a.name b.name&&((a.cordon==b.cordon)&&(Vec.jY a.cap b.cap&&(Jc a.labels b.labels&&jU a.taints b.taints)))
theorem jiD (a:Nod):Jl a a=true:=by
 unfold Jl;rw[zh,Vec.ja6,qK,jat];simp
def or3 (a b c:Int):Int:=if a≠0 then a else if b≠0 then b else c
theorem jdt (b:Nat) (x y z:Int) (w:World) (c0:w.cell? ⟨b,0,none⟩=some (.int .i64 x)) (c1:w.cell? ⟨b,1,none⟩=some (.int .i64 y)) (c2:w.cell? ⟨b,2,none⟩=some (.int .i64 z)) :
 Calls Tryz.prog 90 #[.slice (some ⟨b,0,none⟩) 3 3] w fun e w'=>e=.returned (.int .i64 (or3 x y z))∧w=w':=by
 by_cases hx:x=0
 · subst hx;by_cases hy:y=0
   · subst hy;by_cases hz:z=0
     · subst hz;have HV:=lH (show or3 0 0 0=0 from rfl);go_enter Tryz.func90,Tryz.ntmps90;go_wp2;refine wp_loop_rounds 4 ?_;iterate 4
        rw[rounds_succ];go_wp2
       go_ret;exact⟨jb HV.out.symm,rfl⟩
     · have HV:=lH (show or3 0 0 z=z from rfl);have hz':(z != 0)=true:=by simpa using hz
       clear hz;go_enter Tryz.func90,Tryz.ntmps90;go_wp2;refine wp_loop_rounds 3 ?_;iterate 3
        rw[rounds_succ];go_wp2
       go_ret;exact⟨jb HV.out.symm,rfl⟩
   · have HV:=lH (show or3 0 y z=y by unfold or3;rw[if_neg (by decide),if_pos hy]);have hy':(y != 0)=true:=by simpa using hy
     clear hy;go_enter Tryz.func90,Tryz.ntmps90;go_wp2;refine wp_loop_rounds 2 ?_;iterate 2
      rw[rounds_succ];go_wp2
     go_ret;exact⟨jb HV.out.symm,rfl⟩
 · have HV:=lH (show or3 x y z=x by unfold or3;rw[if_pos hx]);have hx':(x != 0)=true:=by simpa using hx
   clear hx;go_enter Tryz.func90,Tryz.ntmps90;go_wp2;refine wp_loop_rounds 1 ?_;rw[rounds_succ];go_wp2;go_ret;exact⟨jb HV.out.symm,rfl⟩
theorem jiN (n:Nod) (v1 v2 v3:Value) (w:World) (h:zr w v1 v2 v3 n) :
 Calls Tryz.prog 139 #[zi n v1 v2 v3] w (Say (.int .i64 (zk n)) w):=by
 by_cases h1:isName n.name=true
 · have HV:=lH (show zk n=or3 (Vec.jv n.cap) (J9 n.labels) (ZJ n.taints) by unfold zk;rw[if_neg (by rw[h1];decide)];rfl);obtain⟨W0,hW0⟩:=eX (w.alloc (.cells #[.string n.name,v1,v2,v3,.bool n.cordon] 78))
   have hk0:Kept w W0:=by rw[←hW0];exact ja _ _
   have HC:=lH (show ∀W,Kept W0 W→W.cell? ⟨w.heap.size,0,none⟩=some (.string n.name)∧W.cell? ⟨w.heap.size,1,none⟩=some v1∧W.cell? ⟨w.heap.size,2,none⟩=some v2∧W.cell? ⟨w.heap.size,3,none⟩=some v3 from fun W k=>by
    have hh:=w.alloc_heap_new (.cells #[.string n.name,v1,v2,v3,.bool n.cordon] 78);rw[hW0] at hh;exact⟨cell_later k (by rw[Lib.cell_of_heap hh];rfl),cell_later k (by rw[Lib.cell_of_heap hh];rfl),cell_later k (by rw[Lib.cell_of_heap hh];rfl),cell_later k (by rw[Lib.cell_of_heap hh];rfl)⟩)
   obtain⟨H1,H2,H3⟩:=lH3 (fun W (k:Kept W0 W)=>Vec.jbc (h.cap.kept (hk0.trans k)) rfl) (fun W (k:Kept W0 W)=>jbc (h.labels.kept (hk0.trans k)) rfl) (fun W (k:Kept W0 W)=>jmC (h.taints.kept (hk0.trans k)) rfl);have hsz:=h.size;have Va:=lH hk0;obtain⟨x1,hx1⟩:=eX (Vec.jv n.cap)
   obtain⟨x2,hx2⟩:=eX (J9 n.labels)
   obtain⟨x3,hx3⟩:=eX (ZJ n.taints)
   rw[hx1] at HV H1;rw[hx2] at HV H2;rw[hx3] at HV H3;obtain⟨c0,c1,c2,c3⟩:=HC.out _ (Kept.refl _);clear hx1 hx2 hx3 h hk0;unfold zi;go_enter Tryz.func139,Tryz.ntmps139;go_wp2_with fail
   refine(Vec.jac hsz h1).mono ?_;rintro e w' ⟨rfl,rfl⟩;try rw[hW0]
   clear hW0;go_wp2
   go_region_held3 (fun W=>W.cell? ⟨w.heap.size,1,none⟩=some v1∧W.cell? ⟨w.heap.size,2,none⟩=some v2∧W.cell? ⟨w.heap.size,3,none⟩=some v3)
    (first | exact(HC.out _ (Kept.drew _)).2 | exact(HC.out _ K1.out).2 | exact(HC.out _ K2.out).2 | exact(HC.out _ K3.out).2 | exact(HC.out _ (K3.out.trans (ja _ _))).2)
    (first | (go_at_call 175;refine(H1.out _ (Kept.drew _)).mono ?_;rintro e1 w1 ⟨rfl,k1⟩;have K1:=lH ((Kept.drew _).trans k1);clear k1)
           | (go_at_call 176;refine(H2.out _ K1.out).mono ?_;rintro e2 w2 ⟨rfl,k2⟩;have K2:=lH (K1.out.trans k2);clear k2)
           | (go_at_call 177;refine(H3.out _ K2.out).mono ?_;rintro e3 w3 ⟨rfl,k3⟩;have K3:=lH (K2.out.trans k3);clear k3)
           | (go_at_call 90;refine(jdt _ x1 x2 x3 _ (by go_simp) (by go_simp) (by go_simp)).mono ?_;rintro e4 w4 ⟨rfl,rfl⟩))
   go_wp2;go_ret;exact⟨jb HV.out.symm,Va.out.trans (K3.out.trans (ja _ _))⟩
 · have h1:isName n.name=false:=by simpa using h1
   have HV:=lH (show zk n=3 by unfold zk;rw[if_pos h1]);have hsz:=h.size;clear h;unfold zi;go_enter Tryz.func139,Tryz.ntmps139;go_wp2_with (go_at_call 174;refine(Vec.jac hsz h1).mono ?_;rintro e w' ⟨rfl,rfl⟩)
   go_ret;exact⟨jb HV.out.symm,ja _ _⟩
theorem jgZ (n:Nod) (v1 v2 v3:Value) (w:World) (h:zr w v1 v2 v3 n) :
 Calls Tryz.prog 112 #[zi n v1 v2 v3] w (Say (.int .i64 (zk n)) w):=by
 have hsz:=h.size;have HH:=lH h;by_cases h1:isName n.name=true
 · obtain⟨x1,hx1⟩:=eX (Vec.jv n.cap)
   obtain⟨x2,hx2⟩:=eX (J9 n.labels)
   obtain⟨x3,hx3⟩:=eX (ZJ n.taints)
   obtain⟨Us,UD,UM,VI⟩:=lH4 hx1 hx2 hx3 (show zk n=if x1≠0 then x1 else if x2≠0 then x2 else x3 by unfold zk;rw[if_neg (by rw[h1];decide),hx1,hx2,hx3]);clear hx1 hx2 hx3 h;by_cases z1:x1=0
   · subst z1;by_cases z2:x2=0
     · subst z2;have HV:=lH (show zk n=x3 from VI.out);unfold zi;go_enter Tryz.func112,Tryz.ntmps112;go_wp2_with fail
       refine(Vec.YO hsz h1).mono ?_;rintro e w' ⟨rfl,rfl⟩;go_wp2_with fail
       have K:=lH (ja w (.cells #[.string n.name,v1,v2,v3,.bool n.cordon] 122));have hh:=w.alloc_heap_new (.cells #[.string n.name,v1,v2,v3,.bool n.cordon] 122);have c2:(w.alloc (.cells #[.string n.name,v1,v2,v3,.bool n.cordon] 122)).cell? ⟨w.heap.size,2,none⟩=some v2:=by rw[Lib.cell_of_heap hh];rfl
       have c3:(w.alloc (.cells #[.string n.name,v1,v2,v3,.bool n.cordon] 122)).cell? ⟨w.heap.size,3,none⟩=some v3:=by rw[Lib.cell_of_heap hh];rfl
       clear hh;refine(Vec.Zv (HH.out.cap.kept K.out) Us.out).mono ?_;rintro e w1 ⟨rfl,k1⟩;have K:=lH (K.out.trans k1);have c2:=cell_later k1 c2;have c3:=cell_later k1 c3;clear k1;go_wp2_with fail
       refine(Zv (HH.out.labels.kept K.out) UD.out).mono ?_;rintro e w2 ⟨rfl,k2⟩;have K:=lH (K.out.trans k2);have c2:=cell_later k2 c2;have c3:=cell_later k2 c3;clear k2;go_wp2_with fail
       refine(jii (HH.out.taints.kept K.out) UM.out).mono ?_;rintro e w3 ⟨rfl,k3⟩;have K:=lH (K.out.trans k3);clear k3;go_wp2;go_ret;exact⟨jb HV.out.symm,K.out⟩
     · have HV:=lH (show zk n=x2 by rw[VI.out,if_neg (by decide),if_pos z2]);have z2':(x2 != 0)=true:=by simpa using z2
       clear z2;unfold zi;go_enter Tryz.func112,Tryz.ntmps112;go_wp2_with fail
       refine(Vec.YO hsz h1).mono ?_;rintro e w' ⟨rfl,rfl⟩;go_wp2_with fail
       have K:=lH (ja w (.cells #[.string n.name,v1,v2,v3,.bool n.cordon] 122));have hh:=w.alloc_heap_new (.cells #[.string n.name,v1,v2,v3,.bool n.cordon] 122);have c2:(w.alloc (.cells #[.string n.name,v1,v2,v3,.bool n.cordon] 122)).cell? ⟨w.heap.size,2,none⟩=some v2:=by rw[Lib.cell_of_heap hh];rfl
       have c3:(w.alloc (.cells #[.string n.name,v1,v2,v3,.bool n.cordon] 122)).cell? ⟨w.heap.size,3,none⟩=some v3:=by rw[Lib.cell_of_heap hh];rfl
       clear hh;refine(Vec.Zv (HH.out.cap.kept K.out) Us.out).mono ?_;rintro e w1 ⟨rfl,k1⟩;have K:=lH (K.out.trans k1);have c2:=cell_later k1 c2;have c3:=cell_later k1 c3;clear k1;go_wp2_with fail
       refine(Zv (HH.out.labels.kept K.out) UD.out).mono ?_;rintro e w2 ⟨rfl,k2⟩;have K:=lH (K.out.trans k2);clear k2;go_wp2;go_ret;exact⟨jb HV.out.symm,K.out⟩
   · have HV:=lH (show zk n=x1 by rw[VI.out,if_pos z1]);have z1':(x1 != 0)=true:=by simpa using z1
     clear z1;unfold zi;go_enter Tryz.func112,Tryz.ntmps112;go_wp2_with fail
     refine(Vec.YO hsz h1).mono ?_;rintro e w' ⟨rfl,rfl⟩;go_wp2_with fail
     have K:=lH (ja w (.cells #[.string n.name,v1,v2,v3,.bool n.cordon] 122));have hh:=w.alloc_heap_new (.cells #[.string n.name,v1,v2,v3,.bool n.cordon] 122);have c2:(w.alloc (.cells #[.string n.name,v1,v2,v3,.bool n.cordon] 122)).cell? ⟨w.heap.size,2,none⟩=some v2:=by rw[Lib.cell_of_heap hh];rfl
     have c3:(w.alloc (.cells #[.string n.name,v1,v2,v3,.bool n.cordon] 122)).cell? ⟨w.heap.size,3,none⟩=some v3:=by rw[Lib.cell_of_heap hh];rfl
     clear hh;refine(Vec.Zv (HH.out.cap.kept K.out) Us.out).mono ?_;rintro e w1 ⟨rfl,k1⟩;have K:=lH (K.out.trans k1);clear k1;go_wp2;go_ret;exact⟨jb HV.out.symm,K.out⟩
 · have h1:isName n.name=false:=by simpa using h1
   have HV:=lH (show zk n=3 by unfold zk;rw[if_pos h1]);clear h;unfold zi;go_enter Tryz.func112,Tryz.ntmps112;go_wp2_with (go_at_call 158;refine(Vec.YO hsz h1).mono ?_;rintro e w' ⟨rfl,rfl⟩)
   go_ret;exact⟨jb HV.out.symm,ja _ _⟩
def JO (B:Nat) (w:World) (v:Value) (n:Nod):Prop:=∃a1 m1 c1 a2 m2 c2 a3 m3 c3,v=.agg #[.string n.name,.slice a1 m1 c1,.slice a2 m2 c2,.slice a3 m3 c3,.bool n.cordon]∧n.name.size≤maxLen∧Vec.Reads w (.slice a1 m1 c1) n.cap∧Reads jz w (.slice a2 m2 c2) n.labels∧Reads ju w (.slice a3 m3 c3) n.taints ∧
 (∀b off sp,a1=some ⟨b,off,sp⟩→B≤b)∧(∀b off sp,a2=some ⟨b,off,sp⟩→B≤b)∧(∀b off sp,a3=some ⟨b,off,sp⟩→B≤b)
theorem JO.toR {B:Nat} {w:World} {v:Value} {n:Nod} (h:JO B w v n):jaq w v n:=by
 obtain⟨a1,m1,c1,a2,m2,c2,a3,m3,c3,e,h0,h1,h2,h3,_⟩:=h;exact⟨_,_,_,e,h0,h1,h2,h3⟩
def jcD (r:Int×Nod) (w:World) (e:Ending) (w':World):Prop:=(r.1=0→∃v,e=.returned v∧JO w.heap.size w' v r.2)∧(r.1≠0→e=.panicked [zx r.1])∧Kept w w'
theorem jcD.good {r:Int×Nod} {w w':World} {v:Value} (h:r.1=0) (ho:JO w.heap.size w' v r.2) (hb:Kept w w'):jcD r w (.returned v) w':=⟨fun _=>⟨v,rfl,ho⟩,fun g=>absurd h g,hb⟩
theorem jcD.bad {r:Int×Nod} {w w':World} {c:Int} (h:r.1=c) (hc:c≠0) (hb:Kept w w'):jcD r w (.panicked [zx c]) w':=⟨fun g=>absurd (h.symm.trans g) hc,fun _=>by rw[h],hb⟩
theorem Vec.Y3.spelt {r:Int×Vec.V} {w w':World} {e:Ending} (h:Vec.Y3 r w e w'):∃a m cap,e=.returned (.tuple #[.slice a m cap,.int .i64 r.1])∧Vec.Reads w' (.slice a m cap) r.2∧(∀b off sp,a=some ⟨b,off,sp⟩→w.heap.size≤b∧b<w'.heap.size)∧Kept w w':=by
 obtain⟨v,rfl,ho,k⟩:=h;obtain⟨a,cap,rfl,h⟩:=ho.at_;exact⟨a,_,cap,rfl,⟨a,cap,rfl,h⟩,fun b off sp e=>ho.1.lt b (by subst e;rfl),k⟩
theorem Xk (w:World) (v0 v1 v2 v3 v4:Value) (T:TypeId) (W:World) (k:Kept (w.alloc (.cells #[v0,v1,v2,v3,v4] T)) W) :
 (W.cell? ⟨w.heap.size,0,none⟩=some v0∧W.cell? ⟨w.heap.size,1,none⟩=some v1∧W.cell? ⟨w.heap.size,2,none⟩=some v2∧W.cell? ⟨w.heap.size,3,none⟩=some v3∧W.cell? ⟨w.heap.size,4,none⟩=some v4) ∧
 W.frozen? ⟨w.heap.size,0,none⟩=false∧W.frozen? ⟨w.heap.size,1,none⟩=false∧W.frozen? ⟨w.heap.size,2,none⟩=false∧W.frozen? ⟨w.heap.size,3,none⟩=false∧W.frozen? ⟨w.heap.size,4,none⟩=false:=by
 have hh:=w.alloc_heap_new (.cells #[v0,v1,v2,v3,v4] T);have hf:∀j,W.frozen? ⟨w.heap.size,j,none⟩=false:=fun j=>by
  have:=k.frozen (p:=⟨w.heap.size,j,none⟩) (by simp);rw[this];unfold World.frozen?;rw[show (w.alloc (.cells #[v0,v1,v2,v3,v4] T)).heap[(⟨w.heap.size,j,none⟩:Addr).block]?=some (.cells #[v0,v1,v2,v3,v4] T) from hh];simp
 exact⟨⟨cell_later k (by rw[Lib.cell_of_heap hh];rfl),cell_later k (by rw[Lib.cell_of_heap hh];rfl),cell_later k (by rw[Lib.cell_of_heap hh];rfl),cell_later k (by rw[Lib.cell_of_heap hh];rfl),cell_later k (by rw[Lib.cell_of_heap hh];rfl)⟩,hf 0,hf 1,hf 2,hf 3,hf 4⟩
theorem jcG (W:World) (q:Nat) (u0 u1 u2 u3 u4:Value) (b:Nat) (h:b≠q) :
 (((((W.setCell ⟨q,0,none⟩ u0).setCell ⟨q,1,none⟩ u1).setCell ⟨q,2,none⟩ u2).setCell ⟨q,3,none⟩ u3).setCell ⟨q,4,none⟩ u4).heap[b]?=W.heap[b]? :=
 (Below.heap_setCell _ ⟨q,4,none⟩ _ b h).trans ((Below.heap_setCell _ ⟨q,3,none⟩ _ b h).trans ((Below.heap_setCell _ ⟨q,2,none⟩ _ b h).trans ((Below.heap_setCell _ ⟨q,1,none⟩ _ b h).trans (Below.heap_setCell _ ⟨q,0,none⟩ _ b h))))
theorem jjP (W:World) (q:Nat) (u0 u1 u2 u3 u4:Value) :
 (((((W.setCell ⟨q,0,none⟩ u0).setCell ⟨q,1,none⟩ u1).setCell ⟨q,2,none⟩ u2).setCell ⟨q,3,none⟩ u3).setCell ⟨q,4,none⟩ u4).heap.size=W.heap.size:=by simp[World.setCell]
theorem Reads.far {α:Type} {L:Lay α} {w w':World} {a:Option Addr} {m cap:Nat} {l:List α} (h:Reads L w (.slice a m cap) l) (hs:w'.heap.size=w.heap.size) (hb:∀b off sp,a=some ⟨b,off,sp⟩→w'.heap[b]?=w.heap[b]?):Reads L w' (.slice a m cap) l:=by
 obtain⟨a',cap',e,h1,h2,h3,h4,h5,h6⟩:=h
 cases e
 refine⟨a,cap,rfl,h1,h2,h3,h4,h5,h6.imp id ?_⟩;rintro ⟨b,off,rfl,hlt,hc⟩;exact⟨b,off,rfl,by rw[hs];exact hlt,fun i x j u hi hj=>(World.cell?_of_block (a:=⟨b,off+i*L.m+j,none⟩) (hb b off none rfl)).trans (hc i x j u hi hj)⟩
theorem Vec.Reads.far {w w':World} {a:Option Addr} {m cap:Nat} {l:Vec.V} (h:Vec.Reads w (.slice a m cap) l) (hs:w'.heap.size=w.heap.size) (hb:∀b off sp,a=some ⟨b,off,sp⟩→w'.heap[b]?=w.heap[b]?):Vec.Reads w' (.slice a m cap) l:=by
 obtain⟨a',cap',e,h1,h2,h3,h4,h5,h6⟩:=h
 cases e
 refine⟨a,cap,rfl,h1,h2,h3,h4,h5,h6.imp id ?_⟩;rintro ⟨b,off,rfl,hlt,hc⟩;exact⟨b,off,rfl,by rw[hs];exact hlt,fun i hi=>⟨(World.cell?_of_block (a:=⟨b,off+i*2,none⟩) (hb b off none rfl)).trans (hc i hi).1,(World.cell?_of_block (a:=⟨b,off+i*2+1,none⟩) (hb b off none rfl)).trans (hc i hi).2⟩⟩
theorem jau {W:World} {q:Nat} {v0 v1 v2 v3 v4 u0 u1 u2 u3 u4:Value} (y0:W.cell? ⟨q,0,none⟩=some v0) (y1:W.cell? ⟨q,1,none⟩=some v1) (y2:W.cell? ⟨q,2,none⟩=some v2) (y3:W.cell? ⟨q,3,none⟩=some v3) (y4:W.cell? ⟨q,4,none⟩=some v4) (W':World)
 (hW:(((((W.setCell ⟨q,0,none⟩ u0).setCell ⟨q,1,none⟩ u1).setCell ⟨q,2,none⟩ u2).setCell ⟨q,3,none⟩ u3).setCell ⟨q,4,none⟩ u4)=W') :
 W'.cell? ⟨q,0,none⟩=some u0∧W'.cell? ⟨q,1,none⟩=some u1∧W'.cell? ⟨q,2,none⟩=some u2∧W'.cell? ⟨q,3,none⟩=some u3∧W'.cell? ⟨q,4,none⟩=some u4:=by
 subst hW;refine⟨?_,?_,?_,?_,?_⟩<;>go_simp
theorem Vec.Reads.mk' {w:World} {a:Option Addr} {cap:Nat} {l:Vec.V} (h1:l.length≤cap) (h2:cap≤maxLen) (h3:Vec.jw w a l.length l):Vec.Reads w (.slice a l.length cap) l:=⟨a,cap,rfl,h1,h2,h3⟩
theorem Reads.mk' {α:Type} {L:Lay α} {w:World} {a:Option Addr} {cap:Nat} {l:List α} (h1:l.length≤cap) (h2:cap≤maxLen) (h3:jk L w a l.length l):Reads L w (.slice a l.length cap) l:=⟨a,cap,rfl,h1,h2,h3⟩
theorem jbA (B:Nat) (q:Nat) (x y:Int) (w:World) (hq:w.cell? ⟨q,0,none⟩=some (.int .i64 y)) (hzq:w.frozen? ⟨q,0,none⟩=false) (hBq:B≤q) :
 CallsD Tryz.prog 151 #[.pointer (some ⟨q,0,none⟩)] (.panicking [zx x]) w fun e u' w' =>
  e=.returned (.tuple #[])∧u'=.panicking [{ zx x with recovered:=true }]∧w'=w.setCell ⟨q,0,none⟩ (.int .i64 x)∧w'.cell? ⟨q,0,none⟩=some (.int .i64 x)∧Below B w w':=by
 have hta:∀W,(Instr.typeAssert (.iface 69 (.int .i64 x)) 20 69 false).run Tryz.prog W=.ok (.int .i64 x) W:=fun _=>by kernel_rfl
 refine callsD_of_wpS Tryz.func151 rfl fun c₀ cs hu=>?_;apply wpS_seq;apply wpS_region;simp[wpOpsS,go_sem,recoverD,hu,Tryz.ntmps151,Exit.thenS];apply wpS_seq;apply wpS_region;simp[wpOpsS,go_sem,recoverD,Exit.thenS];refine wpS_cond (t:=true) (by simp[Act.eval,Array.replicate]) ?_;simp only[if_true];refine wpS_of_wp ?_;simp[Array.replicate];go_wp2;simp[bodyPostS,results,Tryz.results151];exact⟨World.cell?_setCell_same' _ _ _ (by rw[hq];rfl),(Below.refl B w).setCell (p:=⟨q,0,none⟩) hBq _⟩
theorem jfx (q:Addr) (w:World) :
 CallsD Tryz.prog 151 #[.pointer (some q)] .returning w fun e u' w'=>e=.returned (.tuple #[])∧u'=.returning∧w'=w:=by
 refine callsD_of_wpS Tryz.func151 rfl fun c₀ cs hu=>?_;apply wpS_seq;apply wpS_region;simp[wpOpsS,go_sem,recoverD,hu,Tryz.ntmps151,Exit.thenS];apply wpS_seq;apply wpS_region;simp[wpOpsS,go_sem,recoverD,hu,Exit.thenS];refine wpS_cond (t:=false) (by simp[Act.eval,Array.replicate]) ?_;simp only[Bool.false_eq_true,if_false];refine wpS_of_wp (wp_skip ?_)
 cases c₀
 simp_all [bodyPostS,results,Tryz.results151]
theorem qX (B:Nat) (w:World):JO B w (.agg #[.string ⟨#[]⟩,.slice none 0 0,.slice none 0 0,.slice none 0 0,.bool false]) Nod.zero :=
 ⟨none,0,0,none,0,0,none,0,0,rfl,(by decide:(0:Nat)≤maxLen),Vec.Reads.nil w,Reads.nil w,Reads.nil w,(fun _ _ _ e=>by cases e),(fun _ _ _ e=>by cases e),(fun _ _ _ e=>by cases e)⟩
theorem JO.less {B B':Nat} {w:World} {v:Value} {n:Nod} (h:JO B w v n) (hb:B'≤B):JO B' w v n:=by
 obtain⟨a1,m1,c1,a2,m2,c2,a3,m3,c3,e,h0,h1,h2,h3,g1,g2,g3⟩:=h;exact⟨a1,m1,c1,a2,m2,c2,a3,m3,c3,e,h0,h1,h2,h3,fun b o s e=>Nat.le_trans hb (g1 b o s e),fun b o s e=>Nat.le_trans hb (g2 b o s e),fun b o s e=>Nat.le_trans hb (g3 b o s e)⟩
theorem JO.far {B:Nat} {w w':World} {v:Value} {n:Nod} (h:JO B w v n) (hs:w'.heap.size=w.heap.size) (hb:∀b,B≤b→w'.heap[b]?=w.heap[b]?):JO B w' v n:=by
 obtain⟨a1,m1,c1,a2,m2,c2,a3,m3,c3,e,h0,h1,h2,h3,g1,g2,g3⟩:=h;exact⟨a1,m1,c1,a2,m2,c2,a3,m3,c3,e,h0,h1.far hs (fun b o s e=>hb b (g1 b o s e)),h2.far hs (fun b o s e=>hb b (g2 b o s e)),h3.far hs (fun b o s e=>hb b (g3 b o s e)),g1,g2,g3⟩
theorem JO.kept {B:Nat} {w w':World} {v:Value} {n:Nod} (h:JO B w v n) (k:Kept w w'):JO B w' v n:=by
 obtain⟨a1,m1,c1,a2,m2,c2,a3,m3,c3,e,h0,h1,h2,h3,g1,g2,g3⟩:=h;exact⟨a1,m1,c1,a2,m2,c2,a3,m3,c3,e,h0,h1.kept k,h2.kept k,h3.kept k,g1,g2,g3⟩
def jor (q:Nat) (x:ByteArray) (a1 a2 a3:Option Addr) (m1 c1 m2 c2 m3 c3:Nat) (b:Bool) (W W':World):Prop :=
 (W'.cell? ⟨q,0,none⟩=some (.string x)∧W'.cell? ⟨q,1,none⟩=some (.slice a1 m1 c1)∧W'.cell? ⟨q,2,none⟩=some (.slice a2 m2 c2)∧W'.cell? ⟨q,3,none⟩=some (.slice a3 m3 c3)∧W'.cell? ⟨q,4,none⟩=some (.bool b)) ∧
  W'.heap.size=W.heap.size∧(∀j,j≠q→W'.heap[j]?=W.heap[j]?)∧∀B w,B≤q→Below B w W→Below B w W'
theorem ZF {W:World} {q:Nat} {v0 v1 v2 v3 v4:Value} (y:W.cell? ⟨q,0,none⟩=some v0∧W.cell? ⟨q,1,none⟩=some v1∧W.cell? ⟨q,2,none⟩=some v2∧W.cell? ⟨q,3,none⟩=some v3∧W.cell? ⟨q,4,none⟩=some v4) (x:ByteArray) (a1 a2 a3:Option Addr) (m1 c1 m2 c2 m3 c3:Nat) (b:Bool) :
 jor q x a1 a2 a3 m1 c1 m2 c2 m3 c3 b W (((((W.setCell ⟨q,0,none⟩ (.string x)).setCell ⟨q,1,none⟩ (.slice a1 m1 c1)).setCell ⟨q,2,none⟩ (.slice a2 m2 c2)).setCell ⟨q,3,none⟩ (.slice a3 m3 c3)).setCell ⟨q,4,none⟩ (.bool b)) :=
 ⟨jau y.1 y.2.1 y.2.2.1 y.2.2.2.1 y.2.2.2.2 _ rfl,jjP _ _ _ _ _ _ _,fun j hj=>jcG _ _ _ _ _ _ _ j hj,
  fun B w hB hk=>((((hk.setCell (p:=⟨q,0,none⟩) hB _).setCell (p:=⟨q,1,none⟩) hB _).setCell (p:=⟨q,2,none⟩) hB _).setCell (p:=⟨q,3,none⟩) hB _).setCell (p:=⟨q,4,none⟩) hB _⟩
end Go.Proofs.YtibepooajeakfaaGreat
