/- C. -/
import Derived.Test.YtibepooajeakfaaGreatG0
import Derived.Test.YtibepooajeakfaaGreatG1
import Derived.Test.YtibepooajeakfaaGreatG2
import Derived.Shelf.SlSortCmp.QuietGrown
set_option linter.unusedVariables false
set_option maxRecDepth 100000
set_option maxHeartbeats 25600000
namespace Go.Proofs.YtibepooajeakfaaGreat
open Go.RowKit
def Y8 (x:ByteArray×ByteArray):Bool:=decide (x.1.size≤50)&&decide (x.2.size≤50)
def Y7 (x:Int×ByteArray×ByteArray):Bool:=decide (x.2.1.size≤50)&&decide (x.2.2.size≤50)
def YC (l:PL):Bool:=decide (l.length≤20)&&l.all Y8
def YD (l:TL):Bool:=decide (l.length≤20)&&l.all Y7
theorem jds (a:Option Addr) (len cap:Nat) (l:PL) (w:World) (hr:jk jz w a len l) :
 Calls Tryz.prog 109 #[.slice a len cap] w fun e w'=>e=.returned (.bool (YC l))∧w=w':=by
 have hl:=hr.1;have hm:=hr.2.1;unfold maxLen at hm;by_cases h20:len≤20
 · have HV:=lH (show YC l=l.all Y8 by unfold YC;rw[decide_eq_true (by omega)];rfl);rcases hr.form with h0 | ⟨b,off,rfl⟩
   · subst h0;have HE:=lH (show YC l=true by rw[HV.out,List.eq_nil_of_length_eq_zero hl];rfl);clear hr hl;go_enter Tryz.func109,Tryz.ntmps109;go_wp2;refine wp_loop_rounds 1 ?_;rw[rounds_succ];go_wp2;go_ret;exact⟨jd HE.out.symm,rfl⟩
   · have HR:=lH hr;have HL:=lH hl;clear hr hl;go_enter Tryz.func109,Tryz.ntmps109;go_wp2;go_loop [3] (fun i=>∃k:Nat,k≤len∧i=.int .i64 k∧(l.drop k).all Y8=l.all Y8) (fun i=>len-(intOf i).toNat)
     case atStart=>exact⟨0,Nat.zero_le _,rfl,rfl⟩
     case round =>
      obtain⟨k,hk,rfl,hrest⟩:=hrel;by_cases hlt:k<len
      · obtain⟨x,y,hx,hd,hb,hz,hz2,c1,c2⟩:=HR.out.pair hlt;have HT:=lH (hrest.symm.trans ((congrArg (fun z=>z.all Y8) hd).trans (all_cons _ _ _)));clear hrest hx hd;unfold maxLen at hz hz2;by_cases e:x.size≤50
        · by_cases e2:y.size≤50
          · have E:=lH (show Y8 (x,y)=true by unfold Y8;rw[decide_eq_true e,decide_eq_true e2];rfl);go_wp2;go_round
            case rel=>exact⟨k+1,by omega,by go_num,(HT.out.trans (by rw[E.out];exact Bool.true_and _)).symm⟩
            case measure=>simp[intOf];omega
          · have E:=lH (show Y8 (x,y)=false by unfold Y8;rw[decide_eq_false e2];exact Bool.and_false _);have e2':50<y.size:=by omega
            clear e2;go_wp2;go_ret;exact⟨jd (HV.out.trans (HT.out.trans (by rw[E.out];exact Bool.false_and _))).symm,rfl⟩
        · have E:=lH (show Y8 (x,y)=false by unfold Y8;rw[decide_eq_false e];exact Bool.false_and _);have e':50<x.size:=by omega
          clear e;go_wp2;go_ret;exact⟨jd (HV.out.trans (HT.out.trans (by rw[E.out];exact Bool.false_and _))).symm,rfl⟩
      · have HS:=lH ((HV.out.trans hrest.symm).trans (congrArg (fun z=>z.all Y8) (zB (by rw[HL.out];exact hlt))));clear hrest;go_wp2;go_ret;exact⟨jd (HS.out.trans rfl).symm,rfl⟩
 · have HV:=lH (show YC l=false by unfold YC;rw[decide_eq_false (by omega)];rfl);have h9:20<len:=by omega
   clear h20 hr hl;go_enter Tryz.func109,Tryz.ntmps109;go_wp2;go_ret;exact⟨jd HV.out.symm,rfl⟩
theorem jiR (a:Option Addr) (len cap:Nat) (l:TL) (w:World) (hr:jk jO w a len l) :
 Calls Tryz.prog 107 #[.slice a len cap] w fun e w'=>e=.returned (.bool (YD l))∧w=w':=by
 have hl:=hr.1;have hm:=hr.2.1;unfold maxLen at hm;by_cases h20:len≤20
 · have HV:=lH (show YD l=l.all Y7 by unfold YD;rw[decide_eq_true (by omega)];rfl);rcases hr.form with h0 | ⟨b,off,rfl⟩
   · subst h0;have HE:=lH (show YD l=true by rw[HV.out,List.eq_nil_of_length_eq_zero hl];rfl);clear hr hl;go_enter Tryz.func107,Tryz.ntmps107;go_wp2;refine wp_loop_rounds 1 ?_;rw[rounds_succ];go_wp2;go_ret;exact⟨jd HE.out.symm,rfl⟩
   · have HR:=lH hr;have HL:=lH hl;clear hr hl;go_enter Tryz.func107,Tryz.ntmps107;go_wp2;go_loop [3] (fun i=>∃k:Nat,k≤len∧i=.int .i64 k∧(l.drop k).all Y7=l.all Y7) (fun i=>len-(intOf i).toNat)
     case atStart=>exact⟨0,Nat.zero_le _,rfl,rfl⟩
     case round =>
      obtain⟨k,hk,rfl,hrest⟩:=hrel;by_cases hlt:k<len
      · obtain⟨o,x,y,hx,hd,hb,ho,hz,hz2,c0,c1,c2⟩:=HR.out.term hlt;have HT:=lH (hrest.symm.trans ((congrArg (fun z=>z.all Y7) hd).trans (all_cons _ _ _)));clear hrest hx hd;unfold maxLen at hz hz2;by_cases e:x.size≤50
        · by_cases e2:y.size≤50
          · have E:=lH (show Y7 (o,x,y)=true by unfold Y7;rw[decide_eq_true e,decide_eq_true e2];rfl);go_wp2;go_round
            case rel=>exact⟨k+1,by omega,by go_num,(HT.out.trans (by rw[E.out];exact Bool.true_and _)).symm⟩
            case measure=>simp[intOf];omega
          · have E:=lH (show Y7 (o,x,y)=false by unfold Y7;rw[decide_eq_false e2];exact Bool.and_false _);have e2':50<y.size:=by omega
            clear e2;go_wp2;go_ret;exact⟨jd (HV.out.trans (HT.out.trans (by rw[E.out];exact Bool.false_and _))).symm,rfl⟩
        · have E:=lH (show Y7 (o,x,y)=false by unfold Y7;rw[decide_eq_false e];exact Bool.false_and _);have e':50<x.size:=by omega
          clear e;go_wp2;go_ret;exact⟨jd (HV.out.trans (HT.out.trans (by rw[E.out];exact Bool.false_and _))).symm,rfl⟩
      · have HS:=lH ((HV.out.trans hrest.symm).trans (congrArg (fun z=>z.all Y7) (zB (by rw[HL.out];exact hlt))));clear hrest;go_wp2;go_ret;exact⟨jd (HS.out.trans rfl).symm,rfl⟩
 · have HV:=lH (show YD l=false by unfold YD;rw[decide_eq_false (by omega)];rfl);have h9:20<len:=by omega
   clear h20 hr hl;go_enter Tryz.func107,Tryz.ntmps107;go_wp2;go_ret;exact⟨jd HV.out.symm,rfl⟩
theorem jcI (a:Option Addr) (len cap:Nat) (l:PL) (w:World) (hr:jk jz w a len l) :
 Calls Tryz.prog 160 #[.slice a len cap] w fun e w'=>e=.returned (.int .i64 (J9 l))∧Kept w w':=by
 have hl:=hr.1;have hm:=hr.2.1;unfold maxLen at hm;by_cases h8:len≤8
 · have HV:=lH (show J9 l=zO none l by unfold J9;rw[if_neg (by omega)]);rcases hr.form with h0 | ⟨b,off,rfl⟩
   · subst h0;have HE:=lH (show J9 l=0 by rw[HV.out];rw[List.eq_nil_of_length_eq_zero hl];rfl);clear hr hl;go_enter Tryz.func160,Tryz.ntmps160;go_wp2;refine wp_loop_rounds 1 ?_;rw[rounds_succ];go_wp2;go_ret;exact⟨jb HE.out.symm,Kept.refl _⟩
   · have HR:=lH hr;have HL:=lH hl;clear hr hl;go_enter Tryz.func160,Tryz.ntmps160;go_wp2;go_loopw [3] (fun i wr=>∃k:Nat,k≤len∧i=.int .i64 k∧zO (Yu l k) (l.drop k)=zO none l∧Kept w wr) (fun i _=>len-(intOf i).toNat)
     case atStart=>exact⟨0,Nat.zero_le _,rfl,rfl,Kept.refl _⟩
     case round =>
      obtain⟨k,hk,rfl,hrest,hK⟩:=hrel;by_cases hlt:k<len
      · obtain⟨x,y,hx,hd,hb,hz,hz2,c1,c2⟩:=(HR.out.kept hK).pair hlt;obtain⟨HX,HK,HT⟩:=lH3 hx hK (hrest.symm.trans (congrArg (zO (Yu l k)) hd));have HS:=lH (HV.out.trans HT.out);clear hK hrest hx hd;by_cases n1:isName x=true
        · by_cases n2:isName y=true
          · have N1:=lH n1;have N2:=lH n2;by_cases h0:k=0
            · have hd:decide (0<k)=false:=by subst h0;decide
              have HP:=lH (Yr (l:=l) h0 x);clear h0;go_wp2_with (go_at_call 158;refine(jq _ _ (by assumption)).mono ?_;rintro e w' ⟨rfl,rfl⟩)
              go_quiet (fail)
              go_wp2;go_roundw
              case rel=>exact⟨k+1,by omega,by go_num,by rw[YK HX.out];exact(Zz N1.out N2.out HP.out).symm.trans HT.out.symm,HK.out.trans (Kept.drewN _ _)⟩
              case measure=>simp[intOf];omega
            · have hd:decide (0<k)=true:=by simp;omega
              have g1:0≤(k:Int)-1:=by omega
              have g2:(k:Int)-1<(len:Int):=by omega
              have g3:((k:Int)-1).toNat=k-1:=by omega
              obtain⟨px,py,hpx,_,_,_,_,d1,d2⟩:=(HR.out.kept HK.out).pair (show k-1<len by omega);have HP:=lH (Yp (l:=l) h0 hpx x);clear hpx;by_cases n3:leS x px=true
              · have n3':(Op.bytesLess x.toList px.toList||x.toList==px.toList)=true:=n3;have N3:=lH n3;clear n3;go_wp2_with (go_at_call 158;refine(jq _ _ (by assumption)).mono ?_;rintro e w' ⟨rfl,rfl⟩)
                go_quiet (fail)
                go_wp2;go_ret;exact⟨jb (HS.out.trans (Xm N1.out N2.out (HP.out.trans N3.out))).symm,HK.out.trans (Kept.drewN _ _)⟩
              · have n3:leS x px=false:=by simpa using n3
                have n3':(Op.bytesLess x.toList px.toList||x.toList==px.toList)=false:=n3;have N3:=lH n3;clear n3;go_wp2_with (go_at_call 158;refine(jq _ _ (by assumption)).mono ?_;rintro e w' ⟨rfl,rfl⟩)
                go_quiet (fail)
                go_wp2;go_roundw
                case rel=>exact⟨k+1,by omega,by go_num,by rw[YK HX.out];exact(Zz N1.out N2.out (HP.out.trans N3.out)).symm.trans HT.out.symm,HK.out.trans (Kept.drewN _ _)⟩
                case measure=>simp[intOf];omega
          · have n2:isName y=false:=by simpa using n2
            have N:=lH (show (isName x&&isName y)=false by rw[n2,Bool.and_false]);go_wp2_with (go_at_call 158;refine(jq _ _ (by assumption)).mono ?_;rintro e w' ⟨rfl,rfl⟩)
            go_ret;exact⟨jb (HS.out.trans (YA N.out)).symm,HK.out⟩
        · have n1:isName x=false:=by simpa using n1
          have N:=lH (show (isName x&&isName y)=false by rw[n1,Bool.false_and]);go_wp2_with (go_at_call 158;refine(jq x _ hz).mono ?_;rintro e w' ⟨rfl,rfl⟩)
          go_ret;exact⟨jb (HS.out.trans (YA N.out)).symm,HK.out⟩
      · have HK:=lH hK;have HS:=lH ((HV.out.trans hrest.symm).trans (congrArg (zO (Yu l k)) (zB (by rw[HL.out];exact hlt))));clear hK hrest;go_wp2;go_ret;exact⟨jb (HS.out.trans rfl).symm,HK.out⟩
 · have HV:=lH (show J9 l=4 by unfold J9;rw[if_pos (by omega)]);have h9:8<len:=by omega
   clear h8 hr hl;go_enter Tryz.func160,Tryz.ntmps160;go_wp2;go_ret;exact⟨jb HV.out.symm,Kept.refl _⟩
theorem jcv (a:Option Addr) (len cap:Nat) (l:TL) (w:World) (hr:jk jO w a len l) :
 Calls Tryz.prog 162 #[.slice a len cap] w fun e w'=>e=.returned (.int .i64 (Zr l))∧Kept w w':=by
 have hl:=hr.1;have hm:=hr.2.1;unfold maxLen at hm;by_cases h8:len≤8
 · have HV:=lH (show Zr l=ZK l by unfold Zr;rw[if_neg (by omega)]);rcases hr.form with h0 | ⟨b,off,rfl⟩
   · subst h0;have HE:=lH (show Zr l=0 by rw[HV.out];rw[List.eq_nil_of_length_eq_zero hl];rfl);clear hr hl;go_enter Tryz.func162,Tryz.ntmps162;go_wp2;refine wp_loop_rounds 1 ?_;rw[rounds_succ];go_wp2;go_ret;exact⟨jb HE.out.symm,Kept.refl _⟩
   · have HR:=lH hr;have HL:=lH hl;clear hr hl;go_enter Tryz.func162,Tryz.ntmps162;go_wp2;go_loopw [3] (fun i wr=>∃k:Nat,k≤len∧i=.int .i64 k∧ZK (l.drop k)=ZK l∧Kept w wr) (fun i _=>len-(intOf i).toNat)
     case atStart=>exact⟨0,Nat.zero_le _,rfl,rfl,Kept.refl _⟩
     case round =>
      obtain⟨k,hk,rfl,hrest,hK⟩:=hrel;by_cases hlt:k<len
      · obtain⟨o,x,y,hx,hd,hb,ho,hz,hz2,c1,c2,c3⟩:=(HR.out.kept hK).term hlt;have HK:=lH hK;have HT:=lH (hrest.symm.trans ((congrArg ZK hd).trans (jcK _ _)));have HS:=lH (HV.out.trans HT.out);clear hK hrest hx hd;by_cases g1:o<1
        · have N:=lH (show JH (o,x,y)=1 by rw[JT,if_neg (by omega),if_neg (by omega)]);go_wp2_with (go_at_call 158;refine(jq _ _ (by assumption)).mono ?_;rintro e w' ⟨rfl,rfl⟩)
          go_ret;exact⟨jb (HS.out.trans ((if_pos (by rw[N.out];decide)).trans N.out)).symm,HK.out.trans (ja _ _)⟩
        · by_cases g4:4<o
          · have g1':¬o<1:=g1;have N:=lH (show JH (o,x,y)=1 by rw[JT,if_neg (by omega),if_neg (by omega)]);go_wp2_with (go_at_call 158;refine(jq _ _ (by assumption)).mono ?_;rintro e w' ⟨rfl,rfl⟩)
            go_ret;exact⟨jb (HS.out.trans ((if_pos (by rw[N.out];decide)).trans N.out)).symm,HK.out.trans (ja _ _)⟩
          · have hcase:(o=1∨o=2)∨(o=3∨o=4):=by omega
            clear g1 g4;rcases hcase with hcase | hcase
            · have hc:=hcase;by_cases n1:isName x=true
              · by_cases n2:isName y=true
                · have NN:=lH (show JH (o,x,y)=0 by rw[JT,if_pos hc,if_pos (by rw[n1,n2];rfl)]);clear hc;rcases hcase with rfl | rfl
                  · have N:=lH (NN.out);go_wp2_with (go_at_call 158;refine(jq _ _ (by assumption)).mono ?_;rintro e w' ⟨rfl,rfl⟩)
                    go_roundw
                    case rel=>exact⟨k+1,by omega,by go_num,(HT.out.trans (if_neg (by rw[N.out];decide))).symm,HK.out.trans (ja _ _)⟩
                    case measure=>simp[intOf];omega
                  · have N:=lH (NN.out);go_wp2_with (go_at_call 158;refine(jq _ _ (by assumption)).mono ?_;rintro e w' ⟨rfl,rfl⟩)
                    go_roundw
                    case rel=>exact⟨k+1,by omega,by go_num,(HT.out.trans (if_neg (by rw[N.out];decide))).symm,HK.out.trans (ja _ _)⟩
                    case measure=>simp[intOf];omega
                · have n2:isName y=false:=by simpa using n2
                  have NN:=lH (show JH (o,x,y)=3 by rw[JT,if_pos hc,if_neg (by rw[n2,Bool.and_false];decide)]);clear hc;rcases hcase with rfl | rfl
                  · have N:=lH (NN.out);go_wp2_with (go_at_call 158;refine(jq _ _ (by assumption)).mono ?_;rintro e w' ⟨rfl,rfl⟩)
                    go_ret;exact⟨jb (HS.out.trans ((if_pos (by rw[N.out];decide)).trans N.out)).symm,HK.out.trans (ja _ _)⟩
                  · have N:=lH (NN.out);go_wp2_with (go_at_call 158;refine(jq _ _ (by assumption)).mono ?_;rintro e w' ⟨rfl,rfl⟩)
                    go_ret;exact⟨jb (HS.out.trans ((if_pos (by rw[N.out];decide)).trans N.out)).symm,HK.out.trans (ja _ _)⟩
              · have n1:isName x=false:=by simpa using n1
                have NN:=lH (show JH (o,x,y)=3 by rw[JT,if_pos hc,if_neg (by rw[n1,Bool.false_and];decide)]);clear hc;rcases hcase with rfl | rfl
                · have N:=lH (NN.out);go_wp2_with (go_at_call 158;refine(jq _ _ (by assumption)).mono ?_;rintro e w' ⟨rfl,rfl⟩)
                  go_ret;exact⟨jb (HS.out.trans ((if_pos (by rw[N.out];decide)).trans N.out)).symm,HK.out.trans (ja _ _)⟩
                · have N:=lH (NN.out);go_wp2_with (go_at_call 158;refine(jq _ _ (by assumption)).mono ?_;rintro e w' ⟨rfl,rfl⟩)
                  go_ret;exact⟨jb (HS.out.trans ((if_pos (by rw[N.out];decide)).trans N.out)).symm,HK.out.trans (ja _ _)⟩
            · have hc:=hcase;have hn:¬(o=1∨o=2):=by omega
              by_cases n1:isName x=true
              · by_cases n2:eqS y ByteArray.empty=true
                · have NN:=lH (show JH (o,x,y)=0 by rw[JT,if_neg hn,if_pos hc,if_pos (by rw[n1,n2];rfl)]);have n2':(y.toList==([]:List UInt8))=true:=by unfold eqS at n2;simpa using n2
                  clear hc hn n2;rcases hcase with rfl | rfl
                  · have N:=lH (NN.out);go_wp2_with (go_at_call 158;refine(jq _ _ (by assumption)).mono ?_;rintro e w' ⟨rfl,rfl⟩)
                    go_roundw
                    case rel=>exact⟨k+1,by omega,by go_num,(HT.out.trans (if_neg (by rw[N.out];decide))).symm,HK.out.trans (ja _ _)⟩
                    case measure=>simp[intOf];omega
                  · have N:=lH (NN.out);go_wp2_with (go_at_call 158;refine(jq _ _ (by assumption)).mono ?_;rintro e w' ⟨rfl,rfl⟩)
                    go_roundw
                    case rel=>exact⟨k+1,by omega,by go_num,(HT.out.trans (if_neg (by rw[N.out];decide))).symm,HK.out.trans (ja _ _)⟩
                    case measure=>simp[intOf];omega
                · have n2:eqS y ByteArray.empty=false:=by simpa using n2
                  have NN:=lH (show JH (o,x,y)=3 by rw[JT,if_neg hn,if_pos hc,if_neg (by rw[n2,Bool.and_false];decide)]);have n2':(y.toList==([]:List UInt8))=false:=by unfold eqS at n2;simpa using n2
                  clear hc hn n2;rcases hcase with rfl | rfl
                  · have N:=lH (NN.out);go_wp2_with (go_at_call 158;refine(jq _ _ (by assumption)).mono ?_;rintro e w' ⟨rfl,rfl⟩)
                    go_ret;exact⟨jb (HS.out.trans ((if_pos (by rw[N.out];decide)).trans N.out)).symm,HK.out.trans (ja _ _)⟩
                  · have N:=lH (NN.out);go_wp2_with (go_at_call 158;refine(jq _ _ (by assumption)).mono ?_;rintro e w' ⟨rfl,rfl⟩)
                    go_ret;exact⟨jb (HS.out.trans ((if_pos (by rw[N.out];decide)).trans N.out)).symm,HK.out.trans (ja _ _)⟩
              · have n1:isName x=false:=by simpa using n1
                have NN:=lH (show JH (o,x,y)=3 by rw[JT,if_neg hn,if_pos hc,if_neg (by rw[n1,Bool.false_and];decide)]);clear hc hn;rcases hcase with rfl | rfl
                · have N:=lH (NN.out);go_wp2_with (go_at_call 158;refine(jq _ _ (by assumption)).mono ?_;rintro e w' ⟨rfl,rfl⟩)
                  go_ret;exact⟨jb (HS.out.trans ((if_pos (by rw[N.out];decide)).trans N.out)).symm,HK.out.trans (ja _ _)⟩
                · have N:=lH (NN.out);go_wp2_with (go_at_call 158;refine(jq _ _ (by assumption)).mono ?_;rintro e w' ⟨rfl,rfl⟩)
                  go_ret;exact⟨jb (HS.out.trans ((if_pos (by rw[N.out];decide)).trans N.out)).symm,HK.out.trans (ja _ _)⟩
      · have HK:=lH hK;have HS:=lH ((HV.out.trans hrest.symm).trans (congrArg ZK (zB (by rw[HL.out];exact hlt))));clear hK hrest;go_wp2;go_ret;exact⟨jb (HS.out.trans rfl).symm,HK.out⟩
 · have HV:=lH (show Zr l=4 by unfold Zr;rw[if_pos (by omega)]);have h9:8<len:=by omega
   clear h8 hr hl;go_enter Tryz.func162,Tryz.ntmps162;go_wp2;go_ret;exact⟨jb HV.out.symm,Kept.refl _⟩
theorem jlU:(Tryz.prog.info? 141).map (fun i=>(i.zero,i.size,i.bytes))=some (some (.agg #[.string ByteArray.empty,.string ByteArray.empty]),2,32):=by kernel_rfl
theorem jgm (a:Option Addr) (len cap:Nat) (l:PL) (w:World) (hr:jk jz w a len l) (hlen:len≤1000000) :
 Calls Tryz.prog 36 #[.slice a len cap] w (fun e w'=>∃x,e=.returned x∧Own jz 141 w' w.heap.size x l∧Kept w w'):=by
 have hl:=hr.1;obtain⟨i0,hi,hz0,hz1,hz2'⟩:=info_parts jlU;rcases hr.form with h0 | ⟨b,off,rfl⟩
 · subst h0;have hl0:l=[]:=List.eq_nil_of_length_eq_zero hl;subst hl0;clear hr hl hi hz0 hz1 hz2';go_enter Tryz.func36,Tryz.ntmps36;go_wp2;refine wp_loop_rounds 1 ?_;rw[rounds_succ];go_wp2;go_ret;exact⟨_,rfl,Own.nil _ _ _,Kept.refl _⟩
 · have HR:=lH hr;have HL:=lH hl;clear hr hl;go_enter Tryz.func36,Tryz.ntmps36;go_wp2;go_loopw [3,4] (fun v i wr=>∃k:Nat,k≤len∧i=.int .i64 k∧Own jz 141 wr w.heap.size v (l.take k)∧Below w.heap.size w wr) (fun _ i _=>len-(intOf i).toNat)
   case atStart=>exact⟨0,Nat.zero_le _,rfl,Own.nil _ _ _,Below.refl _ _⟩
   case round =>
    obtain⟨k,hk,rfl,ho,hB⟩:=hrel;obtain⟨HO,HB,HT⟩:=lH3 ho hB (show (l.take k).length=k by rw[List.length_take,HL.out];omega);have Vk:=lH (show wr.ownsRow w.heap.size 141 2 u3 k (je jz (l.take k)) by have:=HO.out.1;rw[HT.out] at this;exact this);by_cases hlt:k<len
    · obtain⟨x,y,hx,hd,hb,hz,hz2,c1,c2⟩:=(HR.out.kept hB).pair hlt;have HX:=lH hx;have hbw:b<w.heap.size:=by obtain⟨z,_,_,h,_⟩:=HR.out.cells hlt;exact h
      have hbase:w.heap.size≤wr.heap.size:=hB.size;have V0:=lH (show u3.ownBlock≠some b by
       intro e;have:=(Vk.out.lt b e).1;omega)
      have VL:=lH (show w.heap.size≤(wr.alloc (.cells #[.string x,.string y] 141)).drew.heap.size by simp;omega);have UJ:=lH (show Below w.heap.size w ((wr.alloc (.cells #[.string x,.string y] 141)).drew) from HB.out.trans (Below.mono ((ja wr _).trans (Kept.drewN _ 1)) hbase));have hk1:(k:Int)<(len:Int):=by omega
      have Ur:=lH (show jz.fine (x,y) from⟨hz,hz2⟩);clear ho hB hx hd hz hz2;go_wp2_with fail
      go_region_held3 (fun W=>W.cell? ⟨b,off+k*2,none⟩=some (.string x)∧W.cell? ⟨b,off+k*2+1,none⟩=some (.string y))
       (first
         | go_keep
         | (go_split_ands
            refine⟨?_,?_⟩
            · (refine(hgrow.cell_far ⟨b,off+k*2,none⟩ (by simp;omega) (Ne.symm V0.out)).trans ?_;assumption)
            · (refine(hgrow.cell_far ⟨b,off+k*2+1,none⟩ (by simp;omega) (Ne.symm V0.out)).trans ?_;assumption)))
       ((refine step_append_lies _ (by rfl) _ _ _ (by rfl) w.heap.size 141 i0 _ 2 32 Tryz.underlying38 hi hz0 hz1 hz2' rfl (by decide) u3 k (je jz (l.take k)) (by rfl) ((Vk.out.alloc _).drew)
          ⟨wr.heap.size,0,none⟩ 1 1 [.string x,.string y] (by rfl) (by rfl) (World.news_of_block (cs:=#[.string x,.string y]) (t:=141) (fr:=(0,0)) (heap_alloc_new wr _)) (je7 x y)
          (by decide) (by unfold maxLen;omega) (by omega) (by simp;omega) (wr.heap.size+1) (by simp) ?_;intro gg cap1 w1 hown1 hgrow hat hlt1))
      all_goals
       go_wp2;go_roundw
       case rel=>exact⟨k+1,by omega,by go_num,by rw[zI HX.out];exact Own.snoc hown1 (by rw[HT.out]) HO.out.2 Ur.out,UJ.out.grown hgrow VL.out (fun j hj=>(Vk.out.lt j hj).1)⟩
       case measure=>simp[intOf];omega
    · have HK:=lH (show l.take k=l by rw[List.take_of_length_le (by rw[HL.out];omega)]);clear ho hB;go_wp2;go_ret;exact⟨_,rfl,by have h:=HO.out;rw[HK.out] at h;exact h,HB.out⟩
theorem jlo:(Tryz.prog.info? 144).map (fun i=>(i.zero,i.size,i.bytes))=some (some (.agg #[.int .i64 0,.string ByteArray.empty,.string ByteArray.empty]),3,40):=by kernel_rfl
theorem jkG (a:Option Addr) (len cap:Nat) (l:TL) (w:World) (hr:jk jO w a len l) (hlen:len≤1000000) :
 Calls Tryz.prog 37 #[.slice a len cap] w (fun e w'=>∃x,e=.returned x∧Own jO 144 w' w.heap.size x l∧Kept w w'):=by
 have hl:=hr.1;obtain⟨i0,hi,hz0,hz1,hz2'⟩:=info_parts jlo;rcases hr.form with h0 | ⟨b,off,rfl⟩
 · subst h0;have hl0:l=[]:=List.eq_nil_of_length_eq_zero hl;subst hl0;clear hr hl hi hz0 hz1 hz2';go_enter Tryz.func37,Tryz.ntmps37;go_wp2;refine wp_loop_rounds 1 ?_;rw[rounds_succ];go_wp2;go_ret;exact⟨_,rfl,Own.nil _ _ _,Kept.refl _⟩
 · have HR:=lH hr;have HL:=lH hl;clear hr hl;go_enter Tryz.func37,Tryz.ntmps37;go_wp2;go_loopw [3,4] (fun v i wr=>∃k:Nat,k≤len∧i=.int .i64 k∧Own jO 144 wr w.heap.size v (l.take k)∧Below w.heap.size w wr) (fun _ i _=>len-(intOf i).toNat)
   case atStart=>exact⟨0,Nat.zero_le _,rfl,Own.nil _ _ _,Below.refl _ _⟩
   case round =>
    obtain⟨k,hk,rfl,ho,hB⟩:=hrel;obtain⟨HO,HB,HT⟩:=lH3 ho hB (show (l.take k).length=k by rw[List.length_take,HL.out];omega);have Vk:=lH (show wr.ownsRow w.heap.size 144 3 u3 k (je jO (l.take k)) by have:=HO.out.1;rw[HT.out] at this;exact this);by_cases hlt:k<len
    · obtain⟨o,x,y,hx,hd,hb,ho9,hz,hz2,c0,c1,c2⟩:=(HR.out.kept hB).term hlt;have HX:=lH hx;have hbw:b<w.heap.size:=by obtain⟨z,_,_,h,_⟩:=HR.out.cells hlt;exact h
      have hbase:w.heap.size≤wr.heap.size:=hB.size;have V0:=lH (show u3.ownBlock≠some b by
       intro e;have:=(Vk.out.lt b e).1;omega)
      have VL:=lH (show w.heap.size≤(wr.alloc (.cells #[.int .i64 o,.string x,.string y] 144)).drew.heap.size by simp;omega);have UJ:=lH (show Below w.heap.size w ((wr.alloc (.cells #[.int .i64 o,.string x,.string y] 144)).drew) from HB.out.trans (Below.mono ((ja wr _).trans (Kept.drewN _ 1)) hbase));have hk1:(k:Int)<(len:Int):=by omega
      have Ur:=lH (show jO.fine (o,x,y) from⟨ho9,hz,hz2⟩);clear ho hB hx hd hz hz2;go_wp2_with fail
      go_region_held3 (fun W=>W.cell? ⟨b,off+k*3,none⟩=some (.int .i64 o)∧W.cell? ⟨b,off+k*3+1,none⟩=some (.string x)∧W.cell? ⟨b,off+k*3+2,none⟩=some (.string y))
       (first
         | go_keep
         | (go_split_ands
            refine⟨?_,?_,?_⟩
            · (refine(hgrow.cell_far ⟨b,off+k*3,none⟩ (by simp;omega) (Ne.symm V0.out)).trans ?_;assumption)
            · (refine(hgrow.cell_far ⟨b,off+k*3+1,none⟩ (by simp;omega) (Ne.symm V0.out)).trans ?_;assumption)
            · (refine(hgrow.cell_far ⟨b,off+k*3+2,none⟩ (by simp;omega) (Ne.symm V0.out)).trans ?_;assumption)))
       ((refine step_append_lies _ (by rfl) _ _ _ (by rfl) w.heap.size 144 i0 _ 3 40 Tryz.underlying39 hi hz0 hz1 hz2' rfl (by decide) u3 k (je jO (l.take k)) (by rfl) ((Vk.out.alloc _).drew)
          ⟨wr.heap.size,0,none⟩ 1 1 [.int .i64 o,.string x,.string y] (by rfl) (by rfl) (World.news_of_block (cs:=#[.int .i64 o,.string x,.string y]) (t:=144) (fr:=(0,0)) (heap_alloc_new wr _)) (jht o x y)
          (by decide) (by unfold maxLen;omega) (by omega) (by simp;omega) (wr.heap.size+1) (by simp) ?_;intro gg cap1 w1 hown1 hgrow hat hlt1))
      all_goals
       go_wp2;go_roundw
       case rel=>exact⟨k+1,by omega,by go_num,by rw[zI HX.out];exact Own.snoc hown1 (by rw[HT.out]) HO.out.2 Ur.out,UJ.out.grown hgrow VL.out (fun j hj=>(Vk.out.lt j hj).1)⟩
       case measure=>simp[intOf];omega
    · have HK:=lH (show l.take k=l by rw[List.take_of_length_le (by rw[HL.out];omega)]);clear ho hB;go_wp2;go_ret;exact⟨_,rfl,by have h:=HO.out;rw[HK.out] at h;exact h,HB.out⟩
theorem jfm {v:Value} {l:PL} {w:World} (h:Reads jz w v l):Calls Tryz.prog 109 #[v] w fun e w'=>e=.returned (.bool (YC l))∧w=w':=by
 obtain⟨a,cap,rfl,_,_,hr⟩:=h;exact jds a _ cap l w hr
theorem jdP {v:Value} {l:TL} {w:World} (h:Reads jO w v l):Calls Tryz.prog 107 #[v] w fun e w'=>e=.returned (.bool (YD l))∧w=w':=by
 obtain⟨a,cap,rfl,_,_,hr⟩:=h;exact jiR a _ cap l w hr
theorem Zv {v:Value} {l:PL} {c:Int} {w:World} (h:Reads jz w v l) (hc:J9 l=c):Calls Tryz.prog 160 #[v] w (Say (.int .i64 c) w):=by
 obtain⟨a,cap,rfl,_,_,hr⟩:=h;exact(jcI a _ cap l w hr).mono fun e w' ⟨he,k⟩=>⟨by rw[he,hc],k⟩
theorem jbg {v:Value} {l:TL} {c:Int} {w:World} (h:Reads jO w v l) (hc:Zr l=c):Calls Tryz.prog 162 #[v] w (Say (.int .i64 c) w):=by
 obtain⟨a,cap,rfl,_,_,hr⟩:=h;exact(jcv a _ cap l w hr).mono fun e w' ⟨he,k⟩=>⟨by rw[he,hc],k⟩
open Go.RowKit Go.Sort
def Grw (w w':World):Prop:=∃q os,w'=grow (w.drewN q) os
theorem Grw.refl (w:World):Grw w w:=⟨0,#[],by rw[grow_empty];rfl⟩
theorem Grw.grown {w W:World} (h:Grw w W) (n:Nat) (os:Array Obj):Grw w (grow (W.drewN n) os):=by
 obtain⟨q,os0,rfl⟩:=h;exact⟨q+n,os0++os,by show grow (grow ((w.drewN q).drewN n) os0) os=_;rw[grow_grow,World.drewN_drewN]⟩
theorem Grw.trans {a b c:World} (h:Grw a b) (k:Grw b c):Grw a c:=by
 obtain⟨q,os,rfl⟩:=k;exact h.grown q os
theorem Grw.alloc (w:World) (o:Obj):Grw w (w.alloc o):=⟨0,#[o],alloc_eq_grow _ _⟩
theorem Grw.drewN (w:World) (n:Nat):Grw w (w.drewN n):=⟨n,#[],by rw[grow_empty]⟩
theorem Z8 (w:World) (n:Nat) (os:Array Obj):Kept w (grow (w.drewN n) os):=Go.Lib.below_grow w.heap.size w (Nat.le_refl _) n os
theorem Grw.kept {w w':World} (h:Grw w w'):Kept w w':=by
 obtain⟨q,os,rfl⟩:=h;exact Z8 w q os
def Zp (w:World) (c:Nat) (t:NT):Prop:=w.cell? ⟨c,0,none⟩=some (.string t.1)∧w.cell? ⟨c,1,none⟩=some (.string t.2.1)∧w.cell? ⟨c,2,none⟩=some (.bool t.2.2)
theorem Zp.kept {w w':World} {c:Nat} {t:NT} (h:Zp w c t) (k:Kept w w'):Zp w' c t:=⟨cell_later k h.1,cell_later k h.2.1,cell_later k h.2.2⟩
theorem Zp.new (w:World) (x y:ByteArray) (m:Bool) (T:TypeId):Zp (w.alloc (.cells #[.string x,.string y,.bool m] T)) w.heap.size (x,y,m):=by
 have hh:=w.alloc_heap_new (.cells #[.string x,.string y,.bool m] T);exact⟨by rw[Lib.cell_of_heap hh];rfl,by rw[Lib.cell_of_heap hh];rfl,by rw[Lib.cell_of_heap hh];rfl⟩
theorem jfz (c:Nat) (t:NT) (x y:ByteArray) (m:Bool) (w:World) (h:Zp w c t) :
 Calls Tryz.prog 245 #[NV x y m,.pointer (some ⟨c,0,none⟩)] w fun e w'=>e=.returned (.bool (Jd t (x,y,m)))∧Grw w w':=by
 obtain⟨t1,t2,t3⟩:=t;obtain⟨h1,h2,h3⟩:=h;dsimp only at h1 h2 h3;have g1:=cell_later (ja w (.cells #[.string x,.string y,.bool m] 172)) h1;have g2:=cell_later (ja w (.cells #[.string x,.string y,.bool m] 172)) h2;have g3:=cell_later (ja w (.cells #[.string x,.string y,.bool m] 172)) h3;obtain⟨q1,hq1⟩:=eX ((x.toList==t1.toList))
 obtain⟨q2,hq2⟩:=eX ((y.toList==t2.toList))
 have HV:=lH (show Jd (t1,t2,t3) (x,y,m)=(q1&&q2) by unfold Jd eqS;rw[hq1,hq2])
 cases q1<;>cases q2 <;>
 (go_enter Tryz.func245,Tryz.ntmps245
  go_wp2;go_ret;exact⟨jd HV.out.symm,Grw.alloc _ _⟩)
theorem jlS (t1 t2:ByteArray) (t3:Bool) (x y:ByteArray) (m:Bool) (w:World) :
 Calls Tryz.prog 250 #[NV x y m,NV t1 t2 t3] w fun e w'=>e=.returned (.bool (Zo (t1,t2,t3) (x,y,m)))∧Grw w w':=by
 obtain⟨q0,hq0⟩:=eX ((x.toList==([]:List UInt8)))
 obtain⟨q1,hq1⟩:=eX ((x.toList==t1.toList))
 obtain⟨q2,hq2⟩:=eX ((y.toList==t2.toList))
 have HV:=lH (show Zo (t1,t2,t3) (x,y,m)=((q0||q1)&&(m||q2)) by unfold Zo;rw[JU,hq0];unfold eqS;rw[hq1,hq2])
 cases q0<;>cases q1<;>cases m<;>cases q2 <;>
 (go_enter Tryz.func250,Tryz.ntmps250
  go_wp2;go_ret;exact⟨jd HV.out.symm,(Grw.alloc _ _).trans (Grw.alloc _ _)⟩)
theorem jc2 (c:Nat) (t:NT) (x y:ByteArray) (m:Bool) (w:World) (h:Zp w c t) :
 Calls Tryz.prog 249 #[NV x y m,.pointer (some ⟨c,0,none⟩)] w fun e w'=>e=.returned (.bool (Zo t (x,y,m)))∧Grw w w':=by
 obtain⟨t1,t2,t3⟩:=t;obtain⟨h1,h2,h3⟩:=h;dsimp only at h1 h2 h3;have g1:=cell_later (ja w (.cells #[.string x,.string y,.bool m] 146)) h1;have g2:=cell_later (ja w (.cells #[.string x,.string y,.bool m] 146)) h2;have g3:=cell_later (ja w (.cells #[.string x,.string y,.bool m] 146)) h3;go_enter Tryz.func249,Tryz.ntmps249;go_wp2_with (go_at_call 250;refine(jlS t1 t2 t3 x y m _).mono ?_;rintro e w1 ⟨rfl,k1⟩;have K1:=lH k1;clear k1)
 go_ret;exact⟨rfl,(Grw.alloc _ _).trans K1.out⟩
theorem jjb (a:Option Addr) (len cap:Nat) (l:NL) (c:Nat) (t:NT) (w:World) (hr:jk ju w a len l) (ht:Zp w c t) :
 Calls Tryz.prog 267 #[.slice a len cap,.func (.func 245) #[] #[.pointer (some ⟨c,0,none⟩)]] w fun e w'=>∃i:Int,e=.returned (.int .i64 i)∧decide (0≤i)=l.any (Jd t)∧Grw w w':=by
 have hl:=hr.1;have hm:=hr.2.1;unfold maxLen at hm;rcases hr.form with h0 | ⟨b,off,rfl⟩
 · subst h0;have HE:=lH (show l.any (Jd t)=false by rw[List.eq_nil_of_length_eq_zero hl];rfl);clear hr hl ht;go_enter Tryz.func267,Tryz.ntmps267;go_wp2;refine wp_loop_rounds 1 ?_;rw[rounds_succ];go_wp2;go_ret;exact⟨-1,rfl,HE.out.symm,Grw.refl _⟩
 · obtain⟨HR,HL,HT⟩:=lH3 hr hl ht;clear hr hl ht;go_enter Tryz.func267,Tryz.ntmps267;go_wp2;go_loopw [8] (fun i wr=>∃k:Nat,k≤len∧i=.int .i64 k∧(l.drop k).any (Jd t)=l.any (Jd t)∧Grw w wr) (fun i _=>len-(intOf i).toNat)
   case atStart=>exact⟨0,Nat.zero_le _,rfl,rfl,Grw.refl _⟩
   case round =>
    obtain⟨k,hk,rfl,hrest,hG⟩:=hrel;have hK:=hG.kept;have HG:=lH hG;by_cases hlt:k<len
    · obtain⟨x,y,m,hx,hd,hb,hz,hz2,c1,c2,c3⟩:=(HR.out.kept hK).tri hlt;have HK:=lH hK;have HS:=lH (hrest.symm.trans ((congrArg (fun z=>z.any (Jd t)) hd).trans (List.any_cons)));obtain⟨q,hq⟩:=eX (Jd t (x,y,m))
      rw[hq] at HS;have HQ:=lH hq;have HC:=lH (HT.out.kept hK);clear hK hrest hx hd hG hq
      cases q with
      | true =>
       go_wp2_with (go_at_call 245;refine(jfz c t x y m _ HC.out).mono ?_;rw[HQ.out];rintro e w1 ⟨rfl,k1⟩;have K1:=lH k1;clear k1)
       go_ret;exact⟨(k:Int),rfl,by rw[HS.out];simp,HG.out.trans K1.out⟩
      | false =>
       go_wp2_with (go_at_call 245;refine(jfz c t x y m _ HC.out).mono ?_;rw[HQ.out];rintro e w1 ⟨rfl,k1⟩;have K1:=lH k1;clear k1)
       go_roundw
       case rel=>exact⟨k+1,by omega,by go_num,(HS.out.trans (Bool.false_or _)).symm,HG.out.trans K1.out⟩
       case measure=>simp[intOf];omega
    · have HS:=lH (hrest.symm.trans (congrArg (fun z=>z.any (Jd t)) (zB (by rw[HL.out];exact hlt))));clear hK hrest hG;go_wp2;go_ret;exact⟨-1,rfl,by rw[HS.out];rfl,HG.out⟩
theorem jeR (a:Option Addr) (len cap:Nat) (l:NL) (c:Nat) (t:NT) (w:World) (hr:jk ju w a len l) (ht:Zp w c t) :
 Calls Tryz.prog 244 #[.slice a len cap,.func (.func 245) #[] #[.pointer (some ⟨c,0,none⟩)]] w fun e w'=>e=.returned (.bool (l.any (Jd t)))∧Grw w w':=by
 have HI:=lH (jjb a len cap l c t w hr ht);clear hr ht;go_enter Tryz.func244,Tryz.ntmps244;go_wp2_with fail
 refine HI.out.mono ?_;rintro e w1 ⟨i,rfl,hi,k1⟩;have K1:=lH k1;have HB:=lH hi;clear hi k1;go_wp2;go_ret;exact⟨jd HB.out,K1.out⟩
theorem jkO (a:Option Addr) (len cap:Nat) (l:NL) (t1 t2:ByteArray) (t3:Bool) (w:World) (hr:jk ju w a len l) :
 Calls Tryz.prog 212 #[.slice a len cap,NV t1 t2 t3] w fun e w'=>e=.returned (.bool (l.any (Jd (t1,t2,t3))))∧Grw w w':=by
 have hmf:=hmfL (P:=Tryz.prog);have HI:=lH (jeR a len cap l w.heap.size (t1,t2,t3) (w.alloc (.cells #[.string t1,.string t2,.bool t3] 172)) (hr.kept (ja _ _)) (Zp.new w t1 t2 t3 _));clear hr;go_enter Tryz.func212,Tryz.ntmps212;go_wp2_with fail
 refine HI.out.mono ?_;rintro e w1 ⟨rfl,k1⟩;have K1:=lH k1;clear k1;go_wp2;go_ret;exact⟨rfl,(Grw.alloc _ _).trans K1.out⟩
theorem jh9 (a:Option Addr) (len cap:Nat) (l:NL) (c:Nat) (t:NT) (w:World) (hr:jk ju w a len l) (ht:Zp w c t) :
 Calls Tryz.prog 268 #[.slice a len cap,.func (.func 249) #[] #[.pointer (some ⟨c,0,none⟩)]] w fun e w'=>∃i:Int,e=.returned (.int .i64 i)∧decide (0≤i)=l.any (Zo t)∧Grw w w':=by
 have hl:=hr.1;have hm:=hr.2.1;unfold maxLen at hm;rcases hr.form with h0 | ⟨b,off,rfl⟩
 · subst h0;have HE:=lH (show l.any (Zo t)=false by rw[List.eq_nil_of_length_eq_zero hl];rfl);clear hr hl ht;go_enter Tryz.func268,Tryz.ntmps268;go_wp2;refine wp_loop_rounds 1 ?_;rw[rounds_succ];go_wp2;go_ret;exact⟨-1,rfl,HE.out.symm,Grw.refl _⟩
 · obtain⟨HR,HL,HT⟩:=lH3 hr hl ht;clear hr hl ht;go_enter Tryz.func268,Tryz.ntmps268;go_wp2;go_loopw [8] (fun i wr=>∃k:Nat,k≤len∧i=.int .i64 k∧(l.drop k).any (Zo t)=l.any (Zo t)∧Grw w wr) (fun i _=>len-(intOf i).toNat)
   case atStart=>exact⟨0,Nat.zero_le _,rfl,rfl,Grw.refl _⟩
   case round =>
    obtain⟨k,hk,rfl,hrest,hG⟩:=hrel;have hK:=hG.kept;have HG:=lH hG;by_cases hlt:k<len
    · obtain⟨x,y,m,hx,hd,hb,hz,hz2,c1,c2,c3⟩:=(HR.out.kept hK).tri hlt;have HK:=lH hK;have HS:=lH (hrest.symm.trans ((congrArg (fun z=>z.any (Zo t)) hd).trans (List.any_cons)));obtain⟨q,hq⟩:=eX (Zo t (x,y,m))
      rw[hq] at HS;have HQ:=lH hq;have HC:=lH (HT.out.kept hK);clear hK hrest hx hd hG hq
      cases q with
      | true =>
       go_wp2_with (go_at_call 249;refine(jc2 c t x y m _ HC.out).mono ?_;rw[HQ.out];rintro e w1 ⟨rfl,k1⟩;have K1:=lH k1;clear k1)
       go_ret;exact⟨(k:Int),rfl,by rw[HS.out];simp,HG.out.trans K1.out⟩
      | false =>
       go_wp2_with (go_at_call 249;refine(jc2 c t x y m _ HC.out).mono ?_;rw[HQ.out];rintro e w1 ⟨rfl,k1⟩;have K1:=lH k1;clear k1)
       go_roundw
       case rel=>exact⟨k+1,by omega,by go_num,(HS.out.trans (Bool.false_or _)).symm,HG.out.trans K1.out⟩
       case measure=>simp[intOf];omega
    · have HS:=lH (hrest.symm.trans (congrArg (fun z=>z.any (Zo t)) (zB (by rw[HL.out];exact hlt))));clear hK hrest hG;go_wp2;go_ret;exact⟨-1,rfl,by rw[HS.out];rfl,HG.out⟩
theorem jeU (a:Option Addr) (len cap:Nat) (l:NL) (c:Nat) (t:NT) (w:World) (hr:jk ju w a len l) (ht:Zp w c t) :
 Calls Tryz.prog 248 #[.slice a len cap,.func (.func 249) #[] #[.pointer (some ⟨c,0,none⟩)]] w fun e w'=>e=.returned (.bool (l.any (Zo t)))∧Grw w w':=by
 have HI:=lH (jh9 a len cap l c t w hr ht);clear hr ht;go_enter Tryz.func248,Tryz.ntmps248;go_wp2_with fail
 refine HI.out.mono ?_;rintro e w1 ⟨i,rfl,hi,k1⟩;have K1:=lH k1;have HB:=lH hi;clear hi k1;go_wp2;go_ret;exact⟨jd HB.out,K1.out⟩
theorem bears_any (a:Option Addr) (len cap:Nat) (l:NL) (t1 t2:ByteArray) (t3:Bool) (w:World) (hr:jk ju w a len l) :
 Calls Tryz.prog 225 #[.slice a len cap,NV t1 t2 t3] w fun e w'=>e=.returned (.bool (l.any (Zo (t1,t2,t3))))∧Grw w w':=by
 have hmf:=hmfL (P:=Tryz.prog);have HI:=lH (jeU a len cap l w.heap.size (t1,t2,t3) (w.alloc (.cells #[.string t1,.string t2,.bool t3] 172)) (hr.kept (ja _ _)) (Zp.new w t1 t2 t3 _));clear hr;go_enter Tryz.func225,Tryz.ntmps225;go_wp2_with fail
 refine HI.out.mono ?_;rintro e w1 ⟨rfl,k1⟩;have K1:=lH k1;clear k1;go_wp2;go_ret;exact⟨rfl,(Grw.alloc _ _).trans K1.out⟩
theorem jju (x y:ByteArray) (m:Bool) (w:World) (hx:x.size≤maxLen) (hy:y.size≤maxLen) :
 Calls Tryz.prog 215 #[NV x y m] w fun e w'=>e=.returned (.bool (zC (x,y,m)))∧Kept w w':=by
 obtain⟨q0,hq0⟩:=eX ((x.toList==([]:List UInt8)))
 obtain⟨q2,hq2⟩:=eX ((y.toList==([]:List UInt8)))
 obtain⟨n1,hn1⟩:=eX (isName x)
 obtain⟨n2,hn2⟩:=eX (isName y)
 have HV:=lH (show zC (x,y,m)=((q0||n1)&&(if m=true then q2 else n2)) by unfold zC;rw[JU,JU,hq0,hq2,hn1,hn2])
 cases q0<;>cases n1<;>cases m<;>cases q2<;>cases n2 <;>
 (go_enter Tryz.func215,Tryz.ntmps215
  go_wp2_with (go_at_call 174;refine(zg _ _ (by assumption)).mono ?_;rintro e w' ⟨rfl,rfl⟩)
  go_ret;exact⟨jd HV.out.symm,ja _ _⟩)
theorem jea {x:NT} {t:NL}:(x::t).all zC=(zC x&&t.all zC):=rfl
theorem ji3 (a:Option Addr) (len cap:Nat) (l:NL) (w:World) (hr:jk ju w a len l) :
 Calls Tryz.prog 181 #[.slice a len cap] w fun e w'=>e=.returned (.int .i64 (JG l))∧Kept w w':=by
 have hl:=hr.1;have hm:=hr.2.1;unfold maxLen at hm;by_cases h8:len≤8
 · have HV:=lH (show JG l=if l.all zC=true then 0 else 3 by unfold JG;rw[if_neg (by omega)]);rcases hr.form with h0 | ⟨b,off,rfl⟩
   · subst h0;have HE:=lH (show JG l=0 by rw[HV.out];rw[List.eq_nil_of_length_eq_zero hl];rfl);clear hr hl;go_enter Tryz.func181,Tryz.ntmps181;go_wp2;refine wp_loop_rounds 1 ?_;rw[rounds_succ];go_wp2;go_ret;exact⟨jb HE.out.symm,Kept.refl _⟩
   · have HR:=lH hr;have HL:=lH hl;clear hr hl;go_enter Tryz.func181,Tryz.ntmps181;go_wp2;go_loopw [10] (fun i wr=>∃k:Nat,k≤len∧i=.int .i64 k∧(l.drop k).all zC=l.all zC∧Kept w wr) (fun i _=>len-(intOf i).toNat)
     case atStart=>exact⟨0,Nat.zero_le _,rfl,rfl,Kept.refl _⟩
     case round =>
      obtain⟨k,hk,rfl,hrest,hK⟩:=hrel;by_cases hlt:k<len
      · obtain⟨x,y,m,hx,hd,hb,hz,hz2,c1,c2,c3⟩:=(HR.out.kept hK).tri hlt;have HK:=lH hK;obtain⟨q,hq⟩:=eX (zC (x,y,m))
        have HS:=lH (hrest.symm.trans ((congrArg (fun z=>z.all zC) hd).trans (jea.trans (by rw[hq]))));have HC:=lH (fun W=>jju x y m W hz hz2);rw[hq] at HC;clear hK hrest hx hd hq
        cases q with
        | true =>
         go_wp2_with (go_at_call 215;refine(HC.out _).mono ?_;rintro e w1 ⟨rfl,k1⟩;have K1:=lH k1;clear k1)
         go_roundw
         case rel=>exact⟨k+1,by omega,by go_num,(HS.out.trans (Bool.true_and _)).symm,HK.out.trans ((ja _ _).trans K1.out)⟩
         case measure=>simp[intOf];omega
        | false =>
         have HF:=lH (show JG l=3 by rw[HV.out,HS.out];rfl);go_wp2_with (go_at_call 215;refine(HC.out _).mono ?_;rintro e w1 ⟨rfl,k1⟩;have K1:=lH k1;clear k1)
         go_ret;exact⟨jb HF.out.symm,HK.out.trans ((ja _ _).trans K1.out)⟩
      · have HK:=lH hK;have HS:=lH (hrest.symm.trans (congrArg (fun z=>z.all zC) (zB (by rw[HL.out];exact hlt))));have HF:=lH (show JG l=0 by rw[HV.out,HS.out];rfl);clear hK hrest;go_wp2;go_ret;exact⟨jb HF.out.symm,HK.out⟩
 · have HV:=lH (show JG l=4 by unfold JG;rw[if_pos (by omega)]);have h9:8<len:=by omega
   clear h8 hr hl;go_enter Tryz.func181,Tryz.ntmps181;go_wp2;go_ret;exact⟨jb HV.out.symm,Kept.refl _⟩
theorem jk.front {α:Type} {L:Lay α} {w:World} {a:Option Addr} {len:Nat} {l:List α} (h:jk L w a len l) {k:Nat} (hk:k≤len):jk L w a k (l.take k):=by
 obtain⟨h0,h1,h2,h3⟩:=h;refine⟨by rw[List.length_take];omega,by omega,fun x hx=>h2 x (List.mem_of_mem_take hx),?_⟩;rcases h3 with h3 | ⟨b,off,e,hb,hc⟩
 · exact .inl (by omega)
 · refine .inr ⟨b,off,e,hb,fun i x j u hi hj=>?_⟩;rw[List.getElem?_take] at hi;split at hi
   · exact hc i x j u hi hj
   · cases hi
theorem jiF (a:Option Addr) (len cap:Nat) (l:NL) (w:World) (hr:jk ju w a len l) (hc:len≤cap) :
 Calls Tryz.prog 177 #[.slice a len cap] w fun e w'=>e=.returned (.int .i64 (ZJ l))∧Kept w w':=by
 have hl:=hr.1;have hm:=hr.2.1;unfold maxLen at hm;by_cases h8:len≤8
 · have HV:=lH (show ZJ l=JO [] l by unfold ZJ;rw[if_neg (by omega)]);rcases hr.form with h0 | ⟨b,off,rfl⟩
   · subst h0;have HE:=lH (show ZJ l=0 by rw[HV.out];rw[List.eq_nil_of_length_eq_zero hl];rfl);clear hr hl;go_enter Tryz.func177,Tryz.ntmps177;go_wp2;refine wp_loop_rounds 1 ?_;rw[rounds_succ];go_wp2;go_ret;exact⟨jb HE.out.symm,Kept.refl _⟩
   · have HR:=lH hr;have HL:=lH hl;clear hr hl;go_enter Tryz.func177,Tryz.ntmps177;go_wp2;go_loopw [10] (fun i wr=>∃k:Nat,k≤len∧i=.int .i64 k∧JO (l.take k) (l.drop k)=JO [] l∧Kept w wr) (fun i _=>len-(intOf i).toNat)
     case atStart=>exact⟨0,Nat.zero_le _,rfl,rfl,Kept.refl _⟩
     case round =>
      obtain⟨k,hk,rfl,hrest,hK⟩:=hrel;by_cases hlt:k<len
      · obtain⟨x,y,m,hx,hd,hb,hz,hz2,c1,c2,c3⟩:=(HR.out.kept hK).tri hlt;obtain⟨HX,HK,HT⟩:=lH3 hx hK (hrest.symm.trans (congrArg (JO (l.take k)) hd));have HS:=lH (HV.out.trans HT.out);have V9:=lH ((HR.out.kept hK).front hk);clear hK hrest hx hd;by_cases n1:isName x=true
        · by_cases n2:isName y=true
          · have N1:=lH n1;have N2:=lH n2;obtain⟨q,hq⟩:=eX ((l.take k).any (Jd (x,y,m)))
            have HQ:=lH hq;have tn:=Zp.new wr x y m 172;have l1:∀(n:Nat) (os:Array Obj),(grow ((wr.alloc (.cells #[.string x,.string y,.bool m] 172)).drewN n) os).cell? ⟨wr.heap.size,0,none⟩=some (.string x):=fun n os=>cell_later (Z8 _ n os) tn.1;have l2:∀(n:Nat) (os:Array Obj),(grow ((wr.alloc (.cells #[.string x,.string y,.bool m] 172)).drewN n) os).cell? ⟨wr.heap.size,1,none⟩=some (.string y):=fun n os=>cell_later (Z8 _ n os) tn.2.1;have l3:∀(n:Nat) (os:Array Obj),(grow ((wr.alloc (.cells #[.string x,.string y,.bool m] 172)).drewN n) os).cell? ⟨wr.heap.size,2,none⟩=some (.bool m):=fun n os=>cell_later (Z8 _ n os) tn.2.2;have cz:∀(n:Nat) (os:Array Obj),Calls Tryz.prog 212 #[.slice (some ⟨b,off,none⟩) k cap,NV x y m] (grow ((wr.alloc (.cells #[.string x,.string y,.bool m] 172)).drewN n) os) fun e w''=>e=.returned (.bool q)∧∃q' os',w''=grow ((grow ((wr.alloc (.cells #[.string x,.string y,.bool m] 172)).drewN n) os).drewN q') os':=fun n os=>by
             rw[←hq];exact jkO (some ⟨b,off,none⟩) k cap (l.take k) x y m _ ((V9.out.kept (ja _ _)).kept (Z8 _ n os))
            have r1:(k:Int)≤(cap:Int):=by omega
            have r2:k≤cap:=by omega
            have mixed:Tryz.prog.follows Departure.mixedOrders=true:=by kernel_rfl
            clear tn hq
            cases q with
            | true =>
             go_wp2_with (go_at_call 174;refine(zg _ _ (by assumption)).mono ?_;rintro e w' ⟨rfl,rfl⟩)
             go_quiet_grown (first | (go_at_call 212;refine Calls.grown_of (cz _ _)))
             go_wp2;go_ret;exact⟨jb (HS.out.trans (jcJ N1.out N2.out HQ.out)).symm,HK.out.trans ((ja _ _).trans (Z8 _ _ _))⟩
            | false =>
             go_wp2_with (go_at_call 174;refine(zg _ _ (by assumption)).mono ?_;rintro e w' ⟨rfl,rfl⟩)
             go_quiet_grown (first | (go_at_call 212;refine Calls.grown_of (cz _ _)))
             go_wp2;go_roundw
             case rel=>exact⟨k+1,by omega,by go_num,by rw[zI HX.out];exact(jdQ N1.out N2.out HQ.out).symm.trans HT.out.symm,HK.out.trans ((ja _ _).trans (Z8 _ _ _))⟩
             case measure=>simp[intOf];omega
          · have n2:isName y=false:=by simpa using n2
            have N:=lH (show (isName x&&isName y)=false by rw[n2,Bool.and_false]);go_wp2_with (go_at_call 174;refine(zg _ _ (by assumption)).mono ?_;rintro e w' ⟨rfl,rfl⟩)
            go_ret;exact⟨jb (HS.out.trans (qe N.out)).symm,HK.out.trans (ja _ _)⟩
        · have n1:isName x=false:=by simpa using n1
          have N:=lH (show (isName x&&isName y)=false by rw[n1,Bool.false_and]);go_wp2_with (go_at_call 174;refine(zg x _ hz).mono ?_;rintro e w' ⟨rfl,rfl⟩)
          go_ret;exact⟨jb (HS.out.trans (qe N.out)).symm,HK.out.trans (ja _ _)⟩
      · have HK:=lH hK;have HS:=lH ((HV.out.trans hrest.symm).trans (congrArg (JO (l.take k)) (zB (by rw[HL.out];exact hlt))));clear hK hrest;go_wp2;go_ret;exact⟨jb (HS.out.trans rfl).symm,HK.out⟩
 · have HV:=lH (show ZJ l=4 by unfold ZJ;rw[if_pos (by omega)]);have h9:8<len:=by omega
   clear h8 hr hl;go_enter Tryz.func177,Tryz.ntmps177;go_wp2;go_ret;exact⟨jb HV.out.symm,Kept.refl _⟩
open Go.RowKit Go.Shelf
attribute [local go_sem] Oper.semAt_some
end Go.Proofs.YtibepooajeakfaaGreat
namespace Go.Proofs.YtibepooajeakfaaGreat
open Go.RowKit Go.Shelf
attribute [local go_sem] Oper.semAt_some
end Go.Proofs.YtibepooajeakfaaGreat
namespace Go.Proofs.YtibepooajeakfaaGreat
open Go.RowKit Go.Sort
theorem jif {l:NL} {t:NT} {r:NL}:Jk l (t::r)=if (t.2.2&&!qz l t)=true then some t else Jk l r:=rfl
theorem jjF {l:NL} {t:NT} {r:NL}:softN l (t::r)=(if (!t.2.2&&!qz l t)=true then 1 else 0)+softN l r:=rfl
theorem jmb (w:World) (x y:ByteArray) (m:Bool) (T:TypeId):(w.alloc (.cells #[.string x,.string y,.bool m] T)).frozen? ⟨w.heap.size,0,none⟩=false∧(w.alloc (.cells #[.string x,.string y,.bool m] T)).frozen? ⟨w.heap.size,1,none⟩=false∧(w.alloc (.cells #[.string x,.string y,.bool m] T)).frozen? ⟨w.heap.size,2,none⟩=false:=by
 refine⟨?_,?_,?_⟩<;>go_simp
theorem Yb {w w':World} {c i:Nat} (k:Kept w w') (hc:c<w.heap.size) (h:w.frozen? ⟨c,i,none⟩=false):w'.frozen? ⟨c,i,none⟩=false:=(k.frozen (p:=⟨c,i,none⟩) hc).trans h
theorem jd5 (w:World) (c:Nat) (u0 u1 u2:Value) {o0 o1 o2:Value} (h0:w.cell? ⟨c,0,none⟩=some o0) (h1:w.cell? ⟨c,1,none⟩=some o1) (h2:w.cell? ⟨c,2,none⟩=some o2) :
 (w.setCell ⟨c,0,none⟩ u0).cell? ⟨c,0,none⟩=some u0∧((w.setCell ⟨c,0,none⟩ u0).setCell ⟨c,1,none⟩ u1).cell? ⟨c,1,none⟩=some u1∧(((w.setCell ⟨c,0,none⟩ u0).setCell ⟨c,1,none⟩ u1).setCell ⟨c,2,none⟩ u2).cell? ⟨c,2,none⟩=some u2:=by
 refine⟨World.cell?_setCell_same' _ _ _ (by rw[h0];rfl),World.cell?_setCell_same' _ _ _ ?_,World.cell?_setCell_same' _ _ _ ?_⟩
 · rw[World.cell?_setCell_other _ _ _ _ (by intro e;injection e with e1 e2;cases e2),h1];rfl
 · rw[World.cell?_setCell_other _ _ _ _ (by intro e;injection e with e1 e2;cases e2),World.cell?_setCell_other _ _ _ _ (by intro e;injection e with e1 e2;cases e2),h2];rfl
def wT (o:Option NT):NT:=o.getD (ByteArray.empty,ByteArray.empty,false)
theorem jkK (a a':Option Addr) (len cap len' cap':Nat) (l t:NL) (w:World) (hr:jk ju w a len l) (hr':jk ju w a' len' t) :
 Calls Tryz.prog 193 #[.slice a len cap,.slice a' len' cap'] w fun e w'=>e=.returned (.tuple #[NV (wT (Jk l t)).1 (wT (Jk l t)).2.1 (wT (Jk l t)).2.2,.bool (Jk l t).isSome])∧Kept w w':=by
 have hl:=hr'.1;have hm:=hr'.2.1;unfold maxLen at hm;rcases hr'.form with h0 | ⟨b,off,rfl⟩
 · subst h0;have HE:=lH (show Jk l t=none by rw[List.eq_nil_of_length_eq_zero hl];rfl);rw[HE.out];clear hr hr' hl;go_enter Tryz.func193,Tryz.ntmps193;go_wp2;refine wp_loop_rounds 1 ?_;rw[rounds_succ];go_wp2;(try simp only[Exit.inBlock,Exit.then])
   refine bodyPost_ret (v:=.tuple #[NV ⟨#[]⟩ ⟨#[]⟩ false,.bool false]) (by simp[results,Tryz.results193,go_sem]) rfl ?_;exact⟨rfl,ja _ _⟩
 · have HR:=lH hr;have HR':=lH hr';have HL:=lH hl;clear hr hr' hl;go_enter Tryz.func193,Tryz.ntmps193;go_wp2;go_loopw [10] (fun i wr=>∃k:Nat,k≤len'∧i=.int .i64 k∧Jk l (t.drop k)=Jk l t∧Kept (w.alloc (.cells #[.string ⟨#[]⟩,.string ⟨#[]⟩,.bool false] 172)) wr) (fun i _=>len'-(intOf i).toNat)
   case atStart=>exact⟨0,Nat.zero_le _,rfl,rfl,Kept.refl _⟩
   case round =>
    obtain⟨k,hk,rfl,hrest,hK⟩:=hrel;have hKw:Kept w wr:=(ja w _).trans hK;have tn:=(Zp.new w ⟨#[]⟩ ⟨#[]⟩ false 172).kept hK;have d1:=tn.1;have d2:=tn.2.1;have d3:=tn.2.2;dsimp only at d1 d2 d3;have hbs:w.heap.size<wr.heap.size:=by have:=hK.size;simp at this;omega
    have fr:=jmb w ⟨#[]⟩ ⟨#[]⟩ false 172;have z1:=Yb hK (by simp) fr.1;have z2:=Yb hK (by simp) fr.2.1;have z3:=Yb hK (by simp) fr.2.2;clear tn fr;by_cases hlt:k<len'
    · obtain⟨x,y,m,hx,hd,hb,hz,hz2,c1,c2,c3⟩:=(HR'.out.kept hKw).tri hlt;have HK:=lH hKw;obtain⟨q,hq⟩:=eX (qz l (x,y,m))
      have HS:=lH (hrest.symm.trans ((congrArg (Jk l) hd).trans (jif.trans (by rw[hq]))));have HC:=lH (fun W (h:Kept w W)=>bears_any a len cap l x y m W (HR.out.kept h));rw[show l.any (Zo (x,y,m))=q from hq] at HC;have UK:=lH hK;clear hK hrest hx hd hq hKw
      cases m with
      | false =>
       go_wp2_with fail
       go_roundw
       case rel=>exact⟨k+1,by omega,by go_num,HS.out.symm,UK.out.trans (ja _ _)⟩
       case measure=>simp[intOf];omega
      | true =>
       cases q with
       | true =>
        go_wp2_with (go_at_call 225;refine(HC.out _ (HK.out.trans (ja _ _))).mono ?_;rintro e w1 ⟨rfl,k1⟩;have K1:=lH k1.kept;clear k1)
        go_roundw
        case rel=>exact⟨k+1,by omega,by go_num,HS.out.symm,UK.out.trans ((ja _ _).trans K1.out)⟩
        case measure=>simp[intOf];omega
       | false =>
        have HW:=lH (show Jk l t=some (x,y,true) from HS.out);have e1:=cell_later (ja wr (.cells #[.string x,.string y,.bool true] 172)) d1;have e2:=cell_later (ja wr (.cells #[.string x,.string y,.bool true] 172)) d2;have e3:=cell_later (ja wr (.cells #[.string x,.string y,.bool true] 172)) d3;have tn:=Zp.new wr x y true 172;go_wp2_with (go_at_call 225;refine(HC.out _ (HK.out.trans (ja _ _))).mono ?_;rintro e w1 ⟨rfl,k1⟩;have K1:=lH k1.kept;have y1:=Yb (Kept.trans (ja wr _) K1.out) hbs z1;have y2:=Yb (Kept.trans (ja wr _) K1.out) hbs z2;have y3:=Yb (Kept.trans (ja wr _) K1.out) hbs z3;have f1:=cell_later K1.out e1;have f2:=cell_later K1.out e2;have f3:=cell_later K1.out e3;have g1:=cell_later K1.out tn.1;have g2:=cell_later K1.out tn.2.1;have g3:=cell_later K1.out tn.2.2;dsimp only at g1 g2 g3;clear k1)
        (try simp only[Exit.inBlock,Exit.then])
        have s3:=jd5 w1 w.heap.size (.string x) (.string y) (.bool true) f1 f2 f3;refine bodyPost_ret (v:=.tuple #[NV x y true,.bool true]) (by simp[results,Tryz.results193,go_sem,s3.1,s3.2.1,s3.2.2]) rfl ?_;exact⟨by rw[HW.out];rfl,JQ (JQ (JQ (HK.out.trans ((ja _ _).trans K1.out)) (Nat.le_refl _) _) (Nat.le_refl _) _) (Nat.le_refl _) _⟩
    · have UK:=lH hKw;have HS:=lH (show Jk l t=none from(hrest.symm.trans (congrArg (Jk l) (zB (by rw[HL.out];exact hlt)))));clear hK hrest hKw;go_wp2;(try simp only[Exit.inBlock,Exit.then])
      have s3:=jd5 wr w.heap.size (.string ⟨#[]⟩) (.string ⟨#[]⟩) (.bool false) d1 d2 d3;refine bodyPost_ret (v:=.tuple #[NV ⟨#[]⟩ ⟨#[]⟩ false,.bool false]) (by simp[results,Tryz.results193,go_sem,s3.1,s3.2.1,s3.2.2]) rfl ?_;exact⟨by rw[HS.out];rfl,JQ (JQ (JQ UK.out (Nat.le_refl _) _) (Nat.le_refl _) _) (Nat.le_refl _) _⟩
theorem jlH (a a':Option Addr) (len cap len' cap':Nat) (l t:NL) (w:World) (hr:jk ju w a len l) (hr':jk ju w a' len' t) :
 Calls Tryz.prog 235 #[.slice a len cap,.slice a' len' cap'] w fun e w'=>e=.returned (.int .i64 (softN l t))∧Kept w w':=by
 have hl:=hr'.1;have hm:=hr'.2.1;unfold maxLen at hm;rcases hr'.form with h0 | ⟨b,off,rfl⟩
 · subst h0;have HE:=lH (show (softN l t:Int)=0 by rw[List.eq_nil_of_length_eq_zero hl];rfl);rw[HE.out];clear hr hr' hl;go_enter Tryz.func235,Tryz.ntmps235;go_wp2;refine wp_loop_rounds 1 ?_;rw[rounds_succ];go_wp2;go_ret;exact⟨rfl,Kept.refl _⟩
 · have HR:=lH hr;have HR':=lH hr';have HL:=lH hl;clear hr hr' hl;go_enter Tryz.func235,Tryz.ntmps235;go_wp2;go_loopw [5,10] (fun v i wr=>∃k n:Nat,k≤len'∧i=.int .i64 k∧v=.int .i64 n∧n≤k∧n+softN l (t.drop k)=softN l t∧Kept w wr) (fun _ i _=>len'-(intOf i).toNat)
   case atStart=>exact⟨0,0,Nat.zero_le _,rfl,rfl,Nat.le_refl _,by simp,Kept.refl _⟩
   case round =>
    obtain⟨k,n,hk,rfl,rfl,hn,hrest,hK⟩:=hrel;by_cases hlt:k<len'
    · obtain⟨x,y,m,hx,hd,hb,hz,hz2,c1,c2,c3⟩:=(HR'.out.kept hK).tri hlt;have HK:=lH hK;obtain⟨q,hq⟩:=eX (qz l (x,y,m))
      have HS:=lH (show n+((if (!m&&!q)=true then 1 else 0)+softN l (t.drop (k+1)))=softN l t by rw[←hrest,hd,jjF,hq]);have HC:=lH (fun W (h:Kept w W)=>bears_any a len cap l x y m W (HR.out.kept h));rw[show l.any (Zo (x,y,m))=q from hq] at HC;clear hK hrest hx hd hq
      cases m with
      | true =>
       go_wp2_with fail
       go_roundw
       case rel=>exact⟨k+1,n,by omega,by go_num,rfl,by omega,by have:=HS.out;simpa using this,HK.out.trans (ja _ _)⟩
       case measure=>simp[intOf];omega
      | false =>
       cases q with
       | true =>
        go_wp2_with (go_at_call 225;refine(HC.out _ (HK.out.trans (ja _ _))).mono ?_;rintro e w1 ⟨rfl,k1⟩;have K1:=lH k1.kept;clear k1)
        go_roundw
        case rel=>exact⟨k+1,n,by omega,by go_num,rfl,by omega,by have:=HS.out;simpa using this,HK.out.trans ((ja _ _).trans K1.out)⟩
        case measure=>simp[intOf];omega
       | false =>
        go_wp2_with (go_at_call 225;refine(HC.out _ (HK.out.trans (ja _ _))).mono ?_;rintro e w1 ⟨rfl,k1⟩;have K1:=lH k1.kept;clear k1)
        go_roundw
        case rel=>exact⟨k+1,n+1,by omega,by go_num,by go_num,by omega,by have:=HS.out;simp at this;omega,HK.out.trans ((ja _ _).trans K1.out)⟩
        case measure=>simp[intOf];omega
    · have UK:=lH hK;have HS:=lH (show softN l t=n by rw[←hrest,zB (by rw[HL.out];exact hlt)];rfl);clear hK hrest;go_wp2;go_ret;exact⟨by rw[HS.out];rfl,UK.out⟩
open Go.RowKit
theorem jmE {v:Value} {l:NL} {c:Int} {w:World} (h:Reads ju w v l) (hc:ZJ l=c) :
 Calls Tryz.prog 177 #[v] w (Say (.int .i64 c) w):=by
 obtain⟨a,cap,rfl,hcap,_,hr⟩:=h;exact(jiF a _ cap l w hr hcap).mono fun e w' ⟨he,k⟩=>⟨by rw[he,hc],k⟩
theorem jnh {v:Value} {l:NL} {c:Int} {w:World} (h:Reads ju w v l) (hc:JG l=c) :
 Calls Tryz.prog 181 #[v] w (Say (.int .i64 c) w):=by
 obtain⟨a,cap,rfl,_,_,hr⟩:=h;exact(ji3 a _ cap l w hr).mono fun e w' ⟨he,k⟩=>⟨by rw[he,hc],k⟩
theorem jnx {v v':Value} {l t:NL} {x y:ByteArray} {m b:Bool} {w:World} (h:Reads ju w v l) (h':Reads ju w v' t) (hx:wT (Jk l t)=(x,y,m)) (hb:(Jk l t).isSome=b) :
 Calls Tryz.prog 193 #[v,v'] w (Say (.tuple #[NV x y m,.bool b]) w):=by
 obtain⟨a,cap,rfl,_,_,hr⟩:=h;obtain⟨a',cap',rfl,_,_,hr'⟩:=h';exact(jkK a a' _ cap _ cap' l t w hr hr').mono fun e w' ⟨he,k⟩=>⟨by rw[he,hx,hb],k⟩
theorem joj {v v':Value} {l t:NL} {n:Nat} {w:World} (h:Reads ju w v l) (h':Reads ju w v' t) (hn:softN l t=n) :
 Calls Tryz.prog 235 #[v,v'] w (Say (.int .i64 n) w):=by
 obtain⟨a,cap,rfl,_,_,hr⟩:=h;obtain⟨a',cap',rfl,_,_,hr'⟩:=h';exact(jlH a a' _ cap _ cap' l t w hr hr').mono fun e w' ⟨he,k⟩=>⟨by rw[he,hn],k⟩
theorem jeD (a:Option Addr) (len cap:Nat) (l:NL) (w:World) (hr:jk ju w a len l) :
 Calls Tryz.prog 163 #[.slice a len cap] w fun e w'=>e=.returned (.int .i64 (JG l))∧Kept w w':=by
 have hl:=hr.1;have hm:=hr.2.1;unfold maxLen at hm;by_cases h8:len≤8
 · have HV:=lH (show JG l=if l.all zC=true then 0 else 3 by unfold JG;rw[if_neg (by omega)]);rcases hr.form with h0 | ⟨b,off,rfl⟩
   · subst h0;have HE:=lH (show JG l=0 by rw[HV.out];rw[List.eq_nil_of_length_eq_zero hl];rfl);clear hr hl;go_enter Tryz.func163,Tryz.ntmps163;go_wp2;refine wp_loop_rounds 1 ?_;rw[rounds_succ];go_wp2;go_ret;exact⟨jb HE.out.symm,Kept.refl _⟩
   · have HR:=lH hr;have HL:=lH hl;clear hr hl;go_enter Tryz.func163,Tryz.ntmps163;go_wp2;go_loopw [3] (fun i wr=>∃k:Nat,k≤len∧i=.int .i64 k∧(l.drop k).all zC=l.all zC∧Kept w wr) (fun i _=>len-(intOf i).toNat)
     case atStart=>exact⟨0,Nat.zero_le _,rfl,rfl,Kept.refl _⟩
     case round =>
      obtain⟨k,hk,rfl,hrest,hK⟩:=hrel;by_cases hlt:k<len
      · obtain⟨x,y,m,hx,hd,hb,hz,hz2,c1,c2,c3⟩:=(HR.out.kept hK).tri hlt;have HK:=lH hK;have HS:=lH (hrest.symm.trans ((congrArg (fun z=>z.all zC) hd).trans jea));obtain⟨q0,hq0⟩:=eX ((x.toList==([]:List UInt8)))
        obtain⟨q2,hq2⟩:=eX ((y.toList==([]:List UInt8)))
        obtain⟨n1,hn1⟩:=eX (isName x)
        obtain⟨n2,hn2⟩:=eX (isName y)
        have HN:=lH (show zC (x,y,m)=((q0||n1)&&(if m=true then q2 else n2)) by unfold zC;rw[JU,JU,hq0,hq2,hn1,hn2]);clear hK hrest hx hd
        cases q0 with
        | true =>
         cases m with
         | true =>
          cases q2 with
          | true =>
           have HQ:=lH (show zC (x,y,true)=true by rw[HN.out];rfl);go_wp2_with (go_at_call 158;refine(jq _ _ (by assumption)).mono ?_;rintro e w' ⟨rfl,rfl⟩)
           go_roundw
           case rel=>exact⟨k+1,by omega,by go_num,(HS.out.trans (by rw[HQ.out];exact Bool.true_and _)).symm,HK.out.trans (ja _ _)⟩
           case measure=>simp[intOf];omega
          | false =>
           have HQ:=lH (show JG l=3 by rw[HV.out,HS.out,HN.out];rfl);go_wp2_with (go_at_call 158;refine(jq _ _ (by assumption)).mono ?_;rintro e w' ⟨rfl,rfl⟩)
           go_ret;exact⟨jb HQ.out.symm,HK.out.trans (ja _ _)⟩
         | false =>
          cases n2 with
          | true =>
           have HQ:=lH (show zC (x,y,false)=true by rw[HN.out];rfl);go_wp2_with (go_at_call 158;refine(jq _ _ (by assumption)).mono ?_;rintro e w' ⟨rfl,rfl⟩)
           go_roundw
           case rel=>exact⟨k+1,by omega,by go_num,(HS.out.trans (by rw[HQ.out];exact Bool.true_and _)).symm,HK.out.trans (ja _ _)⟩
           case measure=>simp[intOf];omega
          | false =>
           have HQ:=lH (show JG l=3 by rw[HV.out,HS.out,HN.out];rfl);go_wp2_with (go_at_call 158;refine(jq _ _ (by assumption)).mono ?_;rintro e w' ⟨rfl,rfl⟩)
           go_ret;exact⟨jb HQ.out.symm,HK.out.trans (ja _ _)⟩
        | false =>
         cases n1 with
         | true =>
          cases m with
          | true =>
           cases q2 with
           | true =>
            have HQ:=lH (show zC (x,y,true)=true by rw[HN.out];rfl);go_wp2_with (go_at_call 158;refine(jq _ _ (by assumption)).mono ?_;rintro e w' ⟨rfl,rfl⟩)
            go_roundw
            case rel=>exact⟨k+1,by omega,by go_num,(HS.out.trans (by rw[HQ.out];exact Bool.true_and _)).symm,HK.out.trans (ja _ _)⟩
            case measure=>simp[intOf];omega
           | false =>
            have HQ:=lH (show JG l=3 by rw[HV.out,HS.out,HN.out];rfl);go_wp2_with (go_at_call 158;refine(jq _ _ (by assumption)).mono ?_;rintro e w' ⟨rfl,rfl⟩)
            go_ret;exact⟨jb HQ.out.symm,HK.out.trans (ja _ _)⟩
          | false =>
           cases n2 with
           | true =>
            have HQ:=lH (show zC (x,y,false)=true by rw[HN.out];rfl);go_wp2_with (go_at_call 158;refine(jq _ _ (by assumption)).mono ?_;rintro e w' ⟨rfl,rfl⟩)
            go_roundw
            case rel=>exact⟨k+1,by omega,by go_num,(HS.out.trans (by rw[HQ.out];exact Bool.true_and _)).symm,HK.out.trans (ja _ _)⟩
            case measure=>simp[intOf];omega
           | false =>
            have HQ:=lH (show JG l=3 by rw[HV.out,HS.out,HN.out];rfl);go_wp2_with (go_at_call 158;refine(jq _ _ (by assumption)).mono ?_;rintro e w' ⟨rfl,rfl⟩)
            go_ret;exact⟨jb HQ.out.symm,HK.out.trans (ja _ _)⟩
         | false =>
          have HQ:=lH (show JG l=3 by rw[HV.out,HS.out,HN.out];rfl);go_wp2_with (go_at_call 158;refine(jq _ _ (by assumption)).mono ?_;rintro e w' ⟨rfl,rfl⟩)
          go_ret;exact⟨jb HQ.out.symm,HK.out.trans (ja _ _)⟩
      · have HK:=lH hK;have HS:=lH (hrest.symm.trans (congrArg (fun z=>z.all zC) (zB (by rw[HL.out];exact hlt))));have HF:=lH (show JG l=0 by rw[HV.out,HS.out];rfl);clear hK hrest;go_wp2;go_ret;exact⟨jb HF.out.symm,HK.out⟩
 · have HV:=lH (show JG l=4 by unfold JG;rw[if_pos (by omega)]);have h9:8<len:=by omega
   clear h8 hr hl;go_enter Tryz.func163,Tryz.ntmps163;go_wp2;go_ret;exact⟨jb HV.out.symm,Kept.refl _⟩
theorem jje {l:NL} {k j:Nat} {t z:NT} (hj:j<k) (hz:l[j]?=some z) (h:Jd t z=true):(l.take k).any (Jd t)=true:=by
 rw[List.any_eq_true];refine⟨z,List.mem_of_getElem? (i:=j) ?_,h⟩;rw[List.getElem?_take,if_pos hj];exact hz
theorem jdZ {l:NL} {j:Nat} {t z:NT} (hz:l[j]?=some z) (h:(l.take j).any (Jd t)=false) (g:Jd t z=false):(l.take (j+1)).any (Jd t)=false:=by
 rw[zI hz,List.any_append,h];simp[g]
theorem jeJ (a:Option Addr) (len cap:Nat) (l:NL) (w:World) (hr:jk ju w a len l) :
 Calls Tryz.prog 161 #[.slice a len cap] w fun e w'=>e=.returned (.int .i64 (ZJ l))∧Kept w w':=by
 have hl:=hr.1;have hm:=hr.2.1;unfold maxLen at hm;by_cases h8:len≤8
 · have HV:=lH (show ZJ l=JO [] l by unfold ZJ;rw[if_neg (by omega)]);rcases hr.form with h0 | ⟨b,off,rfl⟩
   · subst h0;have HE:=lH (show ZJ l=0 by rw[HV.out];rw[List.eq_nil_of_length_eq_zero hl];rfl);clear hr hl;go_enter Tryz.func161,Tryz.ntmps161;go_wp2;refine wp_loop_rounds 1 ?_;rw[rounds_succ];go_wp2;go_ret;exact⟨jb HE.out.symm,Kept.refl _⟩
   · have HR:=lH hr;have HL:=lH hl;clear hr hl;go_enter Tryz.func161,Tryz.ntmps161;go_wp2;go_loopw [3] (fun i wr=>∃k:Nat,k≤len∧i=.int .i64 k∧JO (l.take k) (l.drop k)=JO [] l∧Kept w wr) (fun i _=>len-(intOf i).toNat)
     case atStart=>exact⟨0,Nat.zero_le _,rfl,rfl,Kept.refl _⟩
     case round =>
      obtain⟨k,hk,rfl,hrest,hK⟩:=hrel;by_cases hlt:k<len
      · obtain⟨x,y,m,hx,hd,hb,hz,hz2,c1,c2,c3⟩:=(HR.out.kept hK).tri hlt;obtain⟨HX,HK,HT⟩:=lH3 hx hK (hrest.symm.trans (congrArg (JO (l.take k)) hd));have HS:=lH (HV.out.trans HT.out);clear hK hrest hx hd;by_cases n1:isName x=true
        · by_cases n2:isName y=true
          · have N1:=lH n1;have N2:=lH n2;go_wp2_with (go_at_call 158;refine(jq _ _ (by assumption)).mono ?_;rintro e w' ⟨rfl,rfl⟩)
            go_loopw [4] (fun i wr2=>∃j:Nat,j≤k∧i=.int .i64 j∧(l.take j).any (Jd (x,y,m))=false∧Kept w wr2) (fun i _=>k-(intOf i).toNat)
            case atStart=>exact⟨0,Nat.zero_le _,rfl,rfl,HK.out⟩
            case round =>
             obtain⟨j,hj,rfl,hnone,hK2⟩:=hrel;have TT:=lH hK2;have Ua:=lH hnone;by_cases hjk:j<k
             · obtain⟨x',y',m',hx',_,hb',_,_,d1,d2,d3⟩:=(HR.out.kept hK2).tri (show j<len by omega);obtain⟨x9,y9,m9,hx9,_,_,_,_,e1,e2,e3⟩:=(HR.out.kept hK2).tri hlt;obtain⟨rfl,rfl,rfl⟩:x=x9∧y=y9∧m=m9:=by rw[HX.out] at hx9;simpa using hx9
               have HX':=lH hx';obtain⟨q1,hq1⟩:=eX ((x'.toList==x.toList))
               obtain⟨q2,hq2⟩:=eX ((y'.toList==y.toList))
               have UL:=lH (show Jd (x,y,m) (x',y',m')=(q1&&q2) by unfold Jd eqS;rw[hq1,hq2]);have hjl:(j:Int)<(len:Int):=by omega
               clear hx9 hx' hnone hK2
               cases q1 with
               | true =>
                cases q2 with
                | true =>
                 go_wp2_with fail
                 go_quiet (fail)
                 go_wp2;go_ret;exact⟨jb (HS.out.trans (jcJ N1.out N2.out (jje hjk HX'.out UL.out))).symm,TT.out.trans (Kept.drewN _ _)⟩
                | false =>
                 go_wp2_with fail
                 go_quiet (fail)
                 go_wp2;go_roundw
                 case rel=>exact⟨j+1,by omega,by go_num,jdZ HX'.out Ua.out UL.out,TT.out.trans (Kept.drewN _ _)⟩
                 case measure=>simp[intOf];omega
               | false =>
                go_wp2_with fail
                go_quiet (fail)
                go_wp2;go_roundw
                case rel=>exact⟨j+1,by omega,by go_num,jdZ HX'.out Ua.out UL.out,TT.out.trans (Kept.drewN _ _)⟩
                case measure=>simp[intOf];omega
             · obtain rfl:j=k:=by omega
               clear hnone hK2;go_wp2;go_roundw
               case rel=>exact⟨j+1,by omega,by go_num,by rw[zI HX.out];exact(jdQ N1.out N2.out Ua.out).symm.trans HT.out.symm,TT.out⟩
               case measure=>simp[intOf];omega
          · have n2:isName y=false:=by simpa using n2
            have N:=lH (show (isName x&&isName y)=false by rw[n2,Bool.and_false]);go_wp2_with (go_at_call 158;refine(jq _ _ (by assumption)).mono ?_;rintro e w' ⟨rfl,rfl⟩)
            go_ret;exact⟨jb (HS.out.trans (qe N.out)).symm,HK.out⟩
        · have n1:isName x=false:=by simpa using n1
          have N:=lH (show (isName x&&isName y)=false by rw[n1,Bool.false_and]);go_wp2_with (go_at_call 158;refine(jq _ _ (by assumption)).mono ?_;rintro e w' ⟨rfl,rfl⟩)
          go_ret;exact⟨jb (HS.out.trans (qe N.out)).symm,HK.out⟩
      · have HK:=lH hK;have HS:=lH ((HV.out.trans hrest.symm).trans (congrArg (JO (l.take k)) (zB (by rw[HL.out];exact hlt))));clear hK hrest;go_wp2;go_ret;exact⟨jb (HS.out.trans rfl).symm,HK.out⟩
 · have HV:=lH (show ZJ l=4 by unfold ZJ;rw[if_pos (by omega)]);have h9:8<len:=by omega
   clear h8 hr hl;go_enter Tryz.func161,Tryz.ntmps161;go_wp2;go_ret;exact⟨jb HV.out.symm,Kept.refl _⟩
theorem jjc {v:Value} {l:NL} {c:Int} {w:World} (h:Reads ju w v l) (hc:ZJ l=c):Calls Tryz.prog 161 #[v] w (Say (.int .i64 c) w):=by
 obtain⟨a,cap,rfl,_,_,hr⟩:=h;exact(jeJ a _ cap l w hr).mono fun e w' ⟨he,k⟩=>⟨by rw[he,hc],k⟩
theorem ji2 {v:Value} {l:NL} {c:Int} {w:World} (h:Reads ju w v l) (hc:JG l=c):Calls Tryz.prog 163 #[v] w (Say (.int .i64 c) w):=by
 obtain⟨a,cap,rfl,_,_,hr⟩:=h;exact(jeD a _ cap l w hr).mono fun e w' ⟨he,k⟩=>⟨by rw[he,hc],k⟩
end Go.Proofs.YtibepooajeakfaaGreat
