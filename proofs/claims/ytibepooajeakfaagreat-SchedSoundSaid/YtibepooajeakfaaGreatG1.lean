/- C. -/
import Derived.Test.YtibepooajeakfaaGreatG0
import Derived.RangeFuncNested
import Derived.RangeFuncBound
import Derived.Shelf.RegionOpen
import Derived.OwnWalkIn
import Derived.LoopNIn
import Derived.LoopIn
import Derived.Lib.AtoiErrMem
import Derived.Shelf.Strings.BuilderX
import Derived.StillTailTactics
import Derived.Lib.ItoaLen
import Derived.Lib.AppendIntMem
import Derived.Lib.SmallJoins
import Derived.Test.YtibepooajeakfaaGreatRows
import Derived.Stop.LaidErr
import Derived.Stop.Joined
import Derived.MakeChecks
set_option linter.unusedVariables false
set_option maxRecDepth 100000
set_option maxHeartbeats 25600000
namespace Go.Proofs.YtibepooajeakfaaGreat.Vec
open Go.RowKit
theorem jnB (x y:Int) (w:World) (h0:0≤x) (h1:x≤9223372036854775807) (h2:0≤y) (h3:y≤9223372036854775807) :
 Calls Tryz.prog 191 #[.int .i64 x,.int .i64 y] w (Ans (jG x y).1 (jG x y).2 w):=by
 by_cases h:x+y≤9223372036854775807
 · have e:jG x y=(x+y,0):=by unfold jG;rw[if_pos h]
   rw[e];exact(jn3 x y w h0 h2 h).mono fun _ _ g=>g.ans
 · have e:jG x y=(0,5):=by unfold jG;rw[if_neg h]
   rw[e];exact(jlw x y w h0 h2 h3 (by omega)).mono fun _ _ g=>g.ans
theorem jiN (a a':Option Addr) (len cap len' cap':Nat) (l l':V) (w:World) (hr:jw w a len l) (hr':jw w a' len' l') (hc:len≤cap) (hm:cap≤maxLen) (hc':len'≤cap') (hm':cap'≤maxLen) :
 Calls Tryz.prog 190 #[.slice a len cap,.slice a' len' cap',.func (.func 191) #[] #[]] w (zu (jj jG l l') w.heap.size w):=by
 by_cases h1:jv l=0
 · by_cases h2:jv l'=0
   · have HL:=lH hr.1;have HL':=lH hr'.1;have P1:=lH (X9 h1 hr.2.2.1);have P2:=lH (X9 h2 hr'.2.2.1);have n8:len≤8:=by have:=Z7 h1;rw[hr.1] at this;exact this
     have n8':len'≤8:=by have:=Z7 h2;rw[hr'.1] at this;exact this
     obtain⟨R,hR⟩:=eX (j5 jG (l.length+l'.length) l l' [])
     have HM:=lH (show jj jG l l'=if R.1≠0 then (R.1,[]) else if 8<R.2.length then (4,[]) else (0,R.2) by
      unfold jj;rw[if_neg (by rw[h1];decide),if_neg (by rw[h2];decide)];dsimp only;rw[hR])
     obtain⟨HR,H1,H2,HA,HB⟩:=lH5 hR h1 h2 hr hr';clear hR h1 h2 hr hr';go_enter Tryz.func190,Tryz.ntmps190;go_wp2_with fail
     refine(zY _ _ _ l _ HA.out).mono ?_;rintro e1 w1 ⟨g1,_,k1⟩;obtain rfl:=g1 H1.out;have K1:=lH k1;clear g1 k1;go_wp2_with fail
     refine(zY _ _ _ l' _ (HB.out.kept K1.out)).mono ?_;rintro e2 w2 ⟨g2,_,k2⟩;obtain rfl:=g2 H2.out;have K2:=lH (K1.out.trans k2);clear g2 k2;go_wp2
     go_loopw [0,1,7] (fun va vb v wr=>∃(A B:Option Addr) (n c n' c':Nat) (la lb acc:V) (fuel:Nat),va=.slice A n c∧vb=.slice B n' c'∧n≤c∧c≤maxLen∧n'≤c'∧c'≤maxLen ∧
      jw w A n la∧jw w B n' lb∧Pos la∧Pos lb∧jT 114 wr w.heap.size v acc∧Below w.heap.size w wr∧n+n'≤fuel∧j5 jG fuel la lb acc=R∧acc.length+n+n'≤16)
      (fun va vb _ _=>lenOf va+lenOf vb)
     case atStart =>
      exact⟨a,a',len,cap,len',cap',l,l',[],l.length+l'.length,rfl,rfl,hc,hm,hc',hm',HA.out,HB.out,P1.out,P2.out,jT.nil _ _ _,K2.out,by rw[HL.out,HL'.out];exact Nat.le_refl _,HR.out,by simp;omega⟩
     case round =>
      obtain⟨A,B,n,c,n',c',la,lb,acc,fuel,rfl,rfl,c1,c2,c3,c4,va1,vb1,pa,pb,ho,hB,hfuel,hres,h16⟩:=hrel;obtain⟨VA,VB,PA,PB,HO,Vg,HQ,LA⟩:=lH8 va1 vb1 pa pb ho hB hres va1.1;have LB:=lH vb1.1;clear va1 vb1 pa pb ho hB hres;by_cases hz:n+n'=0
      · obtain rfl:n=0:=by omega
        obtain rfl:n'=0:=by omega
        clear hz;obtain⟨av,cv,rfl,g1,g2,g3⟩:=HO.out.at_;have HE:=lH (show R=(0,acc) from HQ.out.symm.trans (jaS (by rw[LA.out,LB.out])));have hal:acc.length≤9223372036854775807:=by omega
        clear g3 g1 g2;by_cases h8:acc.length≤8
        · have HF:=lH (show jj jG l l'=(0,acc) by rw[HM.out,HE.out];dsimp only;rw[if_neg (by decide),if_neg (by omega)]);go_wp2_with fail
          refine(jbt _ _ _ _ h8).mono ?_;rintro e3 w3 ⟨rfl,rfl⟩;go_wp2;go_ret;exact zu.good (by rw[HF.out]) (by rw[HF.out];exact HO.out) Vg.out
        · have HF:=lH (show jj jG l l'=(4,[]) by rw[HM.out,HE.out];dsimp only;rw[if_neg (by decide),if_pos (by omega)]);go_wp2_with fail
          refine(jcq _ _ _ _ (by omega) hal).mono ?_;rintro e3 w3 ⟨rfl,rfl⟩;go_wp2;exact⟨rfl,zu.bad (by rw[HF.out]) (by decide) Vg.out⟩
      · have hpos:0<n+n':=by omega
        clear hz;obtain⟨HP,HU,HS,T1,T2⟩:=lH5 (show 0<la.length+lb.length by rw[LA.out,LB.out];exact hpos) (show la.length+lb.length≤fuel by rw[LA.out,LB.out];exact hfuel) (jaH PA.out PB.out) (X1 PA.out (jm la lb)) (X1 PB.out (jm la lb));have VC:=lH (jak HP.out);obtain⟨r1,r2,hr⟩:∃r1 r2,jG (jr la (jm la lb)).1 (jr lb (jm la lb)).1=(r1,r2):=⟨_,_,rfl⟩
        have QF:=lH (show ∀W,Calls Tryz.prog 191 #[.int .i64 (jr la (jm la lb)).1,.int .i64 (jr lb (jm la lb)).1] W (Ans r1 r2 W) from fun W=>by
         have:=jnB _ _ W T1.out.1.1 T1.out.1.2 T2.out.1.1 T2.out.1.2;rw[hr] at this;exact this)
        have Uj:=lH hr;have RB:=lH (show 0≤r1∧r1≤9223372036854775807 by have:=jdu (T1.out.1) (T2.out.1);rw[hr] at this;exact this);clear hr;have hd:(decide (0<n)||decide (0<n'))=true:=by simp;omega
        rcases Nat.eq_zero_or_pos n with h0 | h0
        case' inl=>(have d2:decide (0<n')=true:=by simp;omega)
        case' inl=>(subst h0)
        case' inr=>(have d1:decide (0<n)=true:=by simp;omega)
        all_goals
         clear hd;go_wp2_with fail
         refine(jaM _ _ _ _ _ _ la lb _ (VA.out.kept Vg.out) (VB.out.kept Vg.out) (by omega)).mono ?_;rintro e3 w3 ⟨rfl,k3⟩;have K3:=lH k3;clear k3;go_wp2_with fail
         refine(X0 _ _ _ la _ _ ((VA.out.kept Vg.out).kept K3.out) c1 c2).mono ?_;rintro e4 w4 ⟨A4,c4',rfl,q1,q2,V4,k4⟩;have K4:=lH (K3.out.trans k4);have Tz:=lH V4;clear k4 V4;go_wp2_with fail
         refine(X0 _ _ _ lb _ _ ((VB.out.kept Vg.out).kept K4.out) c3 c4).mono ?_;rintro e5 w5 ⟨A5,c5',rfl,q3,q4,V5,k5⟩;have K5:=lH (K4.out.trans k5);have TB:=lH V5;clear k5 V5;go_wp2_with fail
         refine(QF.out _).mono ?_;rintro e6 w6 ⟨rfl,k6⟩;have K6:=lH (K5.out.trans k6);clear k6;by_cases hx:r2=0
         · subst hx;go_wp2_with fail
           refine(jgi _ _).mono ?_;rintro e7 w7 ⟨rfl,rfl⟩;obtain⟨fuel',hf1,hf2⟩:=jcP (f:=jG) (acc:=acc) HP.out HU.out (by rw[Uj.out]);have TC:=lH hf1;have TD:=lH hf2;clear hf1 hf2;have Vh:=lH (show Below w.heap.size w w6 from Vg.out.trans (Below.mono K6.out Vg.out.size));by_cases hy:r1=0
           · subst hy;go_wp2_with fail
             refine(jet _ _ _).mono ?_;rintro e8 w8 ⟨rfl,rfl⟩;go_wp2;go_roundw
             case rel =>
              refine⟨A4,A5,_,c4',_,c5',_,_,acc,fuel',rfl,rfl,q1,q2,q3,q4,Tz.out w VA.out,TB.out w VB.out,T1.out.2,T2.out.2,HO.out.kept K6.out,Vh.out,?_,?_,?_⟩
              · have:=VC.out;have:=HU.out;have:=TC.out;omega
              · have:=TD.out;rw[Uj.out] at this;rw[←HQ.out,this];rfl
              · have:=VC.out;have:=LA.out;have:=LB.out;omega
             case measure=>(show lenOf (Value.slice _ _ _)+lenOf (Value.slice _ _ _)<lenOf (Value.slice _ _ _)+lenOf (Value.slice _ _ _);simp only[lenOf];have:=VC.out;have:=LA.out;have:=LB.out;omega)
           · go_wp2_with fail
             refine(jdY _ _ r1 w.heap.size acc _ (HO.out.kept K6.out) hy HS.out (by have:=RB.out;omega) (by have:=RB.out;omega) (by omega) Vh.out.size).mono ?_;rintro e8 w8 ⟨v8,rfl,o8,b8⟩;obtain⟨O8,B8,HY⟩:=lH3 o8 b8 hy;clear o8 b8 hy;go_wp2;go_roundw
             case rel =>
              refine⟨A4,A5,_,c4',_,c5',_,_,_,fuel',rfl,rfl,q1,q2,q3,q4,Tz.out w VA.out,TB.out w VB.out,T1.out.2,T2.out.2,O8.out,Vh.out.trans B8.out,?_,?_,?_⟩
              · have:=VC.out;have:=HU.out;have:=TC.out;omega
              · have:=TD.out;rw[Uj.out] at this;rw[←HQ.out,this];dsimp only;unfold Yw;rw[if_neg HY.out]
              · have:=VC.out;have:=LA.out;have:=LB.out;rw[List.length_append];simp only[List.length_cons,List.length_nil];omega
             case measure=>(show lenOf (Value.slice _ _ _)+lenOf (Value.slice _ _ _)<lenOf (Value.slice _ _ _)+lenOf (Value.slice _ _ _);simp only[lenOf];have:=VC.out;have:=LA.out;have:=LB.out;omega)
         · have HX:=lH hx;have HE:=lH (show jj jG l l'=(r2,[]) by
            rw[HM.out,←HQ.out,jdU HP.out HU.out (by rw[Uj.out];exact hx),Uj.out];dsimp only;rw[if_pos hx])
           go_wp2_with fail
           refine(jdT _ _ _ hx).mono ?_;rintro e7 w7 ⟨rfl,rfl⟩;clear hx;go_wp2;exact⟨rfl,zu.bad (by rw[HE.out]) HX.out (Vg.out.trans (Below.mono K6.out Vg.out.size))⟩
   · obtain⟨HM,HA,HB,H1,H2⟩:=lH5 (show jj jG l l'=(jv l',[]) by unfold jj;rw[if_neg (by rw[h1];decide),if_pos h2]) hr hr' h1 h2;clear h1 h2 hr hr';go_enter Tryz.func190,Tryz.ntmps190;go_wp2_with fail
     refine(zY _ _ _ l _ HA.out).mono ?_;rintro e1 w1 ⟨g1,_,k1⟩;obtain rfl:=g1 H1.out;have K1:=lH k1;clear g1 k1;go_wp2_with fail
     refine(zY _ _ _ l' _ (HB.out.kept K1.out)).mono ?_;rintro e2 w2 ⟨_,g2,k2⟩;obtain rfl:=g2 H2.out;have K2:=lH (K1.out.trans k2);clear g2 k2;go_wp2;exact⟨rfl,zu.bad (by rw[HM.out]) H2.out K2.out⟩
 · obtain⟨HM,HA,H1⟩:=lH3 (show jj jG l l'=(jv l,[]) by unfold jj;rw[if_pos h1]) hr h1;clear h1 hr hr';go_enter Tryz.func190,Tryz.ntmps190;go_wp2_with fail
   refine(zY _ _ _ l _ HA.out).mono ?_;rintro e1 w1 ⟨_,g1,k1⟩;obtain rfl:=g1 H1.out;have K1:=lH k1;clear g1 k1;go_wp2;exact⟨rfl,zu.bad (by rw[HM.out]) H1.out K1.out⟩
theorem jii (C:Addr×Addr) (r:Int×V) (w:World) (hr:r.1≠0→r.2=[])
 (hk:∀W,Kept w W→Calls Tryz.prog 189 #[.pointer (some C.1),.pointer (some C.2)] W (zu r W.heap.size W)) :
 Calls Tryz.prog 188 #[.func (.func 189) #[] #[.pointer (some C.1),.pointer (some C.2)]] w (Y2 r w):=by
 have hmf:=hmfL (P:=Tryz.prog);have HK:=lH hk;have HR:=lH hr;clear hk hr;obtain⟨r1,r2⟩:=r;go_enter_defers Tryz.func188,Tryz.ntmps188
 go_wp2_with fail
 refine(HK.out _ (ja _ _)).mono ?_;rintro e1 w1 ⟨h0,h1,hb⟩;have k1:=hb.size;simp only[World.size_alloc] at k1;have c2:=(hb.cell (p:=⟨w.heap.size,0,none⟩) (by simp))
 have z2:=(hb.frozen (p:=⟨w.heap.size,0,none⟩) (by simp))
 have e2':w1.cell? ⟨w.heap.size,0,none⟩=some (.int .i64 0):=by rw[c2];go_simp
 have y2:w1.frozen? ⟨w.heap.size,0,none⟩=false:=by rw[z2];go_simp
 clear c2 z2;have KB:=lH (show Below w.heap.size w w1 from(ja w _).trans hb);by_cases hx:r1=0
 · subst hx;obtain⟨v,rfl,ho⟩:=h0 rfl;have HO:=lH ho;obtain⟨av,cv,rfl,_,_,_⟩:=ho.at_;have hsz:=World.size_alloc w (.cells #[.int .i64 0] 69);clear h0 h1 hb ho;go_wp2_with fail
   refine leaves_cons (f:=218) (args:=#[.pointer (some ⟨w.heap.size,0,none⟩)]) (by simp) (by simp[go_sem]) ?_;refine(Yp ⟨w.heap.size,0,none⟩ _).mono ?_;rintro e u' w'' ⟨rfl,rfl,rfl⟩;simp[Leaves,settle,results,Tryz.results188,go_sem,e2'];exact⟨_,rfl,(HO.out.setCell_below (a:=⟨w.heap.size,0,none⟩) (by simp) _).base_le (by simp),KB.out.setCell (p:=⟨w.heap.size,0,none⟩) (Nat.le_refl _) _⟩
 · obtain rfl:=h1 hx;obtain rfl:=HR.out hx;clear h0 h1 hb;go_wp2_with fail
   refine leaves_cons (f:=218) (args:=#[.pointer (some ⟨w.heap.size,0,none⟩)]) (by simp) (by simp[go_sem]) ?_;refine(J7 w.heap.size w.heap.size r1 0 _ e2' y2 (by omega)).mono ?_;rintro e u' w'' ⟨rfl,rfl,q2,q3⟩;simp[Leaves,settle,results,Tryz.results188,go_sem,q2];exact⟨_,rfl,jT.nil _ _ _,KB.out.trans q3⟩
theorem jg8 (C:Addr×Addr) (a a':Option Addr) (len cap len' cap':Nat) (l l':V) (w:World) (h1:w.cell? C.1=some (.slice a len cap)) (h2:w.cell? C.2=some (.slice a' len' cap'))
 (hr:jw w a len l) (hr':jw w a' len' l') (hc:len≤cap) (hm:cap≤maxLen) (hc':len'≤cap') (hm':cap'≤maxLen) :
 Calls Tryz.prog 189 #[.pointer (some C.1),.pointer (some C.2)] w (zu (jj jG l l') w.heap.size w):=by
 have HR:=lH hr;have HR':=lH hr';have HM:=lH hm;have HM':=lH hm';clear hr hr' hm hm';go_enter Tryz.func189,Tryz.ntmps189;go_wp2_with fail
 refine(jiN a a' len cap len' cap' l l' _ HR.out HR'.out hc HM.out hc' HM'.out).mono ?_;rintro e w' ⟨g0,g1,k⟩;by_cases hx:(jj jG l l').1=0
 · obtain⟨v,rfl,ho⟩:=g0 hx;obtain⟨HX,HO,HK⟩:=lH3 hx ho k;clear g0 g1 hx ho k;go_wp2;go_ret;exact zu.good HX.out HO.out HK.out
 · obtain rfl:=g1 hx;have HX:=lH hx;have HK:=lH k;clear g0 g1 hx k;go_wp2;exact⟨rfl,zu.bad rfl HX.out HK.out⟩
theorem jcW (l l':V):(jj jG l l').1≠0→(jj jG l l').2=[]:=by
 unfold jj;split
 · exact fun _=>rfl
 · split
   · exact fun _=>rfl
   · dsimp only;split
     · exact fun _=>rfl
     · split
       · exact fun _=>rfl
       · exact fun h=>absurd rfl h
theorem jnn (a a':Option Addr) (len cap len' cap':Nat) (l l':V) (w:World)
 (hr:jw w a len l) (hr':jw w a' len' l') (hc:len≤cap) (hm:cap≤maxLen) (hc':len'≤cap') (hm':cap'≤maxLen) :
 Calls Tryz.prog 149 #[.slice a len cap,.slice a' len' cap'] w (Y2 (jj jG l l') w):=by
 have hmf:=hmfL (P:=Tryz.prog);have hC:∀W,Kept ((w.alloc (.cells #[.slice a len cap] 45)).alloc (.cells #[.slice a' len' cap'] 45)) W→Calls Tryz.prog 189 #[.pointer (some ⟨w.heap.size,0,none⟩),.pointer (some ⟨w.heap.size+1,0,none⟩)] W (zu (jj jG l l') W.heap.size W):=by
  intro W k;have c1:=k.cell (p:=⟨w.heap.size,0,none⟩) (by simp;omega);have c2:=k.cell (p:=⟨w.heap.size+1,0,none⟩) (by simp);exact jg8 (⟨w.heap.size,0,none⟩,⟨w.heap.size+1,0,none⟩) a a' len cap len' cap' l l' W (by rw[c1];go_simp) (by rw[c2];go_simp) (hr.kept ((jn w _ _).trans k)) (hr'.kept ((jn w _ _).trans k)) hc hm hc' hm'
 have HC:=lH hC;clear hC hr hr' hm hm';go_enter Tryz.func149,Tryz.ntmps149;go_wp2_with fail
 refine(jii (⟨w.heap.size,0,none⟩,⟨w.heap.size+1,0,none⟩) (jj jG l l') _ (jcW l l') HC.out).mono ?_;rintro e w' ⟨v,rfl,ho,k⟩;have HO:=lH ho;have HK:=lH k;clear ho k;go_wp2;go_ret2
 exact⟨v,rfl,HO.out.base_le (by simp;omega),(jn w _ _).trans HK.out⟩
theorem jnT (x y:Int) (w:World) (h0:0≤x) (h1:x≤9223372036854775807) (h2:0≤y) (h3:y≤9223372036854775807) :
 Calls Tryz.prog 258 #[.int .i64 x,.int .i64 y] w (Ans (zl x y).1 (zl x y).2 w):=by
 by_cases h:y≤x
 · have e:zl x y=(x-y,0):=by unfold zl;rw[if_pos h]
   rw[e];exact(jnM x y w h2 h1 h).mono fun _ _ g=>g.ans
 · have e:zl x y=(0,5):=by unfold zl;rw[if_neg h]
   rw[e];exact(jmi x y w h0 h3 (by omega)).mono fun _ _ g=>g.ans
theorem jjh (a a':Option Addr) (len cap len' cap':Nat) (l l':V) (w:World) (hr:jw w a len l) (hr':jw w a' len' l') (hc:len≤cap) (hm:cap≤maxLen) (hc':len'≤cap') (hm':cap'≤maxLen) :
 Calls Tryz.prog 190 #[.slice a len cap,.slice a' len' cap',.func (.func 258) #[] #[]] w (zu (jj zl l l') w.heap.size w):=by
 by_cases h1:jv l=0
 · by_cases h2:jv l'=0
   · have HL:=lH hr.1;have HL':=lH hr'.1;have P1:=lH (X9 h1 hr.2.2.1);have P2:=lH (X9 h2 hr'.2.2.1);have n8:len≤8:=by have:=Z7 h1;rw[hr.1] at this;exact this
     have n8':len'≤8:=by have:=Z7 h2;rw[hr'.1] at this;exact this
     obtain⟨R,hR⟩:=eX (j5 zl (l.length+l'.length) l l' [])
     have HM:=lH (show jj zl l l'=if R.1≠0 then (R.1,[]) else if 8<R.2.length then (4,[]) else (0,R.2) by
      unfold jj;rw[if_neg (by rw[h1];decide),if_neg (by rw[h2];decide)];dsimp only;rw[hR])
     obtain⟨HR,H1,H2,HA,HB⟩:=lH5 hR h1 h2 hr hr';clear hR h1 h2 hr hr';go_enter Tryz.func190,Tryz.ntmps190;go_wp2_with fail
     refine(zY _ _ _ l _ HA.out).mono ?_;rintro e1 w1 ⟨g1,_,k1⟩;obtain rfl:=g1 H1.out;have K1:=lH k1;clear g1 k1;go_wp2_with fail
     refine(zY _ _ _ l' _ (HB.out.kept K1.out)).mono ?_;rintro e2 w2 ⟨g2,_,k2⟩;obtain rfl:=g2 H2.out;have K2:=lH (K1.out.trans k2);clear g2 k2;go_wp2
     go_loopw [0,1,7] (fun va vb v wr=>∃(A B:Option Addr) (n c n' c':Nat) (la lb acc:V) (fuel:Nat),va=.slice A n c∧vb=.slice B n' c'∧n≤c∧c≤maxLen∧n'≤c'∧c'≤maxLen ∧
      jw w A n la∧jw w B n' lb∧Pos la∧Pos lb∧jT 114 wr w.heap.size v acc∧Below w.heap.size w wr∧n+n'≤fuel∧j5 zl fuel la lb acc=R∧acc.length+n+n'≤16)
      (fun va vb _ _=>lenOf va+lenOf vb)
     case atStart =>
      exact⟨a,a',len,cap,len',cap',l,l',[],l.length+l'.length,rfl,rfl,hc,hm,hc',hm',HA.out,HB.out,P1.out,P2.out,jT.nil _ _ _,K2.out,by rw[HL.out,HL'.out];exact Nat.le_refl _,HR.out,by simp;omega⟩
     case round =>
      obtain⟨A,B,n,c,n',c',la,lb,acc,fuel,rfl,rfl,c1,c2,c3,c4,va1,vb1,pa,pb,ho,hB,hfuel,hres,h16⟩:=hrel;obtain⟨VA,VB,PA,PB,HO,Vg,HQ,LA⟩:=lH8 va1 vb1 pa pb ho hB hres va1.1;have LB:=lH vb1.1;clear va1 vb1 pa pb ho hB hres;by_cases hz:n+n'=0
      · obtain rfl:n=0:=by omega
        obtain rfl:n'=0:=by omega
        clear hz;obtain⟨av,cv,rfl,g1,g2,g3⟩:=HO.out.at_;have HE:=lH (show R=(0,acc) from HQ.out.symm.trans (jaS (by rw[LA.out,LB.out])));have hal:acc.length≤9223372036854775807:=by omega
        clear g3 g1 g2;by_cases h8:acc.length≤8
        · have HF:=lH (show jj zl l l'=(0,acc) by rw[HM.out,HE.out];dsimp only;rw[if_neg (by decide),if_neg (by omega)]);go_wp2_with fail
          refine(jbt _ _ _ _ h8).mono ?_;rintro e3 w3 ⟨rfl,rfl⟩;go_wp2;go_ret;exact zu.good (by rw[HF.out]) (by rw[HF.out];exact HO.out) Vg.out
        · have HF:=lH (show jj zl l l'=(4,[]) by rw[HM.out,HE.out];dsimp only;rw[if_neg (by decide),if_pos (by omega)]);go_wp2_with fail
          refine(jcq _ _ _ _ (by omega) hal).mono ?_;rintro e3 w3 ⟨rfl,rfl⟩;go_wp2;exact⟨rfl,zu.bad (by rw[HF.out]) (by decide) Vg.out⟩
      · have hpos:0<n+n':=by omega
        clear hz;obtain⟨HP,HU,HS,T1,T2⟩:=lH5 (show 0<la.length+lb.length by rw[LA.out,LB.out];exact hpos) (show la.length+lb.length≤fuel by rw[LA.out,LB.out];exact hfuel) (jaH PA.out PB.out) (X1 PA.out (jm la lb)) (X1 PB.out (jm la lb));have VC:=lH (jak HP.out);obtain⟨r1,r2,hr⟩:∃r1 r2,zl (jr la (jm la lb)).1 (jr lb (jm la lb)).1=(r1,r2):=⟨_,_,rfl⟩
        have QF:=lH (show ∀W,Calls Tryz.prog 258 #[.int .i64 (jr la (jm la lb)).1,.int .i64 (jr lb (jm la lb)).1] W (Ans r1 r2 W) from fun W=>by
         have:=jnT _ _ W T1.out.1.1 T1.out.1.2 T2.out.1.1 T2.out.1.2;rw[hr] at this;exact this)
        have Uj:=lH hr;have RB:=lH (show 0≤r1∧r1≤9223372036854775807 by have:=jhN (T1.out.1) (T2.out.1);rw[hr] at this;exact this);clear hr;have hd:(decide (0<n)||decide (0<n'))=true:=by simp;omega
        rcases Nat.eq_zero_or_pos n with h0 | h0
        case' inl=>(have d2:decide (0<n')=true:=by simp;omega)
        case' inl=>(subst h0)
        case' inr=>(have d1:decide (0<n)=true:=by simp;omega)
        all_goals
         clear hd;go_wp2_with fail
         refine(jaM _ _ _ _ _ _ la lb _ (VA.out.kept Vg.out) (VB.out.kept Vg.out) (by omega)).mono ?_;rintro e3 w3 ⟨rfl,k3⟩;have K3:=lH k3;clear k3;go_wp2_with fail
         refine(X0 _ _ _ la _ _ ((VA.out.kept Vg.out).kept K3.out) c1 c2).mono ?_;rintro e4 w4 ⟨A4,c4',rfl,q1,q2,V4,k4⟩;have K4:=lH (K3.out.trans k4);have Tz:=lH V4;clear k4 V4;go_wp2_with fail
         refine(X0 _ _ _ lb _ _ ((VB.out.kept Vg.out).kept K4.out) c3 c4).mono ?_;rintro e5 w5 ⟨A5,c5',rfl,q3,q4,V5,k5⟩;have K5:=lH (K4.out.trans k5);have TB:=lH V5;clear k5 V5;go_wp2_with fail
         refine(QF.out _).mono ?_;rintro e6 w6 ⟨rfl,k6⟩;have K6:=lH (K5.out.trans k6);clear k6;by_cases hx:r2=0
         · subst hx;go_wp2_with fail
           refine(jgi _ _).mono ?_;rintro e7 w7 ⟨rfl,rfl⟩;obtain⟨fuel',hf1,hf2⟩:=jcP (f:=zl) (acc:=acc) HP.out HU.out (by rw[Uj.out]);have TC:=lH hf1;have TD:=lH hf2;clear hf1 hf2;have Vh:=lH (show Below w.heap.size w w6 from Vg.out.trans (Below.mono K6.out Vg.out.size));by_cases hy:r1=0
           · subst hy;go_wp2_with fail
             refine(jet _ _ _).mono ?_;rintro e8 w8 ⟨rfl,rfl⟩;go_wp2;go_roundw
             case rel =>
              refine⟨A4,A5,_,c4',_,c5',_,_,acc,fuel',rfl,rfl,q1,q2,q3,q4,Tz.out w VA.out,TB.out w VB.out,T1.out.2,T2.out.2,HO.out.kept K6.out,Vh.out,?_,?_,?_⟩
              · have:=VC.out;have:=HU.out;have:=TC.out;omega
              · have:=TD.out;rw[Uj.out] at this;rw[←HQ.out,this];rfl
              · have:=VC.out;have:=LA.out;have:=LB.out;omega
             case measure=>(show lenOf (Value.slice _ _ _)+lenOf (Value.slice _ _ _)<lenOf (Value.slice _ _ _)+lenOf (Value.slice _ _ _);simp only[lenOf];have:=VC.out;have:=LA.out;have:=LB.out;omega)
           · go_wp2_with fail
             refine(jdY _ _ r1 w.heap.size acc _ (HO.out.kept K6.out) hy HS.out (by have:=RB.out;omega) (by have:=RB.out;omega) (by omega) Vh.out.size).mono ?_;rintro e8 w8 ⟨v8,rfl,o8,b8⟩;obtain⟨O8,B8,HY⟩:=lH3 o8 b8 hy;clear o8 b8 hy;go_wp2;go_roundw
             case rel =>
              refine⟨A4,A5,_,c4',_,c5',_,_,_,fuel',rfl,rfl,q1,q2,q3,q4,Tz.out w VA.out,TB.out w VB.out,T1.out.2,T2.out.2,O8.out,Vh.out.trans B8.out,?_,?_,?_⟩
              · have:=VC.out;have:=HU.out;have:=TC.out;omega
              · have:=TD.out;rw[Uj.out] at this;rw[←HQ.out,this];dsimp only;unfold Yw;rw[if_neg HY.out]
              · have:=VC.out;have:=LA.out;have:=LB.out;rw[List.length_append];simp only[List.length_cons,List.length_nil];omega
             case measure=>(show lenOf (Value.slice _ _ _)+lenOf (Value.slice _ _ _)<lenOf (Value.slice _ _ _)+lenOf (Value.slice _ _ _);simp only[lenOf];have:=VC.out;have:=LA.out;have:=LB.out;omega)
         · have HX:=lH hx;have HE:=lH (show jj zl l l'=(r2,[]) by
            rw[HM.out,←HQ.out,jdU HP.out HU.out (by rw[Uj.out];exact hx),Uj.out];dsimp only;rw[if_pos hx])
           go_wp2_with fail
           refine(jdT _ _ _ hx).mono ?_;rintro e7 w7 ⟨rfl,rfl⟩;clear hx;go_wp2;exact⟨rfl,zu.bad (by rw[HE.out]) HX.out (Vg.out.trans (Below.mono K6.out Vg.out.size))⟩
   · obtain⟨HM,HA,HB,H1,H2⟩:=lH5 (show jj zl l l'=(jv l',[]) by unfold jj;rw[if_neg (by rw[h1];decide),if_pos h2]) hr hr' h1 h2;clear h1 h2 hr hr';go_enter Tryz.func190,Tryz.ntmps190;go_wp2_with fail
     refine(zY _ _ _ l _ HA.out).mono ?_;rintro e1 w1 ⟨g1,_,k1⟩;obtain rfl:=g1 H1.out;have K1:=lH k1;clear g1 k1;go_wp2_with fail
     refine(zY _ _ _ l' _ (HB.out.kept K1.out)).mono ?_;rintro e2 w2 ⟨_,g2,k2⟩;obtain rfl:=g2 H2.out;have K2:=lH (K1.out.trans k2);clear g2 k2;go_wp2;exact⟨rfl,zu.bad (by rw[HM.out]) H2.out K2.out⟩
 · obtain⟨HM,HA,H1⟩:=lH3 (show jj zl l l'=(jv l,[]) by unfold jj;rw[if_pos h1]) hr h1;clear h1 hr hr';go_enter Tryz.func190,Tryz.ntmps190;go_wp2_with fail
   refine(zY _ _ _ l _ HA.out).mono ?_;rintro e1 w1 ⟨_,g1,k1⟩;obtain rfl:=g1 H1.out;have K1:=lH k1;clear g1 k1;go_wp2;exact⟨rfl,zu.bad (by rw[HM.out]) H1.out K1.out⟩
theorem jic (C:Addr×Addr) (r:Int×V) (w:World) (hr:r.1≠0→r.2=[])
 (hk:∀W,Kept w W→Calls Tryz.prog 257 #[.pointer (some C.1),.pointer (some C.2)] W (zu r W.heap.size W)) :
 Calls Tryz.prog 188 #[.func (.func 257) #[] #[.pointer (some C.1),.pointer (some C.2)]] w (Y2 r w):=by
 have hmf:=hmfL (P:=Tryz.prog);have HK:=lH hk;have HR:=lH hr;clear hk hr;obtain⟨r1,r2⟩:=r;go_enter_defers Tryz.func188,Tryz.ntmps188
 go_wp2_with fail
 refine(HK.out _ (ja _ _)).mono ?_;rintro e1 w1 ⟨h0,h1,hb⟩;have k1:=hb.size;simp only[World.size_alloc] at k1;have c2:=(hb.cell (p:=⟨w.heap.size,0,none⟩) (by simp))
 have z2:=(hb.frozen (p:=⟨w.heap.size,0,none⟩) (by simp))
 have e2':w1.cell? ⟨w.heap.size,0,none⟩=some (.int .i64 0):=by rw[c2];go_simp
 have y2:w1.frozen? ⟨w.heap.size,0,none⟩=false:=by rw[z2];go_simp
 clear c2 z2;have KB:=lH (show Below w.heap.size w w1 from(ja w _).trans hb);by_cases hx:r1=0
 · subst hx;obtain⟨v,rfl,ho⟩:=h0 rfl;have HO:=lH ho;obtain⟨av,cv,rfl,_,_,_⟩:=ho.at_;have hsz:=World.size_alloc w (.cells #[.int .i64 0] 69);clear h0 h1 hb ho;go_wp2_with fail
   refine leaves_cons (f:=218) (args:=#[.pointer (some ⟨w.heap.size,0,none⟩)]) (by simp) (by simp[go_sem]) ?_;refine(Yp ⟨w.heap.size,0,none⟩ _).mono ?_;rintro e u' w'' ⟨rfl,rfl,rfl⟩;simp[Leaves,settle,results,Tryz.results188,go_sem,e2'];exact⟨_,rfl,(HO.out.setCell_below (a:=⟨w.heap.size,0,none⟩) (by simp) _).base_le (by simp),KB.out.setCell (p:=⟨w.heap.size,0,none⟩) (Nat.le_refl _) _⟩
 · obtain rfl:=h1 hx;obtain rfl:=HR.out hx;clear h0 h1 hb;go_wp2_with fail
   refine leaves_cons (f:=218) (args:=#[.pointer (some ⟨w.heap.size,0,none⟩)]) (by simp) (by simp[go_sem]) ?_;refine(J7 w.heap.size w.heap.size r1 0 _ e2' y2 (by omega)).mono ?_;rintro e u' w'' ⟨rfl,rfl,q2,q3⟩;simp[Leaves,settle,results,Tryz.results188,go_sem,q2];exact⟨_,rfl,jT.nil _ _ _,KB.out.trans q3⟩
theorem jgL (C:Addr×Addr) (a a':Option Addr) (len cap len' cap':Nat) (l l':V) (w:World) (h1:w.cell? C.1=some (.slice a len cap)) (h2:w.cell? C.2=some (.slice a' len' cap'))
 (hr:jw w a len l) (hr':jw w a' len' l') (hc:len≤cap) (hm:cap≤maxLen) (hc':len'≤cap') (hm':cap'≤maxLen) :
 Calls Tryz.prog 257 #[.pointer (some C.1),.pointer (some C.2)] w (zu (jj zl l l') w.heap.size w):=by
 have HR:=lH hr;have HR':=lH hr';have HM:=lH hm;have HM':=lH hm';clear hr hr' hm hm';go_enter Tryz.func257,Tryz.ntmps257;go_wp2_with fail
 refine(jjh a a' len cap len' cap' l l' _ HR.out HR'.out hc HM.out hc' HM'.out).mono ?_;rintro e w' ⟨g0,g1,k⟩;by_cases hx:(jj zl l l').1=0
 · obtain⟨v,rfl,ho⟩:=g0 hx;obtain⟨HX,HO,HK⟩:=lH3 hx ho k;clear g0 g1 hx ho k;go_wp2;go_ret;exact zu.good HX.out HO.out HK.out
 · obtain rfl:=g1 hx;have HX:=lH hx;have HK:=lH k;clear g0 g1 hx k;go_wp2;exact⟨rfl,zu.bad rfl HX.out HK.out⟩
theorem XY (l l':V):(jj zl l l').1≠0→(jj zl l l').2=[]:=by
 unfold jj;split
 · exact fun _=>rfl
 · split
   · exact fun _=>rfl
   · dsimp only;split
     · exact fun _=>rfl
     · split
       · exact fun _=>rfl
       · exact fun h=>absurd rfl h
theorem jnk (a a':Option Addr) (len cap len' cap':Nat) (l l':V) (w:World)
 (hr:jw w a len l) (hr':jw w a' len' l') (hc:len≤cap) (hm:cap≤maxLen) (hc':len'≤cap') (hm':cap'≤maxLen) :
 Calls Tryz.prog 230 #[.slice a len cap,.slice a' len' cap'] w (Y2 (jj zl l l') w):=by
 have hmf:=hmfL (P:=Tryz.prog);have hC:∀W,Kept ((w.alloc (.cells #[.slice a len cap] 45)).alloc (.cells #[.slice a' len' cap'] 45)) W→Calls Tryz.prog 257 #[.pointer (some ⟨w.heap.size,0,none⟩),.pointer (some ⟨w.heap.size+1,0,none⟩)] W (zu (jj zl l l') W.heap.size W):=by
  intro W k;have c1:=k.cell (p:=⟨w.heap.size,0,none⟩) (by simp;omega);have c2:=k.cell (p:=⟨w.heap.size+1,0,none⟩) (by simp);exact jgL (⟨w.heap.size,0,none⟩,⟨w.heap.size+1,0,none⟩) a a' len cap len' cap' l l' W (by rw[c1];go_simp) (by rw[c2];go_simp) (hr.kept ((jn w _ _).trans k)) (hr'.kept ((jn w _ _).trans k)) hc hm hc' hm'
 have HC:=lH hC;clear hC hr hr' hm hm';go_enter Tryz.func230,Tryz.ntmps230;go_wp2_with fail
 refine(jic (⟨w.heap.size,0,none⟩,⟨w.heap.size+1,0,none⟩) (jj zl l l') _ (XY l l') HC.out).mono ?_;rintro e w' ⟨v,rfl,ho,k⟩;have HO:=lH ho;have HK:=lH k;clear ho k;go_wp2;go_ret2
 exact⟨v,rfl,HO.out.base_le (by simp;omega),(jn w _ _).trans HK.out⟩
end Go.Proofs.YtibepooajeakfaaGreat.Vec
namespace Go.Proofs.YtibepooajeakfaaGreat
open Go.RowKit
theorem zB {α:Type} {l:List α} {k:Nat} (h:¬k<l.length):l.drop k=[]:=List.drop_of_length_le (by omega)
theorem all_cons {α:Type} (f:α→Bool) (x:α) (t:List α):(x::t).all f=(f x&&t.all f):=rfl
theorem zI {α:Type} {l:List α} {k:Nat} {x:α} (h:l[k]?=some x):l.take (k+1)=l.take k++[x]:=by rw[List.take_add_one,h];rfl
theorem Own.snoc {α:Type} {L:Lay α} {e:TypeId} {w:World} {base n:Nat} {v:Value} {l:List α} {x:α} (h:w.ownsRow base e L.m v n (je L l++L.cs x)) (hn:l.length+1=n) (hf:∀z ∈ l,L.fine z) (hx:L.fine x):Own L e w base v (l++[x]):=by
 refine⟨?_,fun z hz=>?_⟩
 · rw[List.length_append,JF];show w.ownsRow base e L.m v (l.length+1) (je L l++je L [x]);rw[hn];have e:je L [x]=L.cs x:=by unfold je;simp
   rw[e];exact h
 · rcases List.mem_append.1 hz with g | g
   · exact hf z g
   · have:z=x:=by simpa using g
     rw[this];exact hx
def Say (v:Value) (w:World) (e:Ending) (w':World):Prop:=e=.returned v∧Kept w w'
theorem Reads.nil {α:Type} {L:Lay α} (w:World):Reads L w (.slice none 0 0) []:=⟨none,0,rfl,Nat.le_refl _,by decide,jk.nil w none⟩
theorem Reads.fine {α:Type} {L:Lay α} {v:Value} {l:List α} {w:World} (h:Reads L w v l):∀x ∈ l,L.fine x:=by
 obtain⟨a,cap,rfl,h1,h2,h3⟩:=h;exact h3.2.2.1
theorem jk.part {α:Type} {L:Lay α} {w:World} {b off len:Nat} {l:List α} (h:jk L w (some ⟨b,off,none⟩) len l) (i n:Nat) (hi:i+n≤len) :
 jk L w (some ⟨b,off+i*L.m,none⟩) n ((l.drop i).take n):=by
 obtain⟨h0,h1,h2,h3⟩:=h;refine⟨by rw[List.length_take,List.length_drop];omega,by omega,fun x hx=>h2 x (List.mem_of_mem_drop (List.mem_of_mem_take hx)),?_⟩;rcases h3 with h3 | ⟨b',off',e,hb,hc⟩
 · exact .inl (by omega)
 · injection e with e;injection e with e1 e2 e3;subst e1;subst e2;refine .inr ⟨b,_,rfl,hb,fun k x j u hk hj=>?_⟩;have hkn:k<n:=by have:=(List.getElem?_eq_some_iff.1 hk).1;rw[List.length_take] at this;omega
   have hk':l[i+k]?=some x:=by
    rw[List.getElem?_take,if_pos hkn,List.getElem?_drop] at hk;exact hk
   have:=hc (i+k) x j u hk' hj;rw[show off+i*L.m+k*L.m+j=off+(i+k)*L.m+j by rw[Nat.add_mul];omega];exact this
open Go.RowKit Go.Shelf
def bytes (l:List UInt8):ByteArray:=⟨l.toArray⟩
theorem JQ {w w':World} (h:Kept w w') {a:Addr} (ha:w.heap.size≤a.block) (v:Value):Kept w (w'.setCell a v):=Below.setCell h ha v
attribute [local go_sem] Oper.semAt_some
structure St (b2 D:Nat) (W W':World):Prop where
 os:W'.os=W.os
 tape:W'.tape=W.tape
 output:W'.output=W.output
 size:W.heap.size≤W'.heap.size
 block:∀b,b≠b2→b≠D→b≠D+1→W'.heap[b]?=W.heap[b]?
theorem St.setCell {b2 D:Nat} (W:World) (v:Value):St b2 D W (W.setCell ⟨b2,0,none⟩ v) :=
 ⟨rfl,rfl,rfl,by show W.heap.size≤(W.heap.modify _ _).size;rw[Array.size_modify];exact Nat.le_refl _,fun b h _ _=>Below.heap_setCell W ⟨b2,0,none⟩ v b h⟩
theorem St.drewN {b2 D:Nat} (W:World) (n:Nat):St b2 D W (W.drewN n):=⟨rfl,rfl,rfl,Nat.le_refl _,fun _ _ _ _=>rfl⟩
theorem St.put {b2 D:Nat} (W:World) (o:Obj):St b2 D W (W.putObj (D+1) o):=⟨rfl,rfl,rfl,by simp,fun b _ _ h=>World.putObj_heap_other h⟩
def KeptAt (b1 b2 b3 D:Nat) (W W':World):Prop:=∀b,b=b1∨b=b2∨b=b3∨b=D∨b=D+1→W'.heap[b]?=W.heap[b]?
theorem KeptAt.trans {b1 b2 b3 D:Nat} {A B C:World} (h:KeptAt b1 b2 b3 D A B) (k:KeptAt b1 b2 b3 D B C):KeptAt b1 b2 b3 D A C:=fun b hb=>(k b hb).trans (h b hb)
theorem KeptAt.drewN {b1 b2 b3 D:Nat} (W:World) (n:Nat):KeptAt b1 b2 b3 D W (W.drewN n):=fun _ _=>rfl
end Go.Proofs.YtibepooajeakfaaGreat
namespace Go.Proofs.YtibepooajeakfaaGreat
open Go.RowKit Go.Shelf
attribute [local go_sem] Oper.semAt_some
theorem Own.row {α:Type} {L:Lay α} {e:TypeId} {w:World} {B n:Nat} {v:Value} {l:List α} (h:Own L e w B v l) (hn:l.length=n):w.ownsRow B e L.m v n (je L l):=hn▸h.1
def jcR {α:Type} (L:Lay α) (e:TypeId) (r:Int×List α) (base:Nat) (w:World) (en:Ending) (w':World):Prop :=
 (r.1=0→∃v,en=.returned v∧Own L e w' base v r.2)∧(r.1≠0→en=.panicked [zw r.1])∧Below base w w'
theorem jcR.good {α:Type} {L:Lay α} {e:TypeId} {r:Int×List α} {base:Nat} {w w':World} {v:Value} (h:r.1=0) (ho:Own L e w' base v r.2) (hb:Below base w w'):jcR L e r base w (.returned v) w':=⟨fun _=>⟨v,rfl,ho⟩,fun g=>absurd h g,hb⟩
theorem jcR.bad {α:Type} {L:Lay α} {e:TypeId} {r:Int×List α} {base:Nat} {w w':World} {c:Int} (h:r.1=c) (hc:c≠0) (hb:Below base w w'):jcR L e r base w (.panicked [zw c]) w':=⟨fun g=>absurd (h.symm.trans g) hc,fun _=>by rw[h],hb⟩
end Go.Proofs.YtibepooajeakfaaGreat
namespace Go.Proofs.YtibepooajeakfaaGreat.Vec
open Go.RowKit
def nameOf (p:List UInt8):List UInt8:=(Lib.cut p [61]).1
def jjY (p:List UInt8):List UInt8:=(Lib.cut p [61]).2.1
end Go.Proofs.YtibepooajeakfaaGreat.Vec
namespace Go.Proofs.YtibepooajeakfaaGreat.Vec
open Go.RowKit Go.Shelf
attribute [local go_sem] Oper.semAt_some
theorem jT.put {e:TypeId} {w:World} {B D:Nat} {v:Value} {l:V} (h:jT e w B v l) (hD:D<B) (o:Obj):jT e (w.putObj D o) B v l:=by
 obtain⟨⟨h0,h1⟩,hf⟩:=h;refine⟨⟨h0,h1.imp id ?_⟩,hf⟩;rintro ⟨g,cap,cur,rfl,hbg,hg,rest⟩;exact⟨g,cap,cur,rfl,hbg,(World.putObj_heap_other (by omega)).trans hg,rest⟩
theorem jT.row {e:TypeId} {w:World} {B n:Nat} {v:Value} {l:V} (h:jT e w B v l) (hn:l.length=n):w.ownsRow B e 2 v n (cellsOf l):=hn▸h.1
end Go.Proofs.YtibepooajeakfaaGreat.Vec
namespace Go.Proofs.YtibepooajeakfaaGreat.Vec
open Go.RowKit
theorem jge (C:Addr) (a:Option Addr) (len cap:Nat) (l:V) (w:World)
 (hk:∀W,Kept w W→Calls Tryz.prog 210 #[.pointer (some C)] W (Chk l (.slice a len cap) W)) :
 Calls Tryz.prog 188 #[.func (.func 210) #[] #[.pointer (some C)]] w (fun e w'=>∃v,e=.returned (.tuple #[v,.int .i64 (jv l)])∧Kept w w'):=by
 have hmf:=hmfL (P:=Tryz.prog);have HK:=lH hk;clear hk;obtain⟨r1,hr1⟩:=eX (jv l)
 rw[hr1];have Nk:=lH hr1;clear hr1;go_enter_defers Tryz.func188,Tryz.ntmps188
 go_wp2_with fail
 refine(HK.out _ (ja _ _)).mono ?_;rintro e1 w1 ⟨h0,h1,hb⟩;have k1:=hb.size;simp only[World.size_alloc] at k1;have c2:=(hb.cell (p:=⟨w.heap.size,0,none⟩) (by simp))
 have z2:=(hb.frozen (p:=⟨w.heap.size,0,none⟩) (by simp))
 have e2':w1.cell? ⟨w.heap.size,0,none⟩=some (.int .i64 0):=by rw[c2];go_simp
 have y2:w1.frozen? ⟨w.heap.size,0,none⟩=false:=by rw[z2];go_simp
 clear c2 z2;have KB:=lH (show Below w.heap.size w w1 from(ja w _).trans hb);rw[Nk.out] at h0 h1;by_cases hx:r1=0
 · subst hx;obtain rfl:=h0 rfl;have hsz:=World.size_alloc w (.cells #[.int .i64 0] 69);clear h0 h1 hb;go_wp2_with fail
   refine leaves_cons (f:=218) (args:=#[.pointer (some ⟨w.heap.size,0,none⟩)]) (by simp) (by simp[go_sem]) ?_;refine(Yp ⟨w.heap.size,0,none⟩ _).mono ?_;rintro e u' w'' ⟨rfl,rfl,rfl⟩;simp[Leaves,settle,results,Tryz.results188,go_sem,e2'];exact KB.out.setCell (p:=⟨w.heap.size,0,none⟩) (Nat.le_refl _) _
 · obtain rfl:=h1 hx;clear h0 h1 hb;go_wp2_with fail
   refine leaves_cons (f:=218) (args:=#[.pointer (some ⟨w.heap.size,0,none⟩)]) (by simp) (by simp[go_sem]) ?_;refine(J7 w.heap.size w.heap.size r1 0 _ e2' y2 (by omega)).mono ?_;rintro e u' w'' ⟨rfl,rfl,q2,q3⟩;simp[Leaves,settle,results,Tryz.results188,go_sem,q2];exact KB.out.trans q3
theorem jew (C:Addr) (a:Option Addr) (len cap:Nat) (l:V) (w:World) (h1:w.cell? C=some (.slice a len cap)) (hr:jw w a len l) :
 Calls Tryz.prog 210 #[.pointer (some C)] w (Chk l (.slice a len cap) w):=by
 have HR:=lH hr;clear hr;go_enter Tryz.func210,Tryz.ntmps210;go_wp2_with fail
 refine(zY a len cap l _ HR.out).mono ?_;rintro e w' ⟨g0,g1,k⟩;by_cases hx:jv l=0
 · obtain rfl:=g0 hx;have HX:=lH hx;have HK:=lH k;clear g0 g1 hx k;go_wp2;go_ret;exact Chk.good HX.out HK.out
 · obtain rfl:=g1 hx;have HX:=lH hx;have HK:=lH k;clear g0 g1 hx k;go_wp2;exact⟨rfl,Chk.bad rfl HX.out HK.out⟩
theorem ja6 (a:Option Addr) (len cap:Nat) (l:V) (w:World) (hr:jw w a len l) :
 Calls Tryz.prog 175 #[.slice a len cap] w fun e w'=>e=.returned (.int .i64 (jv l))∧Kept w w':=by
 have hmf:=hmfL (P:=Tryz.prog);have hC:∀W,Kept (w.alloc (.cells #[.slice a len cap] 45)) W→Calls Tryz.prog 210 #[.pointer (some ⟨w.heap.size,0,none⟩)] W (Chk l (.slice a len cap) W):=by
  intro W k;have c1:=k.cell (p:=⟨w.heap.size,0,none⟩) (by simp);exact jew ⟨w.heap.size,0,none⟩ a len cap l W (by rw[c1];go_simp) (hr.kept ((ja w _).trans k))
 have HC:=lH hC;clear hC hr;go_enter Tryz.func175,Tryz.ntmps175;go_wp2_with fail
 refine(jge ⟨w.heap.size,0,none⟩ a len cap l _ HC.out).mono ?_;rintro e w' ⟨v,rfl,k⟩;have HK:=lH k;clear k;go_wp2;go_ret;exact⟨rfl,(ja w _).trans HK.out⟩
open Go.RowKit Go.Shelf
def jda (b:Nat) (w w':World):Prop:=∀g cs fr,g≠b→w.heap[g]?=some (.cells cs 114 fr)→w'.heap[g]?=w.heap[g]?
theorem jda.trans {b:Nat} {x y z:World} (h:jda b x y) (k:jda b y z):jda b x z:=fun g cs fr hg hc=>(k g cs fr hg ((h g cs fr hg hc).trans hc)).trans (h g cs fr hg hc)
theorem Reads.nil (w:World):Reads w (.slice none 0 0) []:=⟨none,0,rfl,Nat.le_refl _,by decide,jw.nil w⟩
theorem ja7 {v:Value} {l:V} {c:Int} {w:World} (h:Reads w v l) (e:jv l=c) :
 Calls Tryz.prog 175 #[v] w fun x w'=>x=.returned (.int .i64 c)∧Kept w w':=by
 subst e;obtain⟨a,cap,rfl,h1,h2,h3⟩:=h;exact ja6 a _ cap l w h3
theorem Zx {v:Value} {l:V} {c:Int} {w:World} (h:Reads w v l) (e:jv l=c) :
 Calls Tryz.prog 159 #[v] w fun x w'=>x=.returned (.int .i64 c)∧Kept w w':=by
 subst e;obtain⟨a,cap,rfl,h1,h2,h3⟩:=h;exact YS a _ cap l w h3
theorem jfm {v:Value} {l:V} {n:ByteArray} {c:Int} {w:World} (h:Reads w v l) (e:jh l n=c) :
 Calls Tryz.prog 147 #[v,.string n] w fun x w'=>x=.returned (.int .i64 c)∧Kept w w':=by
 subst e;obtain⟨a,cap,rfl,h1,h2,h3⟩:=h;exact XD a _ cap l n w h3
theorem Yi {v v':Value} {l l':V} {c:Bool} {w:World} (h:Reads w v l) (h':Reads w v' l') (e:jY l l'=c) :
 Calls Tryz.prog 98 #[v,v'] w fun x w'=>x=.returned (.bool c)∧Kept w w':=by
 subst e;obtain⟨a,cap,rfl,h1,h2,h3⟩:=h;obtain⟨a',cap',rfl,h1',h2',h3'⟩:=h';exact jms a a' _ cap _ cap' l l' w h3 h3'
theorem jh6 {v v':Value} {l l':V} {c:Bool} {w:World} (h:Reads w v l) (h':Reads w v' l') (e:jB l' l=c) :
 Calls Tryz.prog 95 #[v,v'] w fun x w'=>x=.returned (.bool c)∧Kept w w':=by
 subst e;obtain⟨a,cap,rfl,h1,h2,h3⟩:=h;obtain⟨a',cap',rfl,h1',h2',h3'⟩:=h';exact jb6 a a' _ cap _ cap' l l' w h3 h3'
theorem jaf {n:ByteArray} {c:Bool} {w:World} (h:n.size≤maxLen) (e:isName n=c) :
 Calls Tryz.prog 174 #[.string n] w fun x w'=>x=.returned (.bool c)∧w=w':=by
 subst e;exact zg n w h
theorem jfi {v:Value} {l:V} {c:Bool} {w:World} (h:Reads w v l) (e:YR l=c) :
 Calls Tryz.prog 108 #[v] w fun x w'=>x=.returned (.bool c)∧w=w':=by
 subst e;obtain⟨a,cap,rfl,h1,h2,h3⟩:=h;exact jdJ a _ cap l w h3
def cpu:ByteArray:=⟨#[99,112,117]⟩
def mem:ByteArray:=⟨#[109,101,109]⟩
def kA:V:=[(cpu,100),(mem,5)]
theorem jhG:(Tryz.prog.info? 138).map (fun i=>(i.zero,i.size,i.bytes))=some (some (.agg #[.string ByteArray.empty,.int .i64 0]),2,24):=by kernel_rfl
theorem jdZ {l:V} {k:Nat} (h:k<l.length):l.take (k+1)=l.take k++[(nm l k,qn l k)]:=by
 rw[List.take_add_one];congr 1;have:l.getD k (ByteArray.empty,0)=l[k]:=by simp[List.getD,h]
 have e:(nm l k,qn l k)=l[k]:=by simp only[nm,qn,this]
 rw[e];simp[h]
theorem jfN (a:Option Addr) (len cap:Nat) (l:V) (w:World) (hr:jw w a len l) (hlen:len≤1000000) :
 Calls Tryz.prog 35 #[.slice a len cap] w (fun e w'=>∃x,e=.returned x∧jT 138 w' w.heap.size x l∧Kept w w'):=by
 have hl:=hr.1;obtain⟨i0,hi,hz0,hz1,hz2⟩:=info_parts jhG;rcases hr.form with h0 | ⟨b,off,rfl⟩
 · subst h0;have hl0:l=[]:=List.eq_nil_of_length_eq_zero hl;subst hl0;clear hr hl hi hz0 hz1 hz2;go_enter Tryz.func35,Tryz.ntmps35;go_wp2;refine wp_loop_rounds 1 ?_;rw[rounds_succ];go_wp2;go_ret;exact⟨_,rfl,jT.nil _ _ _,Kept.refl _⟩
 · obtain⟨HR,HL,HF⟩:=lH3 hr hl hr.2.2.1;clear hr hl;go_enter Tryz.func35,Tryz.ntmps35;go_wp2;go_loopw [3,4] (fun v i wr=>∃k:Nat,k≤len∧i=.int .i64 k∧jT 138 wr w.heap.size v (l.take k)∧Below w.heap.size w wr) (fun _ i _=>len-(intOf i).toNat)
   case atStart=>exact⟨0,Nat.zero_le _,rfl,jT.nil _ _ _,Below.refl _ _⟩
   case round =>
    obtain⟨k,hk,rfl,ho,hB⟩:=hrel;obtain⟨HO,HB,HT⟩:=lH3 ho hB (show (l.take k).length=k by rw[List.length_take,HL.out];omega);have Vk:=lH (show wr.ownsRow w.heap.size 138 2 u3 k (cellsOf (l.take k)) by have:=HO.out.1;rw[HT.out] at this;exact this);by_cases hlt:k<len
    · obtain⟨hb,c1,c2⟩:=(HR.out.kept hB).cells hlt;have HI:=lH (show k<l.length by rw[HL.out];exact hlt);have hbw:b<w.heap.size:=(HR.out.cells hlt).1;have hbase:w.heap.size≤wr.heap.size:=hB.size;have V0:=lH (show u3.ownBlock≠some b by
       intro e;have:=(Vk.out.lt b e).1;omega)
      have VL:=lH (show w.heap.size≤(wr.alloc (.cells #[.string (nm l k),.int .i64 (qn l k)] 138)).drew.heap.size by simp;omega);have UJ:=lH (show Below w.heap.size w ((wr.alloc (.cells #[.string (nm l k),.int .i64 (qn l k)] 138)).drew) from HB.out.trans (Below.mono ((ja wr _).trans (Kept.drewN _ 1)) hbase));have hk1:(k:Int)<(len:Int):=by omega
      have Ur:=lH (HF.out k HI.out);clear ho hB;go_wp2_with fail
      go_region_held3 (fun W=>W.cell? ⟨b,off+k*2,none⟩=some (.string (nm l k))∧W.cell? ⟨b,off+k*2+1,none⟩=some (.int .i64 (qn l k)))
       (first
         | go_keep
         | (go_split_ands
            refine⟨?_,?_⟩
            · (refine(hgrow.cell_far ⟨b,off+k*2,none⟩ (by simp;omega) (Ne.symm V0.out)).trans ?_;assumption)
            · (refine(hgrow.cell_far ⟨b,off+k*2+1,none⟩ (by simp;omega) (Ne.symm V0.out)).trans ?_;assumption)))
       ((refine step_append_lies _ (by rfl) _ _ _ (by rfl) w.heap.size 138 i0 _ 2 24 Tryz.underlying37 hi hz0 hz1 hz2 rfl (by decide) u3 k (cellsOf (l.take k)) (by rfl) ((Vk.out.alloc _).drew)
          ⟨wr.heap.size,0,none⟩ 1 1 [.string (nm l k),.int .i64 (qn l k)] (by rfl) (by rfl) (World.news_of_block (cs:=#[.string (nm l k),.int .i64 (qn l k)]) (t:=138) (fr:=(0,0)) (heap_alloc_new wr _)) (Yn [(nm l k,qn l k)])
          (by decide) (by unfold maxLen;omega) (by omega) (by simp;omega) (wr.heap.size+1) (by simp) ?_;intro gg cap1 w1 hown1 hgrow hat hlt1))
      all_goals
       go_wp2;go_roundw
       case rel=>exact⟨k+1,by omega,by go_num,⟨by rw[jdZ HI.out,Z9,List.length_append,HT.out];exact hown1,by rw[jdZ HI.out];exact HO.out.2.snoc Ur.out.1 Ur.out.2.1 Ur.out.2.2⟩,UJ.out.grown hgrow VL.out (fun j hj=>(Vk.out.lt j hj).1)⟩
       case measure=>simp[intOf];omega
    · have HK:=lH (show l.take k=l by rw[List.take_of_length_le (by rw[HL.out];omega)]);clear ho hB;go_wp2;go_ret;exact⟨_,rfl,by have h:=HO.out;rw[HK.out] at h;exact h,HB.out⟩
theorem jbR:∀s:List UInt8,Op.bytesLess s s=false
 | []=>rfl
 | a::s=>by
  have:¬a<a:=UInt8.lt_irrefl a;simp[Op.bytesLess,jbR s,this]
theorem jc4:∀{a b c:List UInt8},Op.bytesLess a b=true→Op.bytesLess b c=true→Op.bytesLess a c=true
 | _,_,[],_,h=>by simp[Op.bytesLess] at h
 | [],_,_::_,_,_=>by simp[Op.bytesLess]
 | x::a,[],z::c,h,_=>by simp[Op.bytesLess] at h
 | x::a,y::b,z::c,h,g=>by
  simp only[Op.bytesLess,Bool.or_eq_true,Bool.and_eq_true,decide_eq_true_eq,beq_iff_eq] at h g ⊢;rcases h with h | ⟨rfl,h⟩
  · rcases g with g | ⟨rfl,g⟩
    · exact .inl (UInt8.lt_trans h g)
    · exact .inl h
  · rcases g with g | ⟨rfl,g⟩
    · exact .inl g
    · exact .inr ⟨rfl,jc4 h g⟩
theorem jfx:∀{a b:List UInt8},Op.bytesLess a b=false→Op.bytesLess b a=false→a=b
 | [],[],_,_=>rfl
 | [],_::_,h,_=>by simp[Op.bytesLess] at h
 | _::_,[],_,h=>by simp[Op.bytesLess] at h
 | x::a,y::b,h,g=>by
  simp only[Op.bytesLess,Bool.or_eq_false_iff,decide_eq_false_iff_not,Bool.and_eq_false_iff,beq_eq_false_iff_ne] at h g;have e:x=y:=by
   have h1:=UInt8.not_lt.1 h.1;have h2:=UInt8.not_lt.1 g.1;exact UInt8.le_antisymm h2 h1
  subst e;have h2:=h.2.resolve_left (by simp);have g2:=g.2.resolve_left (by simp);rw[jfx h2 g2]
theorem jiT (s t:ByteArray):ltS s t=Op.bytesLess s.data.toList t.data.toList:=by unfold ltS;rw[Lib.toList_data,Lib.toList_data]
theorem jR {s t:ByteArray}:eqS s t=true↔s=t:=by
 unfold eqS;rw[Lib.toList_data,Lib.toList_data,beq_iff_eq];exact⟨fun h=>Go.WideShapes.bytes_inj h,fun h=>by rw[h]⟩
theorem YO (s:ByteArray):ltS s s=false:=by rw[jiT];exact jbR _
theorem Jb {s t u:ByteArray} (h:ltS s t=true) (g:ltS t u=true):ltS s u=true:=by
 rw[jiT] at *;exact jc4 h g
theorem Xa {s t:ByteArray} (h:ltS s t=false) (g:ltS t s=false):s=t:=by
 rw[jiT] at *;exact Go.WideShapes.bytes_inj (jfx h g)
theorem Yc {s t:ByteArray} (h:ltS s t=true):s≠t:=by rintro rfl;rw[YO] at h;cases h
theorem jaN {s t:ByteArray} (h:ltS s t=true) (g:ltS t s=true):False:=Yc (Jb h g) rfl
def Gd (l:V):Prop:=(∀x ∈ l,isName x.1=true∧0<x.2∧x.2≤9223372036854775807)∧l.Pairwise (fun x y=>ltS x.1 y.1=true)
theorem Gd.nil:Gd []:=⟨fun x hx=>absurd hx (by simp),.nil⟩
theorem Gd.cons {x:ByteArray×Int} {t:V}:Gd (x::t)↔(isName x.1=true∧0<x.2∧x.2≤9223372036854775807)∧(∀y ∈ t,ltS x.1 y.1=true)∧Gd t:=by
 unfold Gd;rw[List.pairwise_cons,List.forall_mem_cons];constructor
 · rintro ⟨⟨a,b⟩,c,d⟩;exact⟨a,c,b,d⟩
 · rintro ⟨a,c,b,d⟩;exact⟨⟨a,b⟩,c,d⟩
theorem Jt (x:ByteArray×Int) (t:V):jh (x::t) x.1=x.2:=by rw[jh,if_pos (jR.2 rfl)]
theorem Jy {x:ByteArray×Int} {n:ByteArray} (t:V) (h:x.1≠n):jh (x::t) n=jh t n:=by rw[jh,if_neg (fun e=>h (jR.1 e))]
theorem XO:∀{l:V} {n:ByteArray},(∀y ∈ l,y.1≠n)→jh l n=0
 | [],_,_=>rfl
 | x::t,n,h=>by rw[Jy t (h x (by simp))];exact XO fun y hy=>h y (by simp[hy])
theorem get_mem:∀{l:V} {n:ByteArray},jh l n≠0→∃y ∈ l,y.1=n
 | [],_,h=>absurd rfl h
 | x::t,n,h=>by
  by_cases e:x.1=n
  · exact⟨x,by simp,e⟩
  · rw[Jy t e] at h;obtain⟨y,hy,hn⟩:=get_mem h;exact⟨y,by simp[hy],hn⟩
theorem JA:∀{l:V} (n:ByteArray),Gd l→0≤jh l n∧jh l n≤9223372036854775807
 | [],_,_=>⟨Int.le_refl _,(by decide:(0:Int)≤9223372036854775807)⟩
 | x::t,n,h=>by
  have h':=Gd.cons.1 h;by_cases e:x.1=n
  · subst e;rw[Jt];omega
  · rw[Jy t e];exact JA n h'.2.2
theorem jcu:∀{l:V} {x:ByteArray×Int},Gd l→x ∈ l→jh l x.1=x.2
 | [],_,_,h=>absurd h (by simp)
 | y::t,x,h,hx=>by
  have h':=Gd.cons.1 h;rcases List.mem_cons.1 hx with rfl | hx
  · exact Jt _ _
  · rw[Jy t (Yc (h'.2.1 x hx))];exact jcu h'.2.2 hx
theorem Zh {l:V} {n:ByteArray} (h:∀y ∈ l,ltS n y.1=true):jh l n=0:=XO fun y hy=>(Yc (h y hy)).symm
theorem Gd.ext:∀{a b:V},Gd a→Gd b→(∀n,jh a n=jh b n)→a=b
 | [],[],_,_,_=>rfl
 | [],y::t,_,hb,h=>by
  have:=h y.1;rw[Jt] at this;have:=(Gd.cons.1 hb).1;rw[show jh [] y.1=0 from rfl] at *;omega
 | x::s,[],ha,_,h=>by
  have:=h x.1;rw[Jt] at this;have:=(Gd.cons.1 ha).1;rw[show jh [] x.1=0 from rfl] at *;omega
 | x::s,y::t,ha,hb,h=>by
  have ha':=Gd.cons.1 ha;have hb':=Gd.cons.1 hb;have e1:ltS x.1 y.1=false:=by
   cases e:ltS x.1 y.1 with
   | false=>rfl
   | true =>
    have hx:=h x.1;rw[Jt,Zh (l:=y::t) (fun z hz=>by
     rcases List.mem_cons.1 hz with rfl | hz
     · exact e
     · exact Jb e (hb'.2.1 z hz))] at hx
    omega
  have e2:ltS y.1 x.1=false:=by
   cases e:ltS y.1 x.1 with
   | false=>rfl
   | true =>
    have hx:=h y.1;rw[Jt,Zh (l:=x::s) (fun z hz=>by
     rcases List.mem_cons.1 hz with rfl | hz
     · exact e
     · exact Jb e (ha'.2.1 z hz))] at hx
    omega
  have e:=Xa e1 e2;have hv:x.2=y.2:=by have:=h x.1;rw[Jt,e,Jt] at this;exact this
  have ht:s=t:=Gd.ext ha'.2.2 hb'.2.2 fun n=>by
   by_cases en:x.1=n
   · rw[Zh (fun z hz=>en▸ha'.2.1 z hz),Zh (fun z hz=>en▸e▸hb'.2.1 z hz)]
   · have:=h n;rw[Jy s en,Jy t (by rw[←e];exact en)] at this;exact this
  obtain⟨x1,x2⟩:=x;obtain⟨y1,y2⟩:=y
  cases e;cases hv;rw[ht]
theorem Gd.len:∀{b r:V},Gd r→Gd b→(∀n,jh r n≠0→jh b n≠0)→r.length≤b.length
 | [],[],_,_,_=>Nat.le_refl _
 | [],x::s,hr,_,h=>by
  have:=h x.1;rw[Jt] at this;have h1:=(Gd.cons.1 hr).1;exact absurd rfl (this (by omega))
 | y::t,[],_,_,_=>Nat.zero_le _
 | y::t,x::s,hr,hb,h=>by
  have hr':=Gd.cons.1 hr;have hb':=Gd.cons.1 hb;have:s.length≤t.length:=Gd.len hr'.2.2 hb'.2.2 fun n hn=>by
   obtain⟨z,hz,rfl⟩:=get_mem hn;have hlt:=hr'.2.1 z hz;have hb2:=h z.1 (by rw[Jy s (Yc hlt)];exact hn);by_cases e:y.1=z.1
   · obtain⟨u,hu,hux⟩:=get_mem (h x.1 (by rw[Jt];omega));rcases List.mem_cons.1 hu with rfl | hu
     · rw[←hux,e,YO] at hlt;cases hlt
     · have:=hb'.2.1 u hu;rw[hux,e] at this;exact(jaN hlt this).elim
   · rw[Jy t e] at hb2;exact hb2
  simp only[List.length_cons];omega
theorem X7 {s t:ByteArray} (h:leS s t=false):ltS t s=true:=by
 unfold leS at h;rw[Bool.or_eq_false_iff] at h
 cases e:ltS t s with
 | true=>rfl
 | false=>rw[Xa h.1 e,jR.2 rfl] at h;cases h.2
theorem jba {s t:ByteArray} (h:ltS t s=true):leS s t=false:=by
 unfold leS;rw[Bool.or_eq_false_iff];refine⟨?_,?_⟩
 · cases e:ltS s t with
   | false=>rfl
   | true=>exact(jaN h e).elim
 · cases e:eqS s t with
   | false=>rfl
   | true=>exact absurd (jR.1 e).symm (Yc h)
theorem YZ {l:V} (h:jv l=0) (hf:Js l):Gd l:=by
 have h2:jP none l=0:=by
  unfold jv at h;split at h
  · cases h
  · exact h
 have key:∀(l:V) (p:Option ByteArray),jP p l=0→Js l→Gd l∧(∀x,p=some x→∀y ∈ l,ltS x y.1=true):=by
  intro l
  induction l with
  | nil=>intro p _ _;exact⟨Gd.nil,fun _ _ y hy=>absurd hy (by simp)⟩
  | cons x t ih =>
   intro p hc hf;rw[Js.cons] at hf;unfold jP at hc;split at hc
   · cases hc
   · rename_i n1;split at hc
     · cases hc
     · rename_i n2;split at hc
       · cases hc
       · rename_i n3;obtain⟨hg,hall⟩:=ih _ hc hf.2;have hx:=hall x.1 rfl;refine⟨Gd.cons.2 ⟨⟨by simpa using n1,by omega,hf.1.2.2⟩,hx,hg⟩,?_⟩;rintro q rfl y hy;have hq:ltS q x.1=true:=X7 (by simpa [jK] using n3);rcases List.mem_cons.1 hy with rfl | hy
         · exact hq
         · exact Jb hq (hx y hy)
 exact(key l none h2 hf).1
theorem jcI {l:V} (h:Gd l) (hl:l.length≤8):jv l=0:=by
 have key:∀(l:V) (p:Option ByteArray),Gd l→(∀x,p=some x→∀y ∈ l,ltS x y.1=true)→jP p l=0:=by
  intro l
  induction l with
  | nil=>intro p _ _;cases p<;>rfl
  | cons x t ih =>
   intro p hg hp;have hg':=Gd.cons.1 hg;rw[jP,if_neg (by rw[hg'.1.1];decide),if_neg (by omega),if_neg]
   · exact ih _ hg'.2.2 fun q e y hy=>by cases e;exact hg'.2.1 y hy
   · cases p with
     | none=>simp[jK]
     | some q=>rw[show jK (some q) x.1=leS x.1 q from rfl,jba (hp q rfl x (by simp))];decide
 unfold jv;rw[if_neg (by omega)];exact key l none h (fun _ e=>by cases e)
theorem qd {l:V} {s:ByteArray} (hg:Gd l) (h:∀y ∈ l,y.1=s∨ltS s y.1=true) :
 (jr l s).1=jh l s∧Gd (jr l s).2∧(∀y ∈ (jr l s).2,ltS s y.1=true)∧(∀n,n≠s→jh (jr l s).2 n=jh l n)∧(∀m,(∀y ∈ l,ltS m y.1=true)→∀y ∈ (jr l s).2,ltS m y.1=true):=by
 cases l with
 | nil=>exact⟨rfl,hg,fun y hy=>absurd hy (by simp[jr]),fun _ _=>rfl,fun _ _ y hy=>absurd hy (by simp[jr])⟩
 | cons x t =>
  have hg':=Gd.cons.1 hg;rw[zN];by_cases e:x.1=s
  · rw[if_pos (jR.2 e)];subst e;exact⟨(Jt x t).symm,hg'.2.2,hg'.2.1,fun n hn=>(Jy t (Ne.symm hn)).symm,fun m hm y hy=>hm y (by simp[hy])⟩
  · rw[if_neg (fun c=>e (jR.1 c))];have hx:ltS s x.1=true:=(h x (by simp)).resolve_left e;have hall:∀y ∈ x::t,ltS s y.1=true:=fun y hy=>by
     rcases List.mem_cons.1 hy with rfl | hy
     · exact hx
     · exact Jb hx (hg'.2.1 y hy)
    exact⟨(Zh hall).symm,hg,hall,fun _ _=>rfl,fun m hm=>hm⟩
theorem jaB {la lb:V} (ha:Gd la) (hb:Gd lb) (h:0<la.length+lb.length) :
 isName (jm la lb)=true∧(∀y ∈ la,y.1=jm la lb∨ltS (jm la lb) y.1=true)∧(∀y ∈ lb,y.1=jm la lb∨ltS (jm la lb) y.1=true) ∧
  (∀m,(∀y ∈ la,ltS m y.1=true)→(∀y ∈ lb,ltS m y.1=true)→ltS m (jm la lb)=true):=by
 have own:∀{x:ByteArray×Int} {t:V},Gd (x::t)→∀y ∈ x::t,y.1=x.1∨ltS x.1 y.1=true:=fun {x t} hg y hy=>by
  rcases List.mem_cons.1 hy with rfl | hy
  · exact .inl rfl
  · exact .inr ((Gd.cons.1 hg).2.1 y hy)
 cases la with
 | nil =>
  cases lb with
  | nil=>simp at h
  | cons y t=>exact⟨(Gd.cons.1 hb).1.1,fun z hz=>absurd hz (by simp),own hb,fun m _ hm=>hm y (by simp)⟩
 | cons x s =>
  cases lb with
  | nil=>exact⟨(Gd.cons.1 ha).1.1,own ha,fun z hz=>absurd hz (by simp),fun m hm _=>hm x (by simp)⟩
  | cons y t =>
   rw[Zb];by_cases e:ltS y.1 x.1=true
   · rw[if_pos e];refine⟨(Gd.cons.1 hb).1.1,fun z hz=>.inr ?_,own hb,fun m _ hm=>hm y (by simp)⟩;rcases own ha z hz with hz | hz
     · rw[hz];exact e
     · exact Jb e hz
   · rw[if_neg e];refine⟨(Gd.cons.1 ha).1.1,own ha,fun z hz=>?_,fun m hm _=>hm x (by simp)⟩;have e':ltS y.1 x.1=false:=by simpa using e
     have hxy:y.1=x.1∨ltS x.1 y.1=true:=by
      cases e2:ltS x.1 y.1 with
      | true=>exact .inr rfl
      | false=>exact .inl (Xa e' e2)
     rcases own hb z hz with hz | hz
     · rw[hz];exact hxy
     · rcases hxy with hxy | hxy
       · rw[←hxy];exact .inr hz
       · exact .inr (Jb hxy hz)
structure Rk (f:Int→Int→Int×Int):Prop where
 zero:f 0 0=(0,0)
 code:∀x y,0≤x∧x≤9223372036854775807→0≤y∧y≤9223372036854775807→(f x y).2=0∨(f x y).2=5
 bd:∀x y,0≤x∧x≤9223372036854775807→0≤y∧y≤9223372036854775807→0≤(f x y).1∧(f x y).1≤9223372036854775807
theorem jjr:Rk jG:=by
 refine⟨by decide,fun x y hx hy=>?_,fun x y hx hy=>jdu hx hy⟩;unfold jG;split
 · exact .inl rfl
 · exact .inr rfl
theorem jkI:Rk zl:=by
 refine⟨by decide,fun x y hx hy=>?_,fun x y hx hy=>jhN hx hy⟩;unfold zl;split
 · exact .inl rfl
 · exact .inr rfl
def Made (f:ByteArray→Int) (r:V):Prop:=Gd r∧∀n,jh r n=f n
theorem jkY {r:V} {s:ByteArray} {v:Int} {g g':ByteArray→Int} (hr:Made g' r) (hs:isName s=true) (hv:0≤v∧v≤9223372036854775807) (hall:∀y ∈ r,ltS s y.1=true)
 (h1:g s=v) (h2:∀n,n≠s→g n=g' n):∃r',(∀acc,Yw acc s v++r=acc++r')∧Made g r'∧(∀m,ltS m s=true→(∀y ∈ r,ltS m y.1=true)→∀y ∈ r',ltS m y.1=true)∧r'.length≤r.length+1:=by
 by_cases e:v=0
 · refine⟨r,fun acc=>by unfold Yw;rw[if_pos e],⟨hr.1,fun n=>?_⟩,fun m _ h=>h,by omega⟩;by_cases en:n=s
   · subst en;rw[Zh hall,h1,e]
   · rw[hr.2 n,h2 n en]
 · refine⟨(s,v)::r,fun acc=>by unfold Yw;rw[if_neg e];simp,⟨Gd.cons.2 ⟨⟨hs,by omega,hv.2⟩,hall,hr.1⟩,fun n=>?_⟩,fun m hm h y hy=>?_,by simp⟩
   · by_cases en:n=s
     · subst en;rw[Jt (n,v) r,h1]
     · rw[Jy (x:=(s,v)) r (fun c=>en c.symm),hr.2 n,h2 n en]
   · rcases List.mem_cons.1 hy with rfl | hy
     · exact hm
     · exact h y hy
theorem merge_spec {f:Int→Int→Int×Int} (hf:Rk f):∀(fuel:Nat) (la lb:V),la.length+lb.length≤fuel→Gd la→Gd lb →
 ((∃n,(f (jh la n) (jh lb n)).2≠0)∧∀acc,j5 f fuel la lb acc=(5,[])) ∨
 ((∀n,(f (jh la n) (jh lb n)).2=0)∧∃r,(∀acc,j5 f fuel la lb acc=(0,acc++r))∧Made (fun n=>(f (jh la n) (jh lb n)).1) r ∧
   (∀m,(∀y ∈ la,ltS m y.1=true)→(∀y ∈ lb,ltS m y.1=true)→∀y ∈ r,ltS m y.1=true)):=by
 intro fuel
 induction fuel with
 | zero =>
  intro la lb hl ha hb;have e1:la=[]:=List.eq_nil_of_length_eq_zero (by omega);have e2:lb=[]:=List.eq_nil_of_length_eq_zero (by omega);subst e1;subst e2;refine .inr ⟨fun n=>by rw[show jh [] n=0 from rfl,hf.zero],[],fun acc=>by rw[j5,List.append_nil],⟨Gd.nil,fun n=>by show (0:Int)=(f 0 0).1;rw[hf.zero]⟩,fun m _ _ y hy=>absurd hy (by simp)⟩
 | succ fuel ih =>
  intro la lb hl ha hb;by_cases h0:la.length+lb.length=0
  · have e1:la=[]:=List.eq_nil_of_length_eq_zero (by omega);have e2:lb=[]:=List.eq_nil_of_length_eq_zero (by omega);subst e1;subst e2;refine .inr ⟨fun n=>by rw[show jh [] n=0 from rfl,hf.zero],[],fun acc=>by rw[jaS (by simp),List.append_nil],⟨Gd.nil,fun n=>by show (0:Int)=(f 0 0).1;rw[hf.zero]⟩,fun m _ _ y hy=>absurd hy (by simp)⟩
  · obtain⟨hs,hsa,hsb,hsm⟩:=jaB ha hb (by omega);have hless:=jak (la:=la) (lb:=lb) (by omega);obtain⟨s,es⟩:=eX (jm la lb)
    have hstep:∀acc,j5 f (fuel+1) la lb acc=if (f (jr la s).1 (jr lb s).1).2≠0 then ((f (jr la s).1 (jr lb s).1).2,[]) else j5 f fuel (jr la s).2 (jr lb s).2 (Yw acc s (f (jr la s).1 (jr lb s).1).1):=fun acc=>by
     rw[j5,if_neg h0];dsimp only;rw[es]
    rw[es] at hs hsa hsb hsm hless;obtain⟨a1,a2,a3,a4,a5⟩:=qd ha hsa;obtain⟨b1,b2,b3,b4,b5⟩:=qd hb hsb;rw[a1,b1] at hstep;have hca:=JA s ha;have hcb:=JA s hb;by_cases hx:(f (jh la s) (jh lb s)).2=0
    · have hstep2:∀acc,j5 f (fuel+1) la lb acc=j5 f fuel (jr la s).2 (jr lb s).2 (Yw acc s (f (jh la s) (jh lb s)).1):=fun acc=>by
       rw[hstep acc,if_neg (by rw[hx];decide)]
      have e0:∀n,n=s→f (jh (jr la s).2 n) (jh (jr lb s).2 n)=(0,0):=fun n hn=>by
       subst hn;rw[Zh a3,Zh b3,hf.zero]
      rcases ih (jr la s).2 (jr lb s).2 (by omega) a2 b2 with ⟨⟨n,hn⟩,hbad⟩ | ⟨hgood,r,hr,hm,hmin⟩
      · refine .inl ⟨⟨n,?_⟩,fun acc=>by rw[hstep2,hbad]⟩;by_cases en:n=s
        · rw[e0 n en] at hn;exact absurd rfl hn
        · rw[a4 n en,b4 n en] at hn;exact hn
      · obtain⟨r',h1,h2,h3,_⟩:=jkY (s:=s) (v:=(f (jh la s) (jh lb s)).1) (g:=fun n=>(f (jh la n) (jh lb n)).1) hm hs (hf.bd _ _ hca hcb) (hmin s a3 b3) rfl
         (fun n hn=>by show _=_;rw[a4 n hn,b4 n hn])
        refine .inr ⟨fun n=>?_,r',fun acc=>by rw[hstep2,hr,h1],h2,fun m hma hmb=>h3 m (hsm m hma hmb) (hmin m (a5 m hma) (b5 m hmb))⟩;by_cases en:n=s
        · rw[en];exact hx
        · have:=hgood n;rw[a4 n en,b4 n en] at this;exact this
    · refine .inl ⟨⟨s,hx⟩,fun acc=>?_⟩;rw[hstep acc,if_pos hx,(hf.code _ _ hca hcb).resolve_left hx]
theorem merged_spec {f:Int→Int→Int×Int} (hf:Rk f) {l l':V} (h:Gd l) (h':Gd l') (hl:l.length≤8) (hl':l'.length≤8) :
 ((∃n,(f (jh l n) (jh l' n)).2≠0)∧jj f l l'=(5,[])) ∨
 ((∀n,(f (jh l n) (jh l' n)).2=0)∧∃r,Made (fun n=>(f (jh l n) (jh l' n)).1) r∧((8<r.length∧jj f l l'=(4,[]))∨(r.length≤8∧jj f l l'=(0,r)))):=by
 have e:jj f l l'=(let r:=j5 f (l.length+l'.length) l l' [];if r.1≠0 then (r.1,[]) else if 8<r.2.length then (4,[]) else (0,r.2)):=by
  rw[jj,if_neg (by rw[jcI h hl];decide),if_neg (by rw[jcI h' hl'];decide)]
 rcases merge_spec hf (l.length+l'.length) l l' (Nat.le_refl _) h h' with ⟨hn,hb⟩ | ⟨hn,r,hr,hm,_⟩
 · exact .inl ⟨hn,by rw[e,hb];rfl⟩
 · refine .inr ⟨hn,r,hm,?_⟩;rw[e,hr];by_cases h8:8<r.length
   · exact .inl ⟨h8,by simp[h8]⟩
   · exact .inr ⟨by omega,by simp[h8]⟩
theorem jgr:∀{l h:V},jB h l=true↔∀x ∈ l,x.2≤jh h x.1
 | [],h=>⟨fun _ x hx=>absurd hx (by simp),fun _=>rfl⟩
 | x::t,h=>by
  rw[jB,Bool.and_eq_true,decide_eq_true_eq,jgr,List.forall_mem_cons]
theorem Y8 {l h:V} (hl:Gd l) (hh:Gd h):jB h l=true↔∀n,jh l n≤jh h n:=by
 rw[jgr];constructor
 · intro hx n;by_cases e:jh l n=0
   · rw[e];exact(JA n hh).1
   · obtain⟨x,hm,rfl⟩:=get_mem e;rw[jcu hl hm];exact hx x hm
 · intro hn x hx;have:=hn x.1;rw[jcu hl hx] at this;exact this
theorem ja8:∀l:V,jY l l=true
 | []=>rfl
 | x::t=>by rw[jY,ja8 t,jR.2 rfl];simp
theorem jd0 (x y:Int):(zl x y).2=0↔y≤x:=by
 unfold zl;split
 · simp only[true_iff];assumption
 · constructor
   · intro h;cases h
   · intro h;contradiction
theorem qe (x y:Int):(jG x y).2=0↔x+y≤9223372036854775807:=by
 unfold jG;split
 · simp only[true_iff];assumption
 · constructor
   · intro h;cases h
   · intro h;contradiction
theorem jlN {x y:Int} (h:y≤x):zl x y=(x-y,0):=by unfold zl;rw[if_pos h]
theorem jcg {x y:Int} (h:x+y≤9223372036854775807):jG x y=(x+y,0):=by unfold jG;rw[if_pos h]
theorem jcr {l l':V} (h:Gd l) (h':Gd l') (hl:l.length≤8) (hl':l'.length≤8) (hf:∀n,jh l' n≤jh l n) :
 ∃r,jj zl l l'=(0,r)∧Made (fun n=>jh l n-jh l' n) r∧r.length≤8:=by
 rcases merged_spec jkI h h' hl hl' with ⟨⟨n,hn⟩,_⟩ | ⟨_,r,hm,hr⟩
 · exact absurd ((jd0 _ _).2 (hf n)) hn
 · have hm':Made (fun n=>jh l n-jh l' n) r:=⟨hm.1,fun n=>by rw[hm.2 n];show (zl _ _).1=_;rw[jlN (hf n)]⟩
   have hlen:r.length≤l.length:=Gd.len hm.1 h fun n hn=>by
    rw[hm'.2 n] at hn;dsimp only at hn;have h1:=JA n h;have h2:=JA n h';have:=hf n;omega
   rcases hr with ⟨h8,_⟩ | ⟨h8,e⟩
   · omega
   · exact⟨r,e,hm',h8⟩
theorem jlL {l l':V} (h:Gd l) (h':Gd l') (hl:l.length≤8) (hl':l'.length≤8):((jj zl l l').1=0)↔jB l l'=true:=by
 rw[Y8 h' h];constructor
 · intro e;rcases merged_spec jkI h h' hl hl' with ⟨⟨n,hn⟩,hb⟩ | ⟨hn,_⟩
   · rw[hb] at e;cases e
   · exact fun n=>(jd0 _ _).1 (hn n)
 · intro hf;obtain⟨r,e,_⟩:=jcr h h' hl hl' hf;rw[e]
theorem jlG {l l' r:V} (h:Gd l) (h':Gd l') (hl:l.length≤8) (hl':l'.length≤8) (hs:∀n,jh l n+jh l' n≤9223372036854775807) (hr:Made (fun n=>jh l n+jh l' n) r) (h8:r.length≤8):jj jG l l'=(0,r):=by
 rcases merged_spec jjr h h' hl hl' with ⟨⟨n,hn⟩,_⟩ | ⟨hn,q,hm,hq⟩
 · exact absurd ((qe _ _).2 (hs n)) hn
 · have e:q=r:=Gd.ext hm.1 hr.1 fun n=>by rw[hm.2 n,hr.2 n];show (jG _ _).1=_;rw[jcg (hs n)]
   subst e;rcases hq with ⟨h9,_⟩ | ⟨_,e⟩
   · omega
   · exact e
theorem Reads.fine {v:Value} {l:V} {w:World} (h:Reads w v l):Js l:=by
 obtain⟨a,cap,rfl,h1,h2,h3⟩:=h;exact h3.2.2.1
open Go.ChangeShapes Go.WideShapes Go.ChangeAt Go.RowKit Go.Deep
theorem jjx:Tryz.prog.cellsOf 114=2:=by kernel_rfl
theorem ZF:Tryz.prog.cellsOf 9=1:=by kernel_rfl
theorem qy:Tryz.prog.cellsOf 2=1:=by kernel_rfl
theorem jdv {H:Type} {enc:TypeId×Value→H} {w:World} {base fuel:Nat} {sp:Nat→Bool} {held:Bool} {cs:List Value} {x:DataW H×List MemPlace} (h:DataW.trod enc Tryz.prog w base sp held fuel 114 cs=some x) :
 ∃(s:ByteArray) (n:Int),cs=[.string s,.int .i64 n]∧s.size≤maxLen∧-9223372036854775808≤n∧n≤9223372036854775807:=by
 obtain⟨ys,m,-,-,hlen,hyl,hf⟩:=DataW.trod_struct Tryz.underlying114 h;rw[jjx] at hlen
 match cs,hlen with
 | [c0,c1],_ =>
  have h0:DataW.trod enc Tryz.prog w base sp held m 9 (([c0,c1].drop 0).take (Tryz.prog.cellsOf 9))=ys[0]?:=hf 0 _ rfl;have h1:DataW.trod enc Tryz.prog w base sp held m 2 (([c0,c1].drop 1).take (Tryz.prog.cellsOf 2))=ys[1]?:=hf 1 _ rfl;rw[ZF] at h0;rw[qy] at h1;obtain⟨y0,e0⟩:∃y,ys[0]?=some y:=⟨_,List.getElem?_eq_getElem (by rw[hyl];decide)⟩
  obtain⟨y1,e1⟩:∃y,ys[1]?=some y:=⟨_,List.getElem?_eq_getElem (by rw[hyl];decide)⟩
  rw[e0] at h0;rw[e1] at h1;obtain⟨s,q0,-,hs⟩:=DataW.trod_string Tryz.underlying9 h0;obtain⟨n,q1,-,hn⟩:=DataW.trod_int Tryz.underlying2 h1;simp only[List.drop_zero,List.take_succ_cons,List.take_zero,List.cons.injEq,and_true,List.drop_succ_cons] at q0 q1;subst q0;subst q1;have:=bounds_i64 hn;exact⟨s,n,rfl,hs,this.1,this.2⟩
theorem jhO {l m:V} {i:Nat} (h:i<l.length):nm (l++m) i=nm l i∧qn (l++m) i=qn l i:=by
 unfold nm qn;simp[List.getD,List.getElem?_append_left h]
theorem jhj (l:V) (s:ByteArray) (n:Int):nm (l++[(s,n)]) l.length=s∧qn (l++[(s,n)]) l.length=n:=by
 unfold nm qn;simp[List.getD]
theorem zJ {H:Type} {enc:TypeId×Value→H} {w:World} {base fuel:Nat} {sp:Nat→Bool} {held:Bool} {v:Value} {x:DataW H×List MemPlace} (h:DataW.trod enc Tryz.prog w base sp held fuel 45 [v]=some x) :
 ∃l,Reads w v l:=by
 rcases open_slice Tryz.underlying45 h with ⟨hcs,-⟩ | ⟨a,len,cap,m,n,D,Pl,hcs,hb,hl,hm,hmm,hx,hi⟩
 · cases hcs;exact⟨[],Reads.nil w⟩
 · cases hcs
   have hlm:len≤m:=by rw[hmm];split<;>omega
   have key:∀k,k≤len→∃l:V,l.length=k∧∀i,i<k→((nm l i).size≤maxLen∧-9223372036854775808≤qn l i∧qn l i≤9223372036854775807) ∧
    w.cell? ((a.add (i*2)).add 0)=some (.string (nm l i))∧w.cell? ((a.add (i*2)).add 1)=some (.int .i64 (qn l i)):=by
    intro k
    induction k with
    | zero=>exact fun _=>⟨[],rfl,fun i hi=>absurd hi (by omega)⟩
    | succ k ih =>
     intro hk;obtain⟨l,e,hall⟩:=ih (by omega);obtain⟨cs',hc,ht'⟩:=hi k (by omega);obtain⟨s,q,rfl,b1,b2,b3⟩:=jdv ht';rw[jjx] at hc;obtain⟨-,-,hat⟩:=World.cells?_some hc;refine⟨l++[(s,q)],by simp[e],fun i hi=>?_⟩;by_cases e2:i=k
     · subst e2;subst e;rw[(jhj l s q).1,(jhj l s q).2];exact⟨⟨b1,b2,b3⟩,hat 0 (by decide),hat 1 (by decide)⟩
     · rw[(jhO (by omega)).1,(jhO (by omega)).2];exact hall i (by omega)
   obtain⟨l,e,hall⟩:=key len (Nat.le_refl _);subst e;refine⟨l,_,cap,rfl,hl,hm,rfl,Nat.le_trans hl hm,fun i hi=>(hall i hi).1,?_⟩;by_cases h0:l.length=0
   · exact .inl h0
   · obtain⟨b,off,spot⟩:=a;have hc:=(hall 0 (by omega)).2.1;have hspot:spot=none:=by simpa [Addr.add] using World.cell?_spot hc
     subst hspot;have hcell:∀i,i<l.length→w.cell? ⟨b,off+i*2,none⟩=some (.string (nm l i))∧w.cell? ⟨b,off+i*2+1,none⟩=some (.int .i64 (qn l i)):=fun i hi=>by
      have c:=(hall i hi).2;by_cases hi0:i=0
      · subst hi0;simpa [Addr.add] using c
      · have h2:¬i*2=0:=by omega
        simpa [Addr.add,h2] using c
     exact .inr ⟨b,off,rfl,World.block_lt_of_cell? _ _ (hcell 0 (by omega)).1,hcell⟩
end Go.Proofs.YtibepooajeakfaaGreat.Vec
namespace Go.Proofs.YtibepooajeakfaaGreat
open Go.RowKit
abbrev PL:=List (ByteArray×ByteArray)
abbrev TL:=List (Int×ByteArray×ByteArray)
def jK (prev:Option ByteArray) (s:ByteArray):Bool:=match prev with | none=>false | some p=>leS s p
def Yt (l:PL) (k:Nat):Option ByteArray:=if k=0 then none else (l[k-1]?).map (·.1)
def zL:Option ByteArray→PL→Int
 | _,[]=>0
 | prev,x::t=>if (isName x.1&&isName x.2)=false then 3 else if jK prev x.1=true then 13 else zL (some x.1) t
def J9 (l:PL):Int:=if 8<l.length then 4 else zL none l
theorem Yr {l:PL} {k:Nat} (h:k=0) (s:ByteArray):jK (Yt l k) s=false:=by unfold Yt;rw[if_pos h];rfl
theorem Yq {l:PL} {k:Nat} {x y:ByteArray} (h:¬k=0) (hx:l[k-1]?=some (x,y)) (s:ByteArray):jK (Yt l k) s=leS s x:=by unfold Yt;rw[if_neg h,hx];rfl
theorem YI {l:PL} {k:Nat} {x y:ByteArray} (hx:l[k]?=some (x,y)):Yt l (k+1)=some x:=by unfold Yt;rw[if_neg (by omega),Nat.add_sub_cancel,hx];rfl
theorem Yz {p:Option ByteArray} {x y:ByteArray} {t:PL} (n:(isName x&&isName y)=false):zL p ((x,y)::t)=3:=by rw[zL,if_pos n]
theorem Xl {p:Option ByteArray} {x y:ByteArray} {t:PL} (n1:isName x=true) (n2:isName y=true) (b:jK p x=true):zL p ((x,y)::t)=13:=by
 rw[zL,if_neg (by dsimp only;rw[n1,n2];decide),if_pos b]
theorem Zy {p:Option ByteArray} {x y:ByteArray} {t:PL} (n1:isName x=true) (n2:isName y=true) (b:jK p x=false):zL p ((x,y)::t)=zL (some x) t:=by
 rw[zL,if_neg (by dsimp only;rw[n1,n2];decide),if_neg (by dsimp only;rw[b];decide)]
theorem ja6 (a:Option Addr) (len cap:Nat) (l:PL) (w:World) (hr:jk jz w a len l) :
 Calls Tryz.prog 176 #[.slice a len cap] w fun e w'=>e=.returned (.int .i64 (J9 l))∧Kept w w':=by
 have hl:=hr.1;have hm:=hr.2.1;unfold maxLen at hm;by_cases h8:len≤8
 · have HV:=lH (show J9 l=zL none l by unfold J9;rw[if_neg (by omega)]);rcases hr.form with h0 | ⟨b,off,rfl⟩
   · subst h0;have HE:=lH (show J9 l=0 by rw[HV.out];rw[List.eq_nil_of_length_eq_zero hl];rfl);clear hr hl;go_enter Tryz.func176,Tryz.ntmps176;go_wp2;refine wp_loop_rounds 1 ?_;rw[rounds_succ];go_wp2;go_ret;exact⟨jb HE.out.symm,Kept.refl _⟩
   · have HR:=lH hr;have HL:=lH hl;clear hr hl;go_enter Tryz.func176,Tryz.ntmps176;go_wp2;go_loopw [10] (fun i wr=>∃k:Nat,k≤len∧i=.int .i64 k∧zL (Yt l k) (l.drop k)=zL none l∧Kept w wr) (fun i _=>len-(intOf i).toNat)
     case atStart=>exact⟨0,Nat.zero_le _,rfl,rfl,Kept.refl _⟩
     case round =>
      obtain⟨k,hk,rfl,hrest,hK⟩:=hrel;by_cases hlt:k<len
      · obtain⟨x,y,hx,hd,hb,hz,hz2,c1,c2⟩:=(HR.out.kept hK).pair hlt;obtain⟨HX,HK,HT⟩:=lH3 hx hK (hrest.symm.trans (congrArg (zL (Yt l k)) hd));have HS:=lH (HV.out.trans HT.out);clear hK hrest hx hd;by_cases n1:isName x=true
        · by_cases n2:isName y=true
          · have N1:=lH n1;have N2:=lH n2;by_cases h0:k=0
            · have hd:decide (0<k)=false:=by subst h0;decide
              have HP:=lH (Yr (l:=l) h0 x);clear h0;go_wp2_with (go_at_call 174;refine(zg _ _ (by assumption)).mono ?_;rintro e w' ⟨rfl,rfl⟩)
              go_quiet (fail)
              go_wp2;go_roundw
              case rel=>exact⟨k+1,by omega,by go_num,by rw[YI HX.out];exact(Zy N1.out N2.out HP.out).symm.trans HT.out.symm,(HK.out.trans (JC _ _ _))⟩
              case measure=>simp[intOf];omega
            · have hd:decide (0<k)=true:=by simp;omega
              have g1:0≤(k:Int)-1:=by omega
              have g2:(k:Int)-1<(len:Int):=by omega
              have g3:((k:Int)-1).toNat=k-1:=by omega
              obtain⟨px,py,hpx,_,_,_,_,d1,d2⟩:=(HR.out.kept HK.out).pair (show k-1<len by omega);have HP:=lH (Yq (l:=l) h0 hpx x);clear hpx;by_cases n3:leS x px=true
              · have n3':(Op.bytesLess x.toList px.toList||x.toList==px.toList)=true:=n3;have N3:=lH n3;clear n3;go_wp2_with (go_at_call 174;refine(zg _ _ (by assumption)).mono ?_;rintro e w' ⟨rfl,rfl⟩)
                go_quiet (fail)
                go_wp2;go_ret;exact⟨jb (HS.out.trans (Xl N1.out N2.out (HP.out.trans N3.out))).symm,(HK.out.trans (JC _ _ _))⟩
              · have n3:leS x px=false:=by simpa using n3
                have n3':(Op.bytesLess x.toList px.toList||x.toList==px.toList)=false:=n3;have N3:=lH n3;clear n3;go_wp2_with (go_at_call 174;refine(zg _ _ (by assumption)).mono ?_;rintro e w' ⟨rfl,rfl⟩)
                go_quiet (fail)
                go_wp2;go_roundw
                case rel=>exact⟨k+1,by omega,by go_num,by rw[YI HX.out];exact(Zy N1.out N2.out (HP.out.trans N3.out)).symm.trans HT.out.symm,(HK.out.trans (JC _ _ _))⟩
                case measure=>simp[intOf];omega
          · have n2:isName y=false:=by simpa using n2
            have N:=lH (show (isName x&&isName y)=false by rw[n2,Bool.and_false]);go_wp2_with (go_at_call 174;refine(zg _ _ (by assumption)).mono ?_;rintro e w' ⟨rfl,rfl⟩)
            go_ret;exact⟨jb (HS.out.trans (Yz N.out)).symm,HK.out.trans (ja _ _)⟩
        · have n1:isName x=false:=by simpa using n1
          have N:=lH (show (isName x&&isName y)=false by rw[n1,Bool.false_and]);go_wp2_with (go_at_call 174;refine(zg x _ hz).mono ?_;rintro e w' ⟨rfl,rfl⟩)
          go_ret;exact⟨jb (HS.out.trans (Yz N.out)).symm,HK.out.trans (ja _ _)⟩
      · have HK:=lH hK;have HS:=lH ((HV.out.trans hrest.symm).trans (congrArg (zL (Yt l k)) (zB (by rw[HL.out];exact hlt))));clear hK hrest;go_wp2;go_ret;exact⟨jb (HS.out.trans rfl).symm,HK.out⟩
 · have HV:=lH (show J9 l=4 by unfold J9;rw[if_pos (by omega)]);have h9:8<len:=by omega
   clear h8 hr hl;go_enter Tryz.func176,Tryz.ntmps176;go_wp2;go_ret;exact⟨jb HV.out.symm,Kept.refl _⟩
end Go.Proofs.YtibepooajeakfaaGreat
