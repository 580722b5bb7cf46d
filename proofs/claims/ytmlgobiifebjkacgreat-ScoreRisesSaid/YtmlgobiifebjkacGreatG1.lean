/- What serves all packages,and package by package the contracts of the functions that the law calls. -/
import Derived.Test.YtmlgobiifebjkacGreatG0
import Derived.Lib.AtoiErrMem
import Derived.Shelf.Strings.BuilderX
import Derived.StillTailTactics
import Derived.Lib.ItoaLen
import Derived.Lib.SmallJoins
import Derived.Test.YtmlgobiifebjkacGreatRows
import Derived.Stop.LaidErr
import Derived.Stop.Joined
import Derived.MakeChecks
import Derived.Handy
import Derived.Deep.CutRange
import Derived.Deep.AppendSrc
import Derived.Deep.DeepAppendWide
set_option linter.unusedVariables false
set_option maxRecDepth 100000
set_option maxHeartbeats 25600000
namespace Go.Proofs.YtmlgobiifebjkacGreat.Vec
open Go.RowKit
theorem qadd_f (x y:Int) (w:World) (h0:0≤x) (h1:x≤9223372036854775807) (h2:0≤y) (h3:y≤9223372036854775807) :
 Calls Tryz.prog 176 #[.int .i64 x,.int .i64 y] w (Ans (addF x y).1 (addF x y).2 w):=by
 by_cases h:x+y≤9223372036854775807
 · have e:addF x y=(x+y,0):=by unfold addF;rw[if_pos h]
   rw[e];exact(add_ok x y w h0 h2 h).mono fun _ _ g=>g.ans
 · have e:addF x y=(0,5):=by unfold addF;rw[if_neg h]
   rw[e];exact(add_over x y w h0 h2 h3 (by omega)).mono fun _ _ g=>g.ans
theorem merged_add (a a':Option Addr) (len cap len' cap':Nat) (l l':V) (w:World) (hr:VecAt w a len l) (hr':VecAt w a' len' l') (hc:len≤cap) (hm:cap≤maxLen) (hc':len'≤cap') (hm':cap'≤maxLen) :
 Calls Tryz.prog 175 #[.slice a len cap,.slice a' len' cap',.func (.func 176) #[] #[]] w (VecRes (mergedV addF l l') w.heap.size w):=by
 by_cases h1:checkV l=0
 · by_cases h2:checkV l'=0
   · have HL:=lH hr.1;have HL':=lH hr'.1;have P1:=lH (check_pos h1 hr.2.2.1);have P2:=lH (check_pos h2 hr'.2.2.1);have n8:len≤8:=by have:=check_len h1;rw[hr.1] at this;exact this
     have n8':len'≤8:=by have:=check_len h2;rw[hr'.1] at this;exact this
     obtain⟨R,hR⟩:∃R,mergeAcc addF (l.length+l'.length) l l' []=R:=⟨_,rfl⟩
     have HM:=lH (show mergedV addF l l'=if R.1≠0 then (R.1,[]) else if 8<R.2.length then (4,[]) else (0,R.2) by
      unfold mergedV;rw[if_neg (by rw[h1];decide),if_neg (by rw[h2];decide)];dsimp only;rw[hR])
     have HR:=lH hR;have H1:=lH h1;have H2:=lH h2;have HA:=lH hr;have HB:=lH hr';clear hR h1 h2 hr hr';go_enter Tryz.func175,Tryz.ntmps175;go_wp2_with fail
     refine(checked_any _ _ _ l _ HA.out).mono ?_;rintro e1 w1 ⟨g1,_,k1⟩;obtain rfl:=g1 H1.out;have K1:=lH k1;clear g1 k1;go_wp2_with fail
     refine(checked_any _ _ _ l' _ (HB.out.kept K1.out)).mono ?_;rintro e2 w2 ⟨g2,_,k2⟩;obtain rfl:=g2 H2.out;have K2:=lH (K1.out.trans k2);clear g2 k2;go_wp2
     go_loopw [0,1,7] (fun va vb v wr=>∃(A B:Option Addr) (n c n' c':Nat) (la lb acc:V) (fuel:Nat),va=.slice A n c∧vb=.slice B n' c'∧n≤c∧c≤maxLen∧n'≤c'∧c'≤maxLen ∧
      VecAt w A n la∧VecAt w B n' lb∧Pos la∧Pos lb∧OwnV 103 wr w.heap.size v acc∧Below w.heap.size w wr∧n+n'≤fuel∧mergeAcc addF fuel la lb acc=R∧acc.length+n+n'≤16)
      (fun va vb _ _=>lenOf va+lenOf vb)
     case atStart =>
      exact⟨a,a',len,cap,len',cap',l,l',[],l.length+l'.length,rfl,rfl,hc,hm,hc',hm',HA.out,HB.out,P1.out,P2.out,OwnV.nil _ _ _,K2.out,by rw[HL.out,HL'.out];exact Nat.le_refl _,HR.out,by simp;omega⟩
     case round =>
      obtain⟨A,B,n,c,n',c',la,lb,acc,fuel,rfl,rfl,c1,c2,c3,c4,va1,vb1,pa,pb,ho,hB,hfuel,hres,h16⟩:=hrel;have VA:=lH va1;have VB:=lH vb1;have PA:=lH pa;have PB:=lH pb;have HO:=lH ho;have HB2:=lH hB;have HQ:=lH hres;have LA:=lH va1.1;have LB:=lH vb1.1;clear va1 vb1 pa pb ho hB hres;by_cases hz:n+n'=0
      · obtain rfl:n=0:=by omega
        obtain rfl:n'=0:=by omega
        clear hz;obtain⟨av,cv,rfl,g1,g2,g3⟩:=HO.out.at_;have HE:=lH (show R=(0,acc) from HQ.out.symm.trans (merge_end (by rw[LA.out,LB.out])));have hal:acc.length≤9223372036854775807:=by omega
        clear g3 g1 g2;by_cases h8:acc.length≤8
        · have HF:=lH (show mergedV addF l l'=(0,acc) by rw[HM.out,HE.out];dsimp only;rw[if_neg (by decide),if_neg (by omega)]);go_wp2_with fail
          refine(long_ok _ _ _ _ h8).mono ?_;rintro e3 w3 ⟨rfl,rfl⟩;go_wp2;go_ret;exact VecRes.good (by rw[HF.out]) (by rw[HF.out];exact HO.out) HB2.out
        · have HF:=lH (show mergedV addF l l'=(4,[]) by rw[HM.out,HE.out];dsimp only;rw[if_neg (by decide),if_pos (by omega)]);go_wp2_with fail
          refine(long_bad _ _ _ _ (by omega) hal).mono ?_;rintro e3 w3 ⟨rfl,rfl⟩;go_wp2;exact⟨rfl,VecRes.bad (by rw[HF.out]) (by decide) HB2.out⟩
      · have hpos:0<n+n':=by omega
        clear hz;have HP:=lH (show 0<la.length+lb.length by rw[LA.out,LB.out];exact hpos);have HU:=lH (show la.length+lb.length≤fuel by rw[LA.out,LB.out];exact hfuel);have HS:=lH (foremost_size PA.out PB.out);have T1:=lH (taken_pos PA.out (foremostV la lb));have T2:=lH (taken_pos PB.out (foremostV la lb));have HLESS:=lH (merge_less HP.out);obtain⟨r1,r2,hr⟩:∃r1 r2,addF (takenV la (foremostV la lb)).1 (takenV lb (foremostV la lb)).1=(r1,r2):=⟨_,_,rfl⟩
        have QF:=lH (show ∀W,Calls Tryz.prog 176 #[.int .i64 (takenV la (foremostV la lb)).1,.int .i64 (takenV lb (foremostV la lb)).1] W (Ans r1 r2 W) from fun W=>by
         have:=qadd_f _ _ W T1.out.1.1 T1.out.1.2 T2.out.1.1 T2.out.1.2;rw[hr] at this;exact this)
        have HRR:=lH hr;have RB:=lH (show 0≤r1∧r1≤9223372036854775807 by have:=addF_bd (T1.out.1) (T2.out.1);rw[hr] at this;exact this);clear hr;have hd:(decide (0<n)||decide (0<n'))=true:=by simp;omega
        rcases Nat.eq_zero_or_pos n with h0 | h0
        case' inl=>(have d2:decide (0<n')=true:=by simp;omega)
        case' inl=>(subst h0)
        case' inr=>(have d1:decide (0<n)=true:=by simp;omega)
        all_goals
         clear hd;go_wp2_with fail
         refine(foremost_any _ _ _ _ _ _ la lb _ (VA.out.kept HB2.out) (VB.out.kept HB2.out) (by omega)).mono ?_;rintro e3 w3 ⟨rfl,k3⟩;have K3:=lH k3;clear k3;go_wp2_with fail
         refine(taken_any _ _ _ la _ _ ((VA.out.kept HB2.out).kept K3.out) c1 c2).mono ?_;rintro e4 w4 ⟨A4,c4',rfl,q1,q2,V4,k4⟩;have K4:=lH (K3.out.trans k4);have HV4:=lH V4;clear k4 V4;go_wp2_with fail
         refine(taken_any _ _ _ lb _ _ ((VB.out.kept HB2.out).kept K4.out) c3 c4).mono ?_;rintro e5 w5 ⟨A5,c5',rfl,q3,q4,V5,k5⟩;have K5:=lH (K4.out.trans k5);have HV5:=lH V5;clear k5 V5;go_wp2_with fail
         refine(QF.out _).mono ?_;rintro e6 w6 ⟨rfl,k6⟩;have K6:=lH (K5.out.trans k6);clear k6;by_cases hx:r2=0
         · subst hx;go_wp2_with fail
           refine(sound_ok _ _).mono ?_;rintro e7 w7 ⟨rfl,rfl⟩;obtain⟨fuel',hf1,hf2⟩:=merge_next (f:=addF) (acc:=acc) HP.out HU.out (by rw[HRR.out]);have HF1:=lH hf1;have HF2:=lH hf2;clear hf1 hf2;have HBB:=lH (show Below w.heap.size w w6 from HB2.out.trans (Below.mono K6.out HB2.out.size));by_cases hy:r1=0
           · subst hy;go_wp2_with fail
             refine(with_zero _ _ _).mono ?_;rintro e8 w8 ⟨rfl,rfl⟩;go_wp2;go_roundw
             case rel =>
              refine⟨A4,A5,_,c4',_,c5',_,_,acc,fuel',rfl,rfl,q1,q2,q3,q4,HV4.out w VA.out,HV5.out w VB.out,T1.out.2,T2.out.2,HO.out.kept K6.out,HBB.out,?_,?_,?_⟩
              · have:=HLESS.out;have:=HU.out;have:=HF1.out;omega
              · have:=HF2.out;rw[HRR.out] at this;rw[←HQ.out,this];rfl
              · have:=HLESS.out;have:=LA.out;have:=LB.out;omega
             case measure=>(show lenOf (Value.slice _ _ _)+lenOf (Value.slice _ _ _)<lenOf (Value.slice _ _ _)+lenOf (Value.slice _ _ _);simp only[lenOf];have:=HLESS.out;have:=LA.out;have:=LB.out;omega)
           · go_wp2_with fail
             refine(with_more _ _ r1 w.heap.size acc _ (HO.out.kept K6.out) hy HS.out (by have:=RB.out;omega) (by have:=RB.out;omega) (by omega) HBB.out.size).mono ?_;rintro e8 w8 ⟨v8,rfl,o8,b8⟩;have O8:=lH o8;have B8:=lH b8;have HY:=lH hy;clear o8 b8 hy;go_wp2;go_roundw
             case rel =>
              refine⟨A4,A5,_,c4',_,c5',_,_,_,fuel',rfl,rfl,q1,q2,q3,q4,HV4.out w VA.out,HV5.out w VB.out,T1.out.2,T2.out.2,O8.out,HBB.out.trans B8.out,?_,?_,?_⟩
              · have:=HLESS.out;have:=HU.out;have:=HF1.out;omega
              · have:=HF2.out;rw[HRR.out] at this;rw[←HQ.out,this];dsimp only;unfold plusV;rw[if_neg HY.out]
              · have:=HLESS.out;have:=LA.out;have:=LB.out;rw[List.length_append];simp only[List.length_cons,List.length_nil];omega
             case measure=>(show lenOf (Value.slice _ _ _)+lenOf (Value.slice _ _ _)<lenOf (Value.slice _ _ _)+lenOf (Value.slice _ _ _);simp only[lenOf];have:=HLESS.out;have:=LA.out;have:=LB.out;omega)
         · have HX:=lH hx;have HE:=lH (show mergedV addF l l'=(r2,[]) by
            rw[HM.out,←HQ.out,merge_bad HP.out HU.out (by rw[HRR.out];exact hx),HRR.out];dsimp only;rw[if_pos hx])
           go_wp2_with fail
           refine(sound_bad _ _ _ hx).mono ?_;rintro e7 w7 ⟨rfl,rfl⟩;clear hx;go_wp2;exact⟨rfl,VecRes.bad (by rw[HE.out]) HX.out (HB2.out.trans (Below.mono K6.out HB2.out.size))⟩
   · have HM:=lH (show mergedV addF l l'=(checkV l',[]) by unfold mergedV;rw[if_neg (by rw[h1];decide),if_pos h2]);have HA:=lH hr;have HB:=lH hr';have H1:=lH h1;have H2:=lH h2;clear h1 h2 hr hr';go_enter Tryz.func175,Tryz.ntmps175;go_wp2_with fail
     refine(checked_any _ _ _ l _ HA.out).mono ?_;rintro e1 w1 ⟨g1,_,k1⟩;obtain rfl:=g1 H1.out;have K1:=lH k1;clear g1 k1;go_wp2_with fail
     refine(checked_any _ _ _ l' _ (HB.out.kept K1.out)).mono ?_;rintro e2 w2 ⟨_,g2,k2⟩;obtain rfl:=g2 H2.out;have K2:=lH (K1.out.trans k2);clear g2 k2;go_wp2;exact⟨rfl,VecRes.bad (by rw[HM.out]) H2.out K2.out⟩
 · have HM:=lH (show mergedV addF l l'=(checkV l,[]) by unfold mergedV;rw[if_pos h1]);have HA:=lH hr;have H1:=lH h1;clear h1 hr hr';go_enter Tryz.func175,Tryz.ntmps175;go_wp2_with fail
   refine(checked_any _ _ _ l _ HA.out).mono ?_;rintro e1 w1 ⟨_,g1,k1⟩;obtain rfl:=g1 H1.out;have K1:=lH k1;clear g1 k1;go_wp2;exact⟨rfl,VecRes.bad (by rw[HM.out]) H1.out K1.out⟩
theorem caught_add (C:Addr×Addr) (r:Int×V) (w:World) (hr:r.1≠0→r.2=[])
 (hk:∀W,Kept w W→Calls Tryz.prog 174 #[.pointer (some C.1),.pointer (some C.2)] W (VecRes r W.heap.size W)) :
 Calls Tryz.prog 128 #[.func (.func 174) #[] #[.pointer (some C.1),.pointer (some C.2)]] w (Done r w):=by
 have hmf:=hmfL (P:=Tryz.prog);have HK:=lH hk;have HR:=lH hr;clear hk hr;obtain⟨r1,r2⟩:=r;go_enter_defers Tryz.func128,Tryz.ntmps128
 go_wp2_with fail
 refine(HK.out _ (kept_alloc _ _)).mono ?_;rintro e1 w1 ⟨h0,h1,hb⟩;have k1:=hb.size;simp only[World.size_alloc] at k1;have c2:=(hb.cell (p:=⟨w.heap.size,0,none⟩) (by simp))
 have z2:=(hb.frozen (p:=⟨w.heap.size,0,none⟩) (by simp))
 have e2':w1.cell? ⟨w.heap.size,0,none⟩=some (.int .i64 0):=by rw[c2];go_simp
 have y2:w1.frozen? ⟨w.heap.size,0,none⟩=false:=by rw[z2];go_simp
 clear c2 z2;have KB:=lH (show Below w.heap.size w w1 from(kept_alloc w _).trans hb);by_cases hx:r1=0
 · subst hx;obtain⟨v,rfl,ho⟩:=h0 rfl;have HO:=lH ho;obtain⟨av,cv,rfl,_,_,_⟩:=ho.at_;have hsz:=World.size_alloc w (.cells #[.int .i64 0] 50);clear h0 h1 hb ho;go_wp2_with fail
   refine leaves_cons (f:=153) (args:=#[.pointer (some ⟨w.heap.size,0,none⟩)]) (by simp) (by simp[go_sem]) ?_;refine(caught_idle ⟨w.heap.size,0,none⟩ _).mono ?_;rintro e u' w'' ⟨rfl,rfl,rfl⟩;simp[Leaves,settle,results,Tryz.results128,go_sem,e2'];exact⟨_,rfl,(HO.out.setCell_below (a:=⟨w.heap.size,0,none⟩) (by simp) _).base_le (by simp),KB.out.setCell (p:=⟨w.heap.size,0,none⟩) (Nat.le_refl _) _⟩
 · obtain rfl:=h1 hx;obtain rfl:=HR.out hx;clear h0 h1 hb;go_wp2_with fail
   refine leaves_cons (f:=153) (args:=#[.pointer (some ⟨w.heap.size,0,none⟩)]) (by simp) (by simp[go_sem]) ?_;refine(caught_panicking w.heap.size w.heap.size r1 0 _ e2' y2 (by omega)).mono ?_;rintro e u' w'' ⟨rfl,rfl,q2,q3⟩;simp[Leaves,settle,results,Tryz.results128,go_sem,q2];exact⟨_,rfl,OwnV.nil _ _ _,KB.out.trans q3⟩
theorem closure_add (C:Addr×Addr) (a a':Option Addr) (len cap len' cap':Nat) (l l':V) (w:World) (h1:w.cell? C.1=some (.slice a len cap)) (h2:w.cell? C.2=some (.slice a' len' cap'))
 (hr:VecAt w a len l) (hr':VecAt w a' len' l') (hc:len≤cap) (hm:cap≤maxLen) (hc':len'≤cap') (hm':cap'≤maxLen) :
 Calls Tryz.prog 174 #[.pointer (some C.1),.pointer (some C.2)] w (VecRes (mergedV addF l l') w.heap.size w):=by
 have HR:=lH hr;have HR':=lH hr';have HM:=lH hm;have HM':=lH hm';clear hr hr' hm hm';go_enter Tryz.func174,Tryz.ntmps174;go_wp2_with fail
 refine(merged_add a a' len cap len' cap' l l' _ HR.out HR'.out hc HM.out hc' HM'.out).mono ?_;rintro e w' ⟨g0,g1,k⟩;by_cases hx:(mergedV addF l l').1=0
 · obtain⟨v,rfl,ho⟩:=g0 hx;have HX:=lH hx;have HO:=lH ho;have HK:=lH k;clear g0 g1 hx ho k;go_wp2;go_ret;exact VecRes.good HX.out HO.out HK.out
 · obtain rfl:=g1 hx;have HX:=lH hx;have HK:=lH k;clear g0 g1 hx k;go_wp2;exact⟨rfl,VecRes.bad rfl HX.out HK.out⟩
theorem merged_add_none (l l':V):(mergedV addF l l').1≠0→(mergedV addF l l').2=[]:=by
 unfold mergedV;split
 · exact fun _=>rfl
 · split
   · exact fun _=>rfl
   · dsimp only;split
     · exact fun _=>rfl
     · split
       · exact fun _=>rfl
       · exact fun h=>absurd rfl h
theorem add_any (a a':Option Addr) (len cap len' cap':Nat) (l l':V) (w:World)
 (hr:VecAt w a len l) (hr':VecAt w a' len' l') (hc:len≤cap) (hm:cap≤maxLen) (hc':len'≤cap') (hm':cap'≤maxLen) :
 Calls Tryz.prog 155 #[.slice a len cap,.slice a' len' cap'] w (Done (mergedV addF l l') w):=by
 have hmf:=hmfL (P:=Tryz.prog);have hC:∀W,Kept ((w.alloc (.cells #[.slice a len cap] 28)).alloc (.cells #[.slice a' len' cap'] 28)) W→Calls Tryz.prog 174 #[.pointer (some ⟨w.heap.size,0,none⟩),.pointer (some ⟨w.heap.size+1,0,none⟩)] W (VecRes (mergedV addF l l') W.heap.size W):=by
  intro W k;have c1:=k.cell (p:=⟨w.heap.size,0,none⟩) (by simp;omega);have c2:=k.cell (p:=⟨w.heap.size+1,0,none⟩) (by simp);exact closure_add (⟨w.heap.size,0,none⟩,⟨w.heap.size+1,0,none⟩) a a' len cap len' cap' l l' W (by rw[c1];go_simp) (by rw[c2];go_simp) (hr.kept ((kept_two w _ _).trans k)) (hr'.kept ((kept_two w _ _).trans k)) hc hm hc' hm'
 have HC:=lH hC;clear hC hr hr' hm hm';go_enter Tryz.func155,Tryz.ntmps155;go_wp2_with fail
 refine(caught_add (⟨w.heap.size,0,none⟩,⟨w.heap.size+1,0,none⟩) (mergedV addF l l') _ (merged_add_none l l') HC.out).mono ?_;rintro e w' ⟨v,rfl,ho,k⟩;have HO:=lH ho;have HK:=lH k;clear ho k;go_wp2;go_ret2
 exact⟨v,rfl,HO.out.base_le (by simp;omega),(kept_two w _ _).trans HK.out⟩
theorem qsub_f (x y:Int) (w:World) (h0:0≤x) (h1:x≤9223372036854775807) (h2:0≤y) (h3:y≤9223372036854775807) :
 Calls Tryz.prog 193 #[.int .i64 x,.int .i64 y] w (Ans (subF x y).1 (subF x y).2 w):=by
 by_cases h:y≤x
 · have e:subF x y=(x-y,0):=by unfold subF;rw[if_pos h]
   rw[e];exact(sub_ok x y w h2 h1 h).mono fun _ _ g=>g.ans
 · have e:subF x y=(0,5):=by unfold subF;rw[if_neg h]
   rw[e];exact(sub_over x y w h0 h3 (by omega)).mono fun _ _ g=>g.ans
theorem merged_sub (a a':Option Addr) (len cap len' cap':Nat) (l l':V) (w:World) (hr:VecAt w a len l) (hr':VecAt w a' len' l') (hc:len≤cap) (hm:cap≤maxLen) (hc':len'≤cap') (hm':cap'≤maxLen) :
 Calls Tryz.prog 175 #[.slice a len cap,.slice a' len' cap',.func (.func 193) #[] #[]] w (VecRes (mergedV subF l l') w.heap.size w):=by
 by_cases h1:checkV l=0
 · by_cases h2:checkV l'=0
   · have HL:=lH hr.1;have HL':=lH hr'.1;have P1:=lH (check_pos h1 hr.2.2.1);have P2:=lH (check_pos h2 hr'.2.2.1);have n8:len≤8:=by have:=check_len h1;rw[hr.1] at this;exact this
     have n8':len'≤8:=by have:=check_len h2;rw[hr'.1] at this;exact this
     obtain⟨R,hR⟩:∃R,mergeAcc subF (l.length+l'.length) l l' []=R:=⟨_,rfl⟩
     have HM:=lH (show mergedV subF l l'=if R.1≠0 then (R.1,[]) else if 8<R.2.length then (4,[]) else (0,R.2) by
      unfold mergedV;rw[if_neg (by rw[h1];decide),if_neg (by rw[h2];decide)];dsimp only;rw[hR])
     have HR:=lH hR;have H1:=lH h1;have H2:=lH h2;have HA:=lH hr;have HB:=lH hr';clear hR h1 h2 hr hr';go_enter Tryz.func175,Tryz.ntmps175;go_wp2_with fail
     refine(checked_any _ _ _ l _ HA.out).mono ?_;rintro e1 w1 ⟨g1,_,k1⟩;obtain rfl:=g1 H1.out;have K1:=lH k1;clear g1 k1;go_wp2_with fail
     refine(checked_any _ _ _ l' _ (HB.out.kept K1.out)).mono ?_;rintro e2 w2 ⟨g2,_,k2⟩;obtain rfl:=g2 H2.out;have K2:=lH (K1.out.trans k2);clear g2 k2;go_wp2
     go_loopw [0,1,7] (fun va vb v wr=>∃(A B:Option Addr) (n c n' c':Nat) (la lb acc:V) (fuel:Nat),va=.slice A n c∧vb=.slice B n' c'∧n≤c∧c≤maxLen∧n'≤c'∧c'≤maxLen ∧
      VecAt w A n la∧VecAt w B n' lb∧Pos la∧Pos lb∧OwnV 103 wr w.heap.size v acc∧Below w.heap.size w wr∧n+n'≤fuel∧mergeAcc subF fuel la lb acc=R∧acc.length+n+n'≤16)
      (fun va vb _ _=>lenOf va+lenOf vb)
     case atStart =>
      exact⟨a,a',len,cap,len',cap',l,l',[],l.length+l'.length,rfl,rfl,hc,hm,hc',hm',HA.out,HB.out,P1.out,P2.out,OwnV.nil _ _ _,K2.out,by rw[HL.out,HL'.out];exact Nat.le_refl _,HR.out,by simp;omega⟩
     case round =>
      obtain⟨A,B,n,c,n',c',la,lb,acc,fuel,rfl,rfl,c1,c2,c3,c4,va1,vb1,pa,pb,ho,hB,hfuel,hres,h16⟩:=hrel;have VA:=lH va1;have VB:=lH vb1;have PA:=lH pa;have PB:=lH pb;have HO:=lH ho;have HB2:=lH hB;have HQ:=lH hres;have LA:=lH va1.1;have LB:=lH vb1.1;clear va1 vb1 pa pb ho hB hres;by_cases hz:n+n'=0
      · obtain rfl:n=0:=by omega
        obtain rfl:n'=0:=by omega
        clear hz;obtain⟨av,cv,rfl,g1,g2,g3⟩:=HO.out.at_;have HE:=lH (show R=(0,acc) from HQ.out.symm.trans (merge_end (by rw[LA.out,LB.out])));have hal:acc.length≤9223372036854775807:=by omega
        clear g3 g1 g2;by_cases h8:acc.length≤8
        · have HF:=lH (show mergedV subF l l'=(0,acc) by rw[HM.out,HE.out];dsimp only;rw[if_neg (by decide),if_neg (by omega)]);go_wp2_with fail
          refine(long_ok _ _ _ _ h8).mono ?_;rintro e3 w3 ⟨rfl,rfl⟩;go_wp2;go_ret;exact VecRes.good (by rw[HF.out]) (by rw[HF.out];exact HO.out) HB2.out
        · have HF:=lH (show mergedV subF l l'=(4,[]) by rw[HM.out,HE.out];dsimp only;rw[if_neg (by decide),if_pos (by omega)]);go_wp2_with fail
          refine(long_bad _ _ _ _ (by omega) hal).mono ?_;rintro e3 w3 ⟨rfl,rfl⟩;go_wp2;exact⟨rfl,VecRes.bad (by rw[HF.out]) (by decide) HB2.out⟩
      · have hpos:0<n+n':=by omega
        clear hz;have HP:=lH (show 0<la.length+lb.length by rw[LA.out,LB.out];exact hpos);have HU:=lH (show la.length+lb.length≤fuel by rw[LA.out,LB.out];exact hfuel);have HS:=lH (foremost_size PA.out PB.out);have T1:=lH (taken_pos PA.out (foremostV la lb));have T2:=lH (taken_pos PB.out (foremostV la lb));have HLESS:=lH (merge_less HP.out);obtain⟨r1,r2,hr⟩:∃r1 r2,subF (takenV la (foremostV la lb)).1 (takenV lb (foremostV la lb)).1=(r1,r2):=⟨_,_,rfl⟩
        have QF:=lH (show ∀W,Calls Tryz.prog 193 #[.int .i64 (takenV la (foremostV la lb)).1,.int .i64 (takenV lb (foremostV la lb)).1] W (Ans r1 r2 W) from fun W=>by
         have:=qsub_f _ _ W T1.out.1.1 T1.out.1.2 T2.out.1.1 T2.out.1.2;rw[hr] at this;exact this)
        have HRR:=lH hr;have RB:=lH (show 0≤r1∧r1≤9223372036854775807 by have:=subF_bd (T1.out.1) (T2.out.1);rw[hr] at this;exact this);clear hr;have hd:(decide (0<n)||decide (0<n'))=true:=by simp;omega
        rcases Nat.eq_zero_or_pos n with h0 | h0
        case' inl=>(have d2:decide (0<n')=true:=by simp;omega)
        case' inl=>(subst h0)
        case' inr=>(have d1:decide (0<n)=true:=by simp;omega)
        all_goals
         clear hd;go_wp2_with fail
         refine(foremost_any _ _ _ _ _ _ la lb _ (VA.out.kept HB2.out) (VB.out.kept HB2.out) (by omega)).mono ?_;rintro e3 w3 ⟨rfl,k3⟩;have K3:=lH k3;clear k3;go_wp2_with fail
         refine(taken_any _ _ _ la _ _ ((VA.out.kept HB2.out).kept K3.out) c1 c2).mono ?_;rintro e4 w4 ⟨A4,c4',rfl,q1,q2,V4,k4⟩;have K4:=lH (K3.out.trans k4);have HV4:=lH V4;clear k4 V4;go_wp2_with fail
         refine(taken_any _ _ _ lb _ _ ((VB.out.kept HB2.out).kept K4.out) c3 c4).mono ?_;rintro e5 w5 ⟨A5,c5',rfl,q3,q4,V5,k5⟩;have K5:=lH (K4.out.trans k5);have HV5:=lH V5;clear k5 V5;go_wp2_with fail
         refine(QF.out _).mono ?_;rintro e6 w6 ⟨rfl,k6⟩;have K6:=lH (K5.out.trans k6);clear k6;by_cases hx:r2=0
         · subst hx;go_wp2_with fail
           refine(sound_ok _ _).mono ?_;rintro e7 w7 ⟨rfl,rfl⟩;obtain⟨fuel',hf1,hf2⟩:=merge_next (f:=subF) (acc:=acc) HP.out HU.out (by rw[HRR.out]);have HF1:=lH hf1;have HF2:=lH hf2;clear hf1 hf2;have HBB:=lH (show Below w.heap.size w w6 from HB2.out.trans (Below.mono K6.out HB2.out.size));by_cases hy:r1=0
           · subst hy;go_wp2_with fail
             refine(with_zero _ _ _).mono ?_;rintro e8 w8 ⟨rfl,rfl⟩;go_wp2;go_roundw
             case rel =>
              refine⟨A4,A5,_,c4',_,c5',_,_,acc,fuel',rfl,rfl,q1,q2,q3,q4,HV4.out w VA.out,HV5.out w VB.out,T1.out.2,T2.out.2,HO.out.kept K6.out,HBB.out,?_,?_,?_⟩
              · have:=HLESS.out;have:=HU.out;have:=HF1.out;omega
              · have:=HF2.out;rw[HRR.out] at this;rw[←HQ.out,this];rfl
              · have:=HLESS.out;have:=LA.out;have:=LB.out;omega
             case measure=>(show lenOf (Value.slice _ _ _)+lenOf (Value.slice _ _ _)<lenOf (Value.slice _ _ _)+lenOf (Value.slice _ _ _);simp only[lenOf];have:=HLESS.out;have:=LA.out;have:=LB.out;omega)
           · go_wp2_with fail
             refine(with_more _ _ r1 w.heap.size acc _ (HO.out.kept K6.out) hy HS.out (by have:=RB.out;omega) (by have:=RB.out;omega) (by omega) HBB.out.size).mono ?_;rintro e8 w8 ⟨v8,rfl,o8,b8⟩;have O8:=lH o8;have B8:=lH b8;have HY:=lH hy;clear o8 b8 hy;go_wp2;go_roundw
             case rel =>
              refine⟨A4,A5,_,c4',_,c5',_,_,_,fuel',rfl,rfl,q1,q2,q3,q4,HV4.out w VA.out,HV5.out w VB.out,T1.out.2,T2.out.2,O8.out,HBB.out.trans B8.out,?_,?_,?_⟩
              · have:=HLESS.out;have:=HU.out;have:=HF1.out;omega
              · have:=HF2.out;rw[HRR.out] at this;rw[←HQ.out,this];dsimp only;unfold plusV;rw[if_neg HY.out]
              · have:=HLESS.out;have:=LA.out;have:=LB.out;rw[List.length_append];simp only[List.length_cons,List.length_nil];omega
             case measure=>(show lenOf (Value.slice _ _ _)+lenOf (Value.slice _ _ _)<lenOf (Value.slice _ _ _)+lenOf (Value.slice _ _ _);simp only[lenOf];have:=HLESS.out;have:=LA.out;have:=LB.out;omega)
         · have HX:=lH hx;have HE:=lH (show mergedV subF l l'=(r2,[]) by
            rw[HM.out,←HQ.out,merge_bad HP.out HU.out (by rw[HRR.out];exact hx),HRR.out];dsimp only;rw[if_pos hx])
           go_wp2_with fail
           refine(sound_bad _ _ _ hx).mono ?_;rintro e7 w7 ⟨rfl,rfl⟩;clear hx;go_wp2;exact⟨rfl,VecRes.bad (by rw[HE.out]) HX.out (HB2.out.trans (Below.mono K6.out HB2.out.size))⟩
   · have HM:=lH (show mergedV subF l l'=(checkV l',[]) by unfold mergedV;rw[if_neg (by rw[h1];decide),if_pos h2]);have HA:=lH hr;have HB:=lH hr';have H1:=lH h1;have H2:=lH h2;clear h1 h2 hr hr';go_enter Tryz.func175,Tryz.ntmps175;go_wp2_with fail
     refine(checked_any _ _ _ l _ HA.out).mono ?_;rintro e1 w1 ⟨g1,_,k1⟩;obtain rfl:=g1 H1.out;have K1:=lH k1;clear g1 k1;go_wp2_with fail
     refine(checked_any _ _ _ l' _ (HB.out.kept K1.out)).mono ?_;rintro e2 w2 ⟨_,g2,k2⟩;obtain rfl:=g2 H2.out;have K2:=lH (K1.out.trans k2);clear g2 k2;go_wp2;exact⟨rfl,VecRes.bad (by rw[HM.out]) H2.out K2.out⟩
 · have HM:=lH (show mergedV subF l l'=(checkV l,[]) by unfold mergedV;rw[if_pos h1]);have HA:=lH hr;have H1:=lH h1;clear h1 hr hr';go_enter Tryz.func175,Tryz.ntmps175;go_wp2_with fail
   refine(checked_any _ _ _ l _ HA.out).mono ?_;rintro e1 w1 ⟨_,g1,k1⟩;obtain rfl:=g1 H1.out;have K1:=lH k1;clear g1 k1;go_wp2;exact⟨rfl,VecRes.bad (by rw[HM.out]) H1.out K1.out⟩
theorem caught_sub (C:Addr×Addr) (r:Int×V) (w:World) (hr:r.1≠0→r.2=[])
 (hk:∀W,Kept w W→Calls Tryz.prog 192 #[.pointer (some C.1),.pointer (some C.2)] W (VecRes r W.heap.size W)) :
 Calls Tryz.prog 128 #[.func (.func 192) #[] #[.pointer (some C.1),.pointer (some C.2)]] w (Done r w):=by
 have hmf:=hmfL (P:=Tryz.prog);have HK:=lH hk;have HR:=lH hr;clear hk hr;obtain⟨r1,r2⟩:=r;go_enter_defers Tryz.func128,Tryz.ntmps128
 go_wp2_with fail
 refine(HK.out _ (kept_alloc _ _)).mono ?_;rintro e1 w1 ⟨h0,h1,hb⟩;have k1:=hb.size;simp only[World.size_alloc] at k1;have c2:=(hb.cell (p:=⟨w.heap.size,0,none⟩) (by simp))
 have z2:=(hb.frozen (p:=⟨w.heap.size,0,none⟩) (by simp))
 have e2':w1.cell? ⟨w.heap.size,0,none⟩=some (.int .i64 0):=by rw[c2];go_simp
 have y2:w1.frozen? ⟨w.heap.size,0,none⟩=false:=by rw[z2];go_simp
 clear c2 z2;have KB:=lH (show Below w.heap.size w w1 from(kept_alloc w _).trans hb);by_cases hx:r1=0
 · subst hx;obtain⟨v,rfl,ho⟩:=h0 rfl;have HO:=lH ho;obtain⟨av,cv,rfl,_,_,_⟩:=ho.at_;have hsz:=World.size_alloc w (.cells #[.int .i64 0] 50);clear h0 h1 hb ho;go_wp2_with fail
   refine leaves_cons (f:=153) (args:=#[.pointer (some ⟨w.heap.size,0,none⟩)]) (by simp) (by simp[go_sem]) ?_;refine(caught_idle ⟨w.heap.size,0,none⟩ _).mono ?_;rintro e u' w'' ⟨rfl,rfl,rfl⟩;simp[Leaves,settle,results,Tryz.results128,go_sem,e2'];exact⟨_,rfl,(HO.out.setCell_below (a:=⟨w.heap.size,0,none⟩) (by simp) _).base_le (by simp),KB.out.setCell (p:=⟨w.heap.size,0,none⟩) (Nat.le_refl _) _⟩
 · obtain rfl:=h1 hx;obtain rfl:=HR.out hx;clear h0 h1 hb;go_wp2_with fail
   refine leaves_cons (f:=153) (args:=#[.pointer (some ⟨w.heap.size,0,none⟩)]) (by simp) (by simp[go_sem]) ?_;refine(caught_panicking w.heap.size w.heap.size r1 0 _ e2' y2 (by omega)).mono ?_;rintro e u' w'' ⟨rfl,rfl,q2,q3⟩;simp[Leaves,settle,results,Tryz.results128,go_sem,q2];exact⟨_,rfl,OwnV.nil _ _ _,KB.out.trans q3⟩
theorem closure_sub (C:Addr×Addr) (a a':Option Addr) (len cap len' cap':Nat) (l l':V) (w:World) (h1:w.cell? C.1=some (.slice a len cap)) (h2:w.cell? C.2=some (.slice a' len' cap'))
 (hr:VecAt w a len l) (hr':VecAt w a' len' l') (hc:len≤cap) (hm:cap≤maxLen) (hc':len'≤cap') (hm':cap'≤maxLen) :
 Calls Tryz.prog 192 #[.pointer (some C.1),.pointer (some C.2)] w (VecRes (mergedV subF l l') w.heap.size w):=by
 have HR:=lH hr;have HR':=lH hr';have HM:=lH hm;have HM':=lH hm';clear hr hr' hm hm';go_enter Tryz.func192,Tryz.ntmps192;go_wp2_with fail
 refine(merged_sub a a' len cap len' cap' l l' _ HR.out HR'.out hc HM.out hc' HM'.out).mono ?_;rintro e w' ⟨g0,g1,k⟩;by_cases hx:(mergedV subF l l').1=0
 · obtain⟨v,rfl,ho⟩:=g0 hx;have HX:=lH hx;have HO:=lH ho;have HK:=lH k;clear g0 g1 hx ho k;go_wp2;go_ret;exact VecRes.good HX.out HO.out HK.out
 · obtain rfl:=g1 hx;have HX:=lH hx;have HK:=lH k;clear g0 g1 hx k;go_wp2;exact⟨rfl,VecRes.bad rfl HX.out HK.out⟩
theorem merged_sub_none (l l':V):(mergedV subF l l').1≠0→(mergedV subF l l').2=[]:=by
 unfold mergedV;split
 · exact fun _=>rfl
 · split
   · exact fun _=>rfl
   · dsimp only;split
     · exact fun _=>rfl
     · split
       · exact fun _=>rfl
       · exact fun h=>absurd rfl h
theorem sub_any (a a':Option Addr) (len cap len' cap':Nat) (l l':V) (w:World)
 (hr:VecAt w a len l) (hr':VecAt w a' len' l') (hc:len≤cap) (hm:cap≤maxLen) (hc':len'≤cap') (hm':cap'≤maxLen) :
 Calls Tryz.prog 172 #[.slice a len cap,.slice a' len' cap'] w (Done (mergedV subF l l') w):=by
 have hmf:=hmfL (P:=Tryz.prog);have hC:∀W,Kept ((w.alloc (.cells #[.slice a len cap] 28)).alloc (.cells #[.slice a' len' cap'] 28)) W→Calls Tryz.prog 192 #[.pointer (some ⟨w.heap.size,0,none⟩),.pointer (some ⟨w.heap.size+1,0,none⟩)] W (VecRes (mergedV subF l l') W.heap.size W):=by
  intro W k;have c1:=k.cell (p:=⟨w.heap.size,0,none⟩) (by simp;omega);have c2:=k.cell (p:=⟨w.heap.size+1,0,none⟩) (by simp);exact closure_sub (⟨w.heap.size,0,none⟩,⟨w.heap.size+1,0,none⟩) a a' len cap len' cap' l l' W (by rw[c1];go_simp) (by rw[c2];go_simp) (hr.kept ((kept_two w _ _).trans k)) (hr'.kept ((kept_two w _ _).trans k)) hc hm hc' hm'
 have HC:=lH hC;clear hC hr hr' hm hm';go_enter Tryz.func172,Tryz.ntmps172;go_wp2_with fail
 refine(caught_sub (⟨w.heap.size,0,none⟩,⟨w.heap.size+1,0,none⟩) (mergedV subF l l') _ (merged_sub_none l l') HC.out).mono ?_;rintro e w' ⟨v,rfl,ho,k⟩;have HO:=lH ho;have HK:=lH k;clear ho k;go_wp2;go_ret2
 exact⟨v,rfl,HO.out.base_le (by simp;omega),(kept_two w _ _).trans HK.out⟩
def nameOf (p:List UInt8):List UInt8:=(Lib.cut p [61]).1
def numOf' (p:List UInt8):List UInt8:=(Lib.cut p [61]).2.1
open Go.RowKit Go.Shelf
attribute [local go_sem] Oper.semAt_some
theorem OwnV.put {e:TypeId} {w:World} {B D:Nat} {v:Value} {l:V} (h:OwnV e w B v l) (hD:D<B) (o:Obj):OwnV e (w.putObj D o) B v l:=by
 obtain⟨⟨h0,h1⟩,hf⟩:=h;refine⟨⟨h0,h1.imp id ?_⟩,hf⟩;rintro ⟨g,cap,cur,rfl,hbg,hg,rest⟩;exact⟨g,cap,cur,rfl,hbg,(World.putObj_heap_other (by omega)).trans hg,rest⟩
theorem OwnV.row {e:TypeId} {w:World} {B n:Nat} {v:Value} {l:V} (h:OwnV e w B v l) (hn:l.length=n):w.ownsRow B e 2 v n (cellsOf l):=hn▸h.1
end Go.Proofs.YtmlgobiifebjkacGreat.Vec
namespace Go.Proofs.YtmlgobiifebjkacGreat.Vec
open Go.RowKit Go.Shelf
def Others (b:Nat) (w w':World):Prop:=∀g cs fr,g≠b→w.heap[g]?=some (.cells cs 103 fr)→w'.heap[g]?=w.heap[g]?
theorem Others.trans {b:Nat} {x y z:World} (h:Others b x y) (k:Others b y z):Others b x z:=fun g cs fr hg hc=>(k g cs fr hg ((h g cs fr hg hc).trans hc)).trans (h g cs fr hg hc)
open Go.RowKit
theorem Reads.nil (w:World):Reads w (.slice none 0 0) []:=⟨none,0,rfl,Nat.le_refl _,by decide,VecAt.nil w⟩
theorem getR {v:Value} {l:V} {n:ByteArray} {c:Int} {w:World} (h:Reads w v l) (e:getV l n=c) :
 Calls Tryz.prog 89 #[v,.string n] w fun x w'=>x=.returned (.int .i64 c)∧Kept w w':=by
 subst e;obtain⟨a,cap,rfl,h1,h2,h3⟩:=h;exact get_any a _ cap l n w h3
theorem fitsR {v v':Value} {l l':V} {c:Bool} {w:World} (h:Reads w v l) (h':Reads w v' l') (e:fitsFrom l' l=c) :
 Calls Tryz.prog 147 #[v,v'] w fun x w'=>x=.returned (.bool c)∧Kept w w':=by
 subst e;obtain⟨a,cap,rfl,h1,h2,h3⟩:=h;obtain⟨a',cap',rfl,h1',h2',h3'⟩:=h';exact fits_any a a' _ cap _ cap' l l' w h3 h3'
def cpu:ByteArray:=⟨#[99,112,117]⟩
def mem:ByteArray:=⟨#[109,101,109]⟩
def kA:V:=[(cpu,100),(mem,5)]
theorem less_irrefl:∀s:List UInt8,Op.bytesLess s s=false
 | []=>rfl
 | a::s=>by
  have:¬a<a:=UInt8.lt_irrefl a;simp[Op.bytesLess,less_irrefl s,this]
theorem less_trans:∀{a b c:List UInt8},Op.bytesLess a b=true→Op.bytesLess b c=true→Op.bytesLess a c=true
 | _,_,[],_,h=>by simp[Op.bytesLess] at h
 | [],_,_::_,_,_=>by simp[Op.bytesLess]
 | x::a,[],z::c,h,_=>by simp[Op.bytesLess] at h
 | x::a,y::b,z::c,h,g=>by
  simp only[Op.bytesLess,Bool.or_eq_true,Bool.and_eq_true,decide_eq_true_eq,beq_iff_eq] at h g ⊢;rcases h with h | ⟨rfl,h⟩
  · rcases g with g | ⟨rfl,g⟩
    · exact .inl (UInt8.lt_trans h g)
    · exact .inl h
  · rcases g with g | ⟨rfl,g⟩
    · exact .inl g
    · exact .inr ⟨rfl,less_trans h g⟩
theorem less_tri:∀{a b:List UInt8},Op.bytesLess a b=false→Op.bytesLess b a=false→a=b
 | [],[],_,_=>rfl
 | [],_::_,h,_=>by simp[Op.bytesLess] at h
 | _::_,[],_,h=>by simp[Op.bytesLess] at h
 | x::a,y::b,h,g=>by
  simp only[Op.bytesLess,Bool.or_eq_false_iff,decide_eq_false_iff_not,Bool.and_eq_false_iff,beq_eq_false_iff_ne] at h g;have e:x=y:=by
   have h1:=UInt8.not_lt.1 h.1;have h2:=UInt8.not_lt.1 g.1;exact UInt8.le_antisymm h2 h1
  subst e;have h2:=h.2.resolve_left (by simp);have g2:=g.2.resolve_left (by simp);rw[less_tri h2 g2]
theorem lt_of (s t:ByteArray):ltS s t=Op.bytesLess s.data.toList t.data.toList:=by unfold ltS;rw[Lib.toList_data,Lib.toList_data]
theorem eqS_iff {s t:ByteArray}:eqS s t=true↔s=t:=by
 unfold eqS;rw[Lib.toList_data,Lib.toList_data,beq_iff_eq];exact⟨fun h=>Go.WideShapes.bytes_inj h,fun h=>by rw[h]⟩
theorem lt_irrefl' (s:ByteArray):ltS s s=false:=by rw[lt_of];exact less_irrefl _
theorem lt_trans' {s t u:ByteArray} (h:ltS s t=true) (g:ltS t u=true):ltS s u=true:=by
 rw[lt_of] at *;exact less_trans h g
theorem lt_tri' {s t:ByteArray} (h:ltS s t=false) (g:ltS t s=false):s=t:=by
 rw[lt_of] at *;exact Go.WideShapes.bytes_inj (less_tri h g)
theorem lt_ne {s t:ByteArray} (h:ltS s t=true):s≠t:=by rintro rfl;rw[lt_irrefl'] at h;cases h
theorem lt_asymm' {s t:ByteArray} (h:ltS s t=true) (g:ltS t s=true):False:=lt_ne (lt_trans' h g) rfl
def Gd (l:V):Prop:=(∀x ∈ l,isName x.1=true∧0<x.2∧x.2≤9223372036854775807)∧l.Pairwise (fun x y=>ltS x.1 y.1=true)
theorem Gd.nil:Gd []:=⟨fun x hx=>absurd hx (by simp),.nil⟩
theorem Gd.cons {x:ByteArray×Int} {t:V}:Gd (x::t)↔(isName x.1=true∧0<x.2∧x.2≤9223372036854775807)∧(∀y ∈ t,ltS x.1 y.1=true)∧Gd t:=by
 unfold Gd;rw[List.pairwise_cons,List.forall_mem_cons];constructor
 · rintro ⟨⟨a,b⟩,c,d⟩;exact⟨a,c,b,d⟩
 · rintro ⟨a,c,b,d⟩;exact⟨⟨a,b⟩,c,d⟩
theorem get_same (x:ByteArray×Int) (t:V):getV (x::t) x.1=x.2:=by rw[getV,if_pos (eqS_iff.2 rfl)]
theorem get_other {x:ByteArray×Int} {n:ByteArray} (t:V) (h:x.1≠n):getV (x::t) n=getV t n:=by rw[getV,if_neg (fun e=>h (eqS_iff.1 e))]
theorem get_mem:∀{l:V} {n:ByteArray},getV l n≠0→∃y ∈ l,y.1=n
 | [],_,h=>absurd rfl h
 | x::t,n,h=>by
  by_cases e:x.1=n
  · exact⟨x,by simp,e⟩
  · rw[get_other t e] at h;obtain⟨y,hy,hn⟩:=get_mem h;exact⟨y,by simp[hy],hn⟩
theorem Gd.len:∀{b r:V},Gd r→Gd b→(∀n,getV r n≠0→getV b n≠0)→r.length≤b.length
 | [],[],_,_,_=>Nat.le_refl _
 | [],x::s,hr,_,h=>by
  have:=h x.1;rw[get_same] at this;have h1:=(Gd.cons.1 hr).1;exact absurd rfl (this (by omega))
 | y::t,[],_,_,_=>Nat.zero_le _
 | y::t,x::s,hr,hb,h=>by
  have hr':=Gd.cons.1 hr;have hb':=Gd.cons.1 hb;have:s.length≤t.length:=Gd.len hr'.2.2 hb'.2.2 fun n hn=>by
   obtain⟨z,hz,rfl⟩:=get_mem hn;have hlt:=hr'.2.1 z hz;have hb2:=h z.1 (by rw[get_other s (lt_ne hlt)];exact hn);by_cases e:y.1=z.1
   · obtain⟨u,hu,hux⟩:=get_mem (h x.1 (by rw[get_same];omega));rcases List.mem_cons.1 hu with rfl | hu
     · rw[←hux,e,lt_irrefl'] at hlt;cases hlt
     · have:=hb'.2.1 u hu;rw[hux,e] at this;exact(lt_asymm' hlt this).elim
   · rw[get_other t e] at hb2;exact hb2
  simp only[List.length_cons];omega
theorem leS_false {s t:ByteArray} (h:leS s t=false):ltS t s=true:=by
 unfold leS at h;rw[Bool.or_eq_false_iff] at h
 cases e:ltS t s with
 | true=>rfl
 | false=>rw[lt_tri' h.1 e,eqS_iff.2 rfl] at h;cases h.2
theorem leS_of_lt {s t:ByteArray} (h:ltS t s=true):leS s t=false:=by
 unfold leS;rw[Bool.or_eq_false_iff];refine⟨?_,?_⟩
 · cases e:ltS s t with
   | false=>rfl
   | true=>exact(lt_asymm' h e).elim
 · cases e:eqS s t with
   | false=>rfl
   | true=>exact absurd (eqS_iff.1 e).symm (lt_ne h)
theorem Reads.fine {v:Value} {l:V} {w:World} (h:Reads w v l):Fine l:=by
 obtain⟨a,cap,rfl,h1,h2,h3⟩:=h;exact h3.2.2.1
open Go.RowKit Go.Proofs.YtmlgobiifebjkacGreat
def Inner (w:World) (v:Value) (vs:List (Nat×Nat)) (ps:List (List UInt8)):Prop :=
 ∀(i:Nat) (x:Nat×Nat) (p:List UInt8),vs[i]?=some x→ps[i]?=some p→x.1<w.heap.size∧v.ownBlock≠some x.1 ∧
  w.cell? ⟨x.1,0,none⟩=some (.string (bytes (nameOf p)))∧w.cell? ⟨x.1,1,none⟩=some (.string (bytes (numOf' p)))
theorem Inner.nil (w:World) (v:Value) (ps:List (List UInt8)):Inner w v [] ps:=fun i x p h=>by simp at h
theorem Inner.kept {w w':World} {v:Value} {vs:List (Nat×Nat)} {ps:List (List UInt8)} (h:Inner w v vs ps) (k:Kept w w'):Inner w' v vs ps:=fun i x p hx hp=>by
 obtain⟨h1,h2,h3,h4⟩:=h i x p hx hp;exact⟨Nat.lt_of_lt_of_le h1 k.size,h2,cell_later k h3,cell_later k h4⟩
theorem Inner.snoc {w w':World} {v:Value} {vs:List (Nat×Nat)} {ps:List (List UInt8)} {g n cap b c:Nat} {p:List UInt8} (h:Inner w v vs ps) (hg:w.grownBy w' v.ownBlock) (hgo:v.ownBlock=some g∨g=w.heap.size)
 (hp:ps[vs.length]?=some p) (hb:b<w.heap.size) (hne:v.ownBlock≠some b)
 (c0:w.cell? ⟨b,0,none⟩=some (.string (bytes (nameOf p)))) (c1:w.cell? ⟨b,1,none⟩=some (.string (bytes (numOf' p)))) :
 Inner w' (.slice (some ⟨g,0,none⟩) n cap) (vs++[(b,c)]) ps:=by
 have far:∀d,d<w.heap.size→v.ownBlock≠some d→d<w'.heap.size∧(Value.slice (some ⟨g,0,none⟩) n cap).ownBlock≠some d∧∀j,w'.cell? ⟨d,j,none⟩=w.cell? ⟨d,j,none⟩:=fun d hd hn=>by
  refine⟨Nat.lt_of_lt_of_le hd hg.size,?_,fun j=>hg.cell_far ⟨d,j,none⟩ hd (fun e=>hn e.symm)⟩;show some g≠some d;intro e;have e':g=d:=Option.some.inj e;rcases hgo with h1 | h1
  · exact hn (by rw[h1,e'])
  · omega
 intro i x q hx hq;by_cases hi:i<vs.length
 · rw[List.getElem?_append_left hi] at hx;obtain⟨h1,h2,h3,h4⟩:=h i x q hx hq;obtain⟨f1,f2,f3⟩:=far x.1 h1 h2;exact⟨f1,f2,(f3 0).trans h3,(f3 1).trans h4⟩
 · have hi2:i=vs.length:=by
    have:=(List.getElem?_eq_some_iff.1 hx).1;simp at this;omega
   subst hi2;have hxx:(b,c)=x:=by simpa using hx
   have hqq:q=p:=Option.some.inj (hq.symm.trans hp);subst hxx;subst hqq;obtain⟨f1,f2,f3⟩:=far b hb hne;exact⟨f1,f2,(f3 0).trans c0,(f3 1).trans c1⟩
def Told (c:Int) (m:V) (w:World) (e:Ending) (w':World):Prop:=∃x,e=.returned (.tuple #[x,.int .i64 c])∧OwnV 132 w' w.heap.size x m∧Kept w w'
theorem Told.none {c:Int} {w w':World} (k:Kept w w'):Told c [] w (.returned (.tuple #[.slice none 0 0,.int .i64 c])) w':=⟨_,rfl,OwnV.nil _ _ _,k⟩
theorem OwnV.reads {e:TypeId} {w:World} {B:Nat} {v:Value} {l:V} (h:OwnV e w B v l):Reads w v l:=h.at_
end Go.Proofs.YtmlgobiifebjkacGreat.Vec
namespace Go.Proofs.YtmlgobiifebjkacGreat
open Go.RowKit
structure Nod where
 name:ByteArray
 cap:Vec.V
 labels:PL
 taints:NL
 cordon:Bool
def Nod.zero:Nod:=⟨ByteArray.empty,[],[],[],false⟩
abbrev NodV (n:Nod) (v1 v2 v3:Value):Value:=.agg #[.string n.name,v1,v2,v3,.bool n.cordon]
structure NodAt (w:World) (v1 v2 v3:Value) (n:Nod):Prop where
 size:n.name.size≤maxLen
 cap:Vec.Reads w v1 n.cap
 labels:Reads PairLay w v2 n.labels
 taints:Reads TaLay w v3 n.taints
theorem NodAt.kept {w w':World} {v1 v2 v3:Value} {n:Nod} (h:NodAt w v1 v2 v3 n) (k:Kept w w'):NodAt w' v1 v2 v3 n:=⟨h.size,h.cap.kept k,h.labels.kept k,h.taints.kept k⟩
def NodR (w:World) (v:Value) (n:Nod):Prop:=∃v1 v2 v3,v=NodV n v1 v2 v3∧NodAt w v1 v2 v3 n
theorem NodR.kept {w w':World} {v:Value} {n:Nod} (h:NodR w v n) (k:Kept w w'):NodR w' v n:=by
 obtain⟨v1,v2,v3,e,h⟩:=h;exact⟨v1,v2,v3,e,h.kept k⟩
def NodRB (B:Nat) (w:World) (v:Value) (n:Nod):Prop:=∃a1 m1 c1 a2 m2 c2 a3 m3 c3,v=.agg #[.string n.name,.slice a1 m1 c1,.slice a2 m2 c2,.slice a3 m3 c3,.bool n.cordon]∧n.name.size≤maxLen∧Vec.Reads w (.slice a1 m1 c1) n.cap∧Reads PairLay w (.slice a2 m2 c2) n.labels∧Reads TaLay w (.slice a3 m3 c3) n.taints ∧
 (∀b off sp,a1=some ⟨b,off,sp⟩→B≤b)∧(∀b off sp,a2=some ⟨b,off,sp⟩→B≤b)∧(∀b off sp,a3=some ⟨b,off,sp⟩→B≤b)
theorem NodRB.toR {B:Nat} {w:World} {v:Value} {n:Nod} (h:NodRB B w v n):NodR w v n:=by
 obtain⟨a1,m1,c1,a2,m2,c2,a3,m3,c3,e,h0,h1,h2,h3,_⟩:=h;exact⟨_,_,_,e,h0,h1,h2,h3⟩
def NodRes (r:Int×Nod) (w:World) (e:Ending) (w':World):Prop:=(r.1=0→∃v,e=.returned v∧NodRB w.heap.size w' v r.2)∧(r.1≠0→e=.panicked [perr r.1])∧Kept w w'
theorem NodRes.good {r:Int×Nod} {w w':World} {v:Value} (h:r.1=0) (ho:NodRB w.heap.size w' v r.2) (hb:Kept w w'):NodRes r w (.returned v) w':=⟨fun _=>⟨v,rfl,ho⟩,fun g=>absurd h g,hb⟩
theorem NodRes.bad {r:Int×Nod} {w w':World} {c:Int} (h:r.1=c) (hc:c≠0) (hb:Kept w w'):NodRes r w (.panicked [perr c]) w':=⟨fun g=>absurd (h.symm.trans g) hc,fun _=>by rw[h],hb⟩
theorem Vec.Done.spelt {r:Int×Vec.V} {w w':World} {e:Ending} (h:Vec.Done r w e w'):∃a m cap,e=.returned (.tuple #[.slice a m cap,.int .i64 r.1])∧Vec.Reads w' (.slice a m cap) r.2∧(∀b off sp,a=some ⟨b,off,sp⟩→w.heap.size≤b∧b<w'.heap.size)∧Kept w w':=by
 obtain⟨v,rfl,ho,k⟩:=h;obtain⟨a,cap,rfl,h⟩:=ho.at_;exact⟨a,_,cap,rfl,⟨a,cap,rfl,h⟩,fun b off sp e=>ho.1.lt b (by subst e;rfl),k⟩
theorem fresh5 (w:World) (v0 v1 v2 v3 v4:Value) (T:TypeId) (W:World) (k:Kept (w.alloc (.cells #[v0,v1,v2,v3,v4] T)) W) :
 (W.cell? ⟨w.heap.size,0,none⟩=some v0∧W.cell? ⟨w.heap.size,1,none⟩=some v1∧W.cell? ⟨w.heap.size,2,none⟩=some v2∧W.cell? ⟨w.heap.size,3,none⟩=some v3∧W.cell? ⟨w.heap.size,4,none⟩=some v4) ∧
 W.frozen? ⟨w.heap.size,0,none⟩=false∧W.frozen? ⟨w.heap.size,1,none⟩=false∧W.frozen? ⟨w.heap.size,2,none⟩=false∧W.frozen? ⟨w.heap.size,3,none⟩=false∧W.frozen? ⟨w.heap.size,4,none⟩=false:=by
 have hh:=w.alloc_heap_new (.cells #[v0,v1,v2,v3,v4] T);have hf:∀j,W.frozen? ⟨w.heap.size,j,none⟩=false:=fun j=>by
  have:=k.frozen (p:=⟨w.heap.size,j,none⟩) (by simp);rw[this];unfold World.frozen?;rw[show (w.alloc (.cells #[v0,v1,v2,v3,v4] T)).heap[(⟨w.heap.size,j,none⟩:Addr).block]?=some (.cells #[v0,v1,v2,v3,v4] T) from hh];simp
 exact⟨⟨cell_later k (by rw[Lib.cell_of_heap hh];rfl),cell_later k (by rw[Lib.cell_of_heap hh];rfl),cell_later k (by rw[Lib.cell_of_heap hh];rfl),cell_later k (by rw[Lib.cell_of_heap hh];rfl),cell_later k (by rw[Lib.cell_of_heap hh];rfl)⟩,hf 0,hf 1,hf 2,hf 3,hf 4⟩
theorem set5_block (W:World) (q:Nat) (u0 u1 u2 u3 u4:Value) (b:Nat) (h:b≠q) :
 (((((W.setCell ⟨q,0,none⟩ u0).setCell ⟨q,1,none⟩ u1).setCell ⟨q,2,none⟩ u2).setCell ⟨q,3,none⟩ u3).setCell ⟨q,4,none⟩ u4).heap[b]?=W.heap[b]? :=
 (Below.heap_setCell _ ⟨q,4,none⟩ _ b h).trans ((Below.heap_setCell _ ⟨q,3,none⟩ _ b h).trans ((Below.heap_setCell _ ⟨q,2,none⟩ _ b h).trans ((Below.heap_setCell _ ⟨q,1,none⟩ _ b h).trans (Below.heap_setCell _ ⟨q,0,none⟩ _ b h))))
theorem set5_size (W:World) (q:Nat) (u0 u1 u2 u3 u4:Value) :
 (((((W.setCell ⟨q,0,none⟩ u0).setCell ⟨q,1,none⟩ u1).setCell ⟨q,2,none⟩ u2).setCell ⟨q,3,none⟩ u3).setCell ⟨q,4,none⟩ u4).heap.size=W.heap.size:=by simp[World.setCell]
theorem Reads.far {α:Type} {L:Lay α} {w w':World} {a:Option Addr} {m cap:Nat} {l:List α} (h:Reads L w (.slice a m cap) l) (hs:w'.heap.size=w.heap.size) (hb:∀b off sp,a=some ⟨b,off,sp⟩→w'.heap[b]?=w.heap[b]?):Reads L w' (.slice a m cap) l:=by
 obtain⟨a',cap',e,h1,h2,h3,h4,h5,h6⟩:=h
 cases e
 refine⟨a,cap,rfl,h1,h2,h3,h4,h5,h6.imp id ?_⟩;rintro ⟨b,off,rfl,hlt,hc⟩;exact⟨b,off,rfl,by rw[hs];exact hlt,fun i x j u hi hj=>(World.cell?_of_block (a:=⟨b,off+i*L.m+j,none⟩) (hb b off none rfl)).trans (hc i x j u hi hj)⟩
theorem Vec.Reads.far {w w':World} {a:Option Addr} {m cap:Nat} {l:Vec.V} (h:Vec.Reads w (.slice a m cap) l) (hs:w'.heap.size=w.heap.size) (hb:∀b off sp,a=some ⟨b,off,sp⟩→w'.heap[b]?=w.heap[b]?):Vec.Reads w' (.slice a m cap) l:=by
 obtain⟨a',cap',e,h1,h2,h3,h4,h5,h6⟩:=h
 cases e
 refine⟨a,cap,rfl,h1,h2,h3,h4,h5,h6.imp id ?_⟩;rintro ⟨b,off,rfl,hlt,hc⟩;exact⟨b,off,rfl,by rw[hs];exact hlt,fun i hi=>⟨(World.cell?_of_block (a:=⟨b,off+i*2,none⟩) (hb b off none rfl)).trans (hc i hi).1,(World.cell?_of_block (a:=⟨b,off+i*2+1,none⟩) (hb b off none rfl)).trans (hc i hi).2⟩⟩
theorem set5_cells {W:World} {q:Nat} {v0 v1 v2 v3 v4 u0 u1 u2 u3 u4:Value} (y0:W.cell? ⟨q,0,none⟩=some v0) (y1:W.cell? ⟨q,1,none⟩=some v1) (y2:W.cell? ⟨q,2,none⟩=some v2) (y3:W.cell? ⟨q,3,none⟩=some v3) (y4:W.cell? ⟨q,4,none⟩=some v4) (W':World)
 (hW:(((((W.setCell ⟨q,0,none⟩ u0).setCell ⟨q,1,none⟩ u1).setCell ⟨q,2,none⟩ u2).setCell ⟨q,3,none⟩ u3).setCell ⟨q,4,none⟩ u4)=W') :
 W'.cell? ⟨q,0,none⟩=some u0∧W'.cell? ⟨q,1,none⟩=some u1∧W'.cell? ⟨q,2,none⟩=some u2∧W'.cell? ⟨q,3,none⟩=some u3∧W'.cell? ⟨q,4,none⟩=some u4:=by
 subst hW;refine⟨?_,?_,?_,?_,?_⟩<;>go_simp
theorem caughtN_panicking (B:Nat) (q:Nat) (x y:Int) (w:World) (hq:w.cell? ⟨q,0,none⟩=some (.int .i64 y)) (hzq:w.frozen? ⟨q,0,none⟩=false) (hBq:B≤q) :
 CallsD Tryz.prog 105 #[.pointer (some ⟨q,0,none⟩)] (.panicking [perr x]) w fun e u' w' =>
  e=.returned (.tuple #[])∧u'=.panicking [{ perr x with recovered:=true }]∧w'=w.setCell ⟨q,0,none⟩ (.int .i64 x)∧w'.cell? ⟨q,0,none⟩=some (.int .i64 x)∧Below B w w':=by
 have hta:∀W,(Instr.typeAssert (.iface 50 (.int .i64 x)) 20 50 false).run Tryz.prog W=.ok (.int .i64 x) W:=fun _=>by kernel_rfl
 refine callsD_of_wpS Tryz.func105 rfl fun c₀ cs hu=>?_;apply wpS_seq;apply wpS_region;simp[wpOpsS,go_sem,recoverD,hu,Tryz.ntmps105,Exit.thenS];apply wpS_seq;apply wpS_region;simp[wpOpsS,go_sem,recoverD,Exit.thenS];refine wpS_cond (t:=true) (by simp[Act.eval,Array.replicate]) ?_;simp only[if_true];refine wpS_of_wp ?_;simp[Array.replicate];go_wp2;simp[bodyPostS,results,Tryz.results105];exact⟨World.cell?_setCell_same' _ _ _ (by rw[hq];rfl),(Below.refl B w).setCell (p:=⟨q,0,none⟩) hBq _⟩
theorem caughtN_idle (q:Addr) (w:World) :
 CallsD Tryz.prog 105 #[.pointer (some q)] .returning w fun e u' w'=>e=.returned (.tuple #[])∧u'=.returning∧w'=w:=by
 refine callsD_of_wpS Tryz.func105 rfl fun c₀ cs hu=>?_;apply wpS_seq;apply wpS_region;simp[wpOpsS,go_sem,recoverD,hu,Tryz.ntmps105,Exit.thenS];apply wpS_seq;apply wpS_region;simp[wpOpsS,go_sem,recoverD,hu,Exit.thenS];refine wpS_cond (t:=false) (by simp[Act.eval,Array.replicate]) ?_;simp only[Bool.false_eq_true,if_false];refine wpS_of_wp (wp_skip ?_)
 cases c₀
 simp_all [bodyPostS,results,Tryz.results105]
theorem zero_reads (B:Nat) (w:World):NodRB B w (.agg #[.string ⟨#[]⟩,.slice none 0 0,.slice none 0 0,.slice none 0 0,.bool false]) Nod.zero :=
 ⟨none,0,0,none,0,0,none,0,0,rfl,(by decide:(0:Nat)≤maxLen),Vec.Reads.nil w,Reads.nil w,Reads.nil w,(fun _ _ _ e=>by cases e),(fun _ _ _ e=>by cases e),(fun _ _ _ e=>by cases e)⟩
theorem NodRB.less {B B':Nat} {w:World} {v:Value} {n:Nod} (h:NodRB B w v n) (hb:B'≤B):NodRB B' w v n:=by
 obtain⟨a1,m1,c1,a2,m2,c2,a3,m3,c3,e,h0,h1,h2,h3,g1,g2,g3⟩:=h;exact⟨a1,m1,c1,a2,m2,c2,a3,m3,c3,e,h0,h1,h2,h3,fun b o s e=>Nat.le_trans hb (g1 b o s e),fun b o s e=>Nat.le_trans hb (g2 b o s e),fun b o s e=>Nat.le_trans hb (g3 b o s e)⟩
theorem NodRB.far {B:Nat} {w w':World} {v:Value} {n:Nod} (h:NodRB B w v n) (hs:w'.heap.size=w.heap.size) (hb:∀b,B≤b→w'.heap[b]?=w.heap[b]?):NodRB B w' v n:=by
 obtain⟨a1,m1,c1,a2,m2,c2,a3,m3,c3,e,h0,h1,h2,h3,g1,g2,g3⟩:=h;exact⟨a1,m1,c1,a2,m2,c2,a3,m3,c3,e,h0,h1.far hs (fun b o s e=>hb b (g1 b o s e)),h2.far hs (fun b o s e=>hb b (g2 b o s e)),h3.far hs (fun b o s e=>hb b (g3 b o s e)),g1,g2,g3⟩
theorem NodRB.kept {B:Nat} {w w':World} {v:Value} {n:Nod} (h:NodRB B w v n) (k:Kept w w'):NodRB B w' v n:=by
 obtain⟨a1,m1,c1,a2,m2,c2,a3,m3,c3,e,h0,h1,h2,h3,g1,g2,g3⟩:=h;exact⟨a1,m1,c1,a2,m2,c2,a3,m3,c3,e,h0,h1.kept k,h2.kept k,h3.kept k,g1,g2,g3⟩
def PutAt (q:Nat) (x:ByteArray) (a1 a2 a3:Option Addr) (m1 c1 m2 c2 m3 c3:Nat) (b:Bool) (W W':World):Prop :=
 (W'.cell? ⟨q,0,none⟩=some (.string x)∧W'.cell? ⟨q,1,none⟩=some (.slice a1 m1 c1)∧W'.cell? ⟨q,2,none⟩=some (.slice a2 m2 c2)∧W'.cell? ⟨q,3,none⟩=some (.slice a3 m3 c3)∧W'.cell? ⟨q,4,none⟩=some (.bool b)) ∧
  W'.heap.size=W.heap.size∧(∀j,j≠q→W'.heap[j]?=W.heap[j]?)∧∀B w,B≤q→Below B w W→Below B w W'
theorem put_at {W:World} {q:Nat} {v0 v1 v2 v3 v4:Value} (y:W.cell? ⟨q,0,none⟩=some v0∧W.cell? ⟨q,1,none⟩=some v1∧W.cell? ⟨q,2,none⟩=some v2∧W.cell? ⟨q,3,none⟩=some v3∧W.cell? ⟨q,4,none⟩=some v4) (x:ByteArray) (a1 a2 a3:Option Addr) (m1 c1 m2 c2 m3 c3:Nat) (b:Bool) :
 PutAt q x a1 a2 a3 m1 c1 m2 c2 m3 c3 b W (((((W.setCell ⟨q,0,none⟩ (.string x)).setCell ⟨q,1,none⟩ (.slice a1 m1 c1)).setCell ⟨q,2,none⟩ (.slice a2 m2 c2)).setCell ⟨q,3,none⟩ (.slice a3 m3 c3)).setCell ⟨q,4,none⟩ (.bool b)) :=
 ⟨set5_cells y.1 y.2.1 y.2.2.1 y.2.2.2.1 y.2.2.2.2 _ rfl,set5_size _ _ _ _ _ _ _,fun j hj=>set5_block _ _ _ _ _ _ _ j hj,
  fun B w hB hk=>((((hk.setCell (p:=⟨q,0,none⟩) hB _).setCell (p:=⟨q,1,none⟩) hB _).setCell (p:=⟨q,2,none⟩) hB _).setCell (p:=⟨q,3,none⟩) hB _).setCell (p:=⟨q,4,none⟩) hB _⟩
def Kind (t e:TypeId) (size bytes:Nat):Prop:=∃i z,Tryz.prog.underlying t=some (.slice e)∧Tryz.prog.info? e=some i∧i.zero=some z∧i.size=size∧i.bytes=bytes∧z.cells.size=size∧0<size
def AppSrc (w:World) (y:Value) (m:Nat) (news:List Value):Prop :=
 (∃ad c,y=.slice (some ad) m c∧∀j u,news[j]?=some u→w.cell? (ad.add j)=some u)∨(∃c,y=.slice none 0 c∧m=0)
theorem run_app_own {t e:TypeId} {size bytes:Nat} (K:Kind t e size bytes) (w:World) (B:Nat) (hB:B≤w.heap.size) (g n cap:Nat) (xs:List Value) (hown:w.ownsRow B e size (.slice (some ⟨g,0,none⟩) n cap) n xs) (y:Value) (m:Nat) (news:List Value) (hl:news.length=m*size) (hone:∀u ∈ news,u.oneCell'=true) (hy:AppSrc w y m news)
 (h63:n+m≤maxLen) (hb:((n+m)+(n+m) / 4+192)*bytes≤281474976710656) (ty:TypeId) :
 ∃g' cap' w',(Builtin.append_ #[t,t] ty #[.slice (some ⟨g,0,none⟩) n cap,y]).run Tryz.prog w=.ok (.slice (some ⟨g',0,none⟩) (n+m) cap') w'∧w'.ownsRow B e size (.slice (some ⟨g',0,none⟩) (n+m) cap') (n+m) (xs++news)∧Below B w w'∧w.grownBy w' (some g):=by
 obtain⟨i,z,ht,hi,hz,h1,h8,hzs,hsz⟩:=K;have hbg:B≤g:=by
  rcases hown.2 with ⟨h0,_⟩ | ⟨g2,cap2,cur,h0,hbg,_⟩
  · cases h0
  · cases h0;exact hbg
 rcases hy with ⟨ad,c,rfl,hc⟩ | ⟨c,rfl,rfl⟩
 · obtain⟨v',w',hr,ho,hg,hnil⟩:=run_append_own_wide w B t ty e i z size bytes ht hi hz h1 h8 hzs hsz _ n xs hown ad m c news hl hc hone h63 hb hB;have hb:=(Below.refl B w).grown hg hB (by intro k hk;cases hk;exact hbg);rcases ho.2 with ⟨h0,_⟩ | ⟨g2,cap2,cur,rfl,_⟩
   · have:=(hnil.1 h0).1
     cases this
   · exact⟨g2,cap2,w',hr,ho,hb,hg⟩
 · have:news=[]:=List.eq_nil_of_length_eq_zero (by rw[hl,Nat.zero_mul]);subst this;rcases hown.2 with ⟨h0,_⟩ | ⟨g2,cap2,cur,h0,_,hg,hnc,_⟩
   · cases h0
   · cases h0
     have hr:=run_append_room_src w t t ty e i ht hi g 0 n cap (.slice none 0 c) 0 [] (Src.ofNil w ht c) (by omega) (by intro j hj;simp at hj) (by intro j hj;simp at hj);exact⟨_,_,_,hr,by simpa [World.setCells] using hown,Below.refl B w,World.grownBy.refl _ _⟩
theorem wp_app_own {t e:TypeId} {size bytes:Nat} (Kd:Kind t e size bytes) {o:Oper} {a:Act} {K:Act→World→Prop} {Q:Exit→Act→World→Prop} (s x:Operand) (w:World)
 (ho:o.op=.call { callee:=.builtin .append,args:=#[s,x],argTypes:=#[t,t] })
 (B:Nat) (hB:B≤w.heap.size) (g n cap:Nat) (xs:List Value) (hs:a.eval s=.slice (some ⟨g,0,none⟩) n cap) (hown:w.ownsRow B e size (.slice (some ⟨g,0,none⟩) n cap) n xs) (y:Value) (m:Nat) (news:List Value) (hx:a.eval x=y) (hl:news.length=m*size) (hone:∀u ∈ news,u.oneCell'=true) (hy:AppSrc w y m news)
 (h63:n+m≤maxLen) (hb:((n+m)+(n+m) / 4+192)*bytes≤281474976710656)
 (h:∀g' cap' w',w'.ownsRow B e size (.slice (some ⟨g',0,none⟩) (n+m) cap') (n+m) (xs++news)→Below B w w'→w.grownBy w' (some g)→K (a.put o.dst (.slice (some ⟨g',0,none⟩) (n+m) cap')) w'):o.wp Tryz.prog a w K Q:=by
 obtain⟨g',cap',w',hr,h2,h3,h4⟩:=run_app_own Kd w B hB g n cap xs hown y m news hl hone hy h63 hb o.type;unfold Oper.wp execOp;simp only[ho,resolve,invoke,builtin,Sem.run_bind,Sem.run_pure,Result.andThen_ok,List.map_toArray,List.map_cons,List.map_nil,hs,hx,hr];exact h g' cap' w' h2 h3 h4
theorem wpList_app_own {t e:TypeId} {size bytes:Nat} (Kd:Kind t e size bytes) {ops:Array Oper} {rest:List Oper} {o:Oper} {a:Act} {Q:Exit→Act→World→Prop} (w:World) (hgd:o.guard=none) (s x:Operand)
 (ho:o.op=.call { callee:=.builtin .append,args:=#[s,x],argTypes:=#[t,t] })
 (B:Nat) (hB:B≤w.heap.size) (g n cap:Nat) (xs:List Value) (hs:a.eval s=.slice (some ⟨g,0,none⟩) n cap) (hown:w.ownsRow B e size (.slice (some ⟨g,0,none⟩) n cap) n xs) (y:Value) (m:Nat) (news:List Value) (hx:a.eval x=y) (hl:news.length=m*size) (hone:∀u ∈ news,u.oneCell'=true) (hy:AppSrc w y m news)
 (h63:n+m≤maxLen) (hb:((n+m)+(n+m) / 4+192)*bytes≤281474976710656)
 (h:∀g' cap' w',w'.ownsRow B e size (.slice (some ⟨g',0,none⟩) (n+m) cap') (n+m) (xs++news)→Below B w w'→w.grownBy w' (some g)→wpList Tryz.prog ops Q rest (a.put o.dst (.slice (some ⟨g',0,none⟩) (n+m) cap')) w'):wpList Tryz.prog ops Q (o::rest) a w :=
 wpList_plain hgd fun _ hK=>wp_app_own Kd s x w ho B hB g n cap xs hs hown y m news hx hl hone hy h63 hb fun g' cap' w' h2 h3 h4=>hK _ _ (h g' cap' w' h2 h3 h4)
theorem own_empty (w:World) (B size:Nat) (e:TypeId) (hB:B≤w.heap.size):(w.alloc (.cells #[] e)).ownsRow B e size (.slice (some ⟨w.heap.size,0,none⟩) 0 0) 0 [] :=
 ⟨by simp,.inr ⟨w.heap.size,0,#[],rfl,hB,World.alloc_heap_new w _,by omega,by unfold maxLen;omega,by simp,by simp⟩⟩
theorem rowCells_from {α:Type} (L:Lay α):∀(l:List α) (j:Nat) (u:Value),(rowCells L l)[j]?=some u→∃i x k,l[i]?=some x∧(L.cs x)[k]?=some u∧j=i*L.m+k
 | [],j,u,h=>by simp[rowCells] at h
 | y::t,j,u,h=>by
  unfold rowCells at h;rw[List.flatMap_cons] at h;by_cases hj:j<L.m
  · rw[List.getElem?_append_left (by rw[L.len];exact hj)] at h;exact⟨0,y,j,rfl,h,by omega⟩
  · rw[List.getElem?_append_right (by rw[L.len];omega),L.len] at h;obtain⟨i,x,k,h1,h2,h3⟩:=rowCells_from L t (j-L.m) u h;exact⟨i+1,x,k,by simpa using h1,h2,by rw[Nat.add_mul];omega⟩
theorem RowAt.src {α:Type} {L:Lay α} {w:World} {a:Option Addr} {len cap:Nat} {l:List α} (h:RowAt L w a len l):AppSrc w (.slice a len cap) len (rowCells L l):=by
 obtain⟨h0,h1,h2,h3⟩:=h;rcases h3 with h3 | ⟨b,off,rfl,hb,hc⟩
 · have hl:l=[]:=List.eq_nil_of_length_eq_zero (by omega);subst hl;subst h3
   cases a with
   | none=>exact .inr ⟨cap,rfl,rfl⟩
   | some ad=>exact .inl ⟨ad,cap,rfl,fun j u hu=>by simp[rowCells] at hu⟩
 · refine .inl ⟨_,cap,rfl,fun j u hu=>?_⟩;obtain⟨i,x,k,hi,hk,rfl⟩:=rowCells_from L l j u hu;have e:(⟨b,off,none⟩:Addr).add (i*L.m+k)=⟨b,off+i*L.m+k,none⟩:=by
    unfold Addr.add;split<;>simp_all [Nat.add_assoc]
   rw[e];exact hc i x k u hi hk
theorem kindP:Kind 30 127 2 32:=by
 obtain⟨i,hi,hz,h1,h2⟩:=info_parts (show (Tryz.prog.info? 127).map (fun i=>(i.zero,i.size,i.bytes))=some (some (.agg #[.string ByteArray.empty,.string ByteArray.empty]),2,32) by kernel_rfl);exact⟨i,_,Tryz.underlying30,hi,hz,h1,h2,rfl,by decide⟩
theorem kindA:Kind 53 96 3 40:=by
 obtain⟨i,hi,hz,h1,h2⟩:=info_parts (show (Tryz.prog.info? 96).map (fun i=>(i.zero,i.size,i.bytes))=some (some (.agg #[.string ByteArray.empty,.string ByteArray.empty,.bool false]),3,40) by kernel_rfl);exact⟨i,_,Tryz.underlying53,hi,hz,h1,h2,rfl,by decide⟩
theorem kindV:Kind 28 103 2 24:=by
 obtain⟨i,hi,hz,h1,h2⟩:=info_parts (show (Tryz.prog.info? 103).map (fun i=>(i.zero,i.size,i.bytes))=some (some (.agg #[.string ByteArray.empty,.int .i64 0]),2,24) by kernel_rfl);exact⟨i,_,Tryz.underlying28,hi,hz,h1,h2,rfl,by decide⟩
theorem vec_cells_from:∀(l:Vec.V) (j:Nat) (u:Value),(Vec.cellsOf l)[j]?=some u→∃i,i<l.length∧((j=i*2∧u=.string (Vec.nm l i))∨(j=i*2+1∧u=.int .i64 (Vec.qn l i))):=by
 intro l j u h;have hlt:j<l.length*2:=by have:=(List.getElem?_eq_some_iff.1 h).1;rw[Vec.cellsOf_length] at this;exact this
 have hi:j / 2<l.length:=by omega
 obtain⟨h1,h2⟩:=Vec.cellsOf_at l (j / 2) hi;refine⟨j / 2,hi,?_⟩;by_cases he:j % 2=0
 · have e:j=j / 2*2:=by omega
   rw[←e] at h1;rw[h1] at h;exact .inl ⟨e,by cases h;rfl⟩
 · have e:j=j / 2*2+1:=by omega
   rw[←e] at h2;rw[h2] at h;exact .inr ⟨e,by cases h;rfl⟩
theorem vec_src {w:World} {a:Option Addr} {len cap:Nat} {l:Vec.V} (h:Vec.VecAt w a len l):AppSrc w (.slice a len cap) len (Vec.cellsOf l):=by
 obtain⟨h0,h1,h2,h3⟩:=h;rcases h3 with h3 | ⟨b,off,rfl,hb,hc⟩
 · have hl:l=[]:=List.eq_nil_of_length_eq_zero (by omega);subst hl;subst h3
   cases a with
   | none=>exact .inr ⟨cap,rfl,rfl⟩
   | some ad=>exact .inl ⟨ad,cap,rfl,fun j u hu=>by simp[Vec.cellsOf] at hu⟩
 · refine .inl ⟨_,cap,rfl,fun j u hu=>?_⟩;obtain⟨i,hi,hj⟩:=vec_cells_from l j u hu;obtain⟨c1,c2⟩:=hc i (by omega);have e:(⟨b,off,none⟩:Addr).add j=⟨b,off+j,none⟩:=by
    unfold Addr.add;split<;>simp_all
   rw[e];rcases hj with ⟨rfl,rfl⟩ | ⟨rfl,rfl⟩
   · exact c1
   · rw[←Nat.add_assoc];exact c2
theorem cloneP_any (a:Option Addr) (len cap:Nat) (l:PL) (w:World) (hr:RowAt PairLay w a len l) (hc:len≤cap) (hm:cap≤maxLen) (hn:len≤1000000) :
 Calls Tryz.prog 125 #[.slice a len cap] w fun e w'=>∃a' m' c',e=.returned (.slice a' m' c')∧Reads PairLay w' (.slice a' m' c') l∧(∀b off sp,a'=some ⟨b,off,sp⟩→w.heap.size≤b)∧Kept w w':=by
 have hl:=hr.1;have q22:∀(w:World) (a:Option Addr) (n c n' c':Nat),(binOp .eql 30 (.slice a n c) (.slice none n' c')).run Tryz.prog w=.ok (.bool a.isNone) w:=fun w a n c n' c'=>Lib.run_eql_slice_nil w _ _ a n c n' c' Tryz.underlying30
 cases a with
 | none =>
  have h0:len=0:=by
   rcases hr.form with h | ⟨b,off,h⟩
   · exact h
   · cases h
  subst h0;have hl0:l=[]:=List.eq_nil_of_length_eq_zero hl;subst hl0;clear hr hl;go_enter Tryz.func125,Tryz.ntmps125;go_wp2;go_ret;exact⟨none,0,0,rfl,Reads.nil _,(fun b o s e=>by cases e),Kept.refl _⟩
 | some ad =>
  have HR:=lH hr;have HL:=lH hl;have hrl:(rowCells PairLay l).length=len*2:=by rw[rowCells_length,hl];rfl
  have hb1:0+len≤maxLen:=by unfold maxLen;omega
  have hb2:((0+len)+(0+len) / 4+192)*32≤281474976710656:=by omega
  clear hr hl;go_enter Tryz.func125,Tryz.ntmps125;go_wp2_with (at_builtin;refine wpList_app_own kindP _ rfl (.tmp 5) (.tmp 6) rfl w.heap.size (by simp) w.heap.size 0 0 [] rfl (own_empty w w.heap.size 2 _ (Nat.le_refl _)) _ len (rowCells PairLay l) rfl hrl (rowCells_one _ _) (RowAt.src (HR.out.kept (kept_alloc _ _))) hb1 hb2 ?_;intro g1 k1 W1 ho hd hg;have HO:=lH ho;have HD:=lH hd;clear ho hd hg;refine Hid.out ?_)
  refine lH ?_;simp only[Nat.zero_add,List.nil_append] at HO ⊢;go_wp2;go_ret;exact⟨_,_,_,rfl,Own.reads (⟨by rw[HL.out];exact HO.out,HR.out.2.2.1⟩:Own PairLay 127 W1 w.heap.size (.slice (some ⟨g1,0,none⟩) len k1) l),(fun b o s e=>by cases e;exact(HO.out.lt g1 rfl).1),Below.trans (kept_alloc w _) HD.out⟩
theorem cloneA_any (a:Option Addr) (len cap:Nat) (l:NL) (w:World) (hr:RowAt TaLay w a len l) (hc:len≤cap) (hm:cap≤maxLen) (hn:len≤1000000) :
 Calls Tryz.prog 149 #[.slice a len cap] w fun e w'=>∃a' m' c',e=.returned (.slice a' m' c')∧Reads TaLay w' (.slice a' m' c') l∧(∀b off sp,a'=some ⟨b,off,sp⟩→w.heap.size≤b)∧Kept w w':=by
 have hl:=hr.1;have q22:∀(w:World) (a:Option Addr) (n c n' c':Nat),(binOp .eql 53 (.slice a n c) (.slice none n' c')).run Tryz.prog w=.ok (.bool a.isNone) w:=fun w a n c n' c'=>Lib.run_eql_slice_nil w _ _ a n c n' c' Tryz.underlying53
 cases a with
 | none =>
  have h0:len=0:=by
   rcases hr.form with h | ⟨b,off,h⟩
   · exact h
   · cases h
  subst h0;have hl0:l=[]:=List.eq_nil_of_length_eq_zero hl;subst hl0;clear hr hl;go_enter Tryz.func149,Tryz.ntmps149;go_wp2;go_ret;exact⟨none,0,0,rfl,Reads.nil _,(fun b o s e=>by cases e),Kept.refl _⟩
 | some ad =>
  have HR:=lH hr;have HL:=lH hl;have hrl:(rowCells TaLay l).length=len*3:=by rw[rowCells_length,hl];rfl
  have hb1:0+len≤maxLen:=by unfold maxLen;omega
  have hb2:((0+len)+(0+len) / 4+192)*40≤281474976710656:=by omega
  clear hr hl;go_enter Tryz.func149,Tryz.ntmps149;go_wp2_with (at_builtin;refine wpList_app_own kindA _ rfl (.tmp 5) (.tmp 6) rfl w.heap.size (by simp) w.heap.size 0 0 [] rfl (own_empty w w.heap.size 3 _ (Nat.le_refl _)) _ len (rowCells TaLay l) rfl hrl (rowCells_one _ _) (RowAt.src (HR.out.kept (kept_alloc _ _))) hb1 hb2 ?_;intro g1 k1 W1 ho hd hg;have HO:=lH ho;have HD:=lH hd;clear ho hd hg;refine Hid.out ?_)
  refine lH ?_;simp only[Nat.zero_add,List.nil_append] at HO ⊢;go_wp2;go_ret;exact⟨_,_,_,rfl,Own.reads (⟨by rw[HL.out];exact HO.out,HR.out.2.2.1⟩:Own TaLay 96 W1 w.heap.size (.slice (some ⟨g1,0,none⟩) len k1) l),(fun b o s e=>by cases e;exact(HO.out.lt g1 rfl).1),Below.trans (kept_alloc w _) HD.out⟩
theorem cloneV_any (a:Option Addr) (len cap:Nat) (l:Vec.V) (w:World) (hr:Vec.VecAt w a len l) (hc:len≤cap) (hm:cap≤maxLen) (hn:len≤1000000) :
 Calls Tryz.prog 124 #[.slice a len cap] w fun e w'=>∃a' m' c',e=.returned (.slice a' m' c')∧Vec.Reads w' (.slice a' m' c') l∧(∀b off sp,a'=some ⟨b,off,sp⟩→w.heap.size≤b)∧Kept w w':=by
 have hl:=hr.1;have q22:∀(w:World) (a:Option Addr) (n c n' c':Nat),(binOp .eql 28 (.slice a n c) (.slice none n' c')).run Tryz.prog w=.ok (.bool a.isNone) w:=fun w a n c n' c'=>Lib.run_eql_slice_nil w _ _ a n c n' c' Tryz.underlying28
 cases a with
 | none =>
  have h0:len=0:=by
   rcases hr.form with h | ⟨b,off,h⟩
   · exact h
   · cases h
  subst h0;have hl0:l=[]:=List.eq_nil_of_length_eq_zero hl;subst hl0;clear hr hl;go_enter Tryz.func124,Tryz.ntmps124;go_wp2;go_ret;exact⟨none,0,0,rfl,Vec.Reads.nil _,(fun b o s e=>by cases e),Kept.refl _⟩
 | some ad =>
  have HR:=lH hr;have HL:=lH hl;have hrl:(Vec.cellsOf l).length=len*2:=by rw[Vec.cellsOf_length,hl]
  have hb1:0+len≤maxLen:=by unfold maxLen;omega
  have hb2:((0+len)+(0+len) / 4+192)*24≤281474976710656:=by omega
  clear hr hl;go_enter Tryz.func124,Tryz.ntmps124;go_wp2_with (at_builtin;refine wpList_app_own kindV _ rfl (.tmp 5) (.tmp 6) rfl w.heap.size (by simp) w.heap.size 0 0 [] rfl (own_empty w w.heap.size 2 _ (Nat.le_refl _)) _ len (Vec.cellsOf l) rfl hrl (Vec.cellsOf_one _) (vec_src (HR.out.kept (kept_alloc _ _))) hb1 hb2 ?_;intro g1 k1 W1 ho hd hg;have HO:=lH ho;have HD:=lH hd;clear ho hd hg;refine Hid.out ?_)
  refine lH ?_;simp only[Nat.zero_add,List.nil_append] at HO ⊢;go_wp2;go_ret;exact⟨_,_,_,rfl,Vec.OwnV.reads (⟨by rw[HL.out];exact HO.out,HR.out.2.2.1⟩:Vec.OwnV 103 W1 w.heap.size (.slice (some ⟨g1,0,none⟩) len k1) l),(fun b o s e=>by cases e;exact(HO.out.lt g1 rfl).1),Below.trans (kept_alloc w _) HD.out⟩
def Cells5 (q:Nat) (v0 v1 v2 v3 v4:Value) (W:World):Prop :=
 (W.cell? ⟨q,0,none⟩=some v0∧W.cell? ⟨q,1,none⟩=some v1∧W.cell? ⟨q,2,none⟩=some v2∧W.cell? ⟨q,3,none⟩=some v3∧W.cell? ⟨q,4,none⟩=some v4) ∧
  W.frozen? ⟨q,0,none⟩=false∧W.frozen? ⟨q,1,none⟩=false∧W.frozen? ⟨q,2,none⟩=false∧W.frozen? ⟨q,3,none⟩=false∧W.frozen? ⟨q,4,none⟩=false
theorem Cells5.block {q:Nat} {v0 v1 v2 v3 v4:Value} {W W':World} (h:Cells5 q v0 v1 v2 v3 v4 W) (e:W'.heap[q]?=W.heap[q]?):Cells5 q v0 v1 v2 v3 v4 W':=by
 have c:∀j,W'.cell? ⟨q,j,none⟩=W.cell? ⟨q,j,none⟩:=fun j=>World.cell?_of_block (a:=⟨q,j,none⟩) e;have f:∀j,W'.frozen? ⟨q,j,none⟩=W.frozen? ⟨q,j,none⟩:=fun j=>World.frozen?_of_block (a:=⟨q,j,none⟩) e;unfold Cells5;simp only[c,f];exact h
theorem Cells5.kept {q:Nat} {v0 v1 v2 v3 v4:Value} {W W':World} (h:Cells5 q v0 v1 v2 v3 v4 W) (k:Kept W W'):Cells5 q v0 v1 v2 v3 v4 W':=h.block (k.block q (World.block_lt_of_cell? _ _ h.1.1))
theorem Cells5.other {q p j:Nat} {v0 v1 v2 v3 v4 u:Value} {W:World} (h:Cells5 q v0 v1 v2 v3 v4 W) (hp:q≠p):Cells5 q v0 v1 v2 v3 v4 (W.setCell ⟨p,j,none⟩ u):=h.block (Below.heap_setCell W ⟨p,j,none⟩ u q hp)
theorem Cells5.set1 {q:Nat} {v0 v1 v2 v3 v4:Value} {W:World} (h:Cells5 q v0 v1 v2 v3 v4 W) (u:Value):Cells5 q v0 u v2 v3 v4 (W.setCell ⟨q,1,none⟩ u):=by
 obtain⟨⟨y0,y1,y2,y3,y4⟩,x0,x1,x2,x3,x4⟩:=h;refine⟨⟨?_,?_,?_,?_,?_⟩,?_,?_,?_,?_,?_⟩<;>go_simp
theorem Cells5.set2 {q:Nat} {v0 v1 v2 v3 v4:Value} {W:World} (h:Cells5 q v0 v1 v2 v3 v4 W) (u:Value):Cells5 q v0 v1 u v3 v4 (W.setCell ⟨q,2,none⟩ u):=by
 obtain⟨⟨y0,y1,y2,y3,y4⟩,x0,x1,x2,x3,x4⟩:=h;refine⟨⟨?_,?_,?_,?_,?_⟩,?_,?_,?_,?_,?_⟩<;>go_simp
theorem Cells5.set3 {q:Nat} {v0 v1 v2 v3 v4:Value} {W:World} (h:Cells5 q v0 v1 v2 v3 v4 W) (u:Value):Cells5 q v0 v1 v2 u v4 (W.setCell ⟨q,3,none⟩ u):=by
 obtain⟨⟨y0,y1,y2,y3,y4⟩,x0,x1,x2,x3,x4⟩:=h;refine⟨⟨?_,?_,?_,?_,?_⟩,?_,?_,?_,?_,?_⟩<;>go_simp
theorem far_set {α:Type} {L:Lay α} {B p j:Nat} {u:Value} {w:World} {a:Option Addr} {m c:Nat} {l:List α} (h:Reads L w (.slice a m c) l) (g:∀b off sp,a=some ⟨b,off,sp⟩→B≤b) (hp:p<B):Reads L (w.setCell ⟨p,j,none⟩ u) (.slice a m c) l :=
 h.far (by simp[World.setCell]) (fun b o s e=>Below.heap_setCell w ⟨p,j,none⟩ u b (show b≠p by have:=g b o s e;omega))
theorem far_setV {B p j:Nat} {u:Value} {w:World} {a:Option Addr} {m c:Nat} {l:Vec.V} (h:Vec.Reads w (.slice a m c) l) (g:∀b off sp,a=some ⟨b,off,sp⟩→B≤b) (hp:p<B):Vec.Reads (w.setCell ⟨p,j,none⟩ u) (.slice a m c) l :=
 h.far (by simp[World.setCell]) (fun b o s e=>Below.heap_setCell w ⟨p,j,none⟩ u b (show b≠p by have:=g b o s e;omega))
structure LowNod (n:Nod):Prop where
 cap:n.cap.length≤1000000
 labels:n.labels.length≤1000000
 taints:n.taints.length≤1000000
theorem owned_any (n:Nod) (a1 a2 a3:Option Addr) (m1 c1 m2 c2 m3 c3:Nat) (w:World) (h:NodAt w (.slice a1 m1 c1) (.slice a2 m2 c2) (.slice a3 m3 c3) n) (hl:LowNod n) :
 Calls Tryz.prog 179 #[.agg #[.string n.name,.slice a1 m1 c1,.slice a2 m2 c2,.slice a3 m3 c3,.bool n.cordon]] w fun e w'=>∃v,e=.returned v∧NodRB w.heap.size w' v n∧Kept w w':=by
 have hsz:=h.size;obtain⟨x1,y1,e1,p1,q1,r1⟩:=h.cap
 cases e1
 obtain⟨x2,y2,e2,p2,q2,r2⟩:=h.labels
 cases e2
 obtain⟨x3,y3,e3,p3,q3,r3⟩:=h.taints
 cases e3
 have H1:=lH (fun W (k:Kept w W)=>cloneV_any a1 n.cap.length c1 n.cap W (r1.kept k) p1 q1 hl.cap);have H2:=lH (fun W (k:Kept w W)=>cloneP_any a2 n.labels.length c2 n.labels W (r2.kept k) p2 q2 hl.labels);have H3:=lH (fun W (k:Kept w W)=>cloneA_any a3 n.taints.length c3 n.taints W (r3.kept k) p3 q3 hl.taints);obtain⟨k1,hk1⟩:∃k,n.cap.length=k:=⟨_,rfl⟩
 obtain⟨k2,hk2⟩:∃k,n.labels.length=k:=⟨_,rfl⟩
 obtain⟨k3,hk3⟩:∃k,n.taints.length=k:=⟨_,rfl⟩
 obtain⟨x,hx⟩:∃x,n.name=x:=⟨_,rfl⟩
 obtain⟨cd,hcd⟩:∃x,n.cordon=x:=⟨_,rfl⟩
 have hxs:x.size≤maxLen:=by rw[←hx];exact hsz
 rw[hk1] at H1;rw[hk2] at H2;rw[hk3] at H3;rw[hk1,hk2,hk3,hx,hcd];have HX:=lH hx;have HCD:=lH hcd;clear h hl p1 q1 r1 p2 q2 r2 p3 q3 r3 hk1 hk2 hk3 hx hcd hsz;obtain⟨Z,hZ⟩:∃Z,(w.alloc (.cells #[.string x,.slice a1 k1 c1,.slice a2 k2 c2,.slice a3 k3 c3,.bool cd] 55)).alloc (.cells #[.string ⟨#[]⟩,.slice none 0 0,.slice none 0 0,.slice none 0 0,.bool false] 55)=Z:=⟨_,rfl⟩
 have hkz:Kept w Z:=by rw[←hZ];exact kept_two _ _ _
 have hzs:Z.heap.size=w.heap.size+2:=by rw[←hZ];simp
 have Q0:=lH (show Cells5 w.heap.size (.string x) (.slice a1 k1 c1) (.slice a2 k2 c2) (.slice a3 k3 c3) (.bool cd) Z from fresh5 w _ _ _ _ _ 55 Z (by rw[←hZ];exact kept_alloc _ _));have Q1:=lH (show Cells5 (w.heap.size+1) (.string ⟨#[]⟩) (.slice none 0 0) (.slice none 0 0) (.slice none 0 0) (.bool false) Z by
  have:=fresh5 (w.alloc (.cells #[.string x,.slice a1 k1 c1,.slice a2 k2 c2,.slice a3 k3 c3,.bool cd] 55)) (.string ⟨#[]⟩) (.slice none 0 0) (.slice none 0 0) (.slice none 0 0) (.bool false) 55 Z (by rw[hZ];exact Kept.refl _);rw[World.size_alloc] at this;exact this)
 have K:=lH hkz;have hs0:w.heap.size+2≤Z.heap.size:=by omega
 clear hkz hzs;obtain⟨⟨y0,y1,y2,y3,y4⟩,x0,x1,x2,x3,x4⟩:=Q0.out;go_enter Tryz.func179,Tryz.ntmps179;go_wp2_with fail
 try rw[hZ]
 clear hZ;clear y0 y1 y2 y3 y4 x0 x1 x2 x3 x4;refine(H1.out _ K.out).mono ?_;rintro e w1 ⟨b1,n1,d1,rfl,rr,gg,k⟩;have HBA:=lH (show ∀b off sp,b1=some ⟨b,off,sp⟩→w.heap.size+2≤b from fun b o s e=>by have:=gg b o s e;omega);have RA:=lH rr;have K:=lH (K.out.trans k);have hs1:w.heap.size+2≤w1.heap.size:=by have:=k.size;omega
 have Q0:=lH (Q0.out.kept k);have Q1:=lH (Q1.out.kept k);clear rr gg k hs0;obtain⟨⟨y0,y1,y2,y3,y4⟩,x0,x1,x2,x3,x4⟩:=Q0.out;have Q0:=lH (Q0.out.set1 (.slice b1 n1 d1));have Q1:=lH (Q1.out.other (p:=w.heap.size) (j:=1) (u:=.slice b1 n1 d1) (by omega));have RA:=lH (far_setV (p:=w.heap.size) (j:=1) (u:=.slice b1 n1 d1) RA.out HBA.out (by omega));have K:=lH (show Kept w (w1.setCell ⟨w.heap.size,1,none⟩ (.slice b1 n1 d1)) from K.out.setCell (p:=⟨w.heap.size,1,none⟩) (Nat.le_refl _) _);have hs0:w.heap.size+2≤(w1.setCell ⟨w.heap.size,1,none⟩ (.slice b1 n1 d1)).heap.size:=by simpa [World.setCell] using hs1
 clear hs1;obtain⟨⟨z0,z1,z2,z3,z4⟩,-⟩:=Q0.out;go_wp2_with fail
 clear y0 y1 y2 y3 y4 x0 x1 x2 x3 x4 z0 z1 z2 z3 z4;obtain⟨W1,hW1⟩:∃W,w1.setCell ⟨w.heap.size,1,none⟩ (.slice b1 n1 d1)=W:=⟨_,rfl⟩
 rw[hW1] at Q0 Q1 RA K hs0 ⊢;clear hW1;refine(H2.out _ K.out).mono ?_;rintro e w2 ⟨b2,n2,d2,rfl,rr,gg,k⟩;have HBB:=lH (show ∀b off sp,b2=some ⟨b,off,sp⟩→w.heap.size+2≤b from fun b o s e=>by have:=gg b o s e;omega);have RB:=lH rr;have K:=lH (K.out.trans k);have hs1:w.heap.size+2≤w2.heap.size:=by have:=k.size;omega
 have Q0:=lH (Q0.out.kept k);have Q1:=lH (Q1.out.kept k);have RA:=lH (RA.out.kept k);clear rr gg k hs0;obtain⟨⟨y0,y1,y2,y3,y4⟩,x0,x1,x2,x3,x4⟩:=Q0.out;have Q0:=lH (Q0.out.set2 (.slice b2 n2 d2));have Q1:=lH (Q1.out.other (p:=w.heap.size) (j:=2) (u:=.slice b2 n2 d2) (by omega));have RA:=lH (far_setV (p:=w.heap.size) (j:=2) (u:=.slice b2 n2 d2) RA.out HBA.out (by omega));have RB:=lH (far_set (p:=w.heap.size) (j:=2) (u:=.slice b2 n2 d2) RB.out HBB.out (by omega));have K:=lH (show Kept w (w2.setCell ⟨w.heap.size,2,none⟩ (.slice b2 n2 d2)) from K.out.setCell (p:=⟨w.heap.size,2,none⟩) (Nat.le_refl _) _);have hs0:w.heap.size+2≤(w2.setCell ⟨w.heap.size,2,none⟩ (.slice b2 n2 d2)).heap.size:=by simpa [World.setCell] using hs1
 clear hs1;obtain⟨⟨z0,z1,z2,z3,z4⟩,-⟩:=Q0.out;go_wp2_with fail
 clear y0 y1 y2 y3 y4 x0 x1 x2 x3 x4 z0 z1 z2 z3 z4;obtain⟨W2,hW2⟩:∃W,w2.setCell ⟨w.heap.size,2,none⟩ (.slice b2 n2 d2)=W:=⟨_,rfl⟩
 rw[hW2] at Q0 Q1 RA RB K hs0 ⊢;clear hW2;refine(H3.out _ K.out).mono ?_;rintro e w3 ⟨b3,n3,d3,rfl,rr,gg,k⟩;have HBC:=lH (show ∀b off sp,b3=some ⟨b,off,sp⟩→w.heap.size+2≤b from fun b o s e=>by have:=gg b o s e;omega);have RC:=lH rr;have K:=lH (K.out.trans k);have hs1:w.heap.size+2≤w3.heap.size:=by have:=k.size;omega
 have Q0:=lH (Q0.out.kept k);have Q1:=lH (Q1.out.kept k);have RA:=lH (RA.out.kept k);have RB:=lH (RB.out.kept k);clear rr gg k hs0;obtain⟨⟨y0,y1,y2,y3,y4⟩,x0,x1,x2,x3,x4⟩:=Q0.out;have Q0:=lH (Q0.out.set3 (.slice b3 n3 d3));have Q1:=lH (Q1.out.other (p:=w.heap.size) (j:=3) (u:=.slice b3 n3 d3) (by omega));have RA:=lH (far_setV (p:=w.heap.size) (j:=3) (u:=.slice b3 n3 d3) RA.out HBA.out (by omega));have RB:=lH (far_set (p:=w.heap.size) (j:=3) (u:=.slice b3 n3 d3) RB.out HBB.out (by omega));have RC:=lH (far_set (p:=w.heap.size) (j:=3) (u:=.slice b3 n3 d3) RC.out HBC.out (by omega));have K:=lH (show Kept w (w3.setCell ⟨w.heap.size,3,none⟩ (.slice b3 n3 d3)) from K.out.setCell (p:=⟨w.heap.size,3,none⟩) (Nat.le_refl _) _);have hs0:w.heap.size+2≤(w3.setCell ⟨w.heap.size,3,none⟩ (.slice b3 n3 d3)).heap.size:=by simpa [World.setCell] using hs1
 clear hs1;obtain⟨⟨z0,z1,z2,z3,z4⟩,-⟩:=Q0.out;obtain⟨⟨g0,g1,g2,g3,g4⟩,f0,f1,f2,f3,f4⟩:=Q1.out;go_wp2;have P:=lH (put_at ⟨g0,g1,g2,g3,g4⟩ x b1 b2 b3 n1 d1 n2 d2 n3 d3 cd);clear y0 y1 y2 y3 y4 x0 x1 x2 x3 x4 z0 z1 z2 z3 z4 g0 g1 g2 g3 g4 f0 f1 f2 f3 f4;obtain⟨W3,hW3⟩:∃W,w3.setCell ⟨w.heap.size,3,none⟩ (.slice b3 n3 d3)=W:=⟨_,rfl⟩
 rw[hW3] at RA RB RC K hs0 P ⊢;obtain⟨WE,hWE⟩:∃W,(((((W3.setCell ⟨w.heap.size+1,0,none⟩ (.string x)).setCell ⟨w.heap.size+1,1,none⟩ (.slice b1 n1 d1)).setCell ⟨w.heap.size+1,2,none⟩ (.slice b2 n2 d2)).setCell ⟨w.heap.size+1,3,none⟩ (.slice b3 n3 d3)).setCell ⟨w.heap.size+1,4,none⟩ (.bool cd))=W:=⟨_,rfl⟩
 rw[hWE] at P ⊢;clear hWE hW3;obtain⟨⟨e0,e1,e2,e3,e4⟩,hsz,hbl,hkp⟩:=P.out;refine bodyPost_ret (by simp[results,Tryz.results179,go_sem,e0,e1,e2,e3,e4];try rfl) rfl ?_;exact⟨_,rfl,⟨b1,n1,d1,b2,n2,d2,b3,n3,d3,by rw[HX.out,HCD.out],by rw[HX.out];exact hxs,RA.out.far hsz (fun b o s e=>hbl b (by have:=HBA.out b o s e;omega)),RB.out.far hsz (fun b o s e=>hbl b (by have:=HBB.out b o s e;omega)),RC.out.far hsz (fun b o s e=>hbl b (by have:=HBC.out b o s e;omega)),fun b o s e=>Nat.le_trans (Nat.le_add_right _ 2) (HBA.out b o s e),fun b o s e=>Nat.le_trans (Nat.le_add_right _ 2) (HBB.out b o s e),fun b o s e=>Nat.le_trans (Nat.le_add_right _ 2) (HBC.out b o s e)⟩,hkp _ _ (Nat.le_succ _) K.out⟩
def NodesAt (w:World) (a:Option Addr) (len:Nat) (l:List Nod):Prop :=
 l.length=len∧len≤maxLen∧(len=0∨∃b off,a=some ⟨b,off,none⟩∧b<w.heap.size∧∀i n,l[i]?=some n→∃a1 m1 c1 a2 m2 c2 a3 m3 c3,
  w.cell? ⟨b,off+i*5,none⟩=some (.string n.name)∧w.cell? ⟨b,off+i*5+1,none⟩=some (.slice a1 m1 c1)∧w.cell? ⟨b,off+i*5+2,none⟩=some (.slice a2 m2 c2)∧w.cell? ⟨b,off+i*5+3,none⟩=some (.slice a3 m3 c3)∧w.cell? ⟨b,off+i*5+4,none⟩=some (.bool n.cordon) ∧
  NodAt w (.slice a1 m1 c1) (.slice a2 m2 c2) (.slice a3 m3 c3) n)
theorem NodesAt.kept {w w':World} {a:Option Addr} {len:Nat} {l:List Nod} (h:NodesAt w a len l) (k:Kept w w'):NodesAt w' a len l:=by
 obtain⟨h0,h1,h2⟩:=h;refine⟨h0,h1,h2.imp id ?_⟩;rintro ⟨b,off,rfl,hb,hc⟩;refine⟨b,off,rfl,Nat.lt_of_lt_of_le hb k.size,fun i n hi=>?_⟩;obtain⟨a1,m1,c1,a2,m2,c2,a3,m3,c3,p0,p1,p2,p3,p4,hn⟩:=hc i n hi;exact⟨a1,m1,c1,a2,m2,c2,a3,m3,c3,cell_later k p0,cell_later k p1,cell_later k p2,cell_later k p3,cell_later k p4,hn.kept k⟩
theorem NodesAt.form {w:World} {a:Option Addr} {len:Nat} {l:List Nod} (h:NodesAt w a len l):len=0∨∃b off,a=some ⟨b,off,none⟩:=by
 obtain⟨_,_,h2⟩:=h;exact h2.imp id fun ⟨b,off,e,_⟩=>⟨b,off,e⟩
theorem NodesAt.at_ {w:World} {b off len:Nat} {l:List Nod} {k:Nat} (h:NodesAt w (some ⟨b,off,none⟩) len l) (hk:k<len):∃n a1 m1 c1 a2 m2 c2 a3 m3 c3,l[k]?=some n∧l.drop k=n::l.drop (k+1)∧b<w.heap.size ∧
 w.cell? ⟨b,off+k*5,none⟩=some (.string n.name)∧w.cell? ⟨b,off+k*5+1,none⟩=some (.slice a1 m1 c1)∧w.cell? ⟨b,off+k*5+2,none⟩=some (.slice a2 m2 c2)∧w.cell? ⟨b,off+k*5+3,none⟩=some (.slice a3 m3 c3)∧w.cell? ⟨b,off+k*5+4,none⟩=some (.bool n.cordon) ∧
 NodAt w (.slice a1 m1 c1) (.slice a2 m2 c2) (.slice a3 m3 c3) n:=by
 obtain⟨h0,_,h3⟩:=h;have hkl:k<l.length:=by omega
 rcases h3 with h3 | ⟨b',off',e,hb,hc⟩
 · omega
 · injection e with e;injection e with e1 e2 e3;subst e1;subst e2;have he:l[k]?=some l[k]:=List.getElem?_eq_getElem hkl;obtain⟨a1,m1,c1,a2,m2,c2,a3,m3,c3,r⟩:=hc k _ he;exact⟨l[k],a1,m1,c1,a2,m2,c2,a3,m3,c3,he,List.drop_eq_getElem_cons hkl,hb,r⟩
def NodesR (w:World) (v:Value) (l:List Nod):Prop:=∃a cap,v=.slice a l.length cap∧l.length≤cap∧cap≤maxLen∧NodesAt w a l.length l
theorem NodesR.kept {w w':World} {v:Value} {l:List Nod} (h:NodesR w v l) (k:Kept w w'):NodesR w' v l:=by
 obtain⟨a,cap,e,h1,h2,h3⟩:=h;exact⟨a,cap,e,h1,h2,h3.kept k⟩
structure CellsN (q:Nat) (vs:List Value) (W:World):Prop where
 at_:∀i v,vs[i]?=some v→W.cell? ⟨q,i,none⟩=some v
 free:∀i,W.frozen? ⟨q,i,none⟩=false
theorem CellsN.block {q:Nat} {vs:List Value} {W W':World} (h:CellsN q vs W) (e:W'.heap[q]?=W.heap[q]?):CellsN q vs W' :=
 ⟨fun i v hv=>(World.cell?_of_block (a:=⟨q,i,none⟩) e).trans (h.at_ i v hv),fun i=>(World.frozen?_of_block (a:=⟨q,i,none⟩) e).trans (h.free i)⟩
theorem CellsN.lt {q:Nat} {v:Value} {vs:List Value} {W:World} (h:CellsN q (v::vs) W):q<W.heap.size:=World.block_lt_of_cell? _ _ (h.at_ 0 v rfl)
theorem CellsN.kept {q:Nat} {v:Value} {vs:List Value} {W W':World} (h:CellsN q (v::vs) W) (k:Kept W W'):CellsN q (v::vs) W':=h.block (k.block q h.lt)
theorem CellsN.other {q p j:Nat} {u:Value} {vs:List Value} {W:World} (h:CellsN q vs W) (hp:q≠p):CellsN q vs (W.setCell ⟨p,j,none⟩ u):=h.block (Below.heap_setCell W ⟨p,j,none⟩ u q hp)
theorem freshN (w:World) (v:Value) (vs:List Value) (T:TypeId) (W:World) (k:Kept (w.alloc (.cells (v::vs).toArray T)) W):CellsN w.heap.size (v::vs) W:=by
 have hh:=w.alloc_heap_new (.cells (v::vs).toArray T);have h:CellsN w.heap.size (v::vs) (w.alloc (.cells (v::vs).toArray T)):=⟨fun i u hu=>by rw[Lib.cell_of_heap hh];simpa using hu,fun i=>by
  unfold World.frozen?;rw[show (w.alloc (.cells (v::vs).toArray T)).heap[(⟨w.heap.size,i,none⟩:Addr).block]?=some (.cells (v::vs).toArray T) from hh];simp⟩
 exact h.kept k
theorem CellsN.set {q j:Nat} {u:Value} {vs:List Value} {W:World} (h:CellsN q vs W) (hj:j<vs.length):CellsN q (vs.set j u) (W.setCell ⟨q,j,none⟩ u):=by
 refine⟨fun i v hv=>?_,fun i=>by rw[World.frozen?_setCell];exact h.free i⟩;by_cases e:j=i
 · subst e;have hv':v=u:=by rw[List.getElem?_set_self hj] at hv;exact(Option.some.inj hv).symm
   subst hv';exact World.cell?_setCell_same _ _ _ (h.at_ j _ (List.getElem?_eq_getElem hj))
 · rw[List.getElem?_set_ne e] at hv;rw[World.cell?_setCell_other _ _ _ _ (by simp)];exact h.at_ i v hv
theorem setCells_size (q:Nat):∀(vs:List Value) (o:Nat) (W:World),(W.setCells q o vs).heap.size=W.heap.size
 | [],_,_=>rfl
 | v::r,o,W=>by rw[World.setCells,setCells_size q r];simp[World.setCell]
theorem setCells_block (q:Nat):∀(vs:List Value) (o:Nat) (W:World) (b:Nat),b≠q→(W.setCells q o vs).heap[b]?=W.heap[b]?
 | [],_,_,_,_=>rfl
 | v::r,o,W,b,h=>by rw[World.setCells,setCells_block q r _ _ b h];exact Below.heap_setCell W ⟨q,o,none⟩ v b h
theorem setCells_below (q:Nat):∀(vs:List Value) (o:Nat) (W:World) (B:Nat) (w:World),B≤q→Below B w W→Below B w (W.setCells q o vs)
 | [],_,_,_,_,_,k=>k
 | v::r,o,W,B,w,h,k=>by rw[World.setCells];exact setCells_below q r _ _ B w h (k.setCell (p:=⟨q,o,none⟩) h _)
structure PutN (q:Nat) (vs:List Value) (W W':World):Prop where
 cells:CellsN q vs W'
 size:W'.heap.size=W.heap.size
 far:∀b,b≠q→W'.heap[b]?=W.heap[b]?
 below:∀B w,B≤q→Below B w W→Below B w W'
theorem putN {q:Nat} {us vs:List Value} {W:World} (h:CellsN q us W) (hl:us.length=vs.length):PutN q vs W (W.setCells q 0 vs):=by
 refine⟨⟨fun i v hv=>?_,fun i=>by rw[World.frozen?_setCells];exact h.free i⟩,setCells_size q vs 0 W,fun b hb=>setCells_block q vs 0 W b hb,fun B w hB k=>setCells_below q vs 0 W B w hB k⟩;have hi:i<vs.length:=(List.getElem?_eq_some_iff.1 hv).1;have:=World.cell?_setCells_in q vs 0 W (fun j hj=>by rw[Nat.zero_add,h.at_ j _ (List.getElem?_eq_getElem (by omega))];rfl) i hi;rw[Nat.zero_add] at this;rw[this];obtain⟨_,e⟩:=List.getElem?_eq_some_iff.1 hv;rw[e]
theorem nameOfN_any (n:Nod) (v1 v2 v3:Value) (w:World):Calls Tryz.prog 178 #[NodV n v1 v2 v3] w fun e w'=>e=.returned (.string n.name)∧Kept w w':=by
 unfold NodV;go_enter Tryz.func178,Tryz.ntmps178;go_wp2;go_ret;exact⟨rfl,kept_alloc _ _⟩
theorem nameIsN_any (n:Nod) (v1 v2 v3:Value) (p q:Addr) (x:ByteArray) (w:World) (hp:w.cell? p=some (.func (.func 178) #[] #[])) (hq:w.cell? q=some (.string x)) :
 Calls Tryz.prog 201 #[NodV n v1 v2 v3,.pointer (some p),.pointer (some q)] w fun e w'=>e=.returned (.bool (eqS n.name x))∧Kept w w':=by
 have HB:=lH (show ∀W,Kept (w.alloc (.cells #[.string n.name,v1,v2,v3,.bool n.cordon] 55)) W→W.cell? p=some (.func (.func 178) #[] #[])∧W.cell? q=some (.string x)∧W.cell? ⟨w.heap.size,0,none⟩=some (.string n.name)∧W.cell? ⟨w.heap.size,1,none⟩=some (v1)∧W.cell? ⟨w.heap.size,2,none⟩=some (v2)∧W.cell? ⟨w.heap.size,3,none⟩=some (v3)∧W.cell? ⟨w.heap.size,4,none⟩=some (.bool n.cordon) from fun W k=>⟨cell_later ((kept_alloc _ _).trans k) hp,cell_later ((kept_alloc _ _).trans k) hq,(freshN w (.string n.name) [v1,v2,v3,.bool n.cordon] 55 W k).at_ 0 _ rfl,(freshN w (.string n.name) [v1,v2,v3,.bool n.cordon] 55 W k).at_ 1 _ rfl,(freshN w (.string n.name) [v1,v2,v3,.bool n.cordon] 55 W k).at_ 2 _ rfl,(freshN w (.string n.name) [v1,v2,v3,.bool n.cordon] 55 W k).at_ 3 _ rfl,(freshN w (.string n.name) [v1,v2,v3,.bool n.cordon] 55 W k).at_ 4 _ rfl⟩);have HN:=lH (fun W=>nameOfN_any n v1 v2 v3 W);unfold NodV at HN ⊢;obtain⟨b,hb⟩:∃b,eqS n.name x=b:=⟨_,rfl⟩
 have t1:(n.name.toList==x.toList)=b:=hb;rw[hb];clear hp hq hb;go_enter Tryz.func201,Tryz.ntmps201;go_wp2
 go_region_held3 (fun W=>W.cell? p=some (.func (.func 178) #[] #[])∧W.cell? q=some (.string x)∧W.cell? ⟨w.heap.size,0,none⟩=some (.string n.name)∧W.cell? ⟨w.heap.size,1,none⟩=some (v1)∧W.cell? ⟨w.heap.size,2,none⟩=some (v2)∧W.cell? ⟨w.heap.size,3,none⟩=some (v3)∧W.cell? ⟨w.heap.size,4,none⟩=some (.bool n.cordon))
  (first | exact HB.out _ (Kept.drew _) | exact HB.out _ K1.out)
  (first | (go_at_call 178;refine(HN.out _).mono ?_;rintro e1 w1 ⟨rfl,k1⟩;have K1:=lH ((Kept.drew _).trans k1);clear k1))
 go_wp2;go_ret;exact⟨ret_bool rfl,(kept_alloc _ _).trans K1.out⟩
def findN (l:List Nod) (x:ByteArray):Option Nod:=l.find? fun n=>eqS n.name x
def SoughtN (l:List Nod) (x:ByteArray) (i:Int):Prop:=(∃(k:Nat) (n:Nod),i=(k:Int)∧l[k]?=some n∧findN l x=some n)∨(i=-1∧findN l x=none)
theorem indexN_any (a:Option Addr) (len cap:Nat) (l:List Nod) (x:ByteArray) (p q:Addr) (w:World) (hr:NodesAt w a len l) (hp:w.cell? p=some (.func (.func 178) #[] #[])) (hq:w.cell? q=some (.string x)) :
 Calls Tryz.prog 200 #[.slice a len cap,.func (.func 201) #[] #[.pointer (some p),.pointer (some q)]] w fun e w'=>∃i,e=.returned (.int .i64 i)∧SoughtN l x i∧Kept w w':=by
 have hl:=hr.1;have hm:=hr.2.1;unfold maxLen at hm;have HL:=lH hl;by_cases h0:len=0
 · subst h0;have hl0:l=[]:=List.eq_nil_of_length_eq_zero hl;have HF:=lH (show findN l x=none by rw[hl0];rfl);clear hr hl hp hq;go_enter Tryz.func200,Tryz.ntmps200;go_wp2;refine wp_loop_rounds 1 ?_;rw[rounds_succ];go_wp2;go_ret;exact⟨-1,rfl,.inr ⟨rfl,HF.out⟩,Kept.refl _⟩
 · obtain⟨b,off,rfl⟩:=hr.form.resolve_left h0;have HR:=lH hr;have HP:=lH hp;have HQ:=lH hq;clear hr hl hp hq h0;go_enter Tryz.func200,Tryz.ntmps200;go_wp2;go_loopw [8] (fun i wr=>∃k:Nat,k≤len∧i=.int .i64 k∧findN (l.drop k) x=findN l x∧Kept w wr) (fun i _=>len-(intOf i).toNat)
   case atStart=>exact⟨0,Nat.zero_le _,rfl,rfl,Kept.refl _⟩
   case round =>
    obtain⟨k,hk,rfl,hrest,hK⟩:=hrel;have HS:=lH hrest;have HK:=lH hK;by_cases hlt:k<len
    · obtain⟨n,a1,m1,c1,a2,m2,c2,a3,m3,c3,hn,hd,hb,p0,p1,p2,p3,p4,hat⟩:=(HR.out.kept hK).at_ hlt;have HN:=lH hn;have HD:=lH hd;have HC:=lH (nameIsN_any n (.slice a1 m1 c1) (.slice a2 m2 c2) (.slice a3 m3 c3) p q x wr (cell_later hK HP.out) (cell_later hK HQ.out));unfold NodV at HC;obtain⟨t,ht⟩:∃t,eqS n.name x=t:=⟨_,rfl⟩
      have HT:=lH ht;rw[ht] at HC;clear hrest hK hat hd hn ht
      cases t with
      | true =>
       have HF:=lH (show findN l x=some n by rw[←HS.out,HD.out];unfold findN;rw[List.find?_cons,HT.out]);go_wp2_with fail
       refine HC.out.mono ?_;rintro e w1 ⟨rfl,k1⟩;have K1:=lH (HK.out.trans k1);clear k1;go_wp2;go_ret;exact⟨(k:Int),rfl,.inl ⟨k,n,rfl,HN.out,HF.out⟩,K1.out⟩
      | false =>
       have HE:=lH (show findN (l.drop k) x=findN (l.drop (k+1)) x by rw[HD.out];unfold findN;rw[List.find?_cons,HT.out]);go_wp2_with fail
       refine HC.out.mono ?_;rintro e w1 ⟨rfl,k1⟩;have K1:=lH (HK.out.trans k1);clear k1;go_wp2;go_roundw
       case rel=>exact⟨k+1,by omega,by go_num,HE.out.symm.trans HS.out,K1.out⟩
       case measure=>simp[intOf];omega
    · have HF:=lH (show findN l x=none by rw[←hrest,List.drop_of_length_le (by rw[HL.out];omega)];rfl);clear hrest hK;go_wp2;go_ret;exact⟨-1,rfl,.inr ⟨rfl,HF.out⟩,HK.out⟩
theorem rowsFindN_any (a:Option Addr) (len cap:Nat) (l:List Nod) (x:ByteArray) (w:World) (hr:NodesAt w a len l) (hlow:∀n ∈ l,LowNod n) :
 Calls Tryz.prog 177 #[.slice a len cap,.string x,.func (.func 178) #[] #[],.func (.func 179) #[] #[]] w fun e w'=>∃v,e=.returned (.tuple #[v,.bool (findN l x).isSome])∧NodRB w.heap.size w' v ((findN l x).getD Nod.zero)∧Kept w w':=by
 have hmf:=hmfL (P:=Tryz.prog);have hl:=hr.1;have hm:=hr.2.1;unfold maxLen at hm;obtain⟨Z,hZ⟩:∃Z,((w.alloc (.cells #[.string x] 9)).alloc (.cells #[.func (.func 178) #[] #[]] 250)).alloc (.cells #[.string ⟨#[]⟩,.slice none 0 0,.slice none 0 0,.slice none 0 0,.bool false] 55)=Z:=⟨_,rfl⟩
 have hkz:Kept w Z:=by rw[←hZ];exact(kept_two _ _ _).trans (kept_alloc _ _)
 have hzs:Z.heap.size=w.heap.size+3:=by rw[←hZ];simp
 have hq:=(freshN w (.string x) [] 9 Z (by rw[←hZ];exact kept_two _ _ _)).at_ 0 _ rfl;have hp:Z.cell? ⟨w.heap.size+1,0,none⟩=some (.func (.func 178) #[] #[]):=by
  have:=(freshN (w.alloc (.cells #[.string x] 9)) (.func (.func 178) #[] #[]) [] 250 Z (by rw[←hZ];exact kept_alloc _ _)).at_ 0 _ rfl;rw[World.size_alloc] at this;exact this
 have HQ0:=lH (show CellsN (w.heap.size+2) [.string ⟨#[]⟩,.slice none 0 0,.slice none 0 0,.slice none 0 0,.bool false] Z by
  have:=freshN ((w.alloc (.cells #[.string x] 9)).alloc (.cells #[.func (.func 178) #[] #[]] 250)) (.string ⟨#[]⟩) [.slice none 0 0,.slice none 0 0,.slice none 0 0,.bool false] 55 Z (by rw[hZ];exact Kept.refl _);rw[World.size_alloc,World.size_alloc] at this;exact this)
 have HIX:=lH (indexN_any a len cap l x ⟨w.heap.size+1,0,none⟩ ⟨w.heap.size,0,none⟩ Z (hr.kept hkz) hp hq);have HKZ:=lH hkz;have HZS:=lH hzs;have HR:=lH (hr.kept hkz);have HLOW:=lH hlow;have HL:=lH hl;clear hr hl hlow hkz hq hp hzs;go_enter Tryz.func177,Tryz.ntmps177;go_wp2_with fail
 try rw[hZ]
 clear hZ;refine HIX.out.mono ?_;rintro e w1 ⟨i,rfl,hs,k1⟩;have K1:=lH k1;rcases hs with ⟨k,n9,rfl,hn9,hf⟩ | ⟨rfl,hf⟩
 · have HF:=lH hf;have hkl:k<len:=by have:=(List.getElem?_eq_some_iff.1 hn9).1;rw[HL.out] at this;exact this
   have hk0:decide ((k:Int)<0)=false:=by simp
   have hkk:(k:Int)<(len:Int):=by omega
   obtain⟨b,off,rfl⟩:=HR.out.form.resolve_left (by omega);obtain⟨n,a1,m1,c1,a2,m2,c2,a3,m3,c3,hn,hd,hb,p0,p1,p2,p3,p4,hat⟩:=(HR.out.kept k1).at_ hkl;obtain rfl:n9=n:=by rw[hn9] at hn;exact Option.some.inj hn
   have HLN:=lH (HLOW.out n9 (List.mem_of_getElem? hn9));have HAT:=lH hat;have HQZ:=lH (HQ0.out.kept k1);have HZ1:=lH (show w.heap.size+3≤w1.heap.size by have:=k1.size;rw[HZS.out] at this;exact this);have HOW:=lH (owned_any n9 a1 a2 a3 m1 c1 m2 c2 m3 c3 w1 HAT.out HLN.out);clear hn9 hn hd hat hf k1;go_wp2_with fail
   refine HOW.out.mono ?_;rintro e w2 ⟨v,rfl,hn,k2⟩;have HN:=lH hn;have KW:=lH (HKZ.out.trans (K1.out.trans k2));have HQZ:=lH (HQZ.out.kept k2);obtain⟨b1,n1,d1,b2,n2,d2,b3,n3,d3,rfl,-⟩:=hn;obtain⟨z,hz⟩:∃z,n9.name=z:=⟨_,rfl⟩
   obtain⟨cd,hcd⟩:∃z,n9.cordon=z:=⟨_,rfl⟩
   rw[hz,hcd];rw[hz,hcd] at HN;clear k2 p0 p1 p2 p3 p4 hb hkl hk0 hkk;have y0:=HQZ.out.at_ 0 _ rfl;have y1:=HQZ.out.at_ 1 _ rfl;have y2:=HQZ.out.at_ 2 _ rfl;have y3:=HQZ.out.at_ 3 _ rfl;have y4:=HQZ.out.at_ 4 _ rfl;have x0:=HQZ.out.free 0;have x1:=HQZ.out.free 1;have x2:=HQZ.out.free 2;have x3:=HQZ.out.free 3;have x4:=HQZ.out.free 4;have P:=lH (putN (vs:=[.string z,.slice b1 n1 d1,.slice b2 n2 d2,.slice b3 n3 d3,.bool cd]) HQZ.out rfl);clear HQZ;go_wp2;obtain⟨WE,hWE⟩:∃W,w2.setCells (w.heap.size+2) 0 [.string z,.slice b1 n1 d1,.slice b2 n2 d2,.slice b3 n3 d3,.bool cd]=W:=⟨_,rfl⟩
   have hWE2:(((((w2.setCell ⟨(w.heap.size+2),0,none⟩ (.string z)).setCell ⟨(w.heap.size+2),1,none⟩ (.slice b1 n1 d1)).setCell ⟨(w.heap.size+2),2,none⟩ (.slice b2 n2 d2)).setCell ⟨(w.heap.size+2),3,none⟩ (.slice b3 n3 d3)).setCell ⟨(w.heap.size+2),4,none⟩ (.bool cd))=WE:=hWE;rw[hWE] at P;rw[hWE2];clear hWE hWE2;obtain⟨PC,hsz,hbl,hkp⟩:=P.out;refine bodyPost_ret (by simp[results,Tryz.results177,go_sem,PC.at_ 0 _ rfl,PC.at_ 1 _ rfl,PC.at_ 2 _ rfl,PC.at_ 3 _ rfl,PC.at_ 4 _ rfl];try rfl) rfl ?_;rw[HF.out];exact⟨_,rfl,(HN.out.far hsz (fun b hb=>hbl b (by have:=HZ1.out;omega))).less (by have:=HZ1.out;omega),hkp _ _ (by omega) KW.out⟩
 · have HF:=lH hf;have HQZ:=lH (HQ0.out.kept k1);have KW:=lH (HKZ.out.trans k1);clear hf k1;have y0:=HQZ.out.at_ 0 _ rfl;have y1:=HQZ.out.at_ 1 _ rfl;have y2:=HQZ.out.at_ 2 _ rfl;have y3:=HQZ.out.at_ 3 _ rfl;have y4:=HQZ.out.at_ 4 _ rfl;have x0:=HQZ.out.free 0;have x1:=HQZ.out.free 1;have x2:=HQZ.out.free 2;have x3:=HQZ.out.free 3;have x4:=HQZ.out.free 4;have P:=lH (putN (vs:=[.string ⟨#[]⟩,.slice none 0 0,.slice none 0 0,.slice none 0 0,.bool false]) HQZ.out rfl);clear HQZ;go_wp2;obtain⟨WE,hWE⟩:∃W,w1.setCells (w.heap.size+2) 0 [.string ⟨#[]⟩,.slice none 0 0,.slice none 0 0,.slice none 0 0,.bool false]=W:=⟨_,rfl⟩
   have hWE2:(((((w1.setCell ⟨(w.heap.size+2),0,none⟩ (.string ⟨#[]⟩)).setCell ⟨(w.heap.size+2),1,none⟩ (.slice none 0 0)).setCell ⟨(w.heap.size+2),2,none⟩ (.slice none 0 0)).setCell ⟨(w.heap.size+2),3,none⟩ (.slice none 0 0)).setCell ⟨(w.heap.size+2),4,none⟩ (.bool false))=WE:=hWE;rw[hWE] at P;rw[hWE2];clear hWE hWE2;obtain⟨PC,hsz,hbl,hkp⟩:=P.out;refine bodyPost_ret (by simp[results,Tryz.results177,go_sem,PC.at_ 0 _ rfl,PC.at_ 1 _ rfl,PC.at_ 2 _ rfl,PC.at_ 3 _ rfl,PC.at_ 4 _ rfl];try rfl) rfl ?_;rw[HF.out];exact⟨_,rfl,zero_reads _ _,hkp _ _ (by omega) KW.out⟩
theorem find_anyB (a:Option Addr) (len cap:Nat) (l:List Nod) (x:ByteArray) (w:World) (hr:NodesAt w a len l) (hlow:∀n ∈ l,LowNod n) :
 Calls Tryz.prog 156 #[.slice a len cap,.string x] w fun e w'=>∃v,e=.returned (.tuple #[v,.bool (findN l x).isSome])∧NodRB w.heap.size w' v ((findN l x).getD Nod.zero)∧Kept w w':=by
 obtain⟨Z,hZ⟩:∃Z,w.alloc (.cells #[.string ⟨#[]⟩,.slice none 0 0,.slice none 0 0,.slice none 0 0,.bool false] 55)=Z:=⟨_,rfl⟩
 have hkz:Kept w Z:=by rw[←hZ];exact kept_alloc _ _
 have hzs:Z.heap.size=w.heap.size+1:=by rw[←hZ];simp
 have HQ0:=lH (show CellsN w.heap.size [.string ⟨#[]⟩,.slice none 0 0,.slice none 0 0,.slice none 0 0,.bool false] Z from freshN w (.string ⟨#[]⟩) [.slice none 0 0,.slice none 0 0,.slice none 0 0,.bool false] 55 Z (by rw[hZ];exact Kept.refl _));have HRF:=lH (rowsFindN_any a len cap l x Z (hr.kept hkz) hlow);have HKZ:=lH hkz;have HZS:=lH hzs;obtain⟨n9,hn9⟩:∃n,(findN l x).getD Nod.zero=n:=⟨_,rfl⟩
 obtain⟨is,his⟩:∃n,(findN l x).isSome=n:=⟨_,rfl⟩
 rw[hn9,his] at HRF;rw[hn9,his];clear hr hlow hkz hzs hn9 his;go_enter Tryz.func156,Tryz.ntmps156;go_wp2_with fail
 try rw[hZ]
 clear hZ;refine HRF.out.mono ?_;rintro e w1 ⟨v,rfl,hn,k1⟩;have HN:=lH hn;have HQZ:=lH (HQ0.out.kept k1);have KW:=lH (HKZ.out.trans k1);obtain⟨b1,n1,d1,b2,n2,d2,b3,n3,d3,rfl,-⟩:=hn;obtain⟨z,hz⟩:∃z,n9.name=z:=⟨_,rfl⟩
 obtain⟨cd,hcd⟩:∃z,n9.cordon=z:=⟨_,rfl⟩
 rw[hz,hcd];rw[hz,hcd] at HN;clear k1;have y0:=HQZ.out.at_ 0 _ rfl;have y1:=HQZ.out.at_ 1 _ rfl;have y2:=HQZ.out.at_ 2 _ rfl;have y3:=HQZ.out.at_ 3 _ rfl;have y4:=HQZ.out.at_ 4 _ rfl;have x0:=HQZ.out.free 0;have x1:=HQZ.out.free 1;have x2:=HQZ.out.free 2;have x3:=HQZ.out.free 3;have x4:=HQZ.out.free 4;have P:=lH (putN (vs:=[.string z,.slice b1 n1 d1,.slice b2 n2 d2,.slice b3 n3 d3,.bool cd]) HQZ.out rfl);clear HQZ;go_wp2;obtain⟨WE,hWE⟩:∃W,w1.setCells w.heap.size 0 [.string z,.slice b1 n1 d1,.slice b2 n2 d2,.slice b3 n3 d3,.bool cd]=W:=⟨_,rfl⟩
 have hWE2:(((((w1.setCell ⟨w.heap.size,0,none⟩ (.string z)).setCell ⟨w.heap.size,1,none⟩ (.slice b1 n1 d1)).setCell ⟨w.heap.size,2,none⟩ (.slice b2 n2 d2)).setCell ⟨w.heap.size,3,none⟩ (.slice b3 n3 d3)).setCell ⟨w.heap.size,4,none⟩ (.bool cd))=WE:=hWE;rw[hWE] at P;rw[hWE2];clear hWE hWE2;obtain⟨PC,hsz,hbl,hkp⟩:=P.out;refine bodyPost_ret (by simp[results,Tryz.results156,go_sem,PC.at_ 0 _ rfl,PC.at_ 1 _ rfl,PC.at_ 2 _ rfl,PC.at_ 3 _ rfl,PC.at_ 4 _ rfl];try rfl) rfl ?_;exact⟨_,rfl,(HN.out.far hsz (fun b hb=>hbl b (by have:=HZS.out;omega))).less (by have:=HZS.out;omega),hkp _ _ (Nat.le_refl _) KW.out⟩
structure Pd where
 name:ByteArray
 owner:ByteArray
 prio:Int
 need:Vec.V
 labels:PL
 sel:TL
 tols:NL
 key:ByteArray
 most:Int
 node:ByteArray
 hold:Bool
def Pd.zero:Pd:=⟨ByteArray.empty,ByteArray.empty,0,[],[],[],[],ByteArray.empty,0,ByteArray.empty,false⟩
abbrev PodV (n:Pd) (v1 v2 v3 v4:Value):Value:=.agg #[.string n.name,.string n.owner,.int .i64 n.prio,v1,v2,v3,v4,.string n.key,.int .i64 n.most,.string n.node,.bool n.hold]
structure PodAt (w:World) (v1 v2 v3 v4:Value) (n:Pd):Prop where
 name:n.name.size≤maxLen
 owner:n.owner.size≤maxLen
 key:n.key.size≤maxLen
 node:n.node.size≤maxLen
 prio:-9223372036854775808≤n.prio∧n.prio≤9223372036854775807
 most:-9223372036854775808≤n.most∧n.most≤9223372036854775807
 need:Vec.Reads w v1 n.need
 labels:Reads PairLay w v2 n.labels
 sel:Reads TermLay w v3 n.sel
 tols:Reads TaLay w v4 n.tols
theorem PodAt.kept {w w':World} {v1 v2 v3 v4:Value} {n:Pd} (h:PodAt w v1 v2 v3 v4 n) (k:Kept w w'):PodAt w' v1 v2 v3 v4 n:=⟨h.name,h.owner,h.key,h.node,h.prio,h.most,h.need.kept k,h.labels.kept k,h.sel.kept k,h.tols.kept k⟩
def PodR (w:World) (v:Value) (n:Pd):Prop:=∃v1 v2 v3 v4,v=PodV n v1 v2 v3 v4∧PodAt w v1 v2 v3 v4 n
theorem PodR.kept {w w':World} {v:Value} {n:Pd} (h:PodR w v n) (k:Kept w w'):PodR w' v n:=by
 obtain⟨v1,v2,v3,v4,e,h⟩:=h;exact⟨v1,v2,v3,v4,e,h.kept k⟩
def orL:List Int→Int
 | []=>0
 | x::t=>if x≠0 then x else orL t
theorem orI_any (b len:Nat) (l:List Int) (w:World) (hl:l.length=len) (hm:len≤1000) (hc:∀(i:Nat) (x:Int),l[i]?=some x→w.cell? ⟨b,i,none⟩=some (.int .i64 x)) :
 Calls Tryz.prog 44 #[.slice (some ⟨b,0,none⟩) len len] w fun e w'=>e=.returned (.int .i64 (orL l))∧w=w':=by
 have HC:=lH hc;have HL:=lH hl;clear hc hl;go_enter Tryz.func44,Tryz.ntmps44;go_wp2;go_loopw [8] (fun i wr=>∃k:Nat,k≤len∧i=.int .i64 k∧orL (l.drop k)=orL l∧w=wr) (fun i _=>len-(intOf i).toNat)
 case atStart=>exact⟨0,Nat.zero_le _,rfl,rfl,rfl⟩
 case round =>
  obtain⟨k,hk,rfl,hrest,rfl⟩:=hrel;have HS:=lH hrest;by_cases hlt:k<len
  · have hkl:k<l.length:=by rw[HL.out];exact hlt
    obtain⟨x,hx⟩:∃x,l[k]=x:=⟨_,rfl⟩
    have hx':l[k]?=some x:=by rw[List.getElem?_eq_getElem hkl,hx]
    have c0:=HC.out k x hx';have HD:=lH (show l.drop k=x::l.drop (k+1) by rw[List.drop_eq_getElem_cons hkl,hx]);clear hrest hx hx' hkl;by_cases z:x=0
    · subst z;have HE:=lH (show orL (l.drop k)=orL (l.drop (k+1)) by rw[HD.out];rfl);go_wp2;go_roundw
      case rel=>exact⟨k+1,by omega,by go_num,HE.out.symm.trans HS.out,trivial⟩
      case measure=>simp[intOf];omega
    · have HE:=lH (show orL l=x by rw[←HS.out,HD.out];show (if x≠0 then x else _)=x;rw[if_pos z]);have z':(x != 0)=true:=by simpa using z
      clear z;go_wp2;go_ret;exact⟨ret_i64 HE.out.symm,rfl⟩
  · have HE:=lH (show orL l=0 by rw[←hrest,List.drop_of_length_le (by rw[HL.out];omega)];rfl);clear hrest;go_wp2;go_ret;exact⟨ret_i64 HE.out.symm,rfl⟩
end Go.Proofs.YtmlgobiifebjkacGreat
