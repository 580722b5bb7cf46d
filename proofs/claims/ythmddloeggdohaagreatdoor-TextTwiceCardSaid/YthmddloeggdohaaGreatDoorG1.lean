/- What serves all packages,and package by package the contracts of the functions that the law calls. -/
import Derived.Test.YthmddloeggdohaaGreatDoorG0
import Derived.RangeFuncNested
import Derived.RangeFuncBound
import Derived.Shelf.RegionOpen
import Derived.OwnWalkIn
import Derived.LoopNIn
import Derived.LoopIn
set_option linter.unusedVariables false
set_option maxRecDepth 100000
set_option maxHeartbeats 25600000
namespace Go.Proofs.YthmddloeggdohaaGreatDoor.Vec
open Go.RowKit
theorem Y3 (B:Nat) (q:Nat) (x y:Int) (w:World) (hq:w.cell? ⟨q,0,none⟩=some (.int .i64 y)) (hzq:w.frozen? ⟨q,0,none⟩=false) (hBq:B≤q) :
 CallsD Tryz.prog 251 #[.pointer (some ⟨q,0,none⟩)] (.panicking [ju x]) w fun e u' w' =>
  e=.returned (.tuple #[])∧u'=.panicking [{ ju x with recovered:=true }]∧w'.cell? ⟨q,0,none⟩=some (.int .i64 x)∧Below B w w':=by
 have hta:∀W,(Instr.typeAssert (.iface 32 (.int .i64 x)) 20 32 false).run Tryz.prog W=.ok (.int .i64 x) W:=fun _=>by kernel_rfl
 refine callsD_of_wpS Tryz.func251 rfl fun c₀ cs hu=>?_;apply wpS_seq;apply wpS_region;simp[wpOpsS,go_sem,recoverD,hu,Tryz.ntmps251,Exit.thenS];apply wpS_seq;apply wpS_region;simp[wpOpsS,go_sem,recoverD,Exit.thenS];refine wpS_cond (t:=true) (by simp[Act.eval,Array.replicate]) ?_;simp only[if_true];refine wpS_of_wp ?_;simp[Array.replicate];go_wp2;simp[bodyPostS,results,Tryz.results251];exact⟨World.cell?_setCell_same' _ _ _ (by rw[hq];rfl),(Below.refl B w).setCell (p:=⟨q,0,none⟩) hBq _⟩
theorem jah (q:Addr) (w:World) :
 CallsD Tryz.prog 251 #[.pointer (some q)] .returning w fun e u' w'=>e=.returned (.tuple #[])∧u'=.returning∧w'=w:=by
 refine callsD_of_wpS Tryz.func251 rfl fun c₀ cs hu=>?_;apply wpS_seq;apply wpS_region;simp[wpOpsS,go_sem,recoverD,hu,Tryz.ntmps251,Exit.thenS];apply wpS_seq;apply wpS_region;simp[wpOpsS,go_sem,recoverD,hu,Exit.thenS];refine wpS_cond (t:=false) (by simp[Act.eval,Array.replicate]) ?_;simp only[Bool.false_eq_true,if_false];refine wpS_of_wp (wp_skip ?_)
 cases c₀
 simp_all [bodyPostS,results,Tryz.results251]
theorem jH.base_le {e:TypeId} {w:World} {B B':Nat} {v:Value} {l:V} (h:jH e w B' v l) (hb:B≤B'):jH e w B v l:=by
 obtain⟨⟨h0,h1⟩,hf⟩:=h;refine⟨⟨h0,h1.imp id ?_⟩,hf⟩;rintro ⟨g,cap,cur,rfl,hbg,rest⟩;exact⟨g,cap,cur,rfl,Nat.le_trans hb hbg,rest⟩
theorem jH.setCell_below {e:TypeId} {w:World} {B:Nat} {v:Value} {l:V} (h:jH e w B v l) {a:Addr} (ha:a.block<B) (u:Value):jH e (w.setCell a u) B v l :=
 ⟨ownsRow_setCell_below h.1 ha u,h.2⟩
def jaC (r:Int×V) (w:World) (e:Ending) (w':World):Prop :=
 ∃v,e=.returned (.tuple #[v,.int .i64 r.1])∧jH 140 w' w.heap.size v r.2∧Kept w w'
theorem jn5 (x y:Int) (w:World) (h0:0≤x) (h1:x≤9223372036854775807) (h2:0≤y) (h3:y≤9223372036854775807) :
 Calls Tryz.prog 246 #[.int .i64 x,.int .i64 y] w (Ans (jR x y).1 (jR x y).2 w):=by
 by_cases h:x+y≤9223372036854775807
 · have e:jR x y=(x+y,0):=by unfold jR;rw[if_pos h]
   rw[e];exact(jof x y w h0 h2 h).mono fun _ _ g=>g.ans
 · have e:jR x y=(0,5):=by unfold jR;rw[if_neg h]
   rw[e];exact(jlK x y w h0 h2 h3 (by omega)).mono fun _ _ g=>g.ans
theorem jjx (a a':Option Addr) (len cap len' cap':Nat) (l l':V) (w:World) (hr:jt w a len l) (hr':jt w a' len' l') (hc:len≤cap) (hm:cap≤maxLen) (hc':len'≤cap') (hm':cap'≤maxLen) :
 Calls Tryz.prog 245 #[.slice a len cap,.slice a' len' cap',.func (.func 246) #[] #[]] w (zM (jx jR l l') w.heap.size w):=by
 by_cases h1:jm l=0
 · by_cases h2:jm l'=0
   · have HL:=lH hr.1;have HL':=lH hr'.1;have P1:=lH (je0 h1 hr.2.2.1);have P2:=lH (je0 h2 hr'.2.2.1);have n8:len≤8:=by have:=YI h1;rw[hr.1] at this;exact this
     have n8':len'≤8:=by have:=YI h2;rw[hr'.1] at this;exact this
     obtain⟨R,hR⟩:∃R,JT jR (l.length+l'.length) l l' []=R:=⟨_,rfl⟩
     have HM:=lH (show jx jR l l'=if R.1≠0 then (R.1,[]) else if 8<R.2.length then (4,[]) else (0,R.2) by
      unfold jx;rw[if_neg (by rw[h1];decide),if_neg (by rw[h2];decide)];dsimp only;rw[hR])
     have HR:=lH hR;have H1:=lH h1;have H2:=lH h2;have HA:=lH hr;have HB:=lH hr';clear hR h1 h2 hr hr';go_enter Tryz.func245,Tryz.ntmps245;go_wp2_with fail
     refine(Zo _ _ _ l _ HA.out).mono ?_;rintro e1 w1 ⟨g1,_,k1⟩;obtain rfl:=g1 H1.out;have K1:=lH k1;clear g1 k1;go_wp2_with fail
     refine(Zo _ _ _ l' _ (HB.out.kept K1.out)).mono ?_;rintro e2 w2 ⟨g2,_,k2⟩;obtain rfl:=g2 H2.out;have K2:=lH (K1.out.trans k2);clear g2 k2;go_wp2;go_loopw [0,1,7] (fun va vb v wr=>∃(A B:Option Addr) (n c n' c':Nat) (la lb acc:V) (fuel:Nat),va=.slice A n c∧vb=.slice B n' c'∧n≤c∧c≤maxLen∧n'≤c'∧c'≤maxLen ∧
      jt w A n la∧jt w B n' lb∧Pos la∧Pos lb∧jH 140 wr w.heap.size v acc∧Below w.heap.size w wr∧n+n'≤fuel∧JT jR fuel la lb acc=R∧acc.length+n+n'≤16)
      (fun va vb _ _=>lenOf va+lenOf vb)
     case atStart =>
      exact⟨a,a',len,cap,len',cap',l,l',[],l.length+l'.length,rfl,rfl,hc,hm,hc',hm',HA.out,HB.out,P1.out,P2.out,jH.nil _ _ _,K2.out,by rw[HL.out,HL'.out];exact Nat.le_refl _,HR.out,by simp;omega⟩
     case round =>
      obtain⟨A,B,n,c,n',c',la,lb,acc,fuel,rfl,rfl,c1,c2,c3,c4,va1,vb1,pa,pb,ho,hB,hfuel,hres,h16⟩:=hrel;have VA:=lH va1;have VB:=lH vb1;have PA:=lH pa;have PB:=lH pb;have HO:=lH ho;have HB2:=lH hB;have HQ:=lH hres;have LA:=lH va1.1;have LB:=lH vb1.1;clear va1 vb1 pa pb ho hB hres;by_cases hz:n+n'=0
      · obtain rfl:n=0:=by omega
        obtain rfl:n'=0:=by omega
        clear hz;obtain⟨av,cv,rfl,g1,g2,g3⟩:=HO.out.at_;have HE:=lH (show R=(0,acc) from HQ.out.symm.trans (jkn (by rw[LA.out,LB.out])));have hal:acc.length≤9223372036854775807:=by omega
        clear g3 g1 g2;by_cases h8:acc.length≤8
        · have HF:=lH (show jx jR l l'=(0,acc) by rw[HM.out,HE.out];dsimp only;rw[if_neg (by decide),if_neg (by omega)]);go_wp2_with fail
          refine(jea _ _ _ _ h8).mono ?_;rintro e3 w3 ⟨rfl,rfl⟩;go_wp2;go_ret;exact zM.good (by rw[HF.out]) (by rw[HF.out];exact HO.out) HB2.out
        · have HF:=lH (show jx jR l l'=(4,[]) by rw[HM.out,HE.out];dsimp only;rw[if_neg (by decide),if_pos (by omega)]);go_wp2_with fail
          refine(jfA _ _ _ _ (by omega) hal).mono ?_;rintro e3 w3 ⟨rfl,rfl⟩;go_wp2;exact⟨rfl,zM.bad (by rw[HF.out]) (by decide) HB2.out⟩
      · have hpos:0<n+n':=by omega
        clear hz;have HP:=lH (show 0<la.length+lb.length by rw[LA.out,LB.out];exact hpos);have HU:=lH (show la.length+lb.length≤fuel by rw[LA.out,LB.out];exact hfuel);have HS:=lH (jfn PA.out PB.out);have T1:=lH (jeD PA.out (jl la lb));have T2:=lH (jeD PB.out (jl la lb));have HLESS:=lH (jiM HP.out);obtain⟨r1,r2,hr⟩:∃r1 r2,jR (jy la (jl la lb)).1 (jy lb (jl la lb)).1=(r1,r2):=⟨_,_,rfl⟩
        have QF:=lH (show ∀W,Calls Tryz.prog 246 #[.int .i64 (jy la (jl la lb)).1,.int .i64 (jy lb (jl la lb)).1] W (Ans r1 r2 W) from fun W=>by
         have:=jn5 _ _ W T1.out.1.1 T1.out.1.2 T2.out.1.1 T2.out.1.2;rw[hr] at this;exact this)
        have HRR:=lH hr;have RB:=lH (show 0≤r1∧r1≤9223372036854775807 by have:=jiA (T1.out.1) (T2.out.1);rw[hr] at this;exact this);clear hr;have hd:(decide (0<n)||decide (0<n'))=true:=by simp;omega
        rcases Nat.eq_zero_or_pos n with h0 | h0
        case' inl=>(have d2:decide (0<n')=true:=by simp;omega)
        case' inl=>(subst h0)
        case' inr=>(have d1:decide (0<n)=true:=by simp;omega)
        all_goals
         clear hd;go_wp2_with fail
         refine(jge _ _ _ _ _ _ la lb _ (VA.out.kept HB2.out) (VB.out.kept HB2.out) (by omega)).mono ?_;rintro e3 w3 ⟨rfl,k3⟩;have K3:=lH k3;clear k3;go_wp2_with fail
         refine(jeB _ _ _ la _ _ ((VA.out.kept HB2.out).kept K3.out) c1 c2).mono ?_;rintro e4 w4 ⟨A4,c4',rfl,q1,q2,V4,k4⟩;have K4:=lH (K3.out.trans k4);have HV4:=lH V4;clear k4 V4;go_wp2_with fail
         refine(jeB _ _ _ lb _ _ ((VB.out.kept HB2.out).kept K4.out) c3 c4).mono ?_;rintro e5 w5 ⟨A5,c5',rfl,q3,q4,V5,k5⟩;have K5:=lH (K4.out.trans k5);have HV5:=lH V5;clear k5 V5;go_wp2_with fail
         refine(QF.out _).mono ?_;rintro e6 w6 ⟨rfl,k6⟩;have K6:=lH (K5.out.trans k6);clear k6;by_cases hx:r2=0
         · subst hx;go_wp2_with fail
           refine(jlE _ _).mono ?_;rintro e7 w7 ⟨rfl,rfl⟩;obtain⟨fuel',hf1,hf2⟩:=jjs (f:=jR) (acc:=acc) HP.out HU.out (by rw[HRR.out]);have HF1:=lH hf1;have HF2:=lH hf2;clear hf1 hf2;have HBB:=lH (show Below w.heap.size w w6 from HB2.out.trans (Below.mono K6.out HB2.out.size));by_cases hy:r1=0
           · subst hy;go_wp2_with fail
             refine(jlc _ _ _).mono ?_;rintro e8 w8 ⟨rfl,rfl⟩;go_wp2;go_roundw
             case rel =>
              refine⟨A4,A5,_,c4',_,c5',_,_,acc,fuel',rfl,rfl,q1,q2,q3,q4,HV4.out w VA.out,HV5.out w VB.out,T1.out.2,T2.out.2,HO.out.kept K6.out,HBB.out,?_,?_,?_⟩
              · have:=HLESS.out;have:=HU.out;have:=HF1.out;omega
              · have:=HF2.out;rw[HRR.out] at this;rw[←HQ.out,this];rfl
              · have:=HLESS.out;have:=LA.out;have:=LB.out;omega
             case measure=>(show lenOf (Value.slice _ _ _)+lenOf (Value.slice _ _ _)<lenOf (Value.slice _ _ _)+lenOf (Value.slice _ _ _);simp only[lenOf];have:=HLESS.out;have:=LA.out;have:=LB.out;omega)
           · go_wp2_with fail
             refine(jke _ _ r1 w.heap.size acc _ (HO.out.kept K6.out) hy HS.out (by have:=RB.out;omega) (by have:=RB.out;omega) (by omega) HBB.out.size).mono ?_;rintro e8 w8 ⟨v8,rfl,o8,b8⟩;have O8:=lH o8;have B8:=lH b8;have HY:=lH hy;clear o8 b8 hy;go_wp2;go_roundw
             case rel =>
              refine⟨A4,A5,_,c4',_,c5',_,_,_,fuel',rfl,rfl,q1,q2,q3,q4,HV4.out w VA.out,HV5.out w VB.out,T1.out.2,T2.out.2,O8.out,HBB.out.trans B8.out,?_,?_,?_⟩
              · have:=HLESS.out;have:=HU.out;have:=HF1.out;omega
              · have:=HF2.out;rw[HRR.out] at this;rw[←HQ.out,this];dsimp only;unfold plusV;rw[if_neg HY.out]
              · have:=HLESS.out;have:=LA.out;have:=LB.out;rw[List.length_append];simp only[List.length_cons,List.length_nil];omega
             case measure=>(show lenOf (Value.slice _ _ _)+lenOf (Value.slice _ _ _)<lenOf (Value.slice _ _ _)+lenOf (Value.slice _ _ _);simp only[lenOf];have:=HLESS.out;have:=LA.out;have:=LB.out;omega)
         · have HX:=lH hx;have HE:=lH (show jx jR l l'=(r2,[]) by
            rw[HM.out,←HQ.out,jkz HP.out HU.out (by rw[HRR.out];exact hx),HRR.out];dsimp only;rw[if_pos hx])
           go_wp2_with fail
           refine(jkS _ _ _ hx).mono ?_;rintro e7 w7 ⟨rfl,rfl⟩;clear hx;go_wp2;exact⟨rfl,zM.bad (by rw[HE.out]) HX.out (HB2.out.trans (Below.mono K6.out HB2.out.size))⟩
   · have HM:=lH (show jx jR l l'=(jm l',[]) by unfold jx;rw[if_neg (by rw[h1];decide),if_pos h2]);have HA:=lH hr;have HB:=lH hr';have H1:=lH h1;have H2:=lH h2;clear h1 h2 hr hr';go_enter Tryz.func245,Tryz.ntmps245;go_wp2_with fail
     refine(Zo _ _ _ l _ HA.out).mono ?_;rintro e1 w1 ⟨g1,_,k1⟩;obtain rfl:=g1 H1.out;have K1:=lH k1;clear g1 k1;go_wp2_with fail
     refine(Zo _ _ _ l' _ (HB.out.kept K1.out)).mono ?_;rintro e2 w2 ⟨_,g2,k2⟩;obtain rfl:=g2 H2.out;have K2:=lH (K1.out.trans k2);clear g2 k2;go_wp2;exact⟨rfl,zM.bad (by rw[HM.out]) H2.out K2.out⟩
 · have HM:=lH (show jx jR l l'=(jm l,[]) by unfold jx;rw[if_pos h1]);have HA:=lH hr;have H1:=lH h1;clear h1 hr hr';go_enter Tryz.func245,Tryz.ntmps245;go_wp2_with fail
   refine(Zo _ _ _ l _ HA.out).mono ?_;rintro e1 w1 ⟨_,g1,k1⟩;obtain rfl:=g1 H1.out;have K1:=lH k1;clear g1 k1;go_wp2;exact⟨rfl,zM.bad (by rw[HM.out]) H1.out K1.out⟩
theorem jjf (C:Addr×Addr) (r:Int×V) (w:World) (hr:r.1≠0→r.2=[])
 (hk:∀W,Kept w W→Calls Tryz.prog 244 #[.pointer (some C.1),.pointer (some C.2)] W (zM r W.heap.size W)) :
 Calls Tryz.prog 206 #[.func (.func 244) #[] #[.pointer (some C.1),.pointer (some C.2)]] w (jaC r w):=by
 have hmf:=hmfL (P:=Tryz.prog);have HK:=lH hk;have HR:=lH hr;clear hk hr;obtain⟨r1,r2⟩:=r;go_enter_defers Tryz.func206,Tryz.ntmps206
 go_wp2_with fail
 refine(HK.out _ (ja _ _)).mono ?_;rintro e1 w1 ⟨h0,h1,hb⟩;have k1:=hb.size;simp only[World.size_alloc] at k1;have c2:=(hb.cell (p:=⟨w.heap.size,0,none⟩) (by simp))
 have z2:=(hb.frozen (p:=⟨w.heap.size,0,none⟩) (by simp))
 have e2':w1.cell? ⟨w.heap.size,0,none⟩=some (.int .i64 0):=by rw[c2];go_simp
 have y2:w1.frozen? ⟨w.heap.size,0,none⟩=false:=by rw[z2];go_simp
 clear c2 z2;have KB:=lH (show Below w.heap.size w w1 from(ja w _).trans hb);by_cases hx:r1=0
 · subst hx;obtain⟨v,rfl,ho⟩:=h0 rfl;have HO:=lH ho;obtain⟨av,cv,rfl,_,_,_⟩:=ho.at_;have hsz:=World.size_alloc w (.cells #[.int .i64 0] 32);clear h0 h1 hb ho;go_wp2_with fail
   refine leaves_cons (f:=251) (args:=#[.pointer (some ⟨w.heap.size,0,none⟩)]) (by simp) (by simp[go_sem]) ?_;refine(jah ⟨w.heap.size,0,none⟩ _).mono ?_;rintro e u' w'' ⟨rfl,rfl,rfl⟩;simp[Leaves,settle,results,Tryz.results206,go_sem,e2'];exact⟨_,rfl,(HO.out.setCell_below (a:=⟨w.heap.size,0,none⟩) (by simp) _).base_le (by simp),KB.out.setCell (p:=⟨w.heap.size,0,none⟩) (Nat.le_refl _) _⟩
 · obtain rfl:=h1 hx;obtain rfl:=HR.out hx;clear h0 h1 hb;go_wp2_with fail
   refine leaves_cons (f:=251) (args:=#[.pointer (some ⟨w.heap.size,0,none⟩)]) (by simp) (by simp[go_sem]) ?_;refine(Y3 w.heap.size w.heap.size r1 0 _ e2' y2 (by omega)).mono ?_;rintro e u' w'' ⟨rfl,rfl,q2,q3⟩;simp[Leaves,settle,results,Tryz.results206,go_sem,q2];exact⟨_,rfl,jH.nil _ _ _,KB.out.trans q3⟩
theorem jh8 (C:Addr×Addr) (a a':Option Addr) (len cap len' cap':Nat) (l l':V) (w:World) (h1:w.cell? C.1=some (.slice a len cap)) (h2:w.cell? C.2=some (.slice a' len' cap'))
 (hr:jt w a len l) (hr':jt w a' len' l') (hc:len≤cap) (hm:cap≤maxLen) (hc':len'≤cap') (hm':cap'≤maxLen) :
 Calls Tryz.prog 244 #[.pointer (some C.1),.pointer (some C.2)] w (zM (jx jR l l') w.heap.size w):=by
 have HR:=lH hr;have HR':=lH hr';have HM:=lH hm;have HM':=lH hm';clear hr hr' hm hm';go_enter Tryz.func244,Tryz.ntmps244;go_wp2_with fail
 refine(jjx a a' len cap len' cap' l l' _ HR.out HR'.out hc HM.out hc' HM'.out).mono ?_;rintro e w' ⟨g0,g1,k⟩;by_cases hx:(jx jR l l').1=0
 · obtain⟨v,rfl,ho⟩:=g0 hx;have HX:=lH hx;have HO:=lH ho;have HK:=lH k;clear g0 g1 hx ho k;go_wp2;go_ret;exact zM.good HX.out HO.out HK.out
 · obtain rfl:=g1 hx;have HX:=lH hx;have HK:=lH k;clear g0 g1 hx k;go_wp2;exact⟨rfl,zM.bad rfl HX.out HK.out⟩
theorem jdt (l l':V):(jx jR l l').1≠0→(jx jR l l').2=[]:=by
 unfold jx;split
 · exact fun _=>rfl
 · split
   · exact fun _=>rfl
   · dsimp only;split
     · exact fun _=>rfl
     · split
       · exact fun _=>rfl
       · exact fun h=>absurd rfl h
theorem jnD (a a':Option Addr) (len cap len' cap':Nat) (l l':V) (w:World)
 (hr:jt w a len l) (hr':jt w a' len' l') (hc:len≤cap) (hm:cap≤maxLen) (hc':len'≤cap') (hm':cap'≤maxLen) :
 Calls Tryz.prog 194 #[.slice a len cap,.slice a' len' cap'] w (jaC (jx jR l l') w):=by
 have hmf:=hmfL (P:=Tryz.prog);have hC:∀W,Kept ((w.alloc (.cells #[.slice a len cap] 37)).alloc (.cells #[.slice a' len' cap'] 37)) W→Calls Tryz.prog 244 #[.pointer (some ⟨w.heap.size,0,none⟩),.pointer (some ⟨w.heap.size+1,0,none⟩)] W (zM (jx jR l l') W.heap.size W):=by
  intro W k;have c1:=k.cell (p:=⟨w.heap.size,0,none⟩) (by simp;omega);have c2:=k.cell (p:=⟨w.heap.size+1,0,none⟩) (by simp);exact jh8 (⟨w.heap.size,0,none⟩,⟨w.heap.size+1,0,none⟩) a a' len cap len' cap' l l' W (by rw[c1];go_simp) (by rw[c2];go_simp) (hr.kept ((jk w _ _).trans k)) (hr'.kept ((jk w _ _).trans k)) hc hm hc' hm'
 have HC:=lH hC;clear hC hr hr' hm hm';go_enter Tryz.func194,Tryz.ntmps194;go_wp2_with fail
 refine(jjf (⟨w.heap.size,0,none⟩,⟨w.heap.size+1,0,none⟩) (jx jR l l') _ (jdt l l') HC.out).mono ?_;rintro e w' ⟨v,rfl,ho,k⟩;have HO:=lH ho;have HK:=lH k;clear ho k;go_wp2;go_ret2
 exact⟨v,rfl,HO.out.base_le (by simp;omega),(jk w _ _).trans HK.out⟩
theorem joa {l:V} {k:Nat} (h:k<l.length):(nm l k,qn l k) ∈ l:=by
 have:l.getD k (ByteArray.empty,0)=l[k]:=by simp[List.getD,h]
 have e:(nm l k,qn l k)=l[k]:=by simp only[nm,qn,this]
 rw[e];exact List.getElem_mem h
end Go.Proofs.YthmddloeggdohaaGreatDoor.Vec
namespace Go.Proofs.YthmddloeggdohaaGreatDoor
open Go.RowKit
theorem JS {α:Type} {l:List α} {k:Nat} (h:¬k<l.length):l.drop k=[]:=List.drop_of_length_le (by omega)
theorem all_cons {α:Type} (f:α→Bool) (x:α) (t:List α):(x::t).all f=(f x&&t.all f):=rfl
theorem zW {α:Type} {l:List α} {k:Nat} {x:α} (h:l[k]?=some x):l.take (k+1)=l.take k++[x]:=by rw[List.take_add_one,h];rfl
theorem Own.snoc {α:Type} {L:Lay α} {e:TypeId} {w:World} {base n:Nat} {v:Value} {l:List α} {x:α} (h:w.ownsRow base e L.m v n (jd L l++L.cs x)) (hn:l.length+1=n) (hf:∀z ∈ l,L.fine z) (hx:L.fine x):Own L e w base v (l++[x]):=by
 refine⟨?_,fun z hz=>?_⟩
 · rw[List.length_append,jC];show w.ownsRow base e L.m v (l.length+1) (jd L l++jd L [x]);rw[hn];have e:jd L [x]=L.cs x:=by unfold jd;simp
   rw[e];exact h
 · rcases List.mem_append.1 hz with g | g
   · exact hf z g
   · have:z=x:=by simpa using g
     rw[this];exact hx
def Say (v:Value) (w:World) (e:Ending) (w':World):Prop:=e=.returned v∧Kept w w'
theorem Reads.nil {α:Type} {L:Lay α} (w:World):Reads L w (.slice none 0 0) []:=⟨none,0,rfl,Nat.le_refl _,by decide,jr.nil w none⟩
theorem Reads.fine {α:Type} {L:Lay α} {v:Value} {l:List α} {w:World} (h:Reads L w v l):∀x ∈ l,L.fine x:=by
 obtain⟨a,cap,rfl,h1,h2,h3⟩:=h;exact h3.2.2.1
theorem jr.part {α:Type} {L:Lay α} {w:World} {b off len:Nat} {l:List α} (h:jr L w (some ⟨b,off,none⟩) len l) (i n:Nat) (hi:i+n≤len) :
 jr L w (some ⟨b,off+i*L.m,none⟩) n ((l.drop i).take n):=by
 obtain⟨h0,h1,h2,h3⟩:=h;refine⟨by rw[List.length_take,List.length_drop];omega,by omega,fun x hx=>h2 x (List.mem_of_mem_drop (List.mem_of_mem_take hx)),?_⟩;rcases h3 with h3 | ⟨b',off',e,hb,hc⟩
 · exact .inl (by omega)
 · injection e with e;injection e with e1 e2 e3;subst e1;subst e2;refine .inr ⟨b,_,rfl,hb,fun k x j u hk hj=>?_⟩;have hkn:k<n:=by have:=(List.getElem?_eq_some_iff.1 hk).1;rw[List.length_take] at this;omega
   have hk':l[i+k]?=some x:=by
    rw[List.getElem?_take,if_pos hkn,List.getElem?_drop] at hk;exact hk
   have:=hc (i+k) x j u hk' hj;rw[show off+i*L.m+k*L.m+j=off+(i+k)*L.m+j by rw[Nat.add_mul];omega];exact this
theorem jas:(Tryz.prog.info? 9).map (fun i=>(i.zero,i.size,i.bytes))=some (some (.string ByteArray.empty),1,16):=by kernel_rfl
def YN (ts:List ByteArray) (n k:Nat):List Value:=(ts.take k).map Value.string++List.replicate (n-k) (.string ByteArray.empty)
theorem qh (ts:List ByteArray) (n:Nat):YN ts n 0=List.replicate n (.string ByteArray.empty):=by simp[YN]
theorem jaa {ts:List ByteArray} {n:Nat} (h:ts.length=n):YN ts n n=ts.map Value.string:=by
 unfold YN;rw[List.take_of_length_le (by omega),Nat.sub_self];simp
theorem qT {ts:List ByteArray} {n k:Nat} {x:ByteArray} (hl:ts.length=n) (hx:ts[k]?=some x):(YN ts n k).set k (.string x)=YN ts n (k+1):=by
 have hk:k<ts.length:=(List.getElem?_eq_some_iff.1 hx).1;unfold YN;have e1:((ts.take k).map Value.string).length=k:=by rw[List.length_map,List.length_take];omega
 have e2:n-k=(n-(k+1))+1:=by omega
 rw[List.set_append_right _ _ (by omega),e1,Nat.sub_self,e2,List.replicate_succ,List.set_cons_zero,List.take_add_one,hx];simp
theorem XA {w w':World} {base n:Nat} {e:TypeId} {m:Nat} {v:Value} {xs:List Value} (h:w.ownsRow base e m v n xs) (k:Kept w w'):w'.ownsRow base e m v n xs:=by
 obtain⟨h0,h1⟩:=h;refine⟨h0,h1.imp id ?_⟩;rintro ⟨g,cap,cur,rfl,hbg,hg,hn,hm,hs,ht⟩;refine⟨g,cap,cur,rfl,hbg,?_,hn,hm,hs,ht⟩;have hlt:g<w.heap.size:=by
  rcases Nat.lt_or_ge g w.heap.size with hlt | hge
  · exact hlt
  · rw[Array.getElem?_eq_none hge] at hg;cases hg
 exact(k.block g hlt).trans hg
theorem qW {w:World} {base p n cap:Nat} {e:TypeId} {xs:List ByteArray} (h:w.ownsRow base e 1 (.slice (some ⟨p,0,none⟩) n cap) n (xs.map Value.string)) :
 ∀(j:Nat) x,xs[j]?=some x→w.cell? ⟨p,0+j,none⟩=some (.string x):=by
 intro j x hx;have:=h.cells (g:=p) rfl j (.string x) (by simp[hx]);rw[←this];congr 1
 unfold Addr.add;split<;>simp_all
theorem jbP {w:World} {base p n cap:Nat} {e:TypeId} {xs:List Value} (h:w.ownsRow base e 1 (.slice (some ⟨p,0,none⟩) n cap) n xs) {k:Nat} {u:Value} (hk:xs[k]?=some u):w.cell? ⟨p,k,none⟩=some u:=by
 have:=h.cells (g:=p) rfl k u hk;rw[←this];congr 1
 unfold Addr.add;split<;>simp_all
theorem jaL {ts:List ByteArray} {n k:Nat} (hl:ts.length=n) (hk:k<n):(YN ts n k)[k]?=some (.string ByteArray.empty):=by
 unfold YN;have e1:((ts.take k).map Value.string).length=k:=by rw[List.length_map,List.length_take];omega
 rw[List.getElem?_append_right (by omega),e1,Nat.sub_self,List.getElem?_replicate];rw[if_pos (by omega)]
theorem Xn (n:Nat):(madeCells (Value.string ByteArray.empty).cells (n*1)).toList=List.replicate n (.string ByteArray.empty):=by
 simp[madeCells,Value.cells,Nat.mod_one,List.map_const']
def zZ (ts:List ByteArray):ByteArray:=⟨(Lib.join (ts.map (·.data.toList)) [44]).toArray⟩
theorem Y6:∀(ts:List ByteArray) (B:Nat),(∀x ∈ ts,x.size≤B)→(Lib.join (ts.map (·.data.toList)) [44]).length≤ts.length*(B+1)
 | [],B,_=>by simp[Lib.join]
 | [x],B,h=>by
  have:=h x (by simp);rw[List.map_cons,List.map_nil,Lib.join_one,Array.length_toList,ByteArray.size_data];simp;omega
 | x::y::t,B,h=>by
  have h1:=h x (by simp);have ih:=Y6 (y::t) B (fun z hz=>h z (by simp[hz]));have e:(Lib.join ((x::y::t).map (·.data.toList)) [44]).length=x.size+1+(Lib.join ((y::t).map (·.data.toList)) [44]).length:=by
   have s:(Lib.join ((x::y::t).map (·.data.toList)) [44])=x.data.toList++[44]++Lib.join ((y::t).map (·.data.toList)) [44]:=by simp[Lib.join,List.intercalate]
   rw[s,List.length_append,List.length_append,Array.length_toList,ByteArray.size_data];rfl
  rw[e];simp only[List.length_cons] at ih ⊢;rw[Nat.add_mul (t.length+1) 1 (B+1),Nat.one_mul];omega
theorem Zn {ts:List ByteArray} {B:Nat} (h:∀x ∈ ts,x.size≤B):(zZ ts).size≤ts.length*(B+1):=by
 have:=Y6 ts B h;unfold zZ;simpa [ByteArray.size] using this
theorem qi (x y:List UInt8) (t:List (List UInt8)):Lib.join (x::y::t) [44]=x++[44]++Lib.join (y::t) [44]:=by simp[Lib.join,List.intercalate]
theorem jdR {ts:List ByteArray} (h:∀x ∈ ts,x.size≤2000001):(zZ ts).size≤ts.length*2000002:=by
 have:=Y6 ts 2000001 h;unfold zZ;simpa [ByteArray.size] using this
open Go
def jjJ (P:Program) (l:Nat) (R:Ending→World→Prop):Exit→Act→World→Prop
 | .panic chain,a,w=>a.defers=[]∧R (.panicked chain) w
 | .outgrown,_,_=>False
 | .normal,_,w=>∃v w',(Instr.endRound l none).run P w=.ok v w'∧R (.returned v) w'
 | _,_,_=>False
theorem Y7 {F:Fence} {n:Nat} {P:Program} {l:Nat} {f:FuncId} {fn:Func} {tmps:Array Value} {assign body:Code} {w:World} {R:Ending→World→Prop} (hF:F.fn f) (hfn:P.funcs[f]?=some fn)
 (h:assign.wpIn (F.inRound l) n P (Exit.then (fun a₁ w₁=>∃w₂,(Instr.beginRound l).run P w₁=.ok () w₂∧body.wpIn (F.inRound l) n P (jjJ P l R) a₁ w₂) (fun _ _ _=>False))
   { tmps:=tmps,defers:=[] } w) :
 RoundIn F n P l f tmps assign body w R:=by
 refine⟨hF,fun c cs hr=>?_⟩;let b:Frame:={ (default:Frame) with fn:=f,kind:=.normal,roundOf:=some l }
 have hb0:Frame.round l f tmps assign body .normal=b.atR { tmps:=tmps,defers:=[] } [.code assign,.beginRound,.code body]:=by
  simp[Frame.round,Frame.atR,b]
 have hr':(F.inRound l).room ((c::cs).length+1+n):=hr;have hF':(F.inRound l).fn b.fn:=hF;obtain⟨e,a₁,w₁,hq,harr⟩:=h b [.beginRound,.code body] (c::cs) rfl hF' hr';rw[←hb0] at harr
 cases e with
 | normal =>
  obtain⟨w₂,hbr,hbody⟩:=hq;have s1:StepsIn (Machine.fenced P (F.inRound l)) P (lone (b.atR a₁ [.beginRound,.code body]) (c::cs) w₁) (lone (b.atR a₁ [.code body]) (c::cs) w₂) :=
   .one (fenced_calm (fr:=b.atR a₁ [.beginRound,.code body]) hF' hr' rfl) (stepR_beginRound rfl hbr)
  obtain⟨e₂,a₂,w₃,hq₂,harr₂⟩:=hbody b [] (c::cs) rfl hF' hr'
  cases e₂ with
  | normal =>
   obtain⟨v,w₄,hend,hR⟩:=hq₂;exact⟨.returned v,w₄,hR,(StepsIn.trans harr s1).trans (StepsIn.trans harr₂ (.one (fenced_calm (fr:=b.atR a₂ []) hF' hr' rfl) (stepR_round_end rfl rfl hend)))⟩
  | ret=>exact hq₂.elim
  | exit id=>exact hq₂.elim
  | goto t=>exact hq₂.elim
  | panic chain =>
   obtain⟨hd,hR⟩:=hq₂;obtain⟨todo,hs⟩:=harr₂;have hl:({ b.atR a₂ todo with mode:=.panicking chain }:Frame).leaving P w₃ (.panicked chain):=⟨rfl,hd,fn,hfn⟩
   exact⟨.panicked chain,w₃,hR,(StepsIn.trans harr s1).trans (StepsIn.trans hs (.one (fenced_leaving (n:=n) (F:=F.inRound l) hF' hr' hl) (step_leave_panicked hl)))⟩
  | outgrown=>exact hq₂.elim
 | exit id=>exact hq.elim
 | goto t=>exact hq.elim
 | ret=>exact hq.elim
 | panic chain=>exact hq.elim
 | outgrown=>exact hq.elim
open Go.RowKit Go.Shelf
def bytes (l:List UInt8):ByteArray:=⟨l.toArray⟩
def partsOf:List UInt8→List (List UInt8)
 | []=>[[]]
 | c::t =>
  if c=44 then []::partsOf t
  else match partsOf t with
   | []=>[[c]]
   | p::ps=>(c::p)::ps
theorem YJ (c:UInt8) (t:List UInt8):partsOf (c::t)=if c=44 then []::partsOf t else match partsOf t with
 | []=>[[c]]
 | p::ps=>(c::p)::ps:=rfl
theorem jiP (l:List UInt8):partsOf l≠[]:=by
 cases l with
 | nil=>simp[partsOf]
 | cons c t=>unfold partsOf;split;simp;split<;>simp
theorem jcH (c:UInt8) (t:List UInt8):Lib.index (c::t) [44]=if c=44 then 0 else if Lib.index t [44]==-1 then -1 else Lib.index t [44]+1:=by
 rw[Lib.index];by_cases h:c=44
 · subst h;rfl
 · rw[if_neg h,if_neg (by simp[List.isPrefixOf];exact fun e=>h e.symm)]
theorem jdU:∀(l:List UInt8),Lib.index l [44]<0→partsOf l=[l]
 | [],_=>rfl
 | c::t,h=>by
  rw[jcH] at h;by_cases hc:c=44
  · rw[if_pos hc] at h;omega
  · rw[if_neg hc] at h;have ht:Lib.index t [44]<0:=by
     split at h
     · rename_i e;have:Lib.index t [44]=-1:=by simpa using e
       omega
     · omega
    unfold partsOf;rw[if_neg hc,jdU t ht]
theorem jd0:∀(l:List UInt8) (i:Nat),Lib.index l [44]=(i:Int)→i<l.length∧partsOf l=l.take i::partsOf (l.drop (i+1))
 | [],i,h=>by simp[Lib.index] at h
 | c::t,i,h=>by
  rw[jcH] at h;by_cases hc:c=44
  · rw[if_pos hc] at h;obtain rfl:i=0:=by omega
    refine⟨by simp,?_⟩;rw[YJ,if_pos hc];rfl
  · rw[if_neg hc] at h;split at h
    · omega
    · rename_i e;have hge:=Lib.index_ge t [44];have hne:Lib.index t [44]≠-1:=by simpa using e
      obtain⟨j,hj⟩:=Int.eq_ofNat_of_zero_le (show 0≤Lib.index t [44] by omega);obtain⟨h1,h2⟩:=jd0 t j hj;obtain rfl:i=j+1:=by omega
      refine⟨by simpa using h1,?_⟩;rw[partsOf,if_neg hc,h2];simp
def jfI (b1 b2 b3:Nat) (W W':World):Prop :=
 ∀b,b=b1∨b=b2∨b=b3→W'.cell? ⟨b,0,none⟩=W.cell? ⟨b,0,none⟩∧W'.frozen? ⟨b,0,none⟩=W.frozen? ⟨b,0,none⟩
def jat (w:World) (b:Nat):Nat:=match w.cell? ⟨b,0,none⟩ with
 | some (.string s)=>s.size
 | _=>0
structure jnX (F:Fence) (n:Nat) (l b1 b2 b3:Nat) (ps:List (List UInt8)) (J:Nat→World→Prop) (Jp:List PanicEntry→World→Prop):Prop where
 yields:∀(k:Nat) (p:List UInt8) (W:World),ps[k]?=some p→J k W→YieldAt F (n-1) Tryz.prog l #[.string (bytes p)] W fun e W' =>
  (e=.returned (.bool true)∧J (k+1) W'∧jfI b1 b2 b3 W W')∨(∃c,e=.panicked c∧Jp c W')
 store:∀(k:Nat) (W:World) (s:ByteArray),J k W→J k (W.setCell ⟨b2,0,none⟩ (.string s))
 drew:∀(k:Nat) (W:World) (n:Nat),J k W→J k (W.drewN n)
 env:∀(k:Nat) (W:World),J k W→∃m,W.cell? ⟨1,0,none⟩=some (.int .i64 m)
def jgE (N:Nat) (J:Nat→World→Prop) (Jp:List PanicEntry→World→Prop) (e:Ending) (w':World):Prop :=
 ((∃v,e=.returned v)∧J N w')∨(∃c,e=.panicked c∧Jp c w')
theorem jiR (n:Nat) (hn:1≤n) (l b1 b2 b3:Nat) (s:List UInt8) (hs:s.length≤1000000) (J:Nat→World→Prop) (Jp:List PanicEntry→World→Prop)
 (hY:jnX Fence.wide n l b1 b2 b3 (partsOf s) J Jp) (h12:b1≠b2) (h32:b3≠b2) (W:World)
 (c1:W.cell? ⟨b1,0,none⟩=some (.string ⟨#[44]⟩)) (c2:W.cell? ⟨b2,0,none⟩=some (.string (bytes s))) (c3:W.cell? ⟨b3,0,none⟩=some (.int .i64 0))
 (z2:W.frozen? ⟨b2,0,none⟩=false) (h0:J 0 W) :
 CallsIn Fence.wide n Tryz.prog 301 #[.func (.yield l) #[] #[],.pointer (some ⟨b1,0,none⟩),.pointer (some ⟨b2,0,none⟩),.pointer (some ⟨b3,0,none⟩)] W (jgE (partsOf s).length J Jp):=by
 have HY:=lH hY;have H0:=lH h0;clear hY h0;refine callsIn_of_wp Tryz.func301 rfl trivial ?_ rfl;simp only[Tryz.ntmps301,List.size_toArray,List.length_cons,List.length_nil,Nat.reduceAdd,Nat.reduceSub,Array.replicate_succ,Array.replicate_zero,List.push_toArray,List.append_toArray,List.nil_append,List.cons_append];gi_wp2
 gi_loopw [7] (fun i wr=>∃(k:Nat) (rest:List UInt8),partsOf rest=(partsOf s).drop k∧rest.length≤s.length∧wr.cell? ⟨b1,0,none⟩=some (.string ⟨#[44]⟩)∧wr.cell? ⟨b2,0,none⟩=some (.string (bytes rest))∧wr.cell? ⟨b3,0,none⟩=some (.int .i64 0)∧wr.frozen? ⟨b2,0,none⟩=false∧J k wr)
  (fun i wr=>jat wr b2)
 case atStart=>exact⟨0,s,rfl,Nat.le_refl _,c1,c2,c3,z2,H0.out⟩
 case round =>
  obtain⟨k,rest,hp,hl,c1,c2,c3,z2,hJ⟩:=hrel;have HJ:=lH hJ;have HP:=lH hp;have hl6:rest.length≤1000000:=Nat.le_trans hl hs;have hsz:(bytes rest).size=rest.length:=by simp[bytes,ByteArray.size]
  have HSZ:=lH hsz;obtain⟨m,hm⟩:=HY.out.env k wr hJ;by_cases hix:Lib.index rest [44]<0
  · have hone:=jdU rest hix;have IX:=lH (show Calls Tryz.prog 287 #[.string (bytes rest),.string ⟨#[44]⟩] wr fun e w'=>e=.returned (.int .i64 (Lib.index rest [44]))∧w'=wr from Tryz.strings_Index (bytes rest) ⟨#[44]⟩ m wr (by omega) hm);have hk:(partsOf s)[k]?=some rest:=by
     have:=congrArg (fun x=>x[0]?) hp;rw[hone] at this;simpa using this.symm
    have HN:=lH (show k+1=(partsOf s).length by
     have:=congrArg List.length hp;rw[hone,List.length_drop] at this;simp only[List.length_cons,List.length_nil] at this;omega)
    obtain⟨fn,tmps,assign,body,hy,hR⟩:=HY.out.yields k rest wr hk hJ;have HR:=lH hR;obtain⟨ix,hixe⟩:∃ix,Lib.index rest [44]=ix:=⟨_,rfl⟩
    rw[hixe] at IX hix;clear hm hJ hp hone hk hR hsz hixe;gi_wp2_with (refine⟨trivial,?_⟩;gi_at_call 287;refine(callsIn_wide.2 IX.out).mono ?_;rintro e w' ⟨rfl,rfl⟩)
    refine HR.out.mono ?_;rintro e W' (⟨rfl,hJ',hk'⟩ | ⟨c,rfl,hp'⟩)
    · have HJ':=lH hJ';clear hJ' hk';gi_wp2
      go_end0
      exact .inl ⟨⟨_,rfl⟩,by rw[←HN.out];exact HJ'.out⟩
    · have HP':=lH hp';clear hp';gi_wp2
      exact⟨rfl,.inr ⟨c,rfl,HP'.out⟩⟩
  · obtain⟨i,hi⟩:=Int.eq_ofNat_of_zero_le (show 0≤Lib.index rest [44] by omega);obtain⟨hlt,hsome⟩:=jd0 rest i hi;have IX:=lH (show Calls Tryz.prog 287 #[.string (bytes rest),.string ⟨#[44]⟩] wr fun e w'=>e=.returned (.int .i64 (i:Int))∧w'=wr by
     have:=Tryz.strings_Index (bytes rest) ⟨#[44]⟩ m wr (by omega) hm;rw[show Lib.index (bytes rest).data.toList [44]=(i:Int) from hi] at this;exact this)
    have hk:(partsOf s)[k]?=some (rest.take i):=by
     have:=congrArg (fun x=>x[0]?) hp;rw[hsome] at this;simpa using this.symm
    have HN:=lH (show partsOf (rest.drop (i+1))=(partsOf s).drop (k+1) by
     have:=congrArg (fun x=>x.drop 1) hp;rw[hsome] at this;simpa [List.drop_drop] using this)
    obtain⟨fn,tmps,assign,body,hy,hR⟩:=HY.out.yields k (rest.take i) wr hk hJ;have HR:=lH hR;have hfrag:(bytes rest).extract 0 i=bytes (rest.take i):=by
     apply Go.WideShapes.bytes_inj;simp[bytes,ByteArray.data_extract]
    have hrest:(bytes rest).extract (i+1) rest.length=bytes (rest.drop (i+1)):=by
     apply Go.WideShapes.bytes_inj;simp[bytes,ByteArray.data_extract,List.take_of_length_le]
    have HREST:=lH hrest;have HJ2:=lH HY.out.store;clear hm hJ hp hsome hk hR hix hi hrest;have hi1:(i:Int)≤((bytes rest).size:Int):=by rw[hsz];omega
    gi_wp2_with (refine⟨trivial,?_⟩;gi_at_call 287;refine(callsIn_wide.2 IX.out).mono ?_;rintro e w' ⟨rfl,rfl⟩)
    refine HR.out.mono ?_;rintro e W' (⟨rfl,hJ',hk'⟩ | ⟨c,rfl,hp'⟩)
    · have HJ':=lH hJ';obtain⟨d1,y1⟩:=hk' b1 (.inl rfl);obtain⟨d2,y2⟩:=hk' b2 (.inr (.inl rfl));obtain⟨d3,y3⟩:=hk' b3 (.inr (.inr rfl));have e1:=d1.trans c1;have e2:=d2.trans c2;have e3:=d3.trans c3;have x2:=y2.trans z2;have hsz':=HSZ.out;have hrest:=HREST.out;have hi2:((i:Int)+1)≤((bytes rest).size:Int):=by rw[hsz'];omega
      have hi3:((i:Int)+1).toNat=i+1:=by omega
      have E1:=lH e1;have E2:=lH e2;have E3:=lH e3;have X2:=lH x2;have C2:=lH c2;clear hJ' hk' d1 d2 d3 y1 y2 y3 c1 c2 c3 z2;gi_wp2
      go_roundw
      case rel =>
       exact⟨k+1,rest.drop (i+1),HN.out,by rw[List.length_drop];omega,
        by rw[World.cell?_setCell_other _ _ _ _ (by intro e;injection e with e;exact h12 e.symm)];exact E1.out,
        World.cell?_setCell_same' _ _ _ (by rw[E2.out];rfl),
        by rw[World.cell?_setCell_other _ _ _ _ (by intro e;injection e with e;exact h32 e.symm)];exact E3.out,
        by rw[World.frozen?_setCell];exact X2.out,HJ2.out _ _ _ HJ'.out⟩
      case measure =>
       unfold jat;rw[World.cell?_setCell_same' _ _ _ (by rw[E2.out];rfl),C2.out];simp[bytes,ByteArray.size];omega
    · have HP':=lH hp';clear hp';gi_wp2
      exact⟨rfl,.inr ⟨c,rfl,HP'.out⟩⟩
structure Env (w:World):Prop where
 most:∃m,w.cell? ⟨1,0,none⟩=some (.int .i64 m)
theorem Env.kept {w w':World} (h:Env w) (k:Kept w w'):Env w':=by
 obtain⟨m,hm⟩:=h;exact⟨m,cell_later k hm⟩
theorem ji (p:List UInt8):(bytes p).size=p.length:=by simp[bytes,ByteArray.size]
theorem jn (p:List UInt8):(bytes p).toList=p:=by rw[Lib.toList_data];simp[bytes]
theorem jZ (s:ByteArray):bytes s.data.toList=s:=by apply Go.WideShapes.bytes_inj;simp[bytes]
theorem JC (c:UInt8) (p:List UInt8) (w:World) (hE:Env w) (hp:p.length≤1000000) :
 Calls Tryz.prog 82 #[.string (bytes p),.string ⟨#[c]⟩] w fun e w'=>e=.returned (.tuple #[.string (bytes (Lib.cut p [c]).1),.string (bytes (Lib.cut p [c]).2.1),.bool (Lib.cut p [c]).2.2])∧∃n,w'=w.drewN n:=by
 obtain⟨m,hm⟩:=hE.most;exact Tryz.strings_Cut (bytes p) ⟨#[c]⟩ m w (by rw[ji];omega) hm
theorem Zp (s:ByteArray) (w:World) (h:s.size≤281474976710656) :
 Calls Tryz.prog 160 #[.string s] w fun e w'=>e=.returned (.string s)∧Kept w w':=by
 go_enter Tryz.func160,Tryz.ntmps160;go_wp2_with fail
 refine(Tryz.stringslite_Clone s _ h).mono ?_;rintro e w' ⟨rfl,k⟩;go_wp2;go_ret;exact⟨rfl,k⟩
theorem zH {w w':World} (h:Kept w w') {a:Addr} (ha:w.heap.size≤a.block) (v:Value):Kept w (w'.setCell a v):=Below.setCell h ha v
theorem Yl (p q:List UInt8):(Lib.cut p q).1.length≤p.length∧(Lib.cut p q).2.1.length≤p.length:=by
 unfold Lib.cut;split
 · simp;omega
 · simp
theorem count_le (p:List UInt8) (c:UInt8):Lib.countByte p c≤p.length:=List.count_le_length
def jac (fid:FuncId) (P:Program) (c:Code) (Q:Exit→Act→World→Prop) (a:Act) (w:World):Prop :=
 ∀(b:Frame) (k:List Item) (cs:List Frame),b.fn=fid→b.roundOf=none →
  ∃e a' w',Q e a' w'∧ArrivesIn (Machine.fenced P Fence.wide) P (lone (b.atR a (.code c::k)) cs w) b k cs e a' w'
section
variable {fid:FuncId} {P:Program} {Q:Exit→Act→World→Prop} {a:Act} {w:World}
theorem j6 {n:Nat} {c:Code} (h:c.wpIn Fence.wide n P Q a w):jac fid P c Q a w :=
 fun b k cs _ hro=>h b k cs hro trivial (room_wide _)
theorem jQ {x y:Code} (h:jac fid P x (Exit.then (jac fid P y Q) Q) a w):jac fid P (Code.seq x y) Q a w:=by
 intro b k cs hb hro;obtain⟨e,a₁,w₁,hq,harr⟩:=h b (.code y::k) cs hb hro;have h0:=StepsIn.one (I:=Machine.fenced P Fence.wide) (fenced_wide P _) (stepR_seq (P:=P) (b:=b) (a:=a) (k:=k) (cs:=cs) (w:=w) (x:=x) (y:=y))
 cases e with
 | normal =>
  obtain⟨e₂,a₂,w₂,hq₂,harr₂⟩:=hq b k cs hb hro;exact⟨e₂,a₂,w₂,hq₂,.of_steps (h0.trans harr) harr₂⟩
 | exit id=>exact⟨_,a₁,w₁,hq,.of_steps h0 (.pass (x:=.code y) rfl (fun _ _=>.inl (by simp)) harr)⟩
 | goto l=>exact⟨_,a₁,w₁,hq,.of_steps h0 (.pass (x:=.code y) rfl (fun _ _=>.inl (by simp)) harr)⟩
 | ret=>exact⟨_,a₁,w₁,hq,.of_steps h0 (.pass (x:=.code y) rfl (fun _ _=>.inl (by simp)) harr)⟩
 | panic ch=>exact⟨_,a₁,w₁,hq,.of_steps h0 (.pass (x:=.code y) rfl (fun _ _=>.inl (by simp)) harr)⟩
 | outgrown=>exact⟨_,a₁,w₁,hq,.of_steps h0 (.pass (x:=.code y) rfl (fun _ _=>.inl (by simp)) harr)⟩
def jk0 (Q:Exit→Act→World→Prop):Exit→Act→World→Prop
 | .normal,a,w=>Q .normal a w
 | .panic c,a,w=>Q (.panic c) a w
 | _,_,_=>False
theorem Yg {id:Nat} {c:Code} (h:jac fid P c (jk0 Q) a w):jac fid P (Code.block id c) Q a w:=by
 intro b k cs hb hro;obtain⟨e,a₁,w₁,hq,harr⟩:=h b (.inBlock id::k) cs hb hro;have h0:=StepsIn.one (I:=Machine.fenced P Fence.wide) (fenced_wide P _) (stepR_block (P:=P) (b:=b) (a:=a) (k:=k) (cs:=cs) (w:=w) (id:=id) (c:=c))
 cases e with
 | normal=>exact⟨.normal,a₁,w₁,hq,(h0.trans harr).trans (.one (fenced_wide P _) stepR_inBlock)⟩
 | panic ch=>obtain⟨todo,hs⟩:=harr;exact⟨.panic ch,a₁,w₁,hq,todo,h0.trans hs⟩
 | exit id=>exact hq.elim
 | goto l=>exact hq.elim
 | ret=>exact hq.elim
 | outgrown=>exact hq.elim
def jhn (P:Program) (l:Nat) (Q:Exit→Act→World→Prop) (a':Act):Ending→World→Prop
 | .returned _,w₃=>∃w₄,(Instr.endLoop l).run P w₃=.ok none w₄∧Q .normal a' w₄
 | .panicked chain,w₃=>Q (.panic chain) a' w₃
 | .outgrown,_=>False
theorem jal {n:Nat} {g:Operand} {ps:Array Tmp} {assign body:Code} {l:Nat} {mark:List Deferred} {w₁:World} {d:Deferred} {f:FuncId} {args:Array Value}
 (he:(Instr.enterLoop fid a.tmps ps assign body none).run P w=.ok (l,mark) w₁) (hres:(resolve a.eval (rangeCall g l) 0).run P w₁=.ok d w₁) (hinv:(invoke d.target d.args).run P w₁=.ok (.enter f args) w₁)
 (hcall:CallsIn Fence.wide n P f args w₁ (jhn P l Q { a with defers:=mark++a.defers })):jac fid P (Code.rangeFunc g ps assign body) Q a w:=by
 intro b k cs hb hro;have henter:=stepR_rangeFunc (P:=P) (b:=b) (a:=a) (k:=k) (cs:=cs) (w:=w) (by rw[hb,hro];exact he) hres hinv;obtain⟨e,w₃,fr,hR,hsteps,hfn,hleave⟩:=hcall.2 (b.atR { a with defers:=mark++a.defers } (.inRangeFunc l::k)::cs) (room_wide _)
 cases e with
 | outgrown=>exact hR.elim
 | returned v =>
  obtain⟨w₄,hend,hq⟩:=hR;have back:=step_leave_returned (c:=b.atR { a with defers:=mark++a.defers } (.inRangeFunc l::k)) (cs:=cs) hleave;rw[finish_atR_inRangeFunc] at back;exact⟨.normal,_,w₄,hq,.head (fenced_wide P _) henter (StepsIn.trans hsteps (.head (fenced_wide P _) back (.one (fenced_wide P _) (stepR_endRangeFunc (jump:=none) hend))))⟩
 | panicked chain =>
  have back:=step_leave_panicked (c:=b.atR { a with defers:=mark++a.defers } (.inRangeFunc l::k)) (cs:=cs) hleave;rw[Frame.raise_atR] at back;exact⟨.panic chain,_,w₃,hR,.inRangeFunc l::k,.head (fenced_wide P _) henter (StepsIn.trans hsteps (.one (fenced_wide P _) back))⟩
theorem ZC {n:Nat} {fn:Func} {c:Code} {args:Array Value} {R:Ending→World→Prop} (hf:P.funcs[fid]?=some fn) (hb:fn.body=some c)
 (h:jac fid P c (bodyPostM Fence.wide n P fn R) { tmps:=args++Array.replicate (fn.ntmps-args.size) undef,defers:=[] } w):Calls P fid args w R:=by
 refine(callsIn_wide (n:=n)).1 ⟨trivial,fun cs _=>?_⟩;let b:Frame:={ (default:Frame) with fn:=fid,kind:=.normal,roundOf:=none }
 have henter:Frame.enter P fid args .normal=b.atR { tmps:=args++Array.replicate (fn.ntmps-args.size) undef,defers:=[] } [.code c]:=by
  simp[Frame.enter,Frame.atR,hf,hb,b]
 obtain⟨e,a',w',hq,harr⟩:=h b [] cs rfl rfl;rw[←henter] at harr
 cases e with
 | normal =>
  obtain⟨e',w'',fr',hR,hs,hfn,hl⟩:=leaves_stepsInM (F:=Fence.wide) (n:=n) a'.defers .returning w' { b.atR a' [] with mode:=.returning } cs rfl rfl rfl hf rfl trivial (room_wide _) hq;exact⟨e',w'',fr',hR,ComesIn.of_steps (StepsIn.trans harr (.one (fenced_wide P _) (stepR_end rfl))) hs,hfn,hl⟩
 | ret =>
  obtain⟨todo,hs₀⟩:=harr.1 rfl;obtain⟨e',w'',fr',hR,hs,hfn,hl⟩:=leaves_stepsInM (F:=Fence.wide) (n:=n) a'.defers .returning w' { b.atR a' todo with mode:=.returning } cs rfl rfl rfl hf rfl trivial (room_wide _) hq;exact⟨e',w'',fr',hR,ComesIn.of_steps hs₀ hs,hfn,hl⟩
 | panic chain =>
  obtain⟨todo,hs₀⟩:=harr;obtain⟨e',w'',fr',hR,hs,hfn,hl⟩:=leaves_stepsInM (F:=Fence.wide) (n:=n) a'.defers (.panicking chain) w' { b.atR a' todo with mode:=.panicking chain } cs rfl rfl rfl hf rfl trivial (room_wide _) hq;exact⟨e',w'',fr',hR,ComesIn.of_steps hs₀ hs,hfn,hl⟩
 | exit id=>exact hq.elim
 | goto l=>exact hq.elim
 | outgrown=>exact⟨.outgrown,w',b,hq,harr.resolve_left (by simp[b]),rfl,trivial⟩
end
end Go.Proofs.YthmddloeggdohaaGreatDoor
namespace Go.Proofs.YthmddloeggdohaaGreatDoor
open Go.RowKit Go.Shelf
attribute [local go_sem] Oper.semAt_some
structure St (b2 D:Nat) (W W':World):Prop where
 os:W'.os=W.os
 tape:W'.tape=W.tape
 output:W'.output=W.output
 size:W.heap.size≤W'.heap.size
 block:∀b,b≠b2→b≠D→b≠D+1→W'.heap[b]?=W.heap[b]?
theorem St.setCell {b2 D:Nat} (W:World) (v:Value):St b2 D W (W.setCell ⟨b2,0,none⟩ v) :=
 ⟨rfl,rfl,rfl,by show W.heap.size≤(W.heap.modify _ _).size;rw[Array.size_modify];exact Nat.le_refl _,fun b h _ _=>Below.heap_setCell W ⟨b2,0,none⟩ v b h⟩
theorem St.drewN {b2 D:Nat} (W:World) (n:Nat):St b2 D W (W.drewN n):=⟨rfl,rfl,rfl,Nat.le_refl _,fun _ _ _ _=>rfl⟩
theorem St.put {b2 D:Nat} (W:World) (o:Obj):St b2 D W (W.putObj (D+1) o):=⟨rfl,rfl,rfl,by simp,fun b _ _ h=>World.putObj_heap_other h⟩
theorem St.begin (b2:Nat) (W:World) (o o':Obj):St b2 W.heap.size W ((W.alloc o).alloc o') :=
 ⟨rfl,rfl,rfl,by simp;omega,fun b _ h1 h2=>by
  by_cases h:b<W.heap.size
  · exact(Below.heap_alloc _ o' b (by simp;omega)).trans (Below.heap_alloc W o b h)
  · rw[Array.getElem?_eq_none (by simp;omega),Array.getElem?_eq_none (by omega)]⟩
def KeptAt (b1 b2 b3 D:Nat) (W W':World):Prop:=∀b,b=b1∨b=b2∨b=b3∨b=D∨b=D+1→W'.heap[b]?=W.heap[b]?
theorem KeptAt.trans {b1 b2 b3 D:Nat} {A B C:World} (h:KeptAt b1 b2 b3 D A B) (k:KeptAt b1 b2 b3 D B C):KeptAt b1 b2 b3 D A C:=fun b hb=>(k b hb).trans (h b hb)
theorem KeptAt.drewN {b1 b2 b3 D:Nat} (W:World) (n:Nat):KeptAt b1 b2 b3 D W (W.drewN n):=fun _ _=>rfl
def joD (b1 b2 b3 D k:Nat) (I:Nat→World→Prop) (JP:List PanicEntry→World→Prop) (W:World):Exit→Act→World→Prop
 | .normal,_,W'=>KeptAt b1 b2 b3 D W W'∧I (k+1) W'
 | .panic c,a,W'=>a.defers=[]∧KeptAt b1 b2 b3 D W W'∧JP c W'
 | _,_,_=>False
theorem jhe {b1 b2 b3:Nat} {W W':World} (h:∀b,b=b1∨b=b2∨b=b3→W'.heap[b]?=W.heap[b]?):jfI b1 b2 b3 W W':=fun b hb =>
 ⟨World.cell?_of_block (a:=⟨b,0,none⟩) (h b hb),World.frozen?_of_block (a:=⟨b,0,none⟩) (h b hb)⟩
theorem YO {g:Operand} {t:Tmp} {assign body:Code} {Q:Exit→Act→World→Prop} {a:Act} {w:World} {n fid:Nat} {fn:Func} (hfn:Tryz.prog.funcs[fid]?=some fn) (hn:2≤n)
 (b1 b2 b3:Nat) (hg:a.eval g=.func (.func 301) #[] #[.pointer (some ⟨b1,0,none⟩),.pointer (some ⟨b2,0,none⟩),.pointer (some ⟨b3,0,none⟩)])
 (s:List UInt8) (hs:s.length≤1000000) (h12:b1≠b2) (h32:b3≠b2) (hb1:b1<w.heap.size) (hb2:b2<w.heap.size) (hb3:b3<w.heap.size)
 (c1:w.cell? ⟨b1,0,none⟩=some (.string ⟨#[44]⟩)) (c2:w.cell? ⟨b2,0,none⟩=some (.string (bytes s))) (c3:w.cell? ⟨b3,0,none⟩=some (.int .i64 0)) (z2:w.frozen? ⟨b2,0,none⟩=false)
 (I:Nat→World→Prop) (JP:List PanicEntry→World→Prop) (hI:∀k W W',I k W→St b2 w.heap.size W W'→I k W') (hE:∀k W,I k W→Env W) (h0:I 0 w) (a₁:ByteArray→Act)
 (hassign:∀(l:Nat) (x:ByteArray) (W:World) (K:Act→World→Prop),K (a₁ x) W →
   assign.wpIn (Fence.wide.inRound l) (n-1) Tryz.prog (Exit.then K (fun _ _ _=>False)) { tmps:=(#[t].zip #[Value.string x]).foldl (fun tt (p,v)=>tt.setIfInBounds p v) a.tmps,defers:=[] } W)
 (hbody:∀(l k:Nat) (p:List UInt8) (W:World),(partsOf s)[k]?=some p→I k W→w.heap.size+2≤W.heap.size→body.wpIn (Fence.wide.inRound l) (n-1) Tryz.prog (joD b1 b2 b3 w.heap.size k I JP W) (a₁ (bytes p)) W)
 (hdone:∀(W:World),I (partsOf s).length W→W.heap[w.heap.size]?=some (.deferred (some []))→Q .normal { a with defers:={ target:=.collected w.heap.size,args:=#[] }::a.defers } W)
 (hpanic:∀(c:List PanicEntry) (W:World),JP c W→W.heap[w.heap.size]?=some (.deferred (some []))→Q (.panic c) { a with defers:={ target:=.collected w.heap.size,args:=#[] }::a.defers } W) :
 jac fid Tryz.prog (Code.rangeFunc g #[t] assign body) Q a w:=by
 obtain⟨rec,hrec⟩:∃rec:LoopState→Option Code→Loop,rec=fun st pe=>{ state:=st,pending:=pe,fn:=fid,tmps:=a.tmps,params:=#[t],assign,body,defers:=w.heap.size }:=⟨_,rfl⟩
 obtain⟨W1,hW1⟩:∃W1,(w.alloc (.deferred (some []))).alloc (.loop (rec .ready none))=W1:=⟨_,rfl⟩
 have hL1:W1.heap[w.heap.size+1]?=some (.loop (rec .ready none)):=by
  rw[←hW1];have:=World.alloc_heap_new (w.alloc (.deferred (some []))) (.loop (rec .ready none));rwa [World.size_alloc] at this
 have hK1:W1.heap[w.heap.size]?=some (.deferred (some [])):=by
  rw[←hW1];exact(Below.heap_alloc _ _ _ (by simp)).trans (World.alloc_heap_new w _)
 have hS1:St b2 w.heap.size w W1:=by rw[←hW1];exact St.begin b2 w _ _
 have hB1:Below w.heap.size w W1:=by rw[←hW1];exact(ja w _).trans (ja _ _)
 refine jal (n:=n) (l:=w.heap.size+1) (mark:=[{ target:=.collected w.heap.size,args:=#[] }]) (w₁:=W1) (d:={ target:=.fn (.func 301) #[.pointer (some ⟨b1,0,none⟩),.pointer (some ⟨b2,0,none⟩),.pointer (some ⟨b3,0,none⟩)],args:=#[.func (.yield (w.heap.size+1)) #[] #[]] })
  (f:=301) (args:=#[.func (.yield (w.heap.size+1)) #[] #[],.pointer (some ⟨b1,0,none⟩),.pointer (some ⟨b2,0,none⟩),.pointer (some ⟨b3,0,none⟩)]) ?_ ?_ ?_ ?_
 · rw[←hW1,hrec];exact run_enterLoop_outer _ _ _ _ _
 · simp only[resolve,hg];simp[go_sem]
 · have eg:=enters_of (P:=Tryz.prog) Tryz.func301 (by kernel_rfl) rfl;simp[invoke,go_sem,eg]
 · refine(jiR n (by omega) (w.heap.size+1) b1 b2 b3 s hs
    (fun k W=>I k W∧W.heap[w.heap.size+1]?=some (.loop (rec .ready none))∧W.heap[w.heap.size]?=some (.deferred (some [])))
    (fun c W=>JP c W∧W.heap[w.heap.size]?=some (.deferred (some [])))
    ⟨?_,?_,?_,?_⟩ h12 h32 W1 ((hB1.cell (p:=⟨b1,0,none⟩) hb1).trans c1) ((hB1.cell (p:=⟨b2,0,none⟩) hb2).trans c2) ((hB1.cell (p:=⟨b3,0,none⟩) hb3).trans c3)
    ((hB1.frozen (p:=⟨b2,0,none⟩) hb2).trans z2) ⟨hI 0 w W1 h0 hS1,hL1,hK1⟩).mono ?_
   · rintro k p W hp ⟨hi,hl,hk⟩;have hlt:w.heap.size+1<W.heap.size:=(Array.getElem?_eq_some_iff.1 hl).1;have hy:=run_yield (P:=Tryz.prog) (args:=#[.string (bytes p)]) hl (by rw[hrec];rfl);rw[hrec] at hy;refine⟨fid,_,assign,body,hy,Y7 trivial hfn ?_⟩;refine hassign _ (bytes p) W _ ?_;refine⟨_,run_beginRound hl (by rw[hrec]),?_⟩;have hl2:(W.putObj (w.heap.size+1) (.loop { rec .ready none with state:=.busy })).heap[w.heap.size+1]?=some (.loop { rec .ready none with state:=.busy }):=World.putObj_heap_same hlt;have hk2:(W.putObj (w.heap.size+1) (.loop { rec .ready none with state:=.busy })).heap[w.heap.size]?=some (.deferred (some [])):=(World.putObj_heap_other (by omega)).trans hk;refine wpIn_mono (hbody _ k p _ hp (hI k _ _ hi (St.put W _)) (by simp;omega)) ?_;rintro e a3 W3 hp3
     cases e with
     | normal =>
      obtain⟨hk3,hi3⟩:=hp3;have hl3:=(hk3 (w.heap.size+1) (by simp)).trans hl2;have hr:=run_endRound (P:=Tryz.prog) none hl3;refine⟨_,_,hr,.inl ⟨rfl,⟨hI _ _ _ hi3 (St.put W3 _),?_,?_⟩,?_⟩⟩
      · rw[World.putObj_heap_same (Array.getElem?_eq_some_iff.1 hl3).1,hrec];rfl
      · exact((World.putObj_heap_other (by omega)).trans (hk3 w.heap.size (by simp))).trans hk2
      · refine jhe fun b hb=>?_;have hbl:b≠w.heap.size+1:=by rcases hb with h | h | h<;>omega
        exact((World.putObj_heap_other hbl).trans (hk3 b (by rcases hb with h | h | h<;>simp[h]))).trans (World.putObj_heap_other hbl)
     | panic c =>
      obtain⟨hd,hk3,hj⟩:=hp3;exact⟨hd,.inr ⟨c,rfl,hj,(hk3 w.heap.size (by simp)).trans hk2⟩⟩
     | ret=>exact hp3.elim
     | exit id=>exact hp3.elim
     | goto t=>exact hp3.elim
     | outgrown=>exact hp3.elim
   · rintro k W x ⟨hi,hl,hk⟩;exact⟨hI _ _ _ hi (St.setCell W _),(Below.heap_setCell W ⟨b2,0,none⟩ _ _ (by simp;omega)).trans hl,(Below.heap_setCell W ⟨b2,0,none⟩ _ _ (by simp;omega)).trans hk⟩
   · rintro k W m ⟨hi,hl,hk⟩;exact⟨hI _ _ _ hi (St.drewN W _),hl,hk⟩
   · rintro k W ⟨hi,_,_⟩;exact(hE k W hi).most
   · rintro e W2 (⟨⟨v,rfl⟩,hi,hl,hk⟩ | ⟨c,rfl,hj,hk⟩)
     · exact⟨_,run_endLoop (P:=Tryz.prog) hl (by rw[hrec];simp) |>.trans (by rw[hrec]),hdone _ (hI _ _ _ hi (St.put W2 _)) ((World.putObj_heap_other (by omega)).trans hk)⟩
     · exact hpanic c W2 hj hk
end Go.Proofs.YthmddloeggdohaaGreatDoor
namespace Go.Proofs.YthmddloeggdohaaGreatDoor
open Go.RowKit Go.Shelf
attribute [local go_sem] Oper.semAt_some
def boxes (w:World) (s:List UInt8):World:=((w.alloc (.cells #[.string (bytes s)] 9)).alloc (.cells #[.string ⟨#[44]⟩] 9)).alloc (.cells #[.int .i64 0] 3)
theorem ZX (s:List UInt8) (w:World) :
 Calls Tryz.prog 252 #[.string (bytes s),.string ⟨#[44]⟩] w fun e w' =>
  e=.returned (.func (.func 301) #[] #[.pointer (some ⟨w.heap.size+1,0,none⟩),.pointer (some ⟨w.heap.size,0,none⟩),.pointer (some ⟨w.heap.size+2,0,none⟩)])∧w'=boxes w s:=by
 have hmf:=hmfL (P:=Tryz.prog);go_enter Tryz.func252,Tryz.ntmps252;go_wp2;go_ret;exact⟨rfl,rfl⟩
theorem YQ (w:World) (s:List UInt8):(boxes w s).heap.size=w.heap.size+3:=by simp[boxes]
theorem Jq (w:World) (s:List UInt8):Kept w (boxes w s):=((ja w _).trans (ja _ _)).trans (ja _ _)
theorem Yp (w:World) (s:List UInt8):(boxes w s).cell? ⟨w.heap.size+1,0,none⟩=some (.string ⟨#[44]⟩)∧(boxes w s).cell? ⟨w.heap.size,0,none⟩=some (.string (bytes s))∧(boxes w s).cell? ⟨w.heap.size+2,0,none⟩=some (.int .i64 0)∧(boxes w s).frozen? ⟨w.heap.size,0,none⟩=false:=by
 unfold boxes;refine⟨?_,?_,?_,?_⟩<;>go_simp
theorem Below.st {B b2 D:Nat} {w W W':World} (h:Below B w W) (k:St b2 D W W') (h2:B≤b2) (hD:B≤D):Below B w W' :=
 ⟨k.os.trans h.os,k.tape.trans h.tape,k.output.trans h.output,Nat.le_trans h.size k.size,fun b hb=>(k.block b (by omega) (by omega) (by omega)).trans (h.block b hb)⟩
theorem zn {B D:Nat} {w W:World} {o:Obj} (h:Below B w W) (hD:B≤D):Below B w (W.putObj D o) :=
 ⟨h.os,h.tape,h.output,by rw[World.putObj_size];exact h.size,fun b hb=>(World.putObj_heap_other (by omega)).trans (h.block b hb)⟩
theorem Own.st {α:Type} {L:Lay α} {e:TypeId} {b2 D:Nat} {W W':World} {v:Value} {l:List α} (h:Own L e W (D+2) v l) (k:St b2 D W W') (h2:b2<D):Own L e W' (D+2) v l:=by
 obtain⟨⟨h0,h1⟩,hf⟩:=h;refine⟨⟨h0,h1.imp id ?_⟩,hf⟩;rintro ⟨g,cap,cur,rfl,hbg,hg,hn,hm,hs,ht⟩;exact⟨g,cap,cur,rfl,hbg,(k.block g (by omega) (by omega) (by omega)).trans hg,hn,hm,hs,ht⟩
theorem Own.row {α:Type} {L:Lay α} {e:TypeId} {w:World} {B n:Nat} {v:Value} {l:List α} (h:Own L e w B v l) (hn:l.length=n):w.ownsRow B e L.m v n (jd L l):=hn▸h.1
theorem jau (W:World) (v:Value) (T:TypeId):(W.alloc (.cells #[v] T)).cell? ⟨W.heap.size,0,none⟩=some v∧(W.alloc (.cells #[v] T)).frozen? ⟨W.heap.size,0,none⟩=false:=by
 constructor<;>go_simp
theorem qJ (w:World) (f v:Value) (T T':TypeId):((w.alloc (.cells #[f] T)).alloc (.cells #[v] T')).cell? ⟨w.heap.size+1,0,none⟩=some v∧((w.alloc (.cells #[f] T)).alloc (.cells #[v] T')).frozen? ⟨w.heap.size+1,0,none⟩=false∧((w.alloc (.cells #[f] T)).alloc (.cells #[v] T')).cell? ⟨w.heap.size,0,none⟩=some f:=by
 have h:=jau (w.alloc (.cells #[f] T)) v T';rw[World.size_alloc] at h;exact⟨h.1,h.2,cell_later (ja _ _) (jau w f T).1⟩
def X7 {α:Type} (L:Lay α) (e:TypeId) (B vb:Nat) (l:List α) (W:World):Prop:=∃v,W.cell? ⟨vb,0,none⟩=some v∧W.frozen? ⟨vb,0,none⟩=false∧Own L e W B v l
theorem X7.st {α:Type} {L:Lay α} {e:TypeId} {b2 D vb:Nat} {W W':World} {l:List α} {B:Nat} (h:X7 L e B vb l W) (k:St b2 D W W') (hB:B=D+2) (hvb:vb<b2) (h2:b2<D):X7 L e B vb l W':=by
 subst hB;obtain⟨v,h1,h3,h4⟩:=h;have hb:=k.block vb (by omega) (by omega) (by omega);exact⟨v,(World.cell?_of_block (a:=⟨vb,0,none⟩) hb).trans h1,(World.frozen?_of_block (a:=⟨vb,0,none⟩) hb).trans h3,h4.st k h2⟩
theorem jcc {b2 D fb:Nat} {W W':World} {v:Value} (h:W.cell? ⟨fb,0,none⟩=some v) (k:St b2 D W W') (hvb:fb<b2) (h2:b2<D):W'.cell? ⟨fb,0,none⟩=some v :=
 (World.cell?_of_block (a:=⟨fb,0,none⟩) (k.block fb (by omega) (by omega) (by omega))).trans h
theorem joY (w:World) (o:Obj) (a b:Value) (T:TypeId):∀j u,[a,b][j]?=some u→((w.alloc o).alloc (.cells #[a,b] T)).cell? ((⟨w.heap.size+1,0,none⟩:Addr).add j)=some u:=by
 have:=World.news_of_block (cs:=#[a,b]) (t:=T) (fr:=(0,0)) ((w.alloc o).alloc_heap_new _);rw[World.size_alloc] at this;exact this
theorem jiN (w:World) (o:Obj) (a b c:Value) (T:TypeId):∀j u,[a,b,c][j]?=some u→((w.alloc o).alloc (.cells #[a,b,c] T)).cell? ((⟨w.heap.size+1,0,none⟩:Addr).add j)=some u:=by
 have:=World.news_of_block (cs:=#[a,b,c]) (t:=T) (fr:=(0,0)) ((w.alloc o).alloc_heap_new _);rw[World.size_alloc] at this;exact this
def zN {α:Type} (f:List UInt8→α) (ps:List (List UInt8)) (k:Nat):List α:=((ps.take k).map f).take 9
theorem XG {α:Type} {f:List UInt8→α} {ps:List (List UInt8)} {k:Nat} (h:k≤ps.length):(zN f ps k).length=min 9 k:=by
 unfold zN;rw[List.length_take,List.length_map,List.length_take];omega
theorem JD {α:Type} {f:List UInt8→α} {ps:List (List UInt8)} {k:Nat} {p:List UInt8} (hp:ps[k]?=some p) (h:(zN f ps k).length≤8):zN f ps (k+1)=zN f ps k++[f p]:=by
 have hk:k<ps.length:=(List.getElem?_eq_some_iff.1 hp).1;rw[XG (by omega)] at h;unfold zN;have e:ps.take (k+1)=ps.take k++[p]:=by rw[List.take_add_one,hp];rfl
 rw[e,List.map_append,List.take_of_length_le (l:=(ps.take k).map f) (by simp;omega),List.take_of_length_le (by simp;omega)];rfl
theorem qO {α:Type} {f:List UInt8→α} {ps:List (List UInt8)} {k:Nat} {p:List UInt8} (hp:ps[k]?=some p) (h:¬(zN f ps k).length≤8):zN f ps (k+1)=zN f ps k:=by
 have hk:k<ps.length:=(List.getElem?_eq_some_iff.1 hp).1;rw[XG (by omega)] at h;unfold zN;have e:ps.take (k+1)=ps.take k++[p]:=by rw[List.take_add_one,hp];rfl
 rw[e,List.map_append,List.take_append_of_le_length (by simp;omega)]
theorem YG:∀(s:List UInt8) (p:List UInt8),p ∈ partsOf s→p.length≤s.length
 | [],p,h=>by
  have:p=[]:=by simpa [partsOf] using h
  subst this;simp
 | c::t,p,h=>by
  rw[YJ] at h;split at h
  · rcases List.mem_cons.1 h with rfl | h
    · simp
    · have:=YG t p h;simp;omega
  · cases hp:partsOf t with
    | nil=>exact absurd hp (jiP t)
    | cons q qs =>
     rw[hp] at h;rcases List.mem_cons.1 h with rfl | h
     · have:=YG t q (by rw[hp];simp);simp;omega
     · have:=YG t p (by rw[hp];simp[h]);simp;omega
theorem Z6 {bad:List UInt8→Bool} {ps:List (List UInt8)} {k:Nat} {p:List UInt8} (h:∀q ∈ ps.take k,bad q=false) (hp:ps[k]?=some p) (hv:bad p=false) :
 ∀q ∈ ps.take (k+1),bad q=false:=by
 intro q hq;rw[List.take_add_one,hp] at hq;rcases List.mem_append.1 hq with g | g
 · exact h q g
 · have:q=p:=by simpa using g
   rw[this];exact hv
def jw {α:Type} (L:Lay α) (e:TypeId) (r:Int×List α) (base:Nat) (w:World) (en:Ending) (w':World):Prop :=
 (r.1=0→∃v,en=.returned v∧Own L e w' base v r.2)∧(r.1≠0→en=.panicked [ju r.1])∧Below base w w'
theorem jw.good {α:Type} {L:Lay α} {e:TypeId} {r:Int×List α} {base:Nat} {w w':World} {v:Value} (h:r.1=0) (ho:Own L e w' base v r.2) (hb:Below base w w'):jw L e r base w (.returned v) w':=⟨fun _=>⟨v,rfl,ho⟩,fun g=>absurd h g,hb⟩
theorem jw.bad {α:Type} {L:Lay α} {e:TypeId} {r:Int×List α} {base:Nat} {w w':World} {c:Int} (h:r.1=c) (hc:c≠0) (hb:Below base w w'):jw L e r base w (.panicked [ju c]) w':=⟨fun g=>absurd (h.symm.trans g) hc,fun _=>by rw[h],hb⟩
def Js {α:Type} (bad:List UInt8→Bool) (f:List UInt8→α) (chk:List α→Int) (s:List UInt8):Int×List α :=
 if s=[45] then (0,[])
 else if (partsOf s).any bad=true then (2,[])
 else if chk (((partsOf s).map f).take 9)≠0 then (chk (((partsOf s).map f).take 9),[])
 else (0,((partsOf s).map f).take 9)
theorem Xs {α:Type} {bad:List UInt8→Bool} {f:List UInt8→α} {chk:List α→Int} {s:List UInt8} (h:(Js bad f chk s).1≠0):(Js bad f chk s).2=[]:=by
 unfold Js at h ⊢;split
 · rfl
 · rename_i h1;rw[if_neg h1] at h;split
   · rfl
   · rename_i h2;rw[if_neg h2] at h;split
     · rfl
     · rename_i h3;rw[if_neg h3] at h;exact absurd rfl h
end Go.Proofs.YthmddloeggdohaaGreatDoor
namespace Go.Proofs.YthmddloeggdohaaGreatDoor.Vec
open Go.RowKit
def zs (c:UInt8):Bool:=decide (48≤(c.toNat:Int))&&decide ((c.toNat:Int)≤57)
theorem XX (c:UInt8):zs c=true↔(48≤(c.toNat:Int)∧(c.toNat:Int)≤57):=by
 unfold zs;simp only[Bool.and_eq_true,decide_eq_true_eq]
def zT:List UInt8→Bool
 | []=>false
 | c::t=>!(c==48&&!t.isEmpty)&&(c::t).all zs
theorem ZN (c:UInt8) (t:List UInt8):zT (c::t)=(!(c==48&&!t.isEmpty)&&(c::t).all zs):=rfl
def YM (s:ByteArray):Bool:=zT s.data.toList
theorem jm3 {s:ByteArray} (h:s.data.toList.all zs=true) (i:Nat) (hi:i<s.size):zs s[i]=true:=by
 rw[List.all_eq_true] at h;exact h _ (by simp[ByteArray.getElem_eq_getElem_data])
theorem jhB {s:ByteArray} (h:¬s.data.toList.all zs=true):∃(j:Nat) (hj:j<s.size),zs s[j]=false:=by
 rw[List.all_eq_true] at h;obtain⟨x,h⟩:=Classical.not_forall.1 h;obtain⟨hx,hn⟩:=Classical.not_imp.1 h;obtain⟨j,hj,e⟩:=List.getElem_of_mem hx;refine⟨j,by simpa using hj,?_⟩;have:s[j]'(by simpa using hj)=x:=by rw[←e];simp[ByteArray.getElem_eq_getElem_data]
 rw[this];simpa using hn
theorem jem (s:ByteArray) (w:World) (hs:s.size≤maxLen) :
 Calls Tryz.prog 239 #[.string s] w fun e w'=>e=.returned (.bool (YM s))∧w=w':=by
 unfold maxLen at hs;obtain⟨l,hl⟩:∃l,s.data.toList=l:=⟨_,rfl⟩
 have hsz:s.size=l.length:=by rw[←hl,Array.length_toList,ByteArray.size_data]
 cases l with
 | nil =>
  have HV:=lH (show YM s=false by unfold YM;rw[hl];rfl);have h0:s=ByteArray.empty:=jba hsz;subst h0;clear hl hsz;go_enter Tryz.func239,Tryz.ntmps239;go_wp2;go_ret;exact⟨jh HV.out.symm,rfl⟩
 | cons c t =>
  have h0:0<s.size:=by rw[hsz];simp
  have hne:(s.toList==([]:List UInt8))=false:=by rw[Lib.toList_data,hl];rfl
  have hc:s[0]=c:=by
   have:s.data.toList[0]'(by rw[hl];simp)=c:=by simp[hl]
   rw[←this];simp[ByteArray.getElem_eq_getElem_data]
  by_cases hz:c=48∧t≠[]
  · obtain⟨rfl,ht⟩:=hz;have HV:=lH (show YM s=false by
     unfold YM;rw[hl,ZN]
     cases t with
     | nil=>exact absurd rfl ht
     | cons d u=>rfl)
    have h1:1<s.size:=by
     rw[hsz]
     cases t with
     | nil=>exact absurd rfl ht
     | cons d u=>simp
    have h48:((s[0].toNat:Int)==48)=true:=by rw[hc];rfl
    clear hl hsz hc ht;go_enter Tryz.func239,Tryz.ntmps239;go_wp2;go_ret;exact⟨jh HV.out.symm,rfl⟩
  · have hcase:(s.size=1)∨(1<s.size∧((s[0].toNat:Int)==48)=false):=by
     by_cases h1:s.size=1
     · exact .inl h1
     · refine .inr ⟨by omega,?_⟩;rw[hc];have ht:t≠[]:=by intro e;rw[e] at hsz;simp at hsz;omega
       have hc48:c≠48:=fun e=>hz ⟨e,ht⟩;have:(c.toNat:Int)≠48:=by
        intro e;apply hc48;apply UInt8.toNat.inj;have:c.toNat=48:=by omega
        rw[this];rfl
       simpa using this
    have hdec:YM s=s.data.toList.all zs:=by
     unfold YM;rw[hl,ZN];have:(c==48&&!t.isEmpty)=false:=by
      cases t with
      | nil=>simp
      | cons d u =>
       have:c≠48:=fun e=>hz ⟨e,by simp⟩;simp[this]
     rw[this];rfl
    clear hz hc;by_cases hall:s.data.toList.all zs=true
    · have HV:=lH (show YM s=true from hdec.trans hall);have HA:=lH (jm3 hall);clear hall hdec hl hsz;rcases hcase with h1 | ⟨h1,h48⟩
      case' inl=>(have h1':s.size≤1:=by omega)
      case' inl=>(clear h1)
      all_goals
       go_enter Tryz.func239,Tryz.ntmps239;go_wp2;go_loop [18] (fun i=>∃k:Nat,k≤s.size∧i=.int .i64 k) (fun i=>s.size-(intOf i).toNat)
       case atStart=>exact⟨0,Nat.zero_le _,rfl⟩
       case round =>
        obtain⟨k,hk,rfl⟩:=hrel;by_cases hlt:k<s.size
        · obtain⟨c2,c3⟩:=(XX _).1 (HA.out k hlt);go_wp2_with (go_at_call 263;refine(qY _ _ c2 c3).mono ?_;rintro e w' ⟨rfl,rfl⟩)
          go_round
          case rel=>exact⟨k+1,by omega,by go_num⟩
          case measure=>simp[intOf];omega
        · go_wp2;go_ret;exact⟨jh HV.out.symm,rfl⟩
    · have HV:=lH (show YM s=false from hdec.trans (by simpa using hall));obtain⟨j,hj,hbad⟩:=jhB hall;have HB:=lH hbad;clear hall hdec hl hsz hbad;rcases hcase with h1 | ⟨h1,h48⟩
      case' inl=>(have h1':s.size≤1:=by omega)
      case' inl=>(clear h1)
      all_goals
       go_enter Tryz.func239,Tryz.ntmps239;go_wp2;go_loop [18] (fun i=>∃k:Nat,k≤j∧i=.int .i64 k) (fun i=>s.size-(intOf i).toNat)
       case atStart=>exact⟨0,Nat.zero_le _,rfl⟩
       case round =>
        obtain⟨k,hk,rfl⟩:=hrel;have hlt:k<s.size:=by omega
        by_cases hok:zs s[k]=true
        · have hkj:k+1≤j:=by
           rcases Nat.lt_or_eq_of_le hk with g | g
           · exact g
           · subst g;rw[HB.out] at hok;cases hok
          obtain⟨c2,c3⟩:=(XX _).1 hok;clear hok;go_wp2_with (go_at_call 263;refine(qY _ _ c2 c3).mono ?_;rintro e w' ⟨rfl,rfl⟩)
          go_round
          case rel=>exact⟨k+1,by omega,by go_num⟩
          case measure=>simp[intOf];omega
        · have c4:(s[k].toNat:Int)<48∨57<(s[k].toNat:Int):=by
           have:¬(48≤(s[k].toNat:Int)∧(s[k].toNat:Int)≤57):=fun g=>hok ((XX _).2 g);omega
          have C4:=lH c4;clear hok c4;go_wp2_with (go_at_call 263;refine(jc8 _ _ C4.out).mono ?_;rintro e w' ⟨rfl,rfl⟩)
          go_ret;exact⟨jh HV.out.symm,rfl⟩
structure Env (w:World):Prop where
 most:∃m,w.cell? ⟨1,0,none⟩=some (.int .i64 m)
 range:∃ev,w.cell? ⟨5,0,none⟩=some ev∧(ev=.nilIface∨∃te pe,ev=.iface te pe)
theorem Env.kept {w w':World} (h:Env w) (k:Kept w w'):Env w':=by
 obtain⟨⟨m,hm⟩,⟨ev,hv,h2⟩⟩:=h;exact⟨⟨m,cell_later k hm⟩,⟨ev,cell_later k hv,h2⟩⟩
theorem Env.base {w:World} (h:Env w):Go.Proofs.YthmddloeggdohaaGreatDoor.Env w:=⟨h.most⟩
theorem Env.lt {w:World} (h:Env w):1<w.heap.size∧5<w.heap.size:=by
 obtain⟨⟨m,hm⟩,⟨ev,hv,h2⟩⟩:=h;exact⟨World.block_lt_of_cell? _ _ hm,World.block_lt_of_cell? _ _ hv⟩
theorem Env.setCell {w:World} (h:Env w) {b:Nat} (hb:1<b∧5<b) (u:Value):Env (w.setCell ⟨b,0,none⟩ u):=by
 obtain⟨⟨m,hm⟩,⟨ev,hv,h2⟩⟩:=h;refine⟨⟨m,?_⟩,⟨ev,?_,h2⟩⟩
 · rw[World.cell?_setCell_other _ _ _ _ (by intro e;injection e with e;omega)];exact hm
 · rw[World.cell?_setCell_other _ _ _ _ (by intro e;injection e with e;omega)];exact hv
def nameOf (p:List UInt8):List UInt8:=(Lib.cut p [61]).1
def jB (p:List UInt8):List UInt8:=(Lib.cut p [61]).2.1
theorem JC (p:List UInt8) (w:World) (hE:Env w) (hp:p.length≤1000000) :
 Calls Tryz.prog 82 #[.string (bytes p),.string ⟨#[61]⟩] w fun e w'=>e=.returned (.tuple #[.string (bytes (nameOf p)),.string (bytes (jB p)),.bool (Lib.cut p [61]).2.2])∧∃n,w'=w.drewN n:=by
 obtain⟨m,hm⟩:=hE.most;exact Tryz.strings_Cut (bytes p) ⟨#[61]⟩ m w (by simp[bytes,ByteArray.size];omega) hm
theorem jdP (p:List UInt8):(jB p).length≤p.length:=by
 unfold jB Lib.cut;split
 · simp
 · simp
theorem jix (p:List UInt8):(nameOf p).length≤p.length:=by
 unfold nameOf Lib.cut;split
 · simp;omega
 · simp
theorem jbo (p:List UInt8) (w:World) (hE:Env w) (hp:p.length≤1000000) (h:zT (jB p)=true) :
 Calls Tryz.prog 253 #[.string (bytes p)] w fun e w'=>e=.returned (.tuple #[])∧∃n,w'=w.drewN n:=by
 have HE:=lH hE;have H:=lH (show YM (bytes (jB p))=true from h);have HZ:=lH (show (bytes (jB p)).size≤maxLen by have:=jdP p;unfold maxLen;simp[bytes,ByteArray.size];omega);clear hE h;go_enter Tryz.func253,Tryz.ntmps253;go_wp2_with fail
 refine(JC p _ HE.out hp).mono ?_;rintro e w' ⟨rfl,n,rfl⟩;go_wp2_with fail
 refine(jem _ _ HZ.out).mono ?_;rintro e w' ⟨rfl,rfl⟩;have h:=H.out;go_wp2;go_end0
 exact⟨rfl,_,rfl⟩
theorem jaB (p:List UInt8) (w:World) (hE:Env w) (hp:p.length≤1000000) (h:zT (jB p)=false) :
 Calls Tryz.prog 253 #[.string (bytes p)] w fun e w'=>e=.panicked [ju 2]∧∃n,w'=w.drewN n:=by
 have HE:=lH hE;have H:=lH (show YM (bytes (jB p))=false from h);have HZ:=lH (show (bytes (jB p)).size≤maxLen by have:=jdP p;unfold maxLen;simp[bytes,ByteArray.size];omega);clear hE h;go_enter Tryz.func253,Tryz.ntmps253;go_wp2_with fail
 refine(JC p _ HE.out hp).mono ?_;rintro e w' ⟨rfl,n,rfl⟩;go_wp2_with fail
 refine(jem _ _ HZ.out).mono ?_;rintro e w' ⟨rfl,rfl⟩;have h:=H.out;go_wp2;exact⟨rfl,rfl,_,rfl⟩
end Go.Proofs.YthmddloeggdohaaGreatDoor.Vec
namespace Go.Proofs.YthmddloeggdohaaGreatDoor.Vec
open Go.RowKit
def J9 (acc:Nat) (l:List UInt8):Nat:=l.foldl (fun a c=>a*10+(c.toNat-48)) acc
theorem qA (acc:Nat) (c:UInt8) (t:List UInt8):J9 acc (c::t)=J9 (acc*10+(c.toNat-48)) t:=List.foldl_cons ..
def valL (l:List UInt8):Nat:=J9 0 l
theorem jdX:∀(l:List UInt8) (acc:Nat),acc≤J9 acc l
 | [],_=>Nat.le_refl _
 | c::t,acc=>by have:=jdX t (acc*10+(c.toNat-48));rw[qA];omega
theorem Xb {c:UInt8} (h:zs c=true):48≤c.toNat∧c.toNat≤57:=by
 have:=(XX c).1 h;omega
theorem jhw (M acc:Nat) (c:UInt8) (r:List UInt8) (h:48≤c.toNat∧c.toNat≤57):Lib.parseUintM M acc (c::r)=(if 1844674407370955162≤acc then .range else if M<acc*10+(c.toNat-48) then .range else Lib.parseUintM M (acc*10+(c.toNat-48)) r):=by rw[Lib.parseUintM,if_pos h]
theorem qx (M:Nat) (hM:M<18446744073709551620):∀(l:List UInt8) (acc:Nat),l.all zs=true→acc≤M→Lib.parseUintM M acc l=if J9 acc l≤M then .ok (J9 acc l) else .range
 | [],acc,_,h=>by rw[Lib.parseUintM,if_pos (show J9 acc []≤M from h)];rfl
 | c::t,acc,h,ha=>by
  simp only[List.all_cons,Bool.and_eq_true] at h;have hd:=Xb h.1;have hge:=jdX t (acc*10+(c.toNat-48));rw[jhw _ _ _ _ hd,qA];by_cases h1:1844674407370955162≤acc
  · rw[if_pos h1,if_neg (by omega)]
  · rw[if_neg h1];by_cases h2:M<acc*10+(c.toNat-48)
    · rw[if_pos h2,if_neg (by omega)]
    · rw[if_neg h2];exact qx M hM t _ h.2 (by omega)
theorem je1 {l:List UInt8} (h:zT l=true):Lib.parseIntB 64 l=if valL l≤9223372036854775807 then .ok (valL l:Int) else .range:=by
 cases l with
 | nil=>cases h
 | cons c t =>
  rw[ZN,Bool.and_eq_true] at h;have hc:zs c=true:=by have:=h.2;simp only[List.all_cons,Bool.and_eq_true] at this;exact this.1
  have hd:=Xb hc;have hu:Lib.parseUintB 64 (c::t)=if valL (c::t)≤18446744073709551615 then .ok (valL (c::t)) else .range:=by
   unfold Lib.parseUintB;rw[if_neg (by simp)];exact qx (2 ^ 64-1) (by decide) (c::t) 0 h.2 (by omega)
  unfold Lib.parseIntB;dsimp only;rw[if_neg (by omega),hu];by_cases h1:valL (c::t)≤18446744073709551615
  · rw[if_pos h1];dsimp only;by_cases h2:valL (c::t)≤9223372036854775807
    · rw[if_pos h2,if_neg (by simp;omega),if_neg (by omega),if_neg (by omega)]
    · rw[if_neg h2,if_pos ⟨by omega,by simp;omega⟩]
  · rw[if_neg h1,if_neg (by omega)]
def j3 (p:List UInt8):ByteArray×Int:=(bytes (nameOf p),(valL (jB p):Int))
theorem jk6 (p:List UInt8) (w:World) (hE:Env w) (hp:p.length≤1000000) (h:zT (jB p)=true) (hv:valL (jB p)≤9223372036854775807) :
 Calls Tryz.prog 254 #[.string (bytes p)] w fun e w'=>e=.returned (.agg #[.string (j3 p).1,.int .i64 (j3 p).2])∧Kept w w':=by
 have HE:=lH (hE.kept (ja w (.cells #[.string ByteArray.empty,.int .i64 0] 140)));have HZ:=lH (show (bytes (jB p)).size≤9223372036854775806 by have:=jdP p;simp[bytes,ByteArray.size];omega);have HP:=lH ((je1 h).trans (if_pos hv));clear hE h;go_enter Tryz.func254,Tryz.ntmps254;go_wp2_with fail
 refine(JC p _ HE.out hp).mono ?_;rintro e w1 ⟨rfl,n,rfl⟩;go_wp2_with fail
 refine(Tryz.strconv_ParseInt_10_at64_ok (bytes (jB p)) HZ.out _ HP.out _).mono ?_;rintro e w2 ⟨rfl,hw⟩;have k:Kept ((w.alloc (.cells #[.string ByteArray.empty,.int .i64 0] 140)).drewN n) w2:=by
  rcases hw with rfl | ⟨t,rfl⟩
  · exact Kept.refl _
  · exact Lib.bytesWorld_below _ _ _
 have c1:=k.cell (p:=⟨w.heap.size,0,none⟩) (by simp);have c2:=k.cell (p:=⟨w.heap.size,1,none⟩) (by simp);have z1:=k.frozen (p:=⟨w.heap.size,0,none⟩) (by simp);have z2:=k.frozen (p:=⟨w.heap.size,1,none⟩) (by simp);have HK:=lH (((ja w _).trans (Kept.drewN _ n)).trans k);have e1:w2.cell? ⟨w.heap.size,0,none⟩=some (.string ByteArray.empty):=by rw[c1];go_simp
 have e2:w2.cell? ⟨w.heap.size,1,none⟩=some (.int .i64 0):=by rw[c2];go_simp
 have y1:w2.frozen? ⟨w.heap.size,0,none⟩=false:=by rw[z1];go_simp
 have y2:w2.frozen? ⟨w.heap.size,1,none⟩=false:=by rw[z2];go_simp
 clear c1 c2 z1 z2 k hw;go_wp2;refine bodyPost_ret (v:=.agg #[.string (bytes (nameOf p)),.int .i64 (valL (jB p):Int)]) (by simp[results,Tryz.results254,go_sem,e1,e2]) rfl ⟨rfl,?_⟩;exact(HK.out.setCell (p:=⟨w.heap.size,0,none⟩) (Nat.le_refl _) _).setCell (p:=⟨w.heap.size,1,none⟩) (Nat.le_refl _) _
theorem jjj (p:List UInt8) (w:World) (hE:Env w) (hp:p.length≤1000000) (h:zT (jB p)=true) (hv:¬valL (jB p)≤9223372036854775807) :
 Calls Tryz.prog 254 #[.string (bytes p)] w fun e w'=>e=.panicked [ju 5]∧Kept w w':=by
 have HE:=lH (hE.kept (ja w (.cells #[.string ByteArray.empty,.int .i64 0] 140)));have HZ:=lH (show (bytes (jB p)).size≤281474976710656 by have:=jdP p;simp[bytes,ByteArray.size];omega);have HP:=lH ((je1 h).trans (if_neg hv));clear hE h;go_enter Tryz.func254,Tryz.ntmps254;go_wp2_with fail
 refine(JC p _ HE.out hp).mono ?_;rintro e w1 ⟨rfl,n,rfl⟩;obtain⟨ev,hev,hev2⟩:=(HE.out.kept (Kept.drewN _ n)).range;have HEV:=lH hev;have HEV2:=lH hev2;clear hev hev2;go_wp2_with fail
 refine(Tryz.strconv_ParseInt_10_at64_range (bytes (jB p)) HZ.out HP.out ev _ HEV.out HEV2.out).mono ?_;rintro e w2 ⟨N,rfl,_,_,k⟩;have HK:=lH (((ja w _).trans (Kept.drewN _ n)).trans k);clear k;go_wp2;exact⟨rfl,rfl,HK.out⟩
def joB (v:Value) (l:V) (base:Nat) (w:World) (e:Ending) (w':World):Prop:=e=.returned v∧jH 140 w' base v l∧Below base w w'
theorem jH.same_name {e:TypeId} {w:World} {base g cap:Nat} {l:V} (h:jH e w base (.slice (some ⟨g,0,none⟩) l.length cap) l) {k:Nat} (hk:k<l.length) :
 jH e (w.setCell ⟨g,k*2,none⟩ (.string (nm l k))) base (.slice (some ⟨g,0,none⟩) l.length cap) l:=by
 refine⟨?_,h.2⟩;have:=h.1.stored (k*2) (.string (nm l k));have c:=(qq l k hk).1;obtain⟨hlt,he⟩:=List.getElem?_eq_some_iff.1 c;rw[←he,List.set_getElem_self] at this;rw[←he];exact this.1
theorem jbO (a:Option Addr) (cap base:Nat) (l:V) (w:World) (h:jH 140 w base (.slice a l.length cap) l) (hb:base≤w.heap.size) (hl:l.length≤1000000) (hs:∀k,k<l.length→(nm l k).size≤281474976710656) :
 Calls Tryz.prog 255 #[.slice a l.length cap] w (joB (.slice a l.length cap) l base w):=by
 by_cases h0:l.length=0
 · have HH:=lH h;have HB:=lH hb;clear h hs hb;rw[h0] at HH ⊢;go_enter Tryz.func255,Tryz.ntmps255;go_wp2;refine wp_loop_rounds 1 ?_;rw[rounds_succ];go_wp2;go_ret;exact⟨rfl,HH.out,Below.refl _ _⟩
 · have hform:∃g,a=some ⟨g,0,none⟩:=by
    obtain⟨_,h1⟩:=h.1;rcases h1 with ⟨_,e⟩ | ⟨g,cap',cur,e,_⟩
    · exact absurd e h0
    · injection e with e;exact⟨g,e⟩
   obtain⟨g,rfl⟩:=hform;have hbg:=(h.1.lt g rfl).1;obtain⟨n,hn⟩:∃n,l.length=n:=⟨_,rfl⟩
   have HN:=lH hn;have HH:=lH h;have HB:=lH hb;have HS:=lH hs;clear h hb hs;rw[hn] at hl h0 ⊢;clear hn;go_enter Tryz.func255,Tryz.ntmps255;go_wp2;go_loopw [6] (fun i wr=>∃k:Nat,k≤n∧i=.int .i64 k∧jH 140 wr base (.slice (some ⟨g,0,none⟩) l.length cap) l∧Below base w wr) (fun i _=>n-(intOf i).toNat)
   case atStart=>exact⟨0,Nat.zero_le _,rfl,HH.out,Below.refl _ _⟩
   case round =>
    obtain⟨k,hk,rfl,ho,hB⟩:=hrel;have HO:=lH ho;have HB2:=lH hB;by_cases hlt:k<n
    · have HI:=lH (show k<l.length by rw[HN.out];exact hlt);obtain⟨a',cap',e,_,_,hv⟩:=ho.at_;injection e with e1 e2 e3;subst e1;obtain⟨_,c1,_⟩:=hv.cells HI.out;simp only[Nat.zero_add] at c1;clear ho hB hv e3;go_wp2_with fail
      refine(Zp _ _ (HS.out k HI.out)).mono ?_;rintro e w1 ⟨rfl,hk1⟩;have O1:=lH (HO.out.kept hk1);have d1:=cell_later hk1 c1;have z1:=O1.out.1.frozenAt (k*2);have B1:=lH (HB2.out.trans (Below.mono hk1 (Nat.le_trans HB.out HB2.out.size)));clear hk1 c1;go_wp2;go_roundw
      case rel=>exact⟨k+1,by omega,by go_num,O1.out.same_name HI.out,B1.out.setCell (p:=⟨g,k*2,none⟩) hbg _⟩
      case measure=>simp[intOf];omega
    · clear ho hB;go_wp2;go_ret;exact⟨rfl,by rw[←HN.out];exact HO.out,HB2.out⟩
open Go.RowKit Go.Shelf
attribute [local go_sem] Oper.semAt_some
theorem jH.st {e:TypeId} {b2 D:Nat} {W W':World} {v:Value} {l:V} (h:jH e W (D+2) v l) (k:St b2 D W W') (h2:b2<D):jH e W' (D+2) v l:=by
 obtain⟨⟨h0,h1⟩,hf⟩:=h;refine⟨⟨h0,h1.imp id ?_⟩,hf⟩;rintro ⟨g,cap,cur,rfl,hbg,hg,hn,hm,hs,ht⟩;exact⟨g,cap,cur,rfl,hbg,(k.block g (by omega) (by omega) (by omega)).trans hg,hn,hm,hs,ht⟩
def X7 (B vb:Nat) (l:V) (W:World):Prop:=∃v,W.cell? ⟨vb,0,none⟩=some v∧W.frozen? ⟨vb,0,none⟩=false∧jH 140 W B v l
theorem X7.st {b2 D vb:Nat} {W W':World} {l:V} {B:Nat} (h:X7 B vb l W) (k:St b2 D W W') (hB:B=D+2) (hvb:vb<b2) (h2:b2<D):X7 B vb l W':=by
 subst hB;obtain⟨v,h1,h3,h4⟩:=h;have hb:=k.block vb (by omega) (by omega) (by omega);exact⟨v,(World.cell?_of_block (a:=⟨vb,0,none⟩) hb).trans h1,(World.frozen?_of_block (a:=⟨vb,0,none⟩) hb).trans h3,h4.st k h2⟩
theorem jH.put {e:TypeId} {w:World} {B D:Nat} {v:Value} {l:V} (h:jH e w B v l) (hD:D<B) (o:Obj):jH e (w.putObj D o) B v l:=by
 obtain⟨⟨h0,h1⟩,hf⟩:=h;refine⟨⟨h0,h1.imp id ?_⟩,hf⟩;rintro ⟨g,cap,cur,rfl,hbg,hg,rest⟩;exact⟨g,cap,cur,rfl,hbg,(World.putObj_heap_other (by omega)).trans hg,rest⟩
theorem jin {ps:List (List UInt8)} {k:Nat} {p:List UInt8} (h:∀q ∈ ps.take k,valL (jB q)≤9223372036854775807) (hp:ps[k]?=some p) (hv:valL (jB p)≤9223372036854775807) :
 ∀q ∈ ps.take (k+1),valL (jB q)≤9223372036854775807:=by
 intro q hq;rw[List.take_add_one,hp] at hq;rcases List.mem_append.1 hq with g | g
 · exact h q g
 · have:q=p:=by simpa using g
   rw[this];exact hv
theorem jfS {p:List UInt8} (h:p.length≤1000000):(j3 p).1.size≤maxLen:=by
 have:=jix p;show (bytes (nameOf p)).size≤_;simp only[bytes,ByteArray.size,List.size_toArray];unfold maxLen;omega
theorem jkX (w:World) (o:Obj) (s:ByteArray) (n:Int) (T:TypeId):∀j u,[Value.string s,.int .i64 n][j]?=some u →
 ((w.alloc o).alloc (.cells #[.string s,.int .i64 n] T)).cell? ((⟨w.heap.size+1,0,none⟩:Addr).add j)=some u:=by
 have:=jcU (w.alloc o) s n T;rw[World.size_alloc] at this;exact this
theorem jH.row {e:TypeId} {w:World} {B n:Nat} {v:Value} {l:V} (h:jH e w B v l) (hn:l.length=n):w.ownsRow B e 2 v n (cellsOf l):=hn▸h.1
def YL (ps:List (List UInt8)) (k:Nat):V:=((ps.take k).map j3).take 9
theorem jc5 {ps:List (List UInt8)} {k:Nat} (h:k≤ps.length):(YL ps k).length=min 9 k:=by
 unfold YL;rw[List.length_take,List.length_map,List.length_take];omega
theorem jbX {ps:List (List UInt8)} {k:Nat} {p:List UInt8} (hp:ps[k]?=some p) (h:(YL ps k).length≤8):YL ps (k+1)=YL ps k++[j3 p]:=by
 have hk:k<ps.length:=(List.getElem?_eq_some_iff.1 hp).1;rw[jc5 (by omega)] at h;unfold YL;have e:ps.take (k+1)=ps.take k++[p]:=by rw[List.take_add_one,hp];rfl
 rw[e,List.map_append,List.take_of_length_le (l:=(ps.take k).map j3) (by simp;omega),List.take_of_length_le (by simp;omega)];rfl
theorem jj3 {ps:List (List UInt8)} {k:Nat} {p:List UInt8} (hp:ps[k]?=some p) (h:¬(YL ps k).length≤8):YL ps (k+1)=YL ps k:=by
 have hk:k<ps.length:=(List.getElem?_eq_some_iff.1 hp).1;rw[jc5 (by omega)] at h;unfold YL;have e:ps.take (k+1)=ps.take k++[p]:=by rw[List.take_add_one,hp];rfl
 rw[e,List.map_append,List.take_append_of_le_length (by simp;omega)]
def XM (ps:List (List UInt8)):Bool:=ps.any fun p=>!zT (jB p)
def XH (ps:List (List UInt8)):Bool:=ps.any fun p=>decide (9223372036854775807<valL (jB p))
def Ju (s:List UInt8):Int×V :=
 if XM (partsOf s)=true then (2,[])
 else if XH (partsOf s)=true then (5,[])
 else if jm (((partsOf s).map j3).take 9)≠0 then (jm (((partsOf s).map j3).take 9),[])
 else (0,((partsOf s).map j3).take 9)
theorem ji6 (s:List UInt8) (w:World) (hE:Env w) (hs:s.length≤1000000) :
 Calls Tryz.prog 208 #[.string (bytes s)] w (zM (Ju s) w.heap.size w):=by
 refine ZC (n:=6) Tryz.func208 rfl ?_;simp only[Tryz.ntmps208,List.size_toArray,List.length_cons,List.length_nil,Nat.reduceAdd,Nat.reduceSub,Array.replicate_succ,Array.replicate_zero,List.push_toArray,List.append_toArray,List.nil_append,List.cons_append];refine jQ (j6 (n:=6) ?_);gi_wp2
 refine jQ (jQ (j6 (n:=6) ?_));gi_wp2_with (refine⟨trivial,?_⟩;gi_at_call 252;refine(callsIn_wide.2 (ZX s _)).mono ?_;rintro e w1 ⟨rfl,rfl⟩)
 refine Yg ?_;have HE:=lH hE;have HPL:=lH (fun p (h:p ∈ partsOf s)=>Nat.le_trans (YG s p h) hs);have bc:=Yp w s;have bsz:=YQ w s;refine YO (n:=6) Tryz.func208 (by decide) (w.heap.size+1) w.heap.size (w.heap.size+2) rfl s hs (by omega) (by omega) (by omega) (by omega) (by omega) bc.1 bc.2.1 bc.2.2.1 bc.2.2.2
  (fun k W=>Below w.heap.size w W∧∀p ∈ (partsOf s).take k,zT (jB p)=true)
  (fun c W=>c=[ju 2]∧Below w.heap.size w W∧XM (partsOf s)=true)
  (fun k W W' h st=>⟨Below.st h.1 st (Nat.le_refl _) (by omega),h.2⟩) (fun k W h=>(HE.out.kept h.1).base) ⟨Jq w s,by simp⟩
  (fun x=>{ tmps:=#[.string (bytes s),undef,.slice none 0 0,.string x,undef,undef,undef,.string (bytes s),
    .func (.func 301) #[] #[.pointer (some ⟨w.heap.size+1,0,none⟩),.pointer (some ⟨w.heap.size,0,none⟩),.pointer (some ⟨w.heap.size+2,0,none⟩)],.string x,
    undef,undef,undef,undef,undef,undef,undef,undef,undef,undef,undef,undef,undef,undef,undef,undef,undef],defers:=[] }) ?assign ?body ?done ?panic
 case assign =>
  intro l x W K hK;gi_wp2
  exact hK
 case body =>
  rintro l k p W hp ⟨hB,hd⟩ _;have HB:=lH hB;have HD:=lH hd;have HP:=lH hp;have hmem:p ∈ partsOf s:=List.mem_of_getElem? hp;have HM:=lH hmem;have hpl:=HPL.out p hmem;clear bc bsz hB hd hp hmem hE;by_cases hdec:zT (jB p)=true
  · have HDEC:=lH hdec;clear hdec;gi_wp2_with (refine⟨trivial,?_⟩;gi_at_call 253;refine(CallsIn.inRound l (callsIn_wide.2 (jbo p _ (HE.out.kept HB.out) hpl HDEC.out))).mono ?_;rintro e W1 ⟨rfl,n,rfl⟩)
    refine⟨KeptAt.drewN W n,below_drewN HB.out n,fun q hq=>?_⟩;rw[List.take_add_one,HP.out] at hq;rcases List.mem_append.1 hq with h | h
    · exact HD.out q h
    · have:q=p:=by simpa using h
      rw[this];exact HDEC.out
  · have HDEC:=lH (show zT (jB p)=false by simpa using hdec);clear hdec;gi_wp2_with (refine⟨trivial,?_⟩;gi_at_call 253;refine(CallsIn.inRound l (callsIn_wide.2 (jaB p _ (HE.out.kept HB.out) hpl HDEC.out))).mono ?_;rintro e W1 ⟨rfl,n,rfl⟩)
    refine⟨rfl,KeptAt.drewN W n,rfl,below_drewN HB.out n,?_⟩;unfold XM;rw[List.any_eq_true];exact⟨p,HM.out,by rw[HDEC.out];rfl⟩
 case panic =>
  rintro c W ⟨rfl,hB,hbad⟩ hk;have HV:=lH (show Ju s=(2,[]) by unfold Ju;rw[if_pos hbad]);refine⟨by simp,.inl ⟨_,_,rfl,run_takeDeferred hk,?_⟩⟩;exact zM.bad (by rw[HV.out]) (by decide) (zn hB (by omega))
 case done =>
  rintro W ⟨hB,hd⟩ hk;have hform:XM (partsOf s)=false:=by
   unfold XM;rw[List.any_eq_false];intro p hp;rw[hd p (by simpa using hp)];decide
  have HFORM:=lH hform;have HB1:=lH hB;have HK1:=lH hk;have HALL:=lH (fun p (h:p ∈ partsOf s)=>hd p (by simpa using h));have hsize:=hB.size;have hD1:w.heap.size+3<W.heap.size:=by have:=(Array.getElem?_eq_some_iff.1 hk).1;rw[bsz] at this;exact this
  rw[bsz] at HK1 ⊢;clear bc hB hd hk hE hform hsize bsz;obtain⟨m,hm⟩:∃m,W.heap.size=m:=⟨_,rfl⟩
  have HM:=lH hm;refine jQ (j6 (n:=6) ?_);gi_wp2
  obtain⟨V0,hV0⟩:∃V0,W.alloc (.cells #[.slice none 0 0] 37)=V0:=⟨_,rfl⟩
  have HV0:=lH hV0;have hv0s:V0.heap.size=m+1:=by rw[←hV0,World.size_alloc,hm]
  have HV0S:=lH hv0s;have HV0K:=lH (show Kept W V0 by rw[←hV0];exact ja _ _);have HV0C:=lH (show V0.cell? ⟨m,0,none⟩=some (.slice none 0 0)∧V0.frozen? ⟨m,0,none⟩=false by
   rw[←hV0,←hm];exact jau W _ _)
  rw[hV0];clear hV0 hv0s hm;refine jQ (jQ (j6 (n:=6) ?_));gi_wp2_with (refine⟨trivial,?_⟩;gi_at_call 252;refine(callsIn_wide.2 (ZX s _)).mono ?_;rintro e w1 ⟨rfl,rfl⟩)
  refine Yg ?_;have bc:=Yp V0 s;have bsz:=YQ V0 s;rw[HV0S.out] at bc bsz ⊢;have hB0:Below W.heap.size W (boxes V0 s):=Kept.trans HV0K.out (Jq V0 s);have hvc:(boxes V0 s).cell? ⟨m,0,none⟩=some (.slice none 0 0):=((Jq V0 s).cell (p:=⟨m,0,none⟩) (by rw[HV0S.out];exact Nat.lt_succ_self m)).trans HV0C.out.1;have hvf:(boxes V0 s).frozen? ⟨m,0,none⟩=false:=((Jq V0 s).frozen (p:=⟨m,0,none⟩) (by rw[HV0S.out];exact Nat.lt_succ_self m)).trans HV0C.out.2;have hm0:W.heap.size=m:=HM.out;refine YO (n:=6) Tryz.func208 (by decide) (m+1+1) (m+1) (m+1+2) rfl s hs (by omega) (by omega) (by omega) (by omega) (by omega) bc.1 bc.2.1 bc.2.2.1 bc.2.2.2
   (fun k W'=>Below W.heap.size W W'∧(∀p ∈ (partsOf s).take k,valL (jB p)≤9223372036854775807)∧X7 (m+6) m (YL (partsOf s) k) W')
   (fun c W'=>c=[ju 5]∧Below W.heap.size W W'∧XH (partsOf s)=true)
   (fun k W1 W2 h st=>⟨Below.st h.1 st (by omega) (by omega),h.2.1,h.2.2.st st (by omega) (by omega) (by omega)⟩) (fun k W' h=>((HE.out.kept HB1.out).kept h.1).base) ⟨hB0,by simp,⟨_,hvc,hvf,jH.nil _ _ _⟩⟩
   (fun x=>{ tmps:=#[.string (bytes s),undef,.slice none 0 0,undef,.pointer (some ⟨m,0,none⟩),.string x,undef,.string (bytes s),
     .func (.func 301) #[] #[.pointer (some ⟨w.heap.size+1,0,none⟩),.pointer (some ⟨w.heap.size,0,none⟩),.pointer (some ⟨w.heap.size+2,0,none⟩)],undef,undef,undef,.string (bytes s),
     .func (.func 301) #[] #[.pointer (some ⟨m+1+1,0,none⟩),.pointer (some ⟨m+1,0,none⟩),.pointer (some ⟨m+1+2,0,none⟩)],.string x,
     undef,undef,undef,undef,undef,undef,undef,undef,undef,undef,undef,undef],defers:=[] }) ?assign2 ?body2 ?done2 ?panic2
  case assign2 =>
   intro l x W' K hK;gi_wp2
   exact hK
  case panic2 =>
   rintro c W' ⟨rfl,hB',hbad⟩ hk';have HV:=lH (show Ju s=(5,[]) by unfold Ju;rw[if_neg (by rw[HFORM.out];decide),if_pos hbad]);have hk1:(W'.putObj (boxes V0 s).heap.size (.deferred none)).heap[w.heap.size+3]?=some (.deferred (some [])) :=
    (World.putObj_heap_other (by rw[bsz];omega)).trans ((hB'.block _ hD1).trans HK1.out)
   refine⟨by simp,.inl ⟨_,_,rfl,run_takeDeferred hk',?_⟩⟩;refine⟨by simp,.inl ⟨_,_,rfl,run_takeDeferred hk1,?_⟩⟩;exact zM.bad (by rw[HV.out]) (by decide) (zn (zn (HB1.out.trans (Below.mono hB' HB1.out.size)) (by rw[bsz];have:=HB1.out.size;omega)) (by omega))
  case body2 =>
   rintro l k p W' hp ⟨hB',hd',v,hvc',hvf',hvo⟩ hlt';have hmem:p ∈ partsOf s:=List.mem_of_getElem? hp;have HMEM:=lH hmem;have HDEC:=lH (HALL.out p hmem);have hpl:=HPL.out p hmem;have HE':=lH ((HE.out.kept HB1.out).kept hB');have HB':=lH hB';have HD':=lH hd';have HP:=lH hp;have hmW:m<W'.heap.size:=by rw[bsz] at hlt';omega
   have HLT:=lH (show m+6≤W'.heap.size by rw[bsz] at hlt';omega);have HHD:Hid ((boxes V0 s).heap.size=m+1+3):=lH bsz;by_cases hval:valL (jB p)≤9223372036854775807
   · have HVAL:=lH hval;obtain⟨av,cv,rfl,q1,q2,q3⟩:=hvo.at_;obtain⟨n,hn⟩:∃n,(YL (partsOf s) k).length=n:=⟨_,rfl⟩
     rw[hn] at hvo;have HVO:=lH hvo;have HN:=lH hn;have hn9:n≤9:=by
      have:=jc5 (show k≤(partsOf s).length from Nat.le_of_lt (List.getElem?_eq_some_iff.1 hp).1);omega
     rw[hn] at hvc';clear bc bsz hB' hd' hp hmem hlt' hval q3 hvo hn q1 q2 hvc hvf hB0;gi_wp2_with (refine⟨trivial,?_⟩;gi_at_call 254;refine(CallsIn.inRound l (callsIn_wide.2 (jk6 p _ HE'.out hpl HDEC.out HVAL.out))).mono ?_;rintro e W1 ⟨rfl,k1⟩;have K1:=lH k1;have hvc1:=cell_later k1 hvc';have hvf1:=(k1.frozen (p:=⟨m,0,none⟩) hmW).trans hvf';have hm1:m<W1.heap.size:=Nat.lt_of_lt_of_le hmW k1.size;clear k1 hvc' hvf';refine Hid.out ?_)
     refine lH ?_;by_cases h8:n≤8
     · obtain⟨i0,hi,hz0,hz1,hz2⟩:=info_parts jif;gi_wp2_with (gi_at_builtin;go_must (refine wpListIn_append_own _ rfl (.tmp 20) (.tmp 22) _ rfl (m+6) 140 i0 _ 2 24 Tryz.underlying37 hi hz0 hz1 hz2 rfl (by decide) _ n (cellsOf (YL (partsOf s) k)) rfl (((HVO.out.kept K1.out).kept (jk W1 (.cells #[.string (j3 p).1,.int .i64 (j3 p).2] 140) (.cells #[.string (j3 p).1,.int .i64 (j3 p).2] 140))).row HN.out) ⟨W1.heap.size+1,0,none⟩ 1 1 [.string (j3 p).1,.int .i64 (j3 p).2] rfl rfl (jkX _ _ _ _ _) (Yq [j3 p]) (by unfold maxLen;omega) (by omega) (by rw[World.size_alloc,World.size_alloc];have:=HLT.out;have:=K1.out.size;omega) ?_);intro v' w2 hown' hgrow _;refine Hid.out ?_)
       refine lH ?_;obtain⟨g',cap',rfl⟩:=ownsRow_succ hown';have KA:=lH (show Kept W' ((W1.alloc (.cells #[.string (j3 p).1,.int .i64 (j3 p).2] 140)).alloc (.cells #[.string (j3 p).1,.int .i64 (j3 p).2] 140)) from K1.out.trans (jk W1 _ _));have hrow:∀r,(Value.slice av n cv).ownBlock=some r→m+6≤r:=fun r hr=>(HVO.out.1.lt r hr).1;have hbl:∀b,b<m+6→w2.heap[b]?=W'.heap[b]?:=fun b hb=>(hgrow.block b (Nat.lt_of_lt_of_le hb (Nat.le_trans HLT.out KA.out.size)) (fun e=>by have:=hrow b e.symm;omega)).trans (KA.out.block b (Nat.lt_of_lt_of_le hb HLT.out));have HBL:=lH hbl;have hvc2:w2.cell? ⟨m,0,none⟩=some (.slice av n cv):=(World.cell?_of_block (a:=⟨m,0,none⟩) (hgrow.block m (by simp;omega) (fun e=>by have:=hrow m e.symm;omega))).trans (by go_simp);have hvf2:w2.frozen? ⟨m,0,none⟩=false:=(World.frozen?_of_block (a:=⟨m,0,none⟩) (hgrow.block m (by simp;omega) (fun e=>by have:=hrow m e.symm;omega))).trans (by go_simp);have HOWN:=lH hown';have HGS:=lH (show Below W.heap.size W w2 from⟨hgrow.os.trans (KA.out.os.trans HB'.out.os),hgrow.tape.trans (KA.out.tape.trans HB'.out.tape),hgrow.output.trans (KA.out.output.trans HB'.out.output),Nat.le_trans HB'.out.size (Nat.le_trans KA.out.size hgrow.size),fun b hb=>(HBL.out b (by have:=HM.out;omega)).trans (HB'.out.block b hb)⟩);clear hvc1 hvf1 hown' hgrow hrow hbl hi hz0 hz1 hz2;gi_wp2
       refine⟨fun b hb=>?_,HGS.out.setCell (p:=⟨m,0,none⟩) (by have:=HM.out;show W.heap.size≤m;omega) _,jin HD'.out HP.out HVAL.out,⟨_,World.cell?_setCell_same' _ _ _ (by rw[hvc2];rfl),by rw[World.frozen?_setCell];exact hvf2,?_⟩⟩
       · have hbm:b<m+6∧b≠m:=by have:=HHD.out;rcases hb with h | h | h | h | h<;>omega
         exact(Below.heap_setCell w2 ⟨m,0,none⟩ _ b hbm.2).trans (HBL.out b hbm.1)
       · have hl:(YL (partsOf s) (k+1)).length=n+1:=by rw[jbX HP.out (by rw[HN.out];exact h8),List.length_append,HN.out];rfl
         have ho:jH 140 w2 (m+6) (.slice (some ⟨g',0,none⟩) (n+1) cap') (YL (partsOf s) (k+1)):=by
          refine⟨?_,?_⟩
          · rw[hl,jbX HP.out (by rw[HN.out];exact h8),ZV];exact HOWN.out
          · rw[jbX HP.out (by rw[HN.out];exact h8)];exact HVO.out.2.snoc (jfS hpl) (by show -9223372036854775808≤(valL (jB p):Int);omega) (by show (valL (jB p):Int)≤_;have:=HVAL.out;omega)
         exact ho.setCell_below (a:=⟨m,0,none⟩) (by show m<m+6;omega) _
     · have hfull:=jj3 HP.out (by rw[HN.out];exact h8);have HFULL:=lH hfull;have h9:8<n:=by omega
       clear hfull h8;gi_wp2
       refine⟨fun b hb=>?_,HB'.out.trans (Below.mono (Kept.trans K1.out (ja W1 _)) HB'.out.size),jin HD'.out HP.out HVAL.out,⟨.slice av n cv,by go_simp,by go_simp,?_⟩⟩
       · have hbm:b<m+6:=by have:=HHD.out;rcases hb with h | h | h | h | h<;>omega
         exact(Kept.trans K1.out (ja W1 _)).block b (Nat.lt_of_lt_of_le hbm HLT.out)
       · rw[HFULL.out];exact HVO.out.kept (Kept.trans K1.out (ja W1 _))
   · have HVAL:=lH hval;clear bc bsz hB' hd' hp hmem hlt' hval hvo hvc' hvf' hvc hvf hB0;gi_wp2_with (refine⟨trivial,?_⟩;gi_at_call 254;refine(CallsIn.inRound l (callsIn_wide.2 (jjj p _ HE'.out hpl HDEC.out HVAL.out))).mono ?_;rintro e W1 ⟨rfl,k1⟩;have K1:=lH k1;clear k1)
     refine⟨rfl,fun b hb=>?_,rfl,HB'.out.trans (Below.mono K1.out HB'.out.size),?_⟩
     · have hbm:b<m+6:=by have:=HHD.out;rcases hb with h | h | h | h | h<;>omega
       exact K1.out.block b (Nat.lt_of_lt_of_le hbm HLT.out)
     · unfold XH;rw[List.any_eq_true];exact⟨p,HMEM.out,by have:=HVAL.out;simp;omega⟩
  case done2 =>
   rintro W' ⟨hB',hd',v,hvc',hvf',hvo⟩ hk';have hover:XH (partsOf s)=false:=by
    unfold XH;rw[List.any_eq_false];intro p hp;have:=hd' p (by simpa using hp);simp only[decide_eq_true_eq];omega
   have hacc:YL (partsOf s) (partsOf s).length=((partsOf s).map j3).take 9:=by unfold YL;rw[List.take_length]
   rw[hacc] at hvo;obtain⟨L,hL⟩:∃L,((partsOf s).map j3).take 9=L:=⟨_,rfl⟩
   have HV:=lH (show Ju s=if jm L≠0 then (jm L,[]) else (0,L) by unfold Ju;rw[if_neg (by rw[HFORM.out];decide),if_neg (by rw[hover];decide),hL]);rw[hL] at hvo;have hL9:L.length≤1000000:=by rw[←hL,List.length_take];omega
   have HNS:=lH (show ∀k,k<L.length→(nm L k).size≤281474976710656 by
    intro k hk;have hmem:=joa hk;rw[←hL] at hmem;obtain⟨p,hp,he⟩:=List.mem_map.1 (List.mem_of_mem_take hmem);have h1:(j3 p).1=nm L k:=by rw[he,hL]
    rw[←h1];have h2:=jfS (HPL.out p hp);have h3:=jix p;have h4:=HPL.out p hp;show (bytes (nameOf p)).size≤_;simp only[bytes,ByteArray.size,List.size_toArray];omega)
   have hk1:W'.heap[w.heap.size+3]?=some (.deferred (some [])):=(hB'.block _ hD1).trans HK1.out;have HBS:=lH bsz;obtain⟨av,cv,rfl,q1,q2,q3⟩:=hvo.at_;have HVO:=lH hvo;have HQ3:=lH q3;have HD1:=lH hk1;have HD2:=lH hk';have HB':=lH hB';have HLT:=lH (show m+4<W'.heap.size by have:=(Array.getElem?_eq_some_iff.1 hk').1;rw[bsz] at this;exact this);clear bc bsz hB' hd' hk' hk1 hvo q3 q1 q2 hL hover hacc hvc hvf hB0;refine j6 (n:=6) ?_;by_cases hc:jm L=0
   · have HC:=lH hc;clear hc;gi_wp2_with (refine⟨trivial,?_⟩;gi_at_call 256;refine(callsIn_wide.2 (Zo _ _ _ L _ HQ3.out)).mono ?_;rintro e1 w1 ⟨g1,_,k1⟩;obtain rfl:=g1 HC.out;have K1:=lH k1;clear g1 k1;refine Hid.out ?_)
     refine lH ?_;gi_wp2_with (refine⟨trivial,?_⟩;gi_at_call 255;refine(callsIn_wide.2 (jbO _ _ (m+5) L _ ((HVO.out.kept K1.out).base_le (by omega)) (by have:=K1.out.size;have:=HLT.out;omega) hL9 HNS.out)).mono ?_;rintro e2 w2 ⟨rfl,o2,b2⟩;have O2:=lH o2;have B2:=lH b2;clear o2 b2)
     have hsz:=HM.out;have hbs:=HBS.out;have e1:w2.heap[(boxes V0 s).heap.size]?=some (.deferred (some [])):=(B2.out.block _ (by omega)).trans ((K1.out.block _ (by have:=HLT.out;omega)).trans HD2.out);have e2:w2.heap[w.heap.size+3]?=some (.deferred (some [])):=(B2.out.block _ (by omega)).trans ((K1.out.block _ (by have:=HLT.out;omega)).trans HD1.out);have e3:(w2.putObj (boxes V0 s).heap.size (.deferred none)).heap[w.heap.size+3]?=some (.deferred (some [])):=(World.putObj_heap_other (by omega)).trans e2;refine⟨by simp,.inl ⟨_,_,rfl,run_takeDeferred e1,?_⟩⟩;refine⟨by simp,.inl ⟨_,_,rfl,run_takeDeferred e3,?_⟩⟩;refine⟨_,results_tmp rfl _ _ _,?_⟩;refine zM.good (by rw[HV.out,if_neg (by rw[HC.out];decide)]) (by rw[HV.out,if_neg (by rw[HC.out];decide)];exact((O2.out.put (by omega) _).put (by omega) _).base_le (by omega)) ?_;exact zn (zn ((HB1.out.trans (Below.mono (HB'.out.trans (Below.mono K1.out HB'.out.size)) HB1.out.size)).trans (Below.mono B2.out (by have:=HB1.out.size;omega))) (by omega)) (by omega)
   · have HC:=lH hc;clear hc;gi_wp2_with (refine⟨trivial,?_⟩;gi_at_call 256;refine(callsIn_wide.2 (Zo _ _ _ L _ HQ3.out)).mono ?_;rintro e1 w1 ⟨_,g1,k1⟩;obtain rfl:=g1 HC.out;have K1:=lH k1;clear g1 k1)
     have hsz:=HM.out;have hbs:=HBS.out;have e1:w1.heap[(boxes V0 s).heap.size]?=some (.deferred (some [])):=(K1.out.block _ (by have:=HLT.out;omega)).trans HD2.out;have e2:w1.heap[w.heap.size+3]?=some (.deferred (some [])):=(K1.out.block _ (by have:=HLT.out;omega)).trans HD1.out;have e3:(w1.putObj (boxes V0 s).heap.size (.deferred none)).heap[w.heap.size+3]?=some (.deferred (some [])):=(World.putObj_heap_other (by omega)).trans e2;refine⟨by simp,.inl ⟨_,_,rfl,run_takeDeferred e1,?_⟩⟩;refine⟨by simp,.inl ⟨_,_,rfl,run_takeDeferred e3,?_⟩⟩;exact zM.bad (by rw[HV.out,if_pos HC.out]) HC.out (zn (zn (HB1.out.trans (Below.mono (HB'.out.trans (Below.mono K1.out HB'.out.size)) HB1.out.size)) (by have:=HB1.out.size;omega)) (by omega))
end Go.Proofs.YthmddloeggdohaaGreatDoor.Vec
