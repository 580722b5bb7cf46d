/- C. -/
import Derived.Test.YtibepooajeakfaaGreatG0
import Derived.RangeFuncNested
import Derived.RangeFuncBound
import Derived.Shelf.RegionOpen
import Derived.OwnWalkIn
import Derived.LoopNIn
import Derived.LoopIn
import Derived.Lib.AtoiErrMem
import Derived.Shelf.Strings.BuilderX
import Derived.StillTailTactics
import Derived.Lib.ItoaLen
import Derived.Lib.AppendIntMem
import Derived.Lib.SmallJoins
set_option linter.unusedVariables false
set_option maxRecDepth 100000
set_option maxHeartbeats 25600000
namespace Go.Proofs.YtibepooajeakfaaGreat.Vec
open Go.RowKit
def jG (x y:Int):Int×Int:=if x+y≤9223372036854775807 then (x+y,0) else (0,5)
def zl (x y:Int):Int×Int:=if y≤x then (x-y,0) else (0,5)
theorem jdH {x y:Int} (h:0≤x∧x≤9223372036854775807) (g:0≤y∧y≤9223372036854775807):0≤(jG x y).1∧(jG x y).1≤9223372036854775807:=by
 unfold jG;split
 · dsimp only;omega
 · decide
theorem jhv {x y:Int} (h:0≤x∧x≤9223372036854775807) (g:0≤y∧y≤9223372036854775807):0≤(zl x y).1∧(zl x y).1≤9223372036854775807:=by
 unfold zl;split
 · dsimp only;omega
 · decide
def Yv (acc:V) (s:ByteArray) (n:Int):V:=if n=0 then acc else acc++[(s,n)]
def j6 (f:Int→Int→Int×Int):Nat→V→V→V→Int×V
 | 0,_,_,acc=>(0,acc)
 | fuel+1,la,lb,acc =>
  if la.length+lb.length=0 then (0,acc)
  else
   let s:=jm la lb
   let r:=f (jr la s).1 (jr lb s).1
   if r.2≠0 then (r.2,[]) else j6 f fuel (jr la s).2 (jr lb s).2 (Yv acc s r.1)
def jj (f:Int→Int→Int×Int) (l l':V):Int×V :=
 if jv l≠0 then (jv l,[])
 else if jv l'≠0 then (jv l',[])
 else
  let r:=j6 f (l.length+l'.length) l l' []
  if r.1≠0 then (r.1,[]) else if 8<r.2.length then (4,[]) else (0,r.2)
theorem jaO {f:Int→Int→Int×Int} {fuel:Nat} {la lb acc:V} (h:la.length+lb.length=0):j6 f fuel la lb acc=(0,acc):=by
 cases fuel with
 | zero=>rfl
 | succ n=>rw[j6,if_pos h]
theorem jdY {f:Int→Int→Int×Int} {fuel:Nat} {la lb acc:V} (h:0<la.length+lb.length) (hf:la.length+lb.length≤fuel)
 (hx:(f (jr la (jm la lb)).1 (jr lb (jm la lb)).1).2≠0):j6 f fuel la lb acc=((f (jr la (jm la lb)).1 (jr lb (jm la lb)).1).2,[]):=by
 cases fuel with
 | zero=>omega
 | succ n=>rw[j6,if_neg (by omega)];dsimp only;rw[if_pos hx]
theorem jc5 {f:Int→Int→Int×Int} {fuel:Nat} {la lb acc:V} (h:0<la.length+lb.length) (hf:la.length+lb.length≤fuel)
 (hx:(f (jr la (jm la lb)).1 (jr lb (jm la lb)).1).2=0) :
 ∃fuel',fuel=fuel'+1∧j6 f fuel la lb acc=j6 f fuel' (jr la (jm la lb)).2 (jr lb (jm la lb)).2 (Yv acc (jm la lb) (f (jr la (jm la lb)).1 (jr lb (jm la lb)).1).1):=by
 cases fuel with
 | zero=>omega
 | succ n=>exact⟨n,rfl,by rw[j6,if_neg (by omega)];dsimp only;rw[if_neg (by rw[hx];decide)]⟩
theorem zh (s:ByteArray):eqS s s=true:=by unfold eqS;exact beq_self_eq_true _
theorem zM (x:ByteArray×Int) (t:V) (n:ByteArray):jr (x::t) n=if eqS x.1 n=true then (x.2,t) else (0,x::t):=rfl
theorem Zc (x y:ByteArray×Int) (s t:V):jm (x::s) (y::t)=if ltS y.1 x.1=true then y.1 else x.1:=rfl
theorem jeY (l:V) (s:ByteArray):(jr l s).2.length≤l.length:=by
 cases l with
 | nil=>exact Nat.le_refl _
 | cons x t=>rw[zM];split<;>simp
theorem jax {x:ByteArray×Int} (t:V):(jr (x::t) x.1).2.length=t.length:=by
 rw[zM,if_pos (zh _)]
theorem jaf {la lb:V} (h:0<la.length+lb.length):(jr la (jm la lb)).2.length+(jr lb (jm la lb)).2.length+1≤la.length+lb.length:=by
 cases la with
 | nil =>
  cases lb with
  | nil=>simp at h
  | cons y t =>
   have e:jm [] (y::t)=y.1:=rfl;rw[e,jax t];simp[jr]
 | cons x s =>
  cases lb with
  | nil =>
   have e:jm (x::s) []=x.1:=rfl;rw[e,jax s];simp[jr]
  | cons y t =>
   by_cases hlt:ltS y.1 x.1=true
   · have e:jm (x::s) (y::t)=y.1:=by rw[jm,if_pos hlt]
     have:=jeY (x::s) y.1;rw[e,jax t];simp only[List.length_cons] at *;omega
   · have e:jm (x::s) (y::t)=x.1:=by rw[jm,if_neg hlt]
     have:=jeY (y::t) x.1;rw[e,jax s];simp only[List.length_cons] at *;omega
def Pos (l:V):Prop:=∀x ∈ l,0≤x.2∧x.2≤9223372036854775807∧x.1.size≤maxLen
theorem qb {l:V} (h:Pos l) (s:ByteArray):(0≤(jr l s).1∧(jr l s).1≤9223372036854775807)∧Pos (jr l s).2:=by
 cases l with
 | nil=>exact⟨⟨by simp[jr],by simp[jr]⟩,h⟩
 | cons x t =>
  have hx:=h x (by simp);rw[zM];split
  · exact⟨⟨hx.1,hx.2.1⟩,fun y hy=>h y (by simp[hy])⟩
  · exact⟨⟨Int.le_refl _,by show (0:Int)≤_;omega⟩,h⟩
theorem jaI {la lb:V} (ha:Pos la) (hb:Pos lb):(jm la lb).size≤maxLen:=by
 cases la with
 | nil =>
  cases lb with
  | nil=>show 0≤maxLen;exact Nat.zero_le _
  | cons y t=>exact(hb y (by simp)).2.2
 | cons x s =>
  cases lb with
  | nil=>exact(ha x (by simp)).2.2
  | cons y t =>
   rw[Zc];split
   · exact(hb y (by simp)).2.2
   · exact(ha x (by simp)).2.2
theorem X4 {l:V} (h:jv l=0) (hf:Js l):Pos l:=by
 have h2:jQ none l=0:=by
  unfold jv at h;split at h
  · cases h
  · exact h
 have key:∀(l:V) (p:Option ByteArray),jQ p l=0→Js l→Pos l:=by
  intro l
  induction l with
  | nil=>intro _ _ _ x hx;cases hx
  | cons x t ih =>
   intro p hc hf;rw[Js.cons] at hf;unfold jQ at hc;split at hc
   · cases hc
   · split at hc
     · cases hc
     · split at hc
       · cases hc
       · intro y hy;rcases List.mem_cons.1 hy with rfl | hy
         · exact⟨by omega,hf.1.2.2,hf.1.1⟩
         · exact ih _ hc hf.2 y hy
 exact key l none h2 hf
theorem Z1 {l:V} (h:jv l=0):l.length≤8:=by
 unfold jv at h;split at h
 · cases h
 · omega
def lenOf:Value→Nat
 | .slice _ n _=>n
 | _=>0
def zt (r:Int×V) (base:Nat) (w:World) (e:Ending) (w':World):Prop :=
 (r.1=0→∃v,e=.returned v∧jT 114 w' base v r.2)∧(r.1≠0→e=.panicked [zw r.1])∧Below base w w'
theorem zt.good {r:Int×V} {base:Nat} {w w':World} {v:Value} (h:r.1=0) (ho:jT 114 w' base v r.2) (hb:Below base w w'):zt r base w (.returned v) w':=⟨fun _=>⟨v,rfl,ho⟩,fun g=>absurd h g,hb⟩
theorem zt.bad {r:Int×V} {base:Nat} {w w':World} {c:Int} (h:r.1=c) (hc:c≠0) (hb:Below base w w'):zt r base w (.panicked [zw c]) w':=⟨fun g=>absurd (h.symm.trans g) hc,fun _=>by rw[h],hb⟩
theorem JZ (B:Nat) (q:Nat) (x y:Int) (w:World) (hq:w.cell? ⟨q,0,none⟩=some (.int .i64 y)) (hzq:w.frozen? ⟨q,0,none⟩=false) (hBq:B≤q) :
 CallsD Tryz.prog 218 #[.pointer (some ⟨q,0,none⟩)] (.panicking [zw x]) w fun e u' w' =>
  e=.returned (.tuple #[])∧u'=.panicking [{ zw x with recovered:=true }]∧w'.cell? ⟨q,0,none⟩=some (.int .i64 x)∧Below B w w':=by
 have hta:∀W,(Instr.typeAssert (.iface 69 (.int .i64 x)) 20 69 false).run Tryz.prog W=.ok (.int .i64 x) W:=fun _=>by kernel_rfl
 refine callsD_of_wpS Tryz.func218 rfl fun c₀ cs hu=>?_;apply wpS_seq;apply wpS_region;simp[wpOpsS,go_sem,recoverD,hu,Tryz.ntmps218,Exit.thenS];apply wpS_seq;apply wpS_region;simp[wpOpsS,go_sem,recoverD,Exit.thenS];refine wpS_cond (t:=true) (by simp[Act.eval,Array.replicate]) ?_;simp only[if_true];refine wpS_of_wp ?_;simp[Array.replicate];go_wp2;simp[bodyPostS,results,Tryz.results218];exact⟨World.cell?_setCell_same' _ _ _ (by rw[hq];rfl),(Below.refl B w).setCell (p:=⟨q,0,none⟩) hBq _⟩
theorem Yq (q:Addr) (w:World) :
 CallsD Tryz.prog 218 #[.pointer (some q)] .returning w fun e u' w'=>e=.returned (.tuple #[])∧u'=.returning∧w'=w:=by
 refine callsD_of_wpS Tryz.func218 rfl fun c₀ cs hu=>?_;apply wpS_seq;apply wpS_region;simp[wpOpsS,go_sem,recoverD,hu,Tryz.ntmps218,Exit.thenS];apply wpS_seq;apply wpS_region;simp[wpOpsS,go_sem,recoverD,hu,Exit.thenS];refine wpS_cond (t:=false) (by simp[Act.eval,Array.replicate]) ?_;simp only[Bool.false_eq_true,if_false];refine wpS_of_wp (wp_skip ?_)
 cases c₀
 simp_all [bodyPostS,results,Tryz.results218]
theorem jT.base_le {e:TypeId} {w:World} {B B':Nat} {v:Value} {l:V} (h:jT e w B' v l) (hb:B≤B'):jT e w B v l:=by
 obtain⟨⟨h0,h1⟩,hf⟩:=h;refine⟨⟨h0,h1.imp id ?_⟩,hf⟩;rintro ⟨g,cap,cur,rfl,hbg,rest⟩;exact⟨g,cap,cur,rfl,Nat.le_trans hb hbg,rest⟩
theorem jT.setCell_below {e:TypeId} {w:World} {B:Nat} {v:Value} {l:V} (h:jT e w B v l) {a:Addr} (ha:a.block<B) (u:Value):jT e (w.setCell a u) B v l :=
 ⟨ownsRow_setCell_below h.1 ha u,h.2⟩
def Xb (r:Int×V) (w:World) (e:Ending) (w':World):Prop :=
 ∃v,e=.returned (.tuple #[v,.int .i64 r.1])∧jT 114 w' w.heap.size v r.2∧Kept w w'
theorem jnO (x y:Int) (w:World) (h0:0≤x) (h1:x≤9223372036854775807) (h2:0≤y) (h3:y≤9223372036854775807) :
 Calls Tryz.prog 191 #[.int .i64 x,.int .i64 y] w (Ans (jG x y).1 (jG x y).2 w):=by
 by_cases h:x+y≤9223372036854775807
 · have e:jG x y=(x+y,0):=by unfold jG;rw[if_pos h]
   rw[e];exact(jnJ x y w h0 h2 h).mono fun _ _ g=>g.ans
 · have e:jG x y=(0,5):=by unfold jG;rw[if_neg h]
   rw[e];exact(jlw x y w h0 h2 h3 (by omega)).mono fun _ _ g=>g.ans
theorem jiG (a a':Option Addr) (len cap len' cap':Nat) (l l':V) (w:World) (hr:jw w a len l) (hr':jw w a' len' l') (hc:len≤cap) (hm:cap≤maxLen) (hc':len'≤cap') (hm':cap'≤maxLen) :
 Calls Tryz.prog 190 #[.slice a len cap,.slice a' len' cap',.func (.func 191) #[] #[]] w (zt (jj jG l l') w.heap.size w):=by
 by_cases h1:jv l=0
 · by_cases h2:jv l'=0
   · have HL:=lH hr.1;have HL':=lH hr'.1;have P1:=lH (X4 h1 hr.2.2.1);have P2:=lH (X4 h2 hr'.2.2.1);have n8:len≤8:=by have:=Z1 h1;rw[hr.1] at this;exact this
     have n8':len'≤8:=by have:=Z1 h2;rw[hr'.1] at this;exact this
     obtain⟨R,hR⟩:=eX (j6 jG (l.length+l'.length) l l' [])
     have HM:=lH (show jj jG l l'=if R.1≠0 then (R.1,[]) else if 8<R.2.length then (4,[]) else (0,R.2) by
      unfold jj;rw[if_neg (by rw[h1];decide),if_neg (by rw[h2];decide)];dsimp only;rw[hR])
     obtain⟨HR,H1,H2,HA,HB⟩:=lH5 hR h1 h2 hr hr';clear hR h1 h2 hr hr';go_enter Tryz.func190,Tryz.ntmps190;go_wp2_with fail
     refine(zZ _ _ _ l _ HA.out).mono ?_;rintro e1 w1 ⟨g1,_,k1⟩;obtain rfl:=g1 H1.out;have K1:=lH k1;clear g1 k1;go_wp2_with fail
     refine(zZ _ _ _ l' _ (HB.out.kept K1.out)).mono ?_;rintro e2 w2 ⟨g2,_,k2⟩;obtain rfl:=g2 H2.out;have K2:=lH (K1.out.trans k2);clear g2 k2;go_wp2
     go_loopw [0,1,7] (fun va vb v wr=>∃(A B:Option Addr) (n c n' c':Nat) (la lb acc:V) (fuel:Nat),va=.slice A n c∧vb=.slice B n' c'∧n≤c∧c≤maxLen∧n'≤c'∧c'≤maxLen ∧
      jw w A n la∧jw w B n' lb∧Pos la∧Pos lb∧jT 114 wr w.heap.size v acc∧Below w.heap.size w wr∧n+n'≤fuel∧j6 jG fuel la lb acc=R∧acc.length+n+n'≤16)
      (fun va vb _ _=>lenOf va+lenOf vb)
     case atStart =>
      exact⟨a,a',len,cap,len',cap',l,l',[],l.length+l'.length,rfl,rfl,hc,hm,hc',hm',HA.out,HB.out,P1.out,P2.out,jT.nil _ _ _,K2.out,by rw[HL.out,HL'.out];exact Nat.le_refl _,HR.out,by simp;omega⟩
     case round =>
      obtain⟨A,B,n,c,n',c',la,lb,acc,fuel,rfl,rfl,c1,c2,c3,c4,va1,vb1,pa,pb,ho,hB,hfuel,hres,h16⟩:=hrel;obtain⟨VA,VB,PA,PB,HO,Vg,HQ,LA⟩:=lH8 va1 vb1 pa pb ho hB hres va1.1;have LB:=lH vb1.1;clear va1 vb1 pa pb ho hB hres;by_cases hz:n+n'=0
      · obtain rfl:n=0:=by omega
        obtain rfl:n'=0:=by omega
        clear hz;obtain⟨av,cv,rfl,g1,g2,g3⟩:=HO.out.at_;have HE:=lH (show R=(0,acc) from HQ.out.symm.trans (jaO (by rw[LA.out,LB.out])));have hal:acc.length≤9223372036854775807:=by omega
        clear g3 g1 g2;by_cases h8:acc.length≤8
        · have HF:=lH (show jj jG l l'=(0,acc) by rw[HM.out,HE.out];dsimp only;rw[if_neg (by decide),if_neg (by omega)]);go_wp2_with fail
          refine(jbx _ _ _ _ h8).mono ?_;rintro e3 w3 ⟨rfl,rfl⟩;go_wp2;go_ret;exact zt.good (by rw[HF.out]) (by rw[HF.out];exact HO.out) Vg.out
        · have HF:=lH (show jj jG l l'=(4,[]) by rw[HM.out,HE.out];dsimp only;rw[if_neg (by decide),if_pos (by omega)]);go_wp2_with fail
          refine(jcm _ _ _ _ (by omega) hal).mono ?_;rintro e3 w3 ⟨rfl,rfl⟩;go_wp2;exact⟨rfl,zt.bad (by rw[HF.out]) (by decide) Vg.out⟩
      · have hpos:0<n+n':=by omega
        clear hz;obtain⟨HP,HU,HS,T1,T2⟩:=lH5 (show 0<la.length+lb.length by rw[LA.out,LB.out];exact hpos) (show la.length+lb.length≤fuel by rw[LA.out,LB.out];exact hfuel) (jaI PA.out PB.out) (qb PA.out (jm la lb)) (qb PB.out (jm la lb));have VC:=lH (jaf HP.out);obtain⟨r1,r2,hr⟩:∃r1 r2,jG (jr la (jm la lb)).1 (jr lb (jm la lb)).1=(r1,r2):=⟨_,_,rfl⟩
        have QF:=lH (show ∀W,Calls Tryz.prog 191 #[.int .i64 (jr la (jm la lb)).1,.int .i64 (jr lb (jm la lb)).1] W (Ans r1 r2 W) from fun W=>by
         have:=jnO _ _ W T1.out.1.1 T1.out.1.2 T2.out.1.1 T2.out.1.2;rw[hr] at this;exact this)
        have Uj:=lH hr;have RB:=lH (show 0≤r1∧r1≤9223372036854775807 by have:=jdH (T1.out.1) (T2.out.1);rw[hr] at this;exact this);clear hr;have hd:(decide (0<n)||decide (0<n'))=true:=by simp;omega
        rcases Nat.eq_zero_or_pos n with h0 | h0
        case' inl=>(have d2:decide (0<n')=true:=by simp;omega)
        case' inl=>(subst h0)
        case' inr=>(have d1:decide (0<n)=true:=by simp;omega)
        all_goals
         clear hd;go_wp2_with fail
         refine(jaZ _ _ _ _ _ _ la lb _ (VA.out.kept Vg.out) (VB.out.kept Vg.out) (by omega)).mono ?_;rintro e3 w3 ⟨rfl,k3⟩;have K3:=lH k3;clear k3;go_wp2_with fail
         refine(X1 _ _ _ la _ _ ((VA.out.kept Vg.out).kept K3.out) c1 c2).mono ?_;rintro e4 w4 ⟨A4,c4',rfl,q1,q2,V4,k4⟩;have K4:=lH (K3.out.trans k4);have Tz:=lH V4;clear k4 V4;go_wp2_with fail
         refine(X1 _ _ _ lb _ _ ((VB.out.kept Vg.out).kept K4.out) c3 c4).mono ?_;rintro e5 w5 ⟨A5,c5',rfl,q3,q4,V5,k5⟩;have K5:=lH (K4.out.trans k5);have TB:=lH V5;clear k5 V5;go_wp2_with fail
         refine(QF.out _).mono ?_;rintro e6 w6 ⟨rfl,k6⟩;have K6:=lH (K5.out.trans k6);clear k6;by_cases hx:r2=0
         · subst hx;go_wp2_with fail
           refine(jgc _ _).mono ?_;rintro e7 w7 ⟨rfl,rfl⟩;obtain⟨fuel',hf1,hf2⟩:=jc5 (f:=jG) (acc:=acc) HP.out HU.out (by rw[Uj.out]);have TC:=lH hf1;have TD:=lH hf2;clear hf1 hf2;have Vh:=lH (show Below w.heap.size w w6 from Vg.out.trans (Below.mono K6.out Vg.out.size));by_cases hy:r1=0
           · subst hy;go_wp2_with fail
             refine(jd0 _ _ _).mono ?_;rintro e8 w8 ⟨rfl,rfl⟩;go_wp2;go_roundw
             case rel =>
              refine⟨A4,A5,_,c4',_,c5',_,_,acc,fuel',rfl,rfl,q1,q2,q3,q4,Tz.out w VA.out,TB.out w VB.out,T1.out.2,T2.out.2,HO.out.kept K6.out,Vh.out,?_,?_,?_⟩
              · have:=VC.out;have:=HU.out;have:=TC.out;omega
              · have:=TD.out;rw[Uj.out] at this;rw[←HQ.out,this];rfl
              · have:=VC.out;have:=LA.out;have:=LB.out;omega
             case measure=>(show lenOf (Value.slice _ _ _)+lenOf (Value.slice _ _ _)<lenOf (Value.slice _ _ _)+lenOf (Value.slice _ _ _);simp only[lenOf];have:=VC.out;have:=LA.out;have:=LB.out;omega)
           · go_wp2_with fail
             refine(jd7 _ _ r1 w.heap.size acc _ (HO.out.kept K6.out) hy HS.out (by have:=RB.out;omega) (by have:=RB.out;omega) (by omega) Vh.out.size).mono ?_;rintro e8 w8 ⟨v8,rfl,o8,b8⟩;obtain⟨O8,B8,HY⟩:=lH3 o8 b8 hy;clear o8 b8 hy;go_wp2;go_roundw
             case rel =>
              refine⟨A4,A5,_,c4',_,c5',_,_,_,fuel',rfl,rfl,q1,q2,q3,q4,Tz.out w VA.out,TB.out w VB.out,T1.out.2,T2.out.2,O8.out,Vh.out.trans B8.out,?_,?_,?_⟩
              · have:=VC.out;have:=HU.out;have:=TC.out;omega
              · have:=TD.out;rw[Uj.out] at this;rw[←HQ.out,this];dsimp only;unfold Yv;rw[if_neg HY.out]
              · have:=VC.out;have:=LA.out;have:=LB.out;rw[List.length_append];simp only[List.length_cons,List.length_nil];omega
             case measure=>(show lenOf (Value.slice _ _ _)+lenOf (Value.slice _ _ _)<lenOf (Value.slice _ _ _)+lenOf (Value.slice _ _ _);simp only[lenOf];have:=VC.out;have:=LA.out;have:=LB.out;omega)
         · have HX:=lH hx;have HE:=lH (show jj jG l l'=(r2,[]) by
            rw[HM.out,←HQ.out,jdY HP.out HU.out (by rw[Uj.out];exact hx),Uj.out];dsimp only;rw[if_pos hx])
           go_wp2_with fail
           refine(jdR _ _ _ hx).mono ?_;rintro e7 w7 ⟨rfl,rfl⟩;clear hx;go_wp2;exact⟨rfl,zt.bad (by rw[HE.out]) HX.out (Vg.out.trans (Below.mono K6.out Vg.out.size))⟩
   · obtain⟨HM,HA,HB,H1,H2⟩:=lH5 (show jj jG l l'=(jv l',[]) by unfold jj;rw[if_neg (by rw[h1];decide),if_pos h2]) hr hr' h1 h2;clear h1 h2 hr hr';go_enter Tryz.func190,Tryz.ntmps190;go_wp2_with fail
     refine(zZ _ _ _ l _ HA.out).mono ?_;rintro e1 w1 ⟨g1,_,k1⟩;obtain rfl:=g1 H1.out;have K1:=lH k1;clear g1 k1;go_wp2_with fail
     refine(zZ _ _ _ l' _ (HB.out.kept K1.out)).mono ?_;rintro e2 w2 ⟨_,g2,k2⟩;obtain rfl:=g2 H2.out;have K2:=lH (K1.out.trans k2);clear g2 k2;go_wp2;exact⟨rfl,zt.bad (by rw[HM.out]) H2.out K2.out⟩
 · obtain⟨HM,HA,H1⟩:=lH3 (show jj jG l l'=(jv l,[]) by unfold jj;rw[if_pos h1]) hr h1;clear h1 hr hr';go_enter Tryz.func190,Tryz.ntmps190;go_wp2_with fail
   refine(zZ _ _ _ l _ HA.out).mono ?_;rintro e1 w1 ⟨_,g1,k1⟩;obtain rfl:=g1 H1.out;have K1:=lH k1;clear g1 k1;go_wp2;exact⟨rfl,zt.bad (by rw[HM.out]) H1.out K1.out⟩
theorem jio (C:Addr×Addr) (r:Int×V) (w:World) (hr:r.1≠0→r.2=[])
 (hk:∀W,Kept w W→Calls Tryz.prog 189 #[.pointer (some C.1),.pointer (some C.2)] W (zt r W.heap.size W)) :
 Calls Tryz.prog 188 #[.func (.func 189) #[] #[.pointer (some C.1),.pointer (some C.2)]] w (Xb r w):=by
 have hmf:=hmfL (P:=Tryz.prog);have HK:=lH hk;have HR:=lH hr;clear hk hr;obtain⟨r1,r2⟩:=r;go_enter_defers Tryz.func188,Tryz.ntmps188
 go_wp2_with fail
 refine(HK.out _ (ja _ _)).mono ?_;rintro e1 w1 ⟨h0,h1,hb⟩;have k1:=hb.size;simp only[World.size_alloc] at k1;have c2:=(hb.cell (p:=⟨w.heap.size,0,none⟩) (by simp))
 have z2:=(hb.frozen (p:=⟨w.heap.size,0,none⟩) (by simp))
 have e2':w1.cell? ⟨w.heap.size,0,none⟩=some (.int .i64 0):=by rw[c2];go_simp
 have y2:w1.frozen? ⟨w.heap.size,0,none⟩=false:=by rw[z2];go_simp
 clear c2 z2;have KB:=lH (show Below w.heap.size w w1 from(ja w _).trans hb);by_cases hx:r1=0
 · subst hx;obtain⟨v,rfl,ho⟩:=h0 rfl;have HO:=lH ho;obtain⟨av,cv,rfl,_,_,_⟩:=ho.at_;have hsz:=World.size_alloc w (.cells #[.int .i64 0] 69);clear h0 h1 hb ho;go_wp2_with fail
   refine leaves_cons (f:=218) (args:=#[.pointer (some ⟨w.heap.size,0,none⟩)]) (by simp) (by simp[go_sem]) ?_;refine(Yq ⟨w.heap.size,0,none⟩ _).mono ?_;rintro e u' w'' ⟨rfl,rfl,rfl⟩;simp[Leaves,settle,results,Tryz.results188,go_sem,e2'];exact⟨_,rfl,(HO.out.setCell_below (a:=⟨w.heap.size,0,none⟩) (by simp) _).base_le (by simp),KB.out.setCell (p:=⟨w.heap.size,0,none⟩) (Nat.le_refl _) _⟩
 · obtain rfl:=h1 hx;obtain rfl:=HR.out hx;clear h0 h1 hb;go_wp2_with fail
   refine leaves_cons (f:=218) (args:=#[.pointer (some ⟨w.heap.size,0,none⟩)]) (by simp) (by simp[go_sem]) ?_;refine(JZ w.heap.size w.heap.size r1 0 _ e2' y2 (by omega)).mono ?_;rintro e u' w'' ⟨rfl,rfl,q2,q3⟩;simp[Leaves,settle,results,Tryz.results188,go_sem,q2];exact⟨_,rfl,jT.nil _ _ _,KB.out.trans q3⟩
theorem jg9 (C:Addr×Addr) (a a':Option Addr) (len cap len' cap':Nat) (l l':V) (w:World) (h1:w.cell? C.1=some (.slice a len cap)) (h2:w.cell? C.2=some (.slice a' len' cap'))
 (hr:jw w a len l) (hr':jw w a' len' l') (hc:len≤cap) (hm:cap≤maxLen) (hc':len'≤cap') (hm':cap'≤maxLen) :
 Calls Tryz.prog 189 #[.pointer (some C.1),.pointer (some C.2)] w (zt (jj jG l l') w.heap.size w):=by
 have HR:=lH hr;have HR':=lH hr';have HM:=lH hm;have HM':=lH hm';clear hr hr' hm hm';go_enter Tryz.func189,Tryz.ntmps189;go_wp2_with fail
 refine(jiG a a' len cap len' cap' l l' _ HR.out HR'.out hc HM.out hc' HM'.out).mono ?_;rintro e w' ⟨g0,g1,k⟩;by_cases hx:(jj jG l l').1=0
 · obtain⟨v,rfl,ho⟩:=g0 hx;obtain⟨HX,HO,HK⟩:=lH3 hx ho k;clear g0 g1 hx ho k;go_wp2;go_ret;exact zt.good HX.out HO.out HK.out
 · obtain rfl:=g1 hx;have HX:=lH hx;have HK:=lH k;clear g0 g1 hx k;go_wp2;exact⟨rfl,zt.bad rfl HX.out HK.out⟩
theorem jcH (l l':V):(jj jG l l').1≠0→(jj jG l l').2=[]:=by
 unfold jj;split
 · exact fun _=>rfl
 · split
   · exact fun _=>rfl
   · dsimp only;split
     · exact fun _=>rfl
     · split
       · exact fun _=>rfl
       · exact fun h=>absurd rfl h
theorem jmI (a a':Option Addr) (len cap len' cap':Nat) (l l':V) (w:World)
 (hr:jw w a len l) (hr':jw w a' len' l') (hc:len≤cap) (hm:cap≤maxLen) (hc':len'≤cap') (hm':cap'≤maxLen) :
 Calls Tryz.prog 149 #[.slice a len cap,.slice a' len' cap'] w (Xb (jj jG l l') w):=by
 have hmf:=hmfL (P:=Tryz.prog);have hC:∀W,Kept ((w.alloc (.cells #[.slice a len cap] 45)).alloc (.cells #[.slice a' len' cap'] 45)) W→Calls Tryz.prog 189 #[.pointer (some ⟨w.heap.size,0,none⟩),.pointer (some ⟨w.heap.size+1,0,none⟩)] W (zt (jj jG l l') W.heap.size W):=by
  intro W k;have c1:=k.cell (p:=⟨w.heap.size,0,none⟩) (by simp;omega);have c2:=k.cell (p:=⟨w.heap.size+1,0,none⟩) (by simp);exact jg9 (⟨w.heap.size,0,none⟩,⟨w.heap.size+1,0,none⟩) a a' len cap len' cap' l l' W (by rw[c1];go_simp) (by rw[c2];go_simp) (hr.kept ((jn w _ _).trans k)) (hr'.kept ((jn w _ _).trans k)) hc hm hc' hm'
 have HC:=lH hC;clear hC hr hr' hm hm';go_enter Tryz.func149,Tryz.ntmps149;go_wp2_with fail
 refine(jio (⟨w.heap.size,0,none⟩,⟨w.heap.size+1,0,none⟩) (jj jG l l') _ (jcH l l') HC.out).mono ?_;rintro e w' ⟨v,rfl,ho,k⟩;have HO:=lH ho;have HK:=lH k;clear ho k;go_wp2;go_ret2
 exact⟨v,rfl,HO.out.base_le (by simp;omega),(jn w _ _).trans HK.out⟩
theorem jn7 (x y:Int) (w:World) (h0:0≤x) (h1:x≤9223372036854775807) (h2:0≤y) (h3:y≤9223372036854775807) :
 Calls Tryz.prog 258 #[.int .i64 x,.int .i64 y] w (Ans (zl x y).1 (zl x y).2 w):=by
 by_cases h:y≤x
 · have e:zl x y=(x-y,0):=by unfold zl;rw[if_pos h]
   rw[e];exact(jnu x y w h2 h1 h).mono fun _ _ g=>g.ans
 · have e:zl x y=(0,5):=by unfold zl;rw[if_neg h]
   rw[e];exact(jma x y w h0 h3 (by omega)).mono fun _ _ g=>g.ans
theorem jin (a a':Option Addr) (len cap len' cap':Nat) (l l':V) (w:World) (hr:jw w a len l) (hr':jw w a' len' l') (hc:len≤cap) (hm:cap≤maxLen) (hc':len'≤cap') (hm':cap'≤maxLen) :
 Calls Tryz.prog 190 #[.slice a len cap,.slice a' len' cap',.func (.func 258) #[] #[]] w (zt (jj zl l l') w.heap.size w):=by
 by_cases h1:jv l=0
 · by_cases h2:jv l'=0
   · have HL:=lH hr.1;have HL':=lH hr'.1;have P1:=lH (X4 h1 hr.2.2.1);have P2:=lH (X4 h2 hr'.2.2.1);have n8:len≤8:=by have:=Z1 h1;rw[hr.1] at this;exact this
     have n8':len'≤8:=by have:=Z1 h2;rw[hr'.1] at this;exact this
     obtain⟨R,hR⟩:=eX (j6 zl (l.length+l'.length) l l' [])
     have HM:=lH (show jj zl l l'=if R.1≠0 then (R.1,[]) else if 8<R.2.length then (4,[]) else (0,R.2) by
      unfold jj;rw[if_neg (by rw[h1];decide),if_neg (by rw[h2];decide)];dsimp only;rw[hR])
     obtain⟨HR,H1,H2,HA,HB⟩:=lH5 hR h1 h2 hr hr';clear hR h1 h2 hr hr';go_enter Tryz.func190,Tryz.ntmps190;go_wp2_with fail
     refine(zZ _ _ _ l _ HA.out).mono ?_;rintro e1 w1 ⟨g1,_,k1⟩;obtain rfl:=g1 H1.out;have K1:=lH k1;clear g1 k1;go_wp2_with fail
     refine(zZ _ _ _ l' _ (HB.out.kept K1.out)).mono ?_;rintro e2 w2 ⟨g2,_,k2⟩;obtain rfl:=g2 H2.out;have K2:=lH (K1.out.trans k2);clear g2 k2;go_wp2
     go_loopw [0,1,7] (fun va vb v wr=>∃(A B:Option Addr) (n c n' c':Nat) (la lb acc:V) (fuel:Nat),va=.slice A n c∧vb=.slice B n' c'∧n≤c∧c≤maxLen∧n'≤c'∧c'≤maxLen ∧
      jw w A n la∧jw w B n' lb∧Pos la∧Pos lb∧jT 114 wr w.heap.size v acc∧Below w.heap.size w wr∧n+n'≤fuel∧j6 zl fuel la lb acc=R∧acc.length+n+n'≤16)
      (fun va vb _ _=>lenOf va+lenOf vb)
     case atStart =>
      exact⟨a,a',len,cap,len',cap',l,l',[],l.length+l'.length,rfl,rfl,hc,hm,hc',hm',HA.out,HB.out,P1.out,P2.out,jT.nil _ _ _,K2.out,by rw[HL.out,HL'.out];exact Nat.le_refl _,HR.out,by simp;omega⟩
     case round =>
      obtain⟨A,B,n,c,n',c',la,lb,acc,fuel,rfl,rfl,c1,c2,c3,c4,va1,vb1,pa,pb,ho,hB,hfuel,hres,h16⟩:=hrel;obtain⟨VA,VB,PA,PB,HO,Vg,HQ,LA⟩:=lH8 va1 vb1 pa pb ho hB hres va1.1;have LB:=lH vb1.1;clear va1 vb1 pa pb ho hB hres;by_cases hz:n+n'=0
      · obtain rfl:n=0:=by omega
        obtain rfl:n'=0:=by omega
        clear hz;obtain⟨av,cv,rfl,g1,g2,g3⟩:=HO.out.at_;have HE:=lH (show R=(0,acc) from HQ.out.symm.trans (jaO (by rw[LA.out,LB.out])));have hal:acc.length≤9223372036854775807:=by omega
        clear g3 g1 g2;by_cases h8:acc.length≤8
        · have HF:=lH (show jj zl l l'=(0,acc) by rw[HM.out,HE.out];dsimp only;rw[if_neg (by decide),if_neg (by omega)]);go_wp2_with fail
          refine(jbx _ _ _ _ h8).mono ?_;rintro e3 w3 ⟨rfl,rfl⟩;go_wp2;go_ret;exact zt.good (by rw[HF.out]) (by rw[HF.out];exact HO.out) Vg.out
        · have HF:=lH (show jj zl l l'=(4,[]) by rw[HM.out,HE.out];dsimp only;rw[if_neg (by decide),if_pos (by omega)]);go_wp2_with fail
          refine(jcm _ _ _ _ (by omega) hal).mono ?_;rintro e3 w3 ⟨rfl,rfl⟩;go_wp2;exact⟨rfl,zt.bad (by rw[HF.out]) (by decide) Vg.out⟩
      · have hpos:0<n+n':=by omega
        clear hz;obtain⟨HP,HU,HS,T1,T2⟩:=lH5 (show 0<la.length+lb.length by rw[LA.out,LB.out];exact hpos) (show la.length+lb.length≤fuel by rw[LA.out,LB.out];exact hfuel) (jaI PA.out PB.out) (qb PA.out (jm la lb)) (qb PB.out (jm la lb));have VC:=lH (jaf HP.out);obtain⟨r1,r2,hr⟩:∃r1 r2,zl (jr la (jm la lb)).1 (jr lb (jm la lb)).1=(r1,r2):=⟨_,_,rfl⟩
        have QF:=lH (show ∀W,Calls Tryz.prog 258 #[.int .i64 (jr la (jm la lb)).1,.int .i64 (jr lb (jm la lb)).1] W (Ans r1 r2 W) from fun W=>by
         have:=jn7 _ _ W T1.out.1.1 T1.out.1.2 T2.out.1.1 T2.out.1.2;rw[hr] at this;exact this)
        have Uj:=lH hr;have RB:=lH (show 0≤r1∧r1≤9223372036854775807 by have:=jhv (T1.out.1) (T2.out.1);rw[hr] at this;exact this);clear hr;have hd:(decide (0<n)||decide (0<n'))=true:=by simp;omega
        rcases Nat.eq_zero_or_pos n with h0 | h0
        case' inl=>(have d2:decide (0<n')=true:=by simp;omega)
        case' inl=>(subst h0)
        case' inr=>(have d1:decide (0<n)=true:=by simp;omega)
        all_goals
         clear hd;go_wp2_with fail
         refine(jaZ _ _ _ _ _ _ la lb _ (VA.out.kept Vg.out) (VB.out.kept Vg.out) (by omega)).mono ?_;rintro e3 w3 ⟨rfl,k3⟩;have K3:=lH k3;clear k3;go_wp2_with fail
         refine(X1 _ _ _ la _ _ ((VA.out.kept Vg.out).kept K3.out) c1 c2).mono ?_;rintro e4 w4 ⟨A4,c4',rfl,q1,q2,V4,k4⟩;have K4:=lH (K3.out.trans k4);have Tz:=lH V4;clear k4 V4;go_wp2_with fail
         refine(X1 _ _ _ lb _ _ ((VB.out.kept Vg.out).kept K4.out) c3 c4).mono ?_;rintro e5 w5 ⟨A5,c5',rfl,q3,q4,V5,k5⟩;have K5:=lH (K4.out.trans k5);have TB:=lH V5;clear k5 V5;go_wp2_with fail
         refine(QF.out _).mono ?_;rintro e6 w6 ⟨rfl,k6⟩;have K6:=lH (K5.out.trans k6);clear k6;by_cases hx:r2=0
         · subst hx;go_wp2_with fail
           refine(jgc _ _).mono ?_;rintro e7 w7 ⟨rfl,rfl⟩;obtain⟨fuel',hf1,hf2⟩:=jc5 (f:=zl) (acc:=acc) HP.out HU.out (by rw[Uj.out]);have TC:=lH hf1;have TD:=lH hf2;clear hf1 hf2;have Vh:=lH (show Below w.heap.size w w6 from Vg.out.trans (Below.mono K6.out Vg.out.size));by_cases hy:r1=0
           · subst hy;go_wp2_with fail
             refine(jd0 _ _ _).mono ?_;rintro e8 w8 ⟨rfl,rfl⟩;go_wp2;go_roundw
             case rel =>
              refine⟨A4,A5,_,c4',_,c5',_,_,acc,fuel',rfl,rfl,q1,q2,q3,q4,Tz.out w VA.out,TB.out w VB.out,T1.out.2,T2.out.2,HO.out.kept K6.out,Vh.out,?_,?_,?_⟩
              · have:=VC.out;have:=HU.out;have:=TC.out;omega
              · have:=TD.out;rw[Uj.out] at this;rw[←HQ.out,this];rfl
              · have:=VC.out;have:=LA.out;have:=LB.out;omega
             case measure=>(show lenOf (Value.slice _ _ _)+lenOf (Value.slice _ _ _)<lenOf (Value.slice _ _ _)+lenOf (Value.slice _ _ _);simp only[lenOf];have:=VC.out;have:=LA.out;have:=LB.out;omega)
           · go_wp2_with fail
             refine(jd7 _ _ r1 w.heap.size acc _ (HO.out.kept K6.out) hy HS.out (by have:=RB.out;omega) (by have:=RB.out;omega) (by omega) Vh.out.size).mono ?_;rintro e8 w8 ⟨v8,rfl,o8,b8⟩;obtain⟨O8,B8,HY⟩:=lH3 o8 b8 hy;clear o8 b8 hy;go_wp2;go_roundw
             case rel =>
              refine⟨A4,A5,_,c4',_,c5',_,_,_,fuel',rfl,rfl,q1,q2,q3,q4,Tz.out w VA.out,TB.out w VB.out,T1.out.2,T2.out.2,O8.out,Vh.out.trans B8.out,?_,?_,?_⟩
              · have:=VC.out;have:=HU.out;have:=TC.out;omega
              · have:=TD.out;rw[Uj.out] at this;rw[←HQ.out,this];dsimp only;unfold Yv;rw[if_neg HY.out]
              · have:=VC.out;have:=LA.out;have:=LB.out;rw[List.length_append];simp only[List.length_cons,List.length_nil];omega
             case measure=>(show lenOf (Value.slice _ _ _)+lenOf (Value.slice _ _ _)<lenOf (Value.slice _ _ _)+lenOf (Value.slice _ _ _);simp only[lenOf];have:=VC.out;have:=LA.out;have:=LB.out;omega)
         · have HX:=lH hx;have HE:=lH (show jj zl l l'=(r2,[]) by
            rw[HM.out,←HQ.out,jdY HP.out HU.out (by rw[Uj.out];exact hx),Uj.out];dsimp only;rw[if_pos hx])
           go_wp2_with fail
           refine(jdR _ _ _ hx).mono ?_;rintro e7 w7 ⟨rfl,rfl⟩;clear hx;go_wp2;exact⟨rfl,zt.bad (by rw[HE.out]) HX.out (Vg.out.trans (Below.mono K6.out Vg.out.size))⟩
   · obtain⟨HM,HA,HB,H1,H2⟩:=lH5 (show jj zl l l'=(jv l',[]) by unfold jj;rw[if_neg (by rw[h1];decide),if_pos h2]) hr hr' h1 h2;clear h1 h2 hr hr';go_enter Tryz.func190,Tryz.ntmps190;go_wp2_with fail
     refine(zZ _ _ _ l _ HA.out).mono ?_;rintro e1 w1 ⟨g1,_,k1⟩;obtain rfl:=g1 H1.out;have K1:=lH k1;clear g1 k1;go_wp2_with fail
     refine(zZ _ _ _ l' _ (HB.out.kept K1.out)).mono ?_;rintro e2 w2 ⟨_,g2,k2⟩;obtain rfl:=g2 H2.out;have K2:=lH (K1.out.trans k2);clear g2 k2;go_wp2;exact⟨rfl,zt.bad (by rw[HM.out]) H2.out K2.out⟩
 · obtain⟨HM,HA,H1⟩:=lH3 (show jj zl l l'=(jv l,[]) by unfold jj;rw[if_pos h1]) hr h1;clear h1 hr hr';go_enter Tryz.func190,Tryz.ntmps190;go_wp2_with fail
   refine(zZ _ _ _ l _ HA.out).mono ?_;rintro e1 w1 ⟨_,g1,k1⟩;obtain rfl:=g1 H1.out;have K1:=lH k1;clear g1 k1;go_wp2;exact⟨rfl,zt.bad (by rw[HM.out]) H1.out K1.out⟩
theorem jie (C:Addr×Addr) (r:Int×V) (w:World) (hr:r.1≠0→r.2=[])
 (hk:∀W,Kept w W→Calls Tryz.prog 257 #[.pointer (some C.1),.pointer (some C.2)] W (zt r W.heap.size W)) :
 Calls Tryz.prog 188 #[.func (.func 257) #[] #[.pointer (some C.1),.pointer (some C.2)]] w (Xb r w):=by
 have hmf:=hmfL (P:=Tryz.prog);have HK:=lH hk;have HR:=lH hr;clear hk hr;obtain⟨r1,r2⟩:=r;go_enter_defers Tryz.func188,Tryz.ntmps188
 go_wp2_with fail
 refine(HK.out _ (ja _ _)).mono ?_;rintro e1 w1 ⟨h0,h1,hb⟩;have k1:=hb.size;simp only[World.size_alloc] at k1;have c2:=(hb.cell (p:=⟨w.heap.size,0,none⟩) (by simp))
 have z2:=(hb.frozen (p:=⟨w.heap.size,0,none⟩) (by simp))
 have e2':w1.cell? ⟨w.heap.size,0,none⟩=some (.int .i64 0):=by rw[c2];go_simp
 have y2:w1.frozen? ⟨w.heap.size,0,none⟩=false:=by rw[z2];go_simp
 clear c2 z2;have KB:=lH (show Below w.heap.size w w1 from(ja w _).trans hb);by_cases hx:r1=0
 · subst hx;obtain⟨v,rfl,ho⟩:=h0 rfl;have HO:=lH ho;obtain⟨av,cv,rfl,_,_,_⟩:=ho.at_;have hsz:=World.size_alloc w (.cells #[.int .i64 0] 69);clear h0 h1 hb ho;go_wp2_with fail
   refine leaves_cons (f:=218) (args:=#[.pointer (some ⟨w.heap.size,0,none⟩)]) (by simp) (by simp[go_sem]) ?_;refine(Yq ⟨w.heap.size,0,none⟩ _).mono ?_;rintro e u' w'' ⟨rfl,rfl,rfl⟩;simp[Leaves,settle,results,Tryz.results188,go_sem,e2'];exact⟨_,rfl,(HO.out.setCell_below (a:=⟨w.heap.size,0,none⟩) (by simp) _).base_le (by simp),KB.out.setCell (p:=⟨w.heap.size,0,none⟩) (Nat.le_refl _) _⟩
 · obtain rfl:=h1 hx;obtain rfl:=HR.out hx;clear h0 h1 hb;go_wp2_with fail
   refine leaves_cons (f:=218) (args:=#[.pointer (some ⟨w.heap.size,0,none⟩)]) (by simp) (by simp[go_sem]) ?_;refine(JZ w.heap.size w.heap.size r1 0 _ e2' y2 (by omega)).mono ?_;rintro e u' w'' ⟨rfl,rfl,q2,q3⟩;simp[Leaves,settle,results,Tryz.results188,go_sem,q2];exact⟨_,rfl,jT.nil _ _ _,KB.out.trans q3⟩
theorem jgx (C:Addr×Addr) (a a':Option Addr) (len cap len' cap':Nat) (l l':V) (w:World) (h1:w.cell? C.1=some (.slice a len cap)) (h2:w.cell? C.2=some (.slice a' len' cap'))
 (hr:jw w a len l) (hr':jw w a' len' l') (hc:len≤cap) (hm:cap≤maxLen) (hc':len'≤cap') (hm':cap'≤maxLen) :
 Calls Tryz.prog 257 #[.pointer (some C.1),.pointer (some C.2)] w (zt (jj zl l l') w.heap.size w):=by
 have HR:=lH hr;have HR':=lH hr';have HM:=lH hm;have HM':=lH hm';clear hr hr' hm hm';go_enter Tryz.func257,Tryz.ntmps257;go_wp2_with fail
 refine(jin a a' len cap len' cap' l l' _ HR.out HR'.out hc HM.out hc' HM'.out).mono ?_;rintro e w' ⟨g0,g1,k⟩;by_cases hx:(jj zl l l').1=0
 · obtain⟨v,rfl,ho⟩:=g0 hx;obtain⟨HX,HO,HK⟩:=lH3 hx ho k;clear g0 g1 hx ho k;go_wp2;go_ret;exact zt.good HX.out HO.out HK.out
 · obtain rfl:=g1 hx;have HX:=lH hx;have HK:=lH k;clear g0 g1 hx k;go_wp2;exact⟨rfl,zt.bad rfl HX.out HK.out⟩
theorem qc (l l':V):(jj zl l l').1≠0→(jj zl l l').2=[]:=by
 unfold jj;split
 · exact fun _=>rfl
 · split
   · exact fun _=>rfl
   · dsimp only;split
     · exact fun _=>rfl
     · split
       · exact fun _=>rfl
       · exact fun h=>absurd rfl h
theorem jns (a a':Option Addr) (len cap len' cap':Nat) (l l':V) (w:World)
 (hr:jw w a len l) (hr':jw w a' len' l') (hc:len≤cap) (hm:cap≤maxLen) (hc':len'≤cap') (hm':cap'≤maxLen) :
 Calls Tryz.prog 230 #[.slice a len cap,.slice a' len' cap'] w (Xb (jj zl l l') w):=by
 have hmf:=hmfL (P:=Tryz.prog);have hC:∀W,Kept ((w.alloc (.cells #[.slice a len cap] 45)).alloc (.cells #[.slice a' len' cap'] 45)) W→Calls Tryz.prog 257 #[.pointer (some ⟨w.heap.size,0,none⟩),.pointer (some ⟨w.heap.size+1,0,none⟩)] W (zt (jj zl l l') W.heap.size W):=by
  intro W k;have c1:=k.cell (p:=⟨w.heap.size,0,none⟩) (by simp;omega);have c2:=k.cell (p:=⟨w.heap.size+1,0,none⟩) (by simp);exact jgx (⟨w.heap.size,0,none⟩,⟨w.heap.size+1,0,none⟩) a a' len cap len' cap' l l' W (by rw[c1];go_simp) (by rw[c2];go_simp) (hr.kept ((jn w _ _).trans k)) (hr'.kept ((jn w _ _).trans k)) hc hm hc' hm'
 have HC:=lH hC;clear hC hr hr' hm hm';go_enter Tryz.func230,Tryz.ntmps230;go_wp2_with fail
 refine(jie (⟨w.heap.size,0,none⟩,⟨w.heap.size+1,0,none⟩) (jj zl l l') _ (qc l l') HC.out).mono ?_;rintro e w' ⟨v,rfl,ho,k⟩;have HO:=lH ho;have HK:=lH k;clear ho k;go_wp2;go_ret2
 exact⟨v,rfl,HO.out.base_le (by simp;omega),(jn w _ _).trans HK.out⟩
end Go.Proofs.YtibepooajeakfaaGreat.Vec
namespace Go.Proofs.YtibepooajeakfaaGreat
open Go.RowKit
theorem zB {α:Type} {l:List α} {k:Nat} (h:¬k<l.length):l.drop k=[]:=List.drop_of_length_le (by omega)
theorem all_cons {α:Type} (f:α→Bool) (x:α) (t:List α):(x::t).all f=(f x&&t.all f):=rfl
theorem zI {α:Type} {l:List α} {k:Nat} {x:α} (h:l[k]?=some x):l.take (k+1)=l.take k++[x]:=by rw[List.take_add_one,h];rfl
theorem Own.snoc {α:Type} {L:Lay α} {e:TypeId} {w:World} {base n:Nat} {v:Value} {l:List α} {x:α} (h:w.ownsRow base e L.m v n (je L l++L.cs x)) (hn:l.length+1=n) (hf:∀z ∈ l,L.fine z) (hx:L.fine x):Own L e w base v (l++[x]):=by
 refine⟨?_,fun z hz=>?_⟩
 · rw[List.length_append,JC];show w.ownsRow base e L.m v (l.length+1) (je L l++je L [x]);rw[hn];have e:je L [x]=L.cs x:=by unfold je;simp
   rw[e];exact h
 · rcases List.mem_append.1 hz with g | g
   · exact hf z g
   · have:z=x:=by simpa using g
     rw[this];exact hx
def Say (v:Value) (w:World) (e:Ending) (w':World):Prop:=e=.returned v∧Kept w w'
theorem Reads.nil {α:Type} {L:Lay α} (w:World):Reads L w (.slice none 0 0) []:=⟨none,0,rfl,Nat.le_refl _,by decide,jk.nil w none⟩
theorem Reads.fine {α:Type} {L:Lay α} {v:Value} {l:List α} {w:World} (h:Reads L w v l):∀x ∈ l,L.fine x:=by
 obtain⟨a,cap,rfl,h1,h2,h3⟩:=h;exact h3.2.2.1
theorem jk.part {α:Type} {L:Lay α} {w:World} {b off len:Nat} {l:List α} (h:jk L w (some ⟨b,off,none⟩) len l) (i n:Nat) (hi:i+n≤len) :
 jk L w (some ⟨b,off+i*L.m,none⟩) n ((l.drop i).take n):=by
 obtain⟨h0,h1,h2,h3⟩:=h;refine⟨by rw[List.length_take,List.length_drop];omega,by omega,fun x hx=>h2 x (List.mem_of_mem_drop (List.mem_of_mem_take hx)),?_⟩;rcases h3 with h3 | ⟨b',off',e,hb,hc⟩
 · exact .inl (by omega)
 · injection e with e;injection e with e1 e2 e3;subst e1;subst e2;refine .inr ⟨b,_,rfl,hb,fun k x j u hk hj=>?_⟩;have hkn:k<n:=by have:=(List.getElem?_eq_some_iff.1 hk).1;rw[List.length_take] at this;omega
   have hk':l[i+k]?=some x:=by
    rw[List.getElem?_take,if_pos hkn,List.getElem?_drop] at hk;exact hk
   have:=hc (i+k) x j u hk' hj;rw[show off+i*L.m+k*L.m+j=off+(i+k)*L.m+j by rw[Nat.add_mul];omega];exact this
open Go.RowKit Go.Shelf
def bytes (l:List UInt8):ByteArray:=⟨l.toArray⟩
theorem JQ {w w':World} (h:Kept w w') {a:Addr} (ha:w.heap.size≤a.block) (v:Value):Kept w (w'.setCell a v):=Below.setCell h ha v
attribute [local go_sem] Oper.semAt_some
structure St (b2 D:Nat) (W W':World):Prop where
 os:W'.os=W.os
 tape:W'.tape=W.tape
 output:W'.output=W.output
 size:W.heap.size≤W'.heap.size
 block:∀b,b≠b2→b≠D→b≠D+1→W'.heap[b]?=W.heap[b]?
theorem St.setCell {b2 D:Nat} (W:World) (v:Value):St b2 D W (W.setCell ⟨b2,0,none⟩ v) :=
 ⟨rfl,rfl,rfl,by show W.heap.size≤(W.heap.modify _ _).size;rw[Array.size_modify];exact Nat.le_refl _,fun b h _ _=>Below.heap_setCell W ⟨b2,0,none⟩ v b h⟩
theorem St.drewN {b2 D:Nat} (W:World) (n:Nat):St b2 D W (W.drewN n):=⟨rfl,rfl,rfl,Nat.le_refl _,fun _ _ _ _=>rfl⟩
theorem St.put {b2 D:Nat} (W:World) (o:Obj):St b2 D W (W.putObj (D+1) o):=⟨rfl,rfl,rfl,by simp,fun b _ _ h=>World.putObj_heap_other h⟩
def KeptAt (b1 b2 b3 D:Nat) (W W':World):Prop:=∀b,b=b1∨b=b2∨b=b3∨b=D∨b=D+1→W'.heap[b]?=W.heap[b]?
theorem KeptAt.trans {b1 b2 b3 D:Nat} {A B C:World} (h:KeptAt b1 b2 b3 D A B) (k:KeptAt b1 b2 b3 D B C):KeptAt b1 b2 b3 D A C:=fun b hb=>(k b hb).trans (h b hb)
theorem KeptAt.drewN {b1 b2 b3 D:Nat} (W:World) (n:Nat):KeptAt b1 b2 b3 D W (W.drewN n):=fun _ _=>rfl
end Go.Proofs.YtibepooajeakfaaGreat
namespace Go.Proofs.YtibepooajeakfaaGreat
open Go.RowKit Go.Shelf
attribute [local go_sem] Oper.semAt_some
theorem Own.row {α:Type} {L:Lay α} {e:TypeId} {w:World} {B n:Nat} {v:Value} {l:List α} (h:Own L e w B v l) (hn:l.length=n):w.ownsRow B e L.m v n (je L l):=hn▸h.1
def jcU {α:Type} (L:Lay α) (e:TypeId) (r:Int×List α) (base:Nat) (w:World) (en:Ending) (w':World):Prop :=
 (r.1=0→∃v,en=.returned v∧Own L e w' base v r.2)∧(r.1≠0→en=.panicked [zw r.1])∧Below base w w'
theorem jcU.good {α:Type} {L:Lay α} {e:TypeId} {r:Int×List α} {base:Nat} {w w':World} {v:Value} (h:r.1=0) (ho:Own L e w' base v r.2) (hb:Below base w w'):jcU L e r base w (.returned v) w':=⟨fun _=>⟨v,rfl,ho⟩,fun g=>absurd h g,hb⟩
theorem jcU.bad {α:Type} {L:Lay α} {e:TypeId} {r:Int×List α} {base:Nat} {w w':World} {c:Int} (h:r.1=c) (hc:c≠0) (hb:Below base w w'):jcU L e r base w (.panicked [zw c]) w':=⟨fun g=>absurd (h.symm.trans g) hc,fun _=>by rw[h],hb⟩
end Go.Proofs.YtibepooajeakfaaGreat
namespace Go.Proofs.YtibepooajeakfaaGreat.Vec
open Go.RowKit
def nameOf (p:List UInt8):List UInt8:=(Lib.cut p [61]).1
def jjU (p:List UInt8):List UInt8:=(Lib.cut p [61]).2.1
end Go.Proofs.YtibepooajeakfaaGreat.Vec
namespace Go.Proofs.YtibepooajeakfaaGreat.Vec
open Go.RowKit Go.Shelf
attribute [local go_sem] Oper.semAt_some
theorem jT.put {e:TypeId} {w:World} {B D:Nat} {v:Value} {l:V} (h:jT e w B v l) (hD:D<B) (o:Obj):jT e (w.putObj D o) B v l:=by
 obtain⟨⟨h0,h1⟩,hf⟩:=h;refine⟨⟨h0,h1.imp id ?_⟩,hf⟩;rintro ⟨g,cap,cur,rfl,hbg,hg,rest⟩;exact⟨g,cap,cur,rfl,hbg,(World.putObj_heap_other (by omega)).trans hg,rest⟩
theorem jT.row {e:TypeId} {w:World} {B n:Nat} {v:Value} {l:V} (h:jT e w B v l) (hn:l.length=n):w.ownsRow B e 2 v n (cellsOf l):=hn▸h.1
end Go.Proofs.YtibepooajeakfaaGreat.Vec
namespace Go.Proofs.YtibepooajeakfaaGreat.Vec
open Go.RowKit
theorem jfU (C:Addr) (a:Option Addr) (len cap:Nat) (l:V) (w:World)
 (hk:∀W,Kept w W→Calls Tryz.prog 210 #[.pointer (some C)] W (Chk l (.slice a len cap) W)) :
 Calls Tryz.prog 188 #[.func (.func 210) #[] #[.pointer (some C)]] w (fun e w'=>∃v,e=.returned (.tuple #[v,.int .i64 (jv l)])∧Kept w w'):=by
 have hmf:=hmfL (P:=Tryz.prog);have HK:=lH hk;clear hk;obtain⟨r1,hr1⟩:=eX (jv l)
 rw[hr1];have Nk:=lH hr1;clear hr1;go_enter_defers Tryz.func188,Tryz.ntmps188
 go_wp2_with fail
 refine(HK.out _ (ja _ _)).mono ?_;rintro e1 w1 ⟨h0,h1,hb⟩;have k1:=hb.size;simp only[World.size_alloc] at k1;have c2:=(hb.cell (p:=⟨w.heap.size,0,none⟩) (by simp))
 have z2:=(hb.frozen (p:=⟨w.heap.size,0,none⟩) (by simp))
 have e2':w1.cell? ⟨w.heap.size,0,none⟩=some (.int .i64 0):=by rw[c2];go_simp
 have y2:w1.frozen? ⟨w.heap.size,0,none⟩=false:=by rw[z2];go_simp
 clear c2 z2;have KB:=lH (show Below w.heap.size w w1 from(ja w _).trans hb);rw[Nk.out] at h0 h1;by_cases hx:r1=0
 · subst hx;obtain rfl:=h0 rfl;have hsz:=World.size_alloc w (.cells #[.int .i64 0] 69);clear h0 h1 hb;go_wp2_with fail
   refine leaves_cons (f:=218) (args:=#[.pointer (some ⟨w.heap.size,0,none⟩)]) (by simp) (by simp[go_sem]) ?_;refine(Yq ⟨w.heap.size,0,none⟩ _).mono ?_;rintro e u' w'' ⟨rfl,rfl,rfl⟩;simp[Leaves,settle,results,Tryz.results188,go_sem,e2'];exact KB.out.setCell (p:=⟨w.heap.size,0,none⟩) (Nat.le_refl _) _
 · obtain rfl:=h1 hx;clear h0 h1 hb;go_wp2_with fail
   refine leaves_cons (f:=218) (args:=#[.pointer (some ⟨w.heap.size,0,none⟩)]) (by simp) (by simp[go_sem]) ?_;refine(JZ w.heap.size w.heap.size r1 0 _ e2' y2 (by omega)).mono ?_;rintro e u' w'' ⟨rfl,rfl,q2,q3⟩;simp[Leaves,settle,results,Tryz.results188,go_sem,q2];exact KB.out.trans q3
theorem jeK (C:Addr) (a:Option Addr) (len cap:Nat) (l:V) (w:World) (h1:w.cell? C=some (.slice a len cap)) (hr:jw w a len l) :
 Calls Tryz.prog 210 #[.pointer (some C)] w (Chk l (.slice a len cap) w):=by
 have HR:=lH hr;clear hr;go_enter Tryz.func210,Tryz.ntmps210;go_wp2_with fail
 refine(zZ a len cap l _ HR.out).mono ?_;rintro e w' ⟨g0,g1,k⟩;by_cases hx:jv l=0
 · obtain rfl:=g0 hx;have HX:=lH hx;have HK:=lH k;clear g0 g1 hx k;go_wp2;go_ret;exact Chk.good HX.out HK.out
 · obtain rfl:=g1 hx;have HX:=lH hx;have HK:=lH k;clear g0 g1 hx k;go_wp2;exact⟨rfl,Chk.bad rfl HX.out HK.out⟩
theorem ja0 (a:Option Addr) (len cap:Nat) (l:V) (w:World) (hr:jw w a len l) :
 Calls Tryz.prog 175 #[.slice a len cap] w fun e w'=>e=.returned (.int .i64 (jv l))∧Kept w w':=by
 have hmf:=hmfL (P:=Tryz.prog);have hC:∀W,Kept (w.alloc (.cells #[.slice a len cap] 45)) W→Calls Tryz.prog 210 #[.pointer (some ⟨w.heap.size,0,none⟩)] W (Chk l (.slice a len cap) W):=by
  intro W k;have c1:=k.cell (p:=⟨w.heap.size,0,none⟩) (by simp);exact jeK ⟨w.heap.size,0,none⟩ a len cap l W (by rw[c1];go_simp) (hr.kept ((ja w _).trans k))
 have HC:=lH hC;clear hC hr;go_enter Tryz.func175,Tryz.ntmps175;go_wp2_with fail
 refine(jfU ⟨w.heap.size,0,none⟩ a len cap l _ HC.out).mono ?_;rintro e w' ⟨v,rfl,k⟩;have HK:=lH k;clear k;go_wp2;go_ret;exact⟨rfl,(ja w _).trans HK.out⟩
open Go.RowKit Go.Shelf
def jcR (b:Nat) (w w':World):Prop:=∀g cs fr,g≠b→w.heap[g]?=some (.cells cs 114 fr)→w'.heap[g]?=w.heap[g]?
theorem jcR.trans {b:Nat} {x y z:World} (h:jcR b x y) (k:jcR b y z):jcR b x z:=fun g cs fr hg hc=>(k g cs fr hg ((h g cs fr hg hc).trans hc)).trans (h g cs fr hg hc)
theorem Reads.nil (w:World):Reads w (.slice none 0 0) []:=⟨none,0,rfl,Nat.le_refl _,by decide,jw.nil w⟩
theorem jbf {v:Value} {l:V} {c:Int} {w:World} (h:Reads w v l) (e:jv l=c) :
 Calls Tryz.prog 175 #[v] w fun x w'=>x=.returned (.int .i64 c)∧Kept w w':=by
 subst e;obtain⟨a,cap,rfl,h1,h2,h3⟩:=h;exact ja0 a _ cap l w h3
theorem Zv {v:Value} {l:V} {c:Int} {w:World} (h:Reads w v l) (e:jv l=c) :
 Calls Tryz.prog 159 #[v] w fun x w'=>x=.returned (.int .i64 c)∧Kept w w':=by
 subst e;obtain⟨a,cap,rfl,h1,h2,h3⟩:=h;exact YX a _ cap l w h3
theorem jga {v:Value} {l:V} {n:ByteArray} {c:Int} {w:World} (h:Reads w v l) (e:jh l n=c) :
 Calls Tryz.prog 147 #[v,.string n] w fun x w'=>x=.returned (.int .i64 c)∧Kept w w':=by
 subst e;obtain⟨a,cap,rfl,h1,h2,h3⟩:=h;exact XD a _ cap l n w h3
theorem Yc {v v':Value} {l l':V} {c:Bool} {w:World} (h:Reads w v l) (h':Reads w v' l') (e:jY l l'=c) :
 Calls Tryz.prog 98 #[v,v'] w fun x w'=>x=.returned (.bool c)∧Kept w w':=by
 subst e;obtain⟨a,cap,rfl,h1,h2,h3⟩:=h;obtain⟨a',cap',rfl,h1',h2',h3'⟩:=h';exact jmn a a' _ cap _ cap' l l' w h3 h3'
theorem jjg {v v':Value} {l l':V} {c:Bool} {w:World} (h:Reads w v l) (h':Reads w v' l') (e:jB l' l=c) :
 Calls Tryz.prog 95 #[v,v'] w fun x w'=>x=.returned (.bool c)∧Kept w w':=by
 subst e;obtain⟨a,cap,rfl,h1,h2,h3⟩:=h;obtain⟨a',cap',rfl,h1',h2',h3'⟩:=h';exact jch a a' _ cap _ cap' l l' w h3 h3'
theorem qE {n:ByteArray} {c:Bool} {w:World} (h:n.size≤maxLen) (e:isName n=c) :
 Calls Tryz.prog 174 #[.string n] w fun x w'=>x=.returned (.bool c)∧w=w':=by
 subst e;exact zg n w h
theorem jfm {v:Value} {l:V} {c:Bool} {w:World} (h:Reads w v l) (e:YM l=c) :
 Calls Tryz.prog 108 #[v] w fun x w'=>x=.returned (.bool c)∧w=w':=by
 subst e;obtain⟨a,cap,rfl,h1,h2,h3⟩:=h;exact jds a _ cap l w h3
def cpu:ByteArray:=⟨#[99,112,117]⟩
def mem:ByteArray:=⟨#[109,101,109]⟩
def kA:V:=[(cpu,100),(mem,5)]
theorem jhI:(Tryz.prog.info? 138).map (fun i=>(i.zero,i.size,i.bytes))=some (some (.agg #[.string ByteArray.empty,.int .i64 0]),2,24):=by kernel_rfl
theorem jd1 {l:V} {k:Nat} (h:k<l.length):l.take (k+1)=l.take k++[(nm l k,qn l k)]:=by
 rw[List.take_add_one];congr 1;have:l.getD k (ByteArray.empty,0)=l[k]:=by simp[List.getD,h]
 have e:(nm l k,qn l k)=l[k]:=by simp only[nm,qn,this]
 rw[e];simp[h]
theorem jgm (a:Option Addr) (len cap:Nat) (l:V) (w:World) (hr:jw w a len l) (hlen:len≤1000000) :
 Calls Tryz.prog 35 #[.slice a len cap] w (fun e w'=>∃x,e=.returned x∧jT 138 w' w.heap.size x l∧Kept w w'):=by
 have hl:=hr.1;obtain⟨i0,hi,hz0,hz1,hz2⟩:=info_parts jhI;rcases hr.form with h0 | ⟨b,off,rfl⟩
 · subst h0;have hl0:l=[]:=List.eq_nil_of_length_eq_zero hl;subst hl0;clear hr hl hi hz0 hz1 hz2;go_enter Tryz.func35,Tryz.ntmps35;go_wp2;refine wp_loop_rounds 1 ?_;rw[rounds_succ];go_wp2;go_ret;exact⟨_,rfl,jT.nil _ _ _,Kept.refl _⟩
 · obtain⟨HR,HL,HF⟩:=lH3 hr hl hr.2.2.1;clear hr hl;go_enter Tryz.func35,Tryz.ntmps35;go_wp2;go_loopw [3,4] (fun v i wr=>∃k:Nat,k≤len∧i=.int .i64 k∧jT 138 wr w.heap.size v (l.take k)∧Below w.heap.size w wr) (fun _ i _=>len-(intOf i).toNat)
   case atStart=>exact⟨0,Nat.zero_le _,rfl,jT.nil _ _ _,Below.refl _ _⟩
   case round =>
    obtain⟨k,hk,rfl,ho,hB⟩:=hrel;obtain⟨HO,HB,HT⟩:=lH3 ho hB (show (l.take k).length=k by rw[List.length_take,HL.out];omega);have Vk:=lH (show wr.ownsRow w.heap.size 138 2 u3 k (cellsOf (l.take k)) by have:=HO.out.1;rw[HT.out] at this;exact this);by_cases hlt:k<len
    · obtain⟨hb,c1,c2⟩:=(HR.out.kept hB).cells hlt;have HI:=lH (show k<l.length by rw[HL.out];exact hlt);have hbw:b<w.heap.size:=(HR.out.cells hlt).1;have hbase:w.heap.size≤wr.heap.size:=hB.size;have V0:=lH (show u3.ownBlock≠some b by
       intro e;have:=(Vk.out.lt b e).1;omega)
      have VL:=lH (show w.heap.size≤(wr.alloc (.cells #[.string (nm l k),.int .i64 (qn l k)] 138)).drew.heap.size by simp;omega);have UJ:=lH (show Below w.heap.size w ((wr.alloc (.cells #[.string (nm l k),.int .i64 (qn l k)] 138)).drew) from HB.out.trans (Below.mono ((ja wr _).trans (Kept.drewN _ 1)) hbase));have hk1:(k:Int)<(len:Int):=by omega
      have Ur:=lH (HF.out k HI.out);clear ho hB;go_wp2_with fail
      go_region_held3 (fun W=>W.cell? ⟨b,off+k*2,none⟩=some (.string (nm l k))∧W.cell? ⟨b,off+k*2+1,none⟩=some (.int .i64 (qn l k)))
       (first
         | go_keep
         | (go_split_ands
            refine⟨?_,?_⟩
            · (refine(hgrow.cell_far ⟨b,off+k*2,none⟩ (by simp;omega) (Ne.symm V0.out)).trans ?_;assumption)
            · (refine(hgrow.cell_far ⟨b,off+k*2+1,none⟩ (by simp;omega) (Ne.symm V0.out)).trans ?_;assumption)))
       ((refine step_append_lies _ (by rfl) _ _ _ (by rfl) w.heap.size 138 i0 _ 2 24 Tryz.underlying37 hi hz0 hz1 hz2 rfl (by decide) u3 k (cellsOf (l.take k)) (by rfl) ((Vk.out.alloc _).drew)
          ⟨wr.heap.size,0,none⟩ 1 1 [.string (nm l k),.int .i64 (qn l k)] (by rfl) (by rfl) (World.news_of_block (cs:=#[.string (nm l k),.int .i64 (qn l k)]) (t:=138) (fr:=(0,0)) (heap_alloc_new wr _)) (Yo [(nm l k,qn l k)])
          (by decide) (by unfold maxLen;omega) (by omega) (by simp;omega) (wr.heap.size+1) (by simp) ?_;intro gg cap1 w1 hown1 hgrow hat hlt1))
      all_goals
       go_wp2;go_roundw
       case rel=>exact⟨k+1,by omega,by go_num,⟨by rw[jd1 HI.out,Yh,List.length_append,HT.out];exact hown1,by rw[jd1 HI.out];exact HO.out.2.snoc Ur.out.1 Ur.out.2.1 Ur.out.2.2⟩,UJ.out.grown hgrow VL.out (fun j hj=>(Vk.out.lt j hj).1)⟩
       case measure=>simp[intOf];omega
    · have HK:=lH (show l.take k=l by rw[List.take_of_length_le (by rw[HL.out];omega)]);clear ho hB;go_wp2;go_ret;exact⟨_,rfl,by have h:=HO.out;rw[HK.out] at h;exact h,HB.out⟩
theorem jbE:∀s:List UInt8,Op.bytesLess s s=false
 | []=>rfl
 | a::s=>by
  have:¬a<a:=UInt8.lt_irrefl a;simp[Op.bytesLess,jbE s,this]
theorem jcC:∀{a b c:List UInt8},Op.bytesLess a b=true→Op.bytesLess b c=true→Op.bytesLess a c=true
 | _,_,[],_,h=>by simp[Op.bytesLess] at h
 | [],_,_::_,_,_=>by simp[Op.bytesLess]
 | x::a,[],z::c,h,_=>by simp[Op.bytesLess] at h
 | x::a,y::b,z::c,h,g=>by
  simp only[Op.bytesLess,Bool.or_eq_true,Bool.and_eq_true,decide_eq_true_eq,beq_iff_eq] at h g ⊢;rcases h with h | ⟨rfl,h⟩
  · rcases g with g | ⟨rfl,g⟩
    · exact .inl (UInt8.lt_trans h g)
    · exact .inl h
  · rcases g with g | ⟨rfl,g⟩
    · exact .inl g
    · exact .inr ⟨rfl,jcC h g⟩
theorem je1:∀{a b:List UInt8},Op.bytesLess a b=false→Op.bytesLess b a=false→a=b
 | [],[],_,_=>rfl
 | [],_::_,h,_=>by simp[Op.bytesLess] at h
 | _::_,[],_,h=>by simp[Op.bytesLess] at h
 | x::a,y::b,h,g=>by
  simp only[Op.bytesLess,Bool.or_eq_false_iff,decide_eq_false_iff_not,Bool.and_eq_false_iff,beq_eq_false_iff_ne] at h g;have e:x=y:=by
   have h1:=UInt8.not_lt.1 h.1;have h2:=UInt8.not_lt.1 g.1;exact UInt8.le_antisymm h2 h1
  subst e;have h2:=h.2.resolve_left (by simp);have g2:=g.2.resolve_left (by simp);rw[je1 h2 g2]
theorem jit (s t:ByteArray):ltS s t=Op.bytesLess s.data.toList t.data.toList:=by unfold ltS;rw[Lib.toList_data,Lib.toList_data]
theorem jR {s t:ByteArray}:eqS s t=true↔s=t:=by
 unfold eqS;rw[Lib.toList_data,Lib.toList_data,beq_iff_eq];exact⟨fun h=>Go.WideShapes.bytes_inj h,fun h=>by rw[h]⟩
theorem YP (s:ByteArray):ltS s s=false:=by rw[jit];exact jbE _
theorem Ja {s t u:ByteArray} (h:ltS s t=true) (g:ltS t u=true):ltS s u=true:=by
 rw[jit] at *;exact jcC h g
theorem Y5 {s t:ByteArray} (h:ltS s t=false) (g:ltS t s=false):s=t:=by
 rw[jit] at *;exact Go.WideShapes.bytes_inj (je1 h g)
theorem Yi {s t:ByteArray} (h:ltS s t=true):s≠t:=by rintro rfl;rw[YP] at h;cases h
theorem jba {s t:ByteArray} (h:ltS s t=true) (g:ltS t s=true):False:=Yi (Ja h g) rfl
def Gd (l:V):Prop:=(∀x ∈ l,isName x.1=true∧0<x.2∧x.2≤9223372036854775807)∧l.Pairwise (fun x y=>ltS x.1 y.1=true)
theorem Gd.nil:Gd []:=⟨fun x hx=>absurd hx (by simp),.nil⟩
theorem Gd.cons {x:ByteArray×Int} {t:V}:Gd (x::t)↔(isName x.1=true∧0<x.2∧x.2≤9223372036854775807)∧(∀y ∈ t,ltS x.1 y.1=true)∧Gd t:=by
 unfold Gd;rw[List.pairwise_cons,List.forall_mem_cons];constructor
 · rintro ⟨⟨a,b⟩,c,d⟩;exact⟨a,c,b,d⟩
 · rintro ⟨a,c,b,d⟩;exact⟨⟨a,b⟩,c,d⟩
theorem Jr (x:ByteArray×Int) (t:V):jh (x::t) x.1=x.2:=by rw[jh,if_pos (jR.2 rfl)]
theorem JB {x:ByteArray×Int} {n:ByteArray} (t:V) (h:x.1≠n):jh (x::t) n=jh t n:=by rw[jh,if_neg (fun e=>h (jR.1 e))]
theorem XP:∀{l:V} {n:ByteArray},(∀y ∈ l,y.1≠n)→jh l n=0
 | [],_,_=>rfl
 | x::t,n,h=>by rw[JB t (h x (by simp))];exact XP fun y hy=>h y (by simp[hy])
theorem get_mem:∀{l:V} {n:ByteArray},jh l n≠0→∃y ∈ l,y.1=n
 | [],_,h=>absurd rfl h
 | x::t,n,h=>by
  by_cases e:x.1=n
  · exact⟨x,by simp,e⟩
  · rw[JB t e] at h;obtain⟨y,hy,hn⟩:=get_mem h;exact⟨y,by simp[hy],hn⟩
theorem Jy:∀{l:V} (n:ByteArray),Gd l→0≤jh l n∧jh l n≤9223372036854775807
 | [],_,_=>⟨Int.le_refl _,(by decide:(0:Int)≤9223372036854775807)⟩
 | x::t,n,h=>by
  have h':=Gd.cons.1 h;by_cases e:x.1=n
  · subst e;rw[Jr];omega
  · rw[JB t e];exact Jy n h'.2.2
theorem jcA:∀{l:V} {x:ByteArray×Int},Gd l→x ∈ l→jh l x.1=x.2
 | [],_,_,h=>absurd h (by simp)
 | y::t,x,h,hx=>by
  have h':=Gd.cons.1 h;rcases List.mem_cons.1 hx with rfl | hx
  · exact Jr _ _
  · rw[JB t (Yi (h'.2.1 x hx))];exact jcA h'.2.2 hx
theorem Zg {l:V} {n:ByteArray} (h:∀y ∈ l,ltS n y.1=true):jh l n=0:=XP fun y hy=>(Yi (h y hy)).symm
theorem Gd.ext:∀{a b:V},Gd a→Gd b→(∀n,jh a n=jh b n)→a=b
 | [],[],_,_,_=>rfl
 | [],y::t,_,hb,h=>by
  have:=h y.1;rw[Jr] at this;have:=(Gd.cons.1 hb).1;rw[show jh [] y.1=0 from rfl] at *;omega
 | x::s,[],ha,_,h=>by
  have:=h x.1;rw[Jr] at this;have:=(Gd.cons.1 ha).1;rw[show jh [] x.1=0 from rfl] at *;omega
 | x::s,y::t,ha,hb,h=>by
  have ha':=Gd.cons.1 ha;have hb':=Gd.cons.1 hb;have e1:ltS x.1 y.1=false:=by
   cases e:ltS x.1 y.1 with
   | false=>rfl
   | true =>
    have hx:=h x.1;rw[Jr,Zg (l:=y::t) (fun z hz=>by
     rcases List.mem_cons.1 hz with rfl | hz
     · exact e
     · exact Ja e (hb'.2.1 z hz))] at hx
    omega
  have e2:ltS y.1 x.1=false:=by
   cases e:ltS y.1 x.1 with
   | false=>rfl
   | true =>
    have hx:=h y.1;rw[Jr,Zg (l:=x::s) (fun z hz=>by
     rcases List.mem_cons.1 hz with rfl | hz
     · exact e
     · exact Ja e (ha'.2.1 z hz))] at hx
    omega
  have e:=Y5 e1 e2;have hv:x.2=y.2:=by have:=h x.1;rw[Jr,e,Jr] at this;exact this
  have ht:s=t:=Gd.ext ha'.2.2 hb'.2.2 fun n=>by
   by_cases en:x.1=n
   · rw[Zg (fun z hz=>en▸ha'.2.1 z hz),Zg (fun z hz=>en▸e▸hb'.2.1 z hz)]
   · have:=h n;rw[JB s en,JB t (by rw[←e];exact en)] at this;exact this
  obtain⟨x1,x2⟩:=x;obtain⟨y1,y2⟩:=y
  cases e;cases hv;rw[ht]
theorem Gd.len:∀{b r:V},Gd r→Gd b→(∀n,jh r n≠0→jh b n≠0)→r.length≤b.length
 | [],[],_,_,_=>Nat.le_refl _
 | [],x::s,hr,_,h=>by
  have:=h x.1;rw[Jr] at this;have h1:=(Gd.cons.1 hr).1;exact absurd rfl (this (by omega))
 | y::t,[],_,_,_=>Nat.zero_le _
 | y::t,x::s,hr,hb,h=>by
  have hr':=Gd.cons.1 hr;have hb':=Gd.cons.1 hb;have:s.length≤t.length:=Gd.len hr'.2.2 hb'.2.2 fun n hn=>by
   obtain⟨z,hz,rfl⟩:=get_mem hn;have hlt:=hr'.2.1 z hz;have hb2:=h z.1 (by rw[JB s (Yi hlt)];exact hn);by_cases e:y.1=z.1
   · obtain⟨u,hu,hux⟩:=get_mem (h x.1 (by rw[Jr];omega));rcases List.mem_cons.1 hu with rfl | hu
     · rw[←hux,e,YP] at hlt;cases hlt
     · have:=hb'.2.1 u hu;rw[hux,e] at this;exact(jba hlt this).elim
   · rw[JB t e] at hb2;exact hb2
  simp only[List.length_cons];omega
theorem X0 {s t:ByteArray} (h:leS s t=false):ltS t s=true:=by
 unfold leS at h;rw[Bool.or_eq_false_iff] at h
 cases e:ltS t s with
 | true=>rfl
 | false=>rw[Y5 h.1 e,jR.2 rfl] at h;cases h.2
theorem jbk {s t:ByteArray} (h:ltS t s=true):leS s t=false:=by
 unfold leS;rw[Bool.or_eq_false_iff];refine⟨?_,?_⟩
 · cases e:ltS s t with
   | false=>rfl
   | true=>exact(jba h e).elim
 · cases e:eqS s t with
   | false=>rfl
   | true=>exact absurd (jR.1 e).symm (Yi h)
theorem YY {l:V} (h:jv l=0) (hf:Js l):Gd l:=by
 have h2:jQ none l=0:=by
  unfold jv at h;split at h
  · cases h
  · exact h
 have key:∀(l:V) (p:Option ByteArray),jQ p l=0→Js l→Gd l∧(∀x,p=some x→∀y ∈ l,ltS x y.1=true):=by
  intro l
  induction l with
  | nil=>intro p _ _;exact⟨Gd.nil,fun _ _ y hy=>absurd hy (by simp)⟩
  | cons x t ih =>
   intro p hc hf;rw[Js.cons] at hf;unfold jQ at hc;split at hc
   · cases hc
   · rename_i n1;split at hc
     · cases hc
     · rename_i n2;split at hc
       · cases hc
       · rename_i n3;obtain⟨hg,hall⟩:=ih _ hc hf.2;have hx:=hall x.1 rfl;refine⟨Gd.cons.2 ⟨⟨by simpa using n1,by omega,hf.1.2.2⟩,hx,hg⟩,?_⟩;rintro q rfl y hy;have hq:ltS q x.1=true:=X0 (by simpa [jK] using n3);rcases List.mem_cons.1 hy with rfl | hy
         · exact hq
         · exact Ja hq (hx y hy)
 exact(key l none h2 hf).1
theorem jcV {l:V} (h:Gd l) (hl:l.length≤8):jv l=0:=by
 have key:∀(l:V) (p:Option ByteArray),Gd l→(∀x,p=some x→∀y ∈ l,ltS x y.1=true)→jQ p l=0:=by
  intro l
  induction l with
  | nil=>intro p _ _;cases p<;>rfl
  | cons x t ih =>
   intro p hg hp;have hg':=Gd.cons.1 hg;rw[jQ,if_neg (by rw[hg'.1.1];decide),if_neg (by omega),if_neg]
   · exact ih _ hg'.2.2 fun q e y hy=>by cases e;exact hg'.2.1 y hy
   · cases p with
     | none=>simp[jK]
     | some q=>rw[show jK (some q) x.1=leS x.1 q from rfl,jbk (hp q rfl x (by simp))];decide
 unfold jv;rw[if_neg (by omega)];exact key l none h (fun _ e=>by cases e)
end Go.Proofs.YtibepooajeakfaaGreat.Vec
