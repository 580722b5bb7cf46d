/- C. -/
import Derived.Test.YtabafpoklpiiiaaGreatG0
import Derived.Lib.AtoiErrMem
import Derived.Shelf.Strings.BuilderX
import Derived.Lib.ItoaLen
import Derived.Lib.SmallJoins
import Derived.StillTailTactics
import Derived.Test.YtabafpoklpiiiaaGreatRows
import Derived.Stop.LaidErr
import Derived.Stop.Joined
import Derived.Shelf.Vars
import Derived.MakeChecks
import Derived.Handy
import Derived.Deep.CutRange
import Derived.Deep.AppendSrc
import Derived.Deep.DeepAppendWide
set_option linter.unusedVariables false
set_option maxRecDepth 100000
set_option maxHeartbeats 25600000
namespace Go.Proofs.YtabafpoklpiiiaaGreat.Vec
open Go.RowKit
def jB (x y:Int):Int×Int:=if x+y≤9223372036854775807 then (x+y,0) else (0,5)
def jO (x y:Int):Int×Int:=if y≤x then (x-y,0) else (0,5)
theorem jci {x y:Int} (h:0≤x∧x≤9223372036854775807) (g:0≤y∧y≤9223372036854775807):0≤(jB x y).1∧(jB x y).1≤9223372036854775807:=by
 unfold jB;split
 · dsimp only;omega
 · decide
theorem jcn {x y:Int} (h:0≤x∧x≤9223372036854775807) (g:0≤y∧y≤9223372036854775807):0≤(jO x y).1∧(jO x y).1≤9223372036854775807:=by
 unfold jO;split
 · dsimp only;omega
 · decide
def ZL (acc:V) (s:ByteArray) (n:Int):V:=if n=0 then acc else acc++[(s,n)]
def jH (f:Int→Int→Int×Int):Nat→V→V→V→Int×V
 | 0,_,_,acc=>(0,acc)
 | fuel+1,la,lb,acc =>
  if la.length+lb.length=0 then (0,acc)
  else
   let s:=jh la lb
   let r:=f (jj la s).1 (jj lb s).1
   if r.2≠0 then (r.2,[]) else jH f fuel (jj la s).2 (jj lb s).2 (ZL acc s r.1)
def jg (f:Int→Int→Int×Int) (l l':V):Int×V :=
 if jE l≠0 then (jE l,[])
 else if jE l'≠0 then (jE l',[])
 else
  let r:=jH f (l.length+l'.length) l l' []
  if r.1≠0 then (r.1,[]) else if 8<r.2.length then (4,[]) else (0,r.2)
theorem Xp {f:Int→Int→Int×Int} {fuel:Nat} {la lb acc:V} (h:la.length+lb.length=0):jH f fuel la lb acc=(0,acc):=by
 cases fuel with
 | zero=>rfl
 | succ n=>rw[jH,if_pos h]
theorem jaw {f:Int→Int→Int×Int} {fuel:Nat} {la lb acc:V} (h:0<la.length+lb.length) (hf:la.length+lb.length≤fuel)
 (hx:(f (jj la (jh la lb)).1 (jj lb (jh la lb)).1).2≠0):jH f fuel la lb acc=((f (jj la (jh la lb)).1 (jj lb (jh la lb)).1).2,[]):=by
 cases fuel with
 | zero=>omega
 | succ n=>rw[jH,if_neg (by omega)];dsimp only;rw[if_pos hx]
theorem qd {f:Int→Int→Int×Int} {fuel:Nat} {la lb acc:V} (h:0<la.length+lb.length) (hf:la.length+lb.length≤fuel)
 (hx:(f (jj la (jh la lb)).1 (jj lb (jh la lb)).1).2=0) :
 ∃fuel',fuel=fuel'+1∧jH f fuel la lb acc=jH f fuel' (jj la (jh la lb)).2 (jj lb (jh la lb)).2 (ZL acc (jh la lb) (f (jj la (jh la lb)).1 (jj lb (jh la lb)).1).1):=by
 cases fuel with
 | zero=>omega
 | succ n=>exact⟨n,rfl,by rw[jH,if_neg (by omega)];dsimp only;rw[if_neg (by rw[hx];decide)]⟩
theorem Jz (s:ByteArray):eqS s s=true:=by unfold eqS;exact beq_self_eq_true _
theorem ZK (x:ByteArray×Int) (t:V) (n:ByteArray):jj (x::t) n=if eqS x.1 n=true then (x.2,t) else (0,x::t):=rfl
theorem Y3 (x y:ByteArray×Int) (s t:V):jh (x::s) (y::t)=if ltS y.1 x.1=true then y.1 else x.1:=rfl
theorem ja5 (l:V) (s:ByteArray):(jj l s).2.length≤l.length:=by
 cases l with
 | nil=>exact Nat.le_refl _
 | cons x t=>rw[ZK];split<;>simp
theorem YO {x:ByteArray×Int} (t:V):(jj (x::t) x.1).2.length=t.length:=by
 rw[ZK,if_pos (Jz _)]
theorem YW {la lb:V} (h:0<la.length+lb.length):(jj la (jh la lb)).2.length+(jj lb (jh la lb)).2.length+1≤la.length+lb.length:=by
 cases la with
 | nil =>
  cases lb with
  | nil=>simp at h
  | cons y t =>
   have e:jh [] (y::t)=y.1:=rfl;rw[e,YO t];simp[jj]
 | cons x s =>
  cases lb with
  | nil =>
   have e:jh (x::s) []=x.1:=rfl;rw[e,YO s];simp[jj]
  | cons y t =>
   by_cases hlt:ltS y.1 x.1=true
   · have e:jh (x::s) (y::t)=y.1:=by rw[jh,if_pos hlt]
     have:=ja5 (x::s) y.1;rw[e,YO t];simp only[List.length_cons] at *;omega
   · have e:jh (x::s) (y::t)=x.1:=by rw[jh,if_neg hlt]
     have:=ja5 (y::t) x.1;rw[e,YO s];simp only[List.length_cons] at *;omega
def Pos (l:V):Prop:=∀x ∈ l,0≤x.2∧x.2≤9223372036854775807∧x.1.size≤maxLen
theorem Yi {l:V} (h:Pos l) (s:ByteArray):(0≤(jj l s).1∧(jj l s).1≤9223372036854775807)∧Pos (jj l s).2:=by
 cases l with
 | nil=>exact⟨⟨by simp[jj],by simp[jj]⟩,h⟩
 | cons x t =>
  have hx:=h x (by simp);rw[ZK];split
  · exact⟨⟨hx.1,hx.2.1⟩,fun y hy=>h y (by simp[hy])⟩
  · exact⟨⟨Int.le_refl _,by show (0:Int)≤_;omega⟩,h⟩
theorem YY {la lb:V} (ha:Pos la) (hb:Pos lb):(jh la lb).size≤maxLen:=by
 cases la with
 | nil =>
  cases lb with
  | nil=>show 0≤maxLen;exact Nat.zero_le _
  | cons y t=>exact(hb y (by simp)).2.2
 | cons x s =>
  cases lb with
  | nil=>exact(ha x (by simp)).2.2
  | cons y t =>
   rw[Y3];split
   · exact(hb y (by simp)).2.2
   · exact(ha x (by simp)).2.2
theorem Yo {l:V} (h:jE l=0) (hf:Jd l):Pos l:=by
 have h2:jF none l=0:=by
  unfold jE at h;split at h
  · cases h
  · exact h
 have key:∀(l:V) (p:Option ByteArray),jF p l=0→Jd l→Pos l:=by
  intro l
  induction l with
  | nil=>intro _ _ _ x hx;cases hx
  | cons x t ih =>
   intro p hc hf;rw[Jd.cons] at hf;unfold jF at hc;split at hc
   · cases hc
   · split at hc
     · cases hc
     · split at hc
       · cases hc
       · intro y hy;rcases List.mem_cons.1 hy with rfl | hy
         · exact⟨by omega,hf.1.2.2,hf.1.1⟩
         · exact ih _ hc hf.2 y hy
 exact key l none h2 hf
theorem Yj {l:V} (h:jE l=0):l.length≤8:=by
 unfold jE at h;split at h
 · cases h
 · omega
def lenOf:Value→Nat
 | .slice _ n _=>n
 | _=>0
def jS (r:Int×V) (base:Nat) (w:World) (e:Ending) (w':World):Prop :=
 (r.1=0→∃v,e=.returned v∧jP 88 w' base v r.2)∧(r.1≠0→e=.panicked [jV r.1])∧Below base w w'
theorem jS.good {r:Int×V} {base:Nat} {w w':World} {v:Value} (h:r.1=0) (ho:jP 88 w' base v r.2) (hb:Below base w w'):jS r base w (.returned v) w':=⟨fun _=>⟨v,rfl,ho⟩,fun g=>absurd h g,hb⟩
theorem jS.bad {r:Int×V} {base:Nat} {w w':World} {c:Int} (h:r.1=c) (hc:c≠0) (hb:Below base w w'):jS r base w (.panicked [jV c]) w':=⟨fun g=>absurd (h.symm.trans g) hc,fun _=>by rw[h],hb⟩
theorem J6 (B:Nat) (q:Nat) (x y:Int) (w:World) (hq:w.cell? ⟨q,0,none⟩=some (.int .i64 y)) (hzq:w.frozen? ⟨q,0,none⟩=false) (hBq:B≤q) :
 CallsD Tryz.prog 231 #[.pointer (some ⟨q,0,none⟩)] (.panicking [jV x]) w fun e u' w' =>
  e=.returned (.tuple #[])∧u'=.panicking [{ jV x with recovered:=true }]∧w'.cell? ⟨q,0,none⟩=some (.int .i64 x)∧Below B w w':=by
 have hta:∀W,(Instr.typeAssert (.iface 53 (.int .i64 x)) 20 53 false).run Tryz.prog W=.ok (.int .i64 x) W:=fun _=>by kernel_rfl
 refine callsD_of_wpS Tryz.func231 rfl fun c₀ cs hu=>?_;apply wpS_seq;apply wpS_region;simp[wpOpsS,go_sem,recoverD,hu,Tryz.ntmps231,Exit.thenS];apply wpS_seq;apply wpS_region;simp[wpOpsS,go_sem,recoverD,Exit.thenS];refine wpS_cond (t:=true) (by simp[Act.eval,Array.replicate]) ?_;simp only[if_true];refine wpS_of_wp ?_;simp[Array.replicate];go_wp2;simp[bodyPostS,results,Tryz.results231];exact⟨World.cell?_setCell_same' _ _ _ (by rw[hq];rfl),(Below.refl B w).setCell (p:=⟨q,0,none⟩) hBq _⟩
theorem Yr (q:Addr) (w:World) :
 CallsD Tryz.prog 231 #[.pointer (some q)] .returning w fun e u' w'=>e=.returned (.tuple #[])∧u'=.returning∧w'=w:=by
 refine callsD_of_wpS Tryz.func231 rfl fun c₀ cs hu=>?_;apply wpS_seq;apply wpS_region;simp[wpOpsS,go_sem,recoverD,hu,Tryz.ntmps231,Exit.thenS];apply wpS_seq;apply wpS_region;simp[wpOpsS,go_sem,recoverD,hu,Exit.thenS];refine wpS_cond (t:=false) (by simp[Act.eval,Array.replicate]) ?_;simp only[Bool.false_eq_true,if_false];refine wpS_of_wp (wp_skip ?_)
 cases c₀
 simp_all [bodyPostS,results,Tryz.results231]
theorem jP.base_le {e:TypeId} {w:World} {B B':Nat} {v:Value} {l:V} (h:jP e w B' v l) (hb:B≤B'):jP e w B v l:=by
 obtain⟨⟨h0,h1⟩,hf⟩:=h;refine⟨⟨h0,h1.imp id ?_⟩,hf⟩;rintro ⟨g,cap,cur,rfl,hbg,rest⟩;exact⟨g,cap,cur,rfl,Nat.le_trans hb hbg,rest⟩
theorem jP.setCell_below {e:TypeId} {w:World} {B:Nat} {v:Value} {l:V} (h:jP e w B v l) {a:Addr} (ha:a.block<B) (u:Value):jP e (w.setCell a u) B v l :=
 ⟨ownsRow_setCell_below h.1 ha u,h.2⟩
def ZS (r:Int×V) (w:World) (e:Ending) (w':World):Prop :=
 ∃v,e=.returned (.tuple #[v,.int .i64 r.1])∧jP 88 w' w.heap.size v r.2∧Kept w w'
theorem jgk (x y:Int) (w:World) (h0:0≤x) (h1:x≤9223372036854775807) (h2:0≤y) (h3:y≤9223372036854775807) :
 Calls Tryz.prog 208 #[.int .i64 x,.int .i64 y] w (Ans (jB x y).1 (jB x y).2 w):=by
 by_cases h:x+y≤9223372036854775807
 · have e:jB x y=(x+y,0):=by unfold jB;rw[if_pos h]
   rw[e];exact(jgA x y w h0 h2 h).mono fun _ _ g=>g.ans
 · have e:jB x y=(0,5):=by unfold jB;rw[if_neg h]
   rw[e];exact(jfe x y w h0 h2 h3 (by omega)).mono fun _ _ g=>g.ans
theorem jcU (a a':Option Addr) (len cap len' cap':Nat) (l l':V) (w:World) (hr:js w a len l) (hr':js w a' len' l') (hc:len≤cap) (hm:cap≤maxLen) (hc':len'≤cap') (hm':cap'≤maxLen) :
 Calls Tryz.prog 207 #[.slice a len cap,.slice a' len' cap',.func (.func 208) #[] #[]] w (jS (jg jB l l') w.heap.size w):=by
 by_cases h1:jE l=0
 · by_cases h2:jE l'=0
   · have HL:=lH hr.1;have HL':=lH hr'.1;have P1:=lH (Yo h1 hr.2.2.1);have P2:=lH (Yo h2 hr'.2.2.1);have n8:len≤8:=by have:=Yj h1;rw[hr.1] at this;exact this
     have n8':len'≤8:=by have:=Yj h2;rw[hr'.1] at this;exact this
     obtain⟨R,hR⟩:=eX (jH jB (l.length+l'.length) l l' [])
     have HM:=lH (show jg jB l l'=if R.1≠0 then (R.1,[]) else if 8<R.2.length then (4,[]) else (0,R.2) by
      unfold jg;rw[if_neg (by rw[h1];decide),if_neg (by rw[h2];decide)];dsimp only;rw[hR])
     obtain⟨HR,H1,H2,HA,HB⟩:=lH5 hR h1 h2 hr hr';clear hR h1 h2 hr hr';go_enter Tryz.func207,Tryz.ntmps207;go_wp2_with fail
     refine(zi _ _ _ l _ HA.out).mono ?_;rintro e1 w1 ⟨g1,_,k1⟩;obtain rfl:=g1 H1.out;have K1:=lH k1;clear g1 k1;go_wp2_with fail
     refine(zi _ _ _ l' _ (HB.out.kept K1.out)).mono ?_;rintro e2 w2 ⟨g2,_,k2⟩;obtain rfl:=g2 H2.out;have K2:=lH (K1.out.trans k2);clear g2 k2;go_wp2
     go_loopw [0,1,7] (fun va vb v wr=>∃(A B:Option Addr) (n c n' c':Nat) (la lb acc:V) (fuel:Nat),va=.slice A n c∧vb=.slice B n' c'∧n≤c∧c≤maxLen∧n'≤c'∧c'≤maxLen ∧
      js w A n la∧js w B n' lb∧Pos la∧Pos lb∧jP 88 wr w.heap.size v acc∧Below w.heap.size w wr∧n+n'≤fuel∧jH jB fuel la lb acc=R∧acc.length+n+n'≤16)
      (fun va vb _ _=>lenOf va+lenOf vb)
     case atStart =>
      exact⟨a,a',len,cap,len',cap',l,l',[],l.length+l'.length,rfl,rfl,hc,hm,hc',hm',HA.out,HB.out,P1.out,P2.out,jP.nil _ _ _,K2.out,by rw[HL.out,HL'.out];exact Nat.le_refl _,HR.out,by simp;omega⟩
     case round =>
      obtain⟨A,B,n,c,n',c',la,lb,acc,fuel,rfl,rfl,c1,c2,c3,c4,va1,vb1,pa,pb,ho,hB,hfuel,hres,h16⟩:=hrel;obtain⟨VA,VB,PA,PB,HO,Vb,HQ,LA⟩:=lH8 va1 vb1 pa pb ho hB hres va1.1;have LB:=lH vb1.1;clear va1 vb1 pa pb ho hB hres;by_cases hz:n+n'=0
      · obtain rfl:n=0:=by omega
        obtain rfl:n'=0:=by omega
        clear hz;obtain⟨av,cv,rfl,g1,g2,g3⟩:=HO.out.at_;have HE:=lH (show R=(0,acc) from HQ.out.symm.trans (Xp (by rw[LA.out,LB.out])));have hal:acc.length≤9223372036854775807:=by omega
        clear g3 g1 g2;by_cases h8:acc.length≤8
        · have HF:=lH (show jg jB l l'=(0,acc) by rw[HM.out,HE.out];dsimp only;rw[if_neg (by decide),if_neg (by omega)]);go_wp2_with fail
          refine(Xz _ _ _ _ h8).mono ?_;rintro e3 w3 ⟨rfl,rfl⟩;go_wp2;go_ret;exact jS.good (by rw[HF.out]) (by rw[HF.out];exact HO.out) Vb.out
        · have HF:=lH (show jg jB l l'=(4,[]) by rw[HM.out,HE.out];dsimp only;rw[if_neg (by decide),if_pos (by omega)]);go_wp2_with fail
          refine(XQ _ _ _ _ (by omega) hal).mono ?_;rintro e3 w3 ⟨rfl,rfl⟩;go_wp2;exact⟨rfl,jS.bad (by rw[HF.out]) (by decide) Vb.out⟩
      · have hpos:0<n+n':=by omega
        clear hz;obtain⟨HP,HU,HS,T1,T2⟩:=lH5 (show 0<la.length+lb.length by rw[LA.out,LB.out];exact hpos) (show la.length+lb.length≤fuel by rw[LA.out,LB.out];exact hfuel) (YY PA.out PB.out) (Yi PA.out (jh la lb)) (Yi PB.out (jh la lb));have Vi:=lH (YW HP.out);obtain⟨r1,r2,hr⟩:∃r1 r2,jB (jj la (jh la lb)).1 (jj lb (jh la lb)).1=(r1,r2):=⟨_,_,rfl⟩
        have QF:=lH (show ∀W,Calls Tryz.prog 208 #[.int .i64 (jj la (jh la lb)).1,.int .i64 (jj lb (jh la lb)).1] W (Ans r1 r2 W) from fun W=>by
         have:=jgk _ _ W T1.out.1.1 T1.out.1.2 T2.out.1.1 T2.out.1.2;rw[hr] at this;exact this)
        have V2:=lH hr;have RB:=lH (show 0≤r1∧r1≤9223372036854775807 by have:=jci (T1.out.1) (T2.out.1);rw[hr] at this;exact this);clear hr;have hd:(decide (0<n)||decide (0<n'))=true:=by simp;omega
        rcases Nat.eq_zero_or_pos n with h0 | h0
        case' inl=>(have d2:decide (0<n')=true:=by simp;omega)
        case' inl=>(subst h0)
        case' inr=>(have d1:decide (0<n)=true:=by simp;omega)
        all_goals
         clear hd;go_wp2_with fail
         refine(Xl _ _ _ _ _ _ la lb _ (VA.out.kept Vb.out) (VB.out.kept Vb.out) (by omega)).mono ?_;rintro e3 w3 ⟨rfl,k3⟩;have K3:=lH k3;clear k3;go_wp2_with fail
         refine(Yh _ _ _ la _ _ ((VA.out.kept Vb.out).kept K3.out) c1 c2).mono ?_;rintro e4 w4 ⟨A4,c4',rfl,q1,q2,V4,k4⟩;have K4:=lH (K3.out.trans k4);have U9:=lH V4;clear k4 V4;go_wp2_with fail
         refine(Yh _ _ _ lb _ _ ((VB.out.kept Vb.out).kept K4.out) c3 c4).mono ?_;rintro e5 w5 ⟨A5,c5',rfl,q3,q4,V5,k5⟩;have K5:=lH (K4.out.trans k5);have Ta:=lH V5;clear k5 V5;go_wp2_with fail
         refine(QF.out _).mono ?_;rintro e6 w6 ⟨rfl,k6⟩;have K6:=lH (K5.out.trans k6);clear k6;by_cases hx:r2=0
         · subst hx;go_wp2_with fail
           refine(jbF _ _).mono ?_;rintro e7 w7 ⟨rfl,rfl⟩;obtain⟨fuel',hf1,hf2⟩:=qd (f:=jB) (acc:=acc) HP.out HU.out (by rw[V2.out]);have Tb:=lH hf1;have Tc:=lH hf2;clear hf1 hf2;have Va:=lH (show Below w.heap.size w w6 from Vb.out.trans (Below.mono K6.out Vb.out.size));by_cases hy:r1=0
           · subst hy;go_wp2_with fail
             refine(jax _ _ _).mono ?_;rintro e8 w8 ⟨rfl,rfl⟩;go_wp2;go_roundw
             case rel =>
              refine⟨A4,A5,_,c4',_,c5',_,_,acc,fuel',rfl,rfl,q1,q2,q3,q4,U9.out w VA.out,Ta.out w VB.out,T1.out.2,T2.out.2,HO.out.kept K6.out,Va.out,?_,?_,?_⟩
              · have:=Vi.out;have:=HU.out;have:=Tb.out;omega
              · have:=Tc.out;rw[V2.out] at this;rw[←HQ.out,this];rfl
              · have:=Vi.out;have:=LA.out;have:=LB.out;omega
             case measure=>(show lenOf (Value.slice _ _ _)+lenOf (Value.slice _ _ _)<lenOf (Value.slice _ _ _)+lenOf (Value.slice _ _ _);simp only[lenOf];have:=Vi.out;have:=LA.out;have:=LB.out;omega)
           · go_wp2_with fail
             refine(jav _ _ r1 w.heap.size acc _ (HO.out.kept K6.out) hy HS.out (by have:=RB.out;omega) (by have:=RB.out;omega) (by omega) Va.out.size).mono ?_;rintro e8 w8 ⟨v8,rfl,o8,b8⟩;obtain⟨O8,B8,HY⟩:=lH3 o8 b8 hy;clear o8 b8 hy;go_wp2;go_roundw
             case rel =>
              refine⟨A4,A5,_,c4',_,c5',_,_,_,fuel',rfl,rfl,q1,q2,q3,q4,U9.out w VA.out,Ta.out w VB.out,T1.out.2,T2.out.2,O8.out,Va.out.trans B8.out,?_,?_,?_⟩
              · have:=Vi.out;have:=HU.out;have:=Tb.out;omega
              · have:=Tc.out;rw[V2.out] at this;rw[←HQ.out,this];dsimp only;unfold ZL;rw[if_neg HY.out]
              · have:=Vi.out;have:=LA.out;have:=LB.out;rw[List.length_append];simp only[List.length_cons,List.length_nil];omega
             case measure=>(show lenOf (Value.slice _ _ _)+lenOf (Value.slice _ _ _)<lenOf (Value.slice _ _ _)+lenOf (Value.slice _ _ _);simp only[lenOf];have:=Vi.out;have:=LA.out;have:=LB.out;omega)
         · have HX:=lH hx;have HE:=lH (show jg jB l l'=(r2,[]) by
            rw[HM.out,←HQ.out,jaw HP.out HU.out (by rw[V2.out];exact hx),V2.out];dsimp only;rw[if_pos hx])
           go_wp2_with fail
           refine(jar _ _ _ hx).mono ?_;rintro e7 w7 ⟨rfl,rfl⟩;clear hx;go_wp2;exact⟨rfl,jS.bad (by rw[HE.out]) HX.out (Vb.out.trans (Below.mono K6.out Vb.out.size))⟩
   · obtain⟨HM,HA,HB,H1,H2⟩:=lH5 (show jg jB l l'=(jE l',[]) by unfold jg;rw[if_neg (by rw[h1];decide),if_pos h2]) hr hr' h1 h2;clear h1 h2 hr hr';go_enter Tryz.func207,Tryz.ntmps207;go_wp2_with fail
     refine(zi _ _ _ l _ HA.out).mono ?_;rintro e1 w1 ⟨g1,_,k1⟩;obtain rfl:=g1 H1.out;have K1:=lH k1;clear g1 k1;go_wp2_with fail
     refine(zi _ _ _ l' _ (HB.out.kept K1.out)).mono ?_;rintro e2 w2 ⟨_,g2,k2⟩;obtain rfl:=g2 H2.out;have K2:=lH (K1.out.trans k2);clear g2 k2;go_wp2;exact⟨rfl,jS.bad (by rw[HM.out]) H2.out K2.out⟩
 · obtain⟨HM,HA,H1⟩:=lH3 (show jg jB l l'=(jE l,[]) by unfold jg;rw[if_pos h1]) hr h1;clear h1 hr hr';go_enter Tryz.func207,Tryz.ntmps207;go_wp2_with fail
   refine(zi _ _ _ l _ HA.out).mono ?_;rintro e1 w1 ⟨_,g1,k1⟩;obtain rfl:=g1 H1.out;have K1:=lH k1;clear g1 k1;go_wp2;exact⟨rfl,jS.bad (by rw[HM.out]) H1.out K1.out⟩
theorem jcV (C:Addr×Addr) (r:Int×V) (w:World) (hr:r.1≠0→r.2=[])
 (hk:∀W,Kept w W→Calls Tryz.prog 206 #[.pointer (some C.1),.pointer (some C.2)] W (jS r W.heap.size W)) :
 Calls Tryz.prog 205 #[.func (.func 206) #[] #[.pointer (some C.1),.pointer (some C.2)]] w (ZS r w):=by
 have hmf:=hmfL (P:=Tryz.prog);have HK:=lH hk;have HR:=lH hr;clear hk hr;obtain⟨r1,r2⟩:=r;go_enter_defers Tryz.func205,Tryz.ntmps205
 go_wp2_with fail
 refine(HK.out _ (ja _ _)).mono ?_;rintro e1 w1 ⟨h0,h1,hb⟩;have k1:=hb.size;simp only[World.size_alloc] at k1;have c2:=(hb.cell (p:=⟨w.heap.size,0,none⟩) (by simp))
 have z2:=(hb.frozen (p:=⟨w.heap.size,0,none⟩) (by simp))
 have e2':w1.cell? ⟨w.heap.size,0,none⟩=some (.int .i64 0):=by rw[c2];go_simp
 have y2:w1.frozen? ⟨w.heap.size,0,none⟩=false:=by rw[z2];go_simp
 clear c2 z2;have KB:=lH (show Below w.heap.size w w1 from(ja w _).trans hb);by_cases hx:r1=0
 · subst hx;obtain⟨v,rfl,ho⟩:=h0 rfl;have HO:=lH ho;obtain⟨av,cv,rfl,_,_,_⟩:=ho.at_;have hsz:=World.size_alloc w (.cells #[.int .i64 0] 53);clear h0 h1 hb ho;go_wp2_with fail
   refine leaves_cons (f:=231) (args:=#[.pointer (some ⟨w.heap.size,0,none⟩)]) (by simp) (by simp[go_sem]) ?_;refine(Yr ⟨w.heap.size,0,none⟩ _).mono ?_;rintro e u' w'' ⟨rfl,rfl,rfl⟩;simp[Leaves,settle,results,Tryz.results205,go_sem,e2'];exact⟨_,rfl,(HO.out.setCell_below (a:=⟨w.heap.size,0,none⟩) (by simp) _).base_le (by simp),KB.out.setCell (p:=⟨w.heap.size,0,none⟩) (Nat.le_refl _) _⟩
 · obtain rfl:=h1 hx;obtain rfl:=HR.out hx;clear h0 h1 hb;go_wp2_with fail
   refine leaves_cons (f:=231) (args:=#[.pointer (some ⟨w.heap.size,0,none⟩)]) (by simp) (by simp[go_sem]) ?_;refine(J6 w.heap.size w.heap.size r1 0 _ e2' y2 (by omega)).mono ?_;rintro e u' w'' ⟨rfl,rfl,q2,q3⟩;simp[Leaves,settle,results,Tryz.results205,go_sem,q2];exact⟨_,rfl,jP.nil _ _ _,KB.out.trans q3⟩
theorem jb2 (C:Addr×Addr) (a a':Option Addr) (len cap len' cap':Nat) (l l':V) (w:World) (h1:w.cell? C.1=some (.slice a len cap)) (h2:w.cell? C.2=some (.slice a' len' cap'))
 (hr:js w a len l) (hr':js w a' len' l') (hc:len≤cap) (hm:cap≤maxLen) (hc':len'≤cap') (hm':cap'≤maxLen) :
 Calls Tryz.prog 206 #[.pointer (some C.1),.pointer (some C.2)] w (jS (jg jB l l') w.heap.size w):=by
 have HR:=lH hr;have HR':=lH hr';have HM:=lH hm;have HM':=lH hm';clear hr hr' hm hm';go_enter Tryz.func206,Tryz.ntmps206;go_wp2_with fail
 refine(jcU a a' len cap len' cap' l l' _ HR.out HR'.out hc HM.out hc' HM'.out).mono ?_;rintro e w' ⟨g0,g1,k⟩;by_cases hx:(jg jB l l').1=0
 · obtain⟨v,rfl,ho⟩:=g0 hx;obtain⟨HX,HO,HK⟩:=lH3 hx ho k;clear g0 g1 hx ho k;go_wp2;go_ret;exact jS.good HX.out HO.out HK.out
 · obtain rfl:=g1 hx;have HX:=lH hx;have HK:=lH k;clear g0 g1 hx k;go_wp2;exact⟨rfl,jS.bad rfl HX.out HK.out⟩
theorem qi (l l':V):(jg jB l l').1≠0→(jg jB l l').2=[]:=by
 unfold jg;split
 · exact fun _=>rfl
 · split
   · exact fun _=>rfl
   · dsimp only;split
     · exact fun _=>rfl
     · split
       · exact fun _=>rfl
       · exact fun h=>absurd rfl h
theorem jf9 (a a':Option Addr) (len cap len' cap':Nat) (l l':V) (w:World)
 (hr:js w a len l) (hr':js w a' len' l') (hc:len≤cap) (hm:cap≤maxLen) (hc':len'≤cap') (hm':cap'≤maxLen) :
 Calls Tryz.prog 170 #[.slice a len cap,.slice a' len' cap'] w (ZS (jg jB l l') w):=by
 have hmf:=hmfL (P:=Tryz.prog);have hC:∀W,Kept ((w.alloc (.cells #[.slice a len cap] 24)).alloc (.cells #[.slice a' len' cap'] 24)) W→Calls Tryz.prog 206 #[.pointer (some ⟨w.heap.size,0,none⟩),.pointer (some ⟨w.heap.size+1,0,none⟩)] W (jS (jg jB l l') W.heap.size W):=by
  intro W k;have c1:=k.cell (p:=⟨w.heap.size,0,none⟩) (by simp;omega);have c2:=k.cell (p:=⟨w.heap.size+1,0,none⟩) (by simp);exact jb2 (⟨w.heap.size,0,none⟩,⟨w.heap.size+1,0,none⟩) a a' len cap len' cap' l l' W (by rw[c1];go_simp) (by rw[c2];go_simp) (hr.kept ((ji w _ _).trans k)) (hr'.kept ((ji w _ _).trans k)) hc hm hc' hm'
 have HC:=lH hC;clear hC hr hr' hm hm';go_enter Tryz.func170,Tryz.ntmps170;go_wp2_with fail
 refine(jcV (⟨w.heap.size,0,none⟩,⟨w.heap.size+1,0,none⟩) (jg jB l l') _ (qi l l') HC.out).mono ?_;rintro e w' ⟨v,rfl,ho,k⟩;have HO:=lH ho;have HK:=lH k;clear ho k;go_wp2;go_ret2
 exact⟨v,rfl,HO.out.base_le (by simp;omega),(ji w _ _).trans HK.out⟩
theorem jgp (x y:Int) (w:World) (h0:0≤x) (h1:x≤9223372036854775807) (h2:0≤y) (h3:y≤9223372036854775807) :
 Calls Tryz.prog 249 #[.int .i64 x,.int .i64 y] w (Ans (jO x y).1 (jO x y).2 w):=by
 by_cases h:y≤x
 · have e:jO x y=(x-y,0):=by unfold jO;rw[if_pos h]
   rw[e];exact(jgF x y w h2 h1 h).mono fun _ _ g=>g.ans
 · have e:jO x y=(0,5):=by unfold jO;rw[if_neg h]
   rw[e];exact(je4 x y w h0 h3 (by omega)).mono fun _ _ g=>g.ans
theorem jc4 (a a':Option Addr) (len cap len' cap':Nat) (l l':V) (w:World) (hr:js w a len l) (hr':js w a' len' l') (hc:len≤cap) (hm:cap≤maxLen) (hc':len'≤cap') (hm':cap'≤maxLen) :
 Calls Tryz.prog 207 #[.slice a len cap,.slice a' len' cap',.func (.func 249) #[] #[]] w (jS (jg jO l l') w.heap.size w):=by
 by_cases h1:jE l=0
 · by_cases h2:jE l'=0
   · have HL:=lH hr.1;have HL':=lH hr'.1;have P1:=lH (Yo h1 hr.2.2.1);have P2:=lH (Yo h2 hr'.2.2.1);have n8:len≤8:=by have:=Yj h1;rw[hr.1] at this;exact this
     have n8':len'≤8:=by have:=Yj h2;rw[hr'.1] at this;exact this
     obtain⟨R,hR⟩:=eX (jH jO (l.length+l'.length) l l' [])
     have HM:=lH (show jg jO l l'=if R.1≠0 then (R.1,[]) else if 8<R.2.length then (4,[]) else (0,R.2) by
      unfold jg;rw[if_neg (by rw[h1];decide),if_neg (by rw[h2];decide)];dsimp only;rw[hR])
     obtain⟨HR,H1,H2,HA,HB⟩:=lH5 hR h1 h2 hr hr';clear hR h1 h2 hr hr';go_enter Tryz.func207,Tryz.ntmps207;go_wp2_with fail
     refine(zi _ _ _ l _ HA.out).mono ?_;rintro e1 w1 ⟨g1,_,k1⟩;obtain rfl:=g1 H1.out;have K1:=lH k1;clear g1 k1;go_wp2_with fail
     refine(zi _ _ _ l' _ (HB.out.kept K1.out)).mono ?_;rintro e2 w2 ⟨g2,_,k2⟩;obtain rfl:=g2 H2.out;have K2:=lH (K1.out.trans k2);clear g2 k2;go_wp2
     go_loopw [0,1,7] (fun va vb v wr=>∃(A B:Option Addr) (n c n' c':Nat) (la lb acc:V) (fuel:Nat),va=.slice A n c∧vb=.slice B n' c'∧n≤c∧c≤maxLen∧n'≤c'∧c'≤maxLen ∧
      js w A n la∧js w B n' lb∧Pos la∧Pos lb∧jP 88 wr w.heap.size v acc∧Below w.heap.size w wr∧n+n'≤fuel∧jH jO fuel la lb acc=R∧acc.length+n+n'≤16)
      (fun va vb _ _=>lenOf va+lenOf vb)
     case atStart =>
      exact⟨a,a',len,cap,len',cap',l,l',[],l.length+l'.length,rfl,rfl,hc,hm,hc',hm',HA.out,HB.out,P1.out,P2.out,jP.nil _ _ _,K2.out,by rw[HL.out,HL'.out];exact Nat.le_refl _,HR.out,by simp;omega⟩
     case round =>
      obtain⟨A,B,n,c,n',c',la,lb,acc,fuel,rfl,rfl,c1,c2,c3,c4,va1,vb1,pa,pb,ho,hB,hfuel,hres,h16⟩:=hrel;obtain⟨VA,VB,PA,PB,HO,Vb,HQ,LA⟩:=lH8 va1 vb1 pa pb ho hB hres va1.1;have LB:=lH vb1.1;clear va1 vb1 pa pb ho hB hres;by_cases hz:n+n'=0
      · obtain rfl:n=0:=by omega
        obtain rfl:n'=0:=by omega
        clear hz;obtain⟨av,cv,rfl,g1,g2,g3⟩:=HO.out.at_;have HE:=lH (show R=(0,acc) from HQ.out.symm.trans (Xp (by rw[LA.out,LB.out])));have hal:acc.length≤9223372036854775807:=by omega
        clear g3 g1 g2;by_cases h8:acc.length≤8
        · have HF:=lH (show jg jO l l'=(0,acc) by rw[HM.out,HE.out];dsimp only;rw[if_neg (by decide),if_neg (by omega)]);go_wp2_with fail
          refine(Xz _ _ _ _ h8).mono ?_;rintro e3 w3 ⟨rfl,rfl⟩;go_wp2;go_ret;exact jS.good (by rw[HF.out]) (by rw[HF.out];exact HO.out) Vb.out
        · have HF:=lH (show jg jO l l'=(4,[]) by rw[HM.out,HE.out];dsimp only;rw[if_neg (by decide),if_pos (by omega)]);go_wp2_with fail
          refine(XQ _ _ _ _ (by omega) hal).mono ?_;rintro e3 w3 ⟨rfl,rfl⟩;go_wp2;exact⟨rfl,jS.bad (by rw[HF.out]) (by decide) Vb.out⟩
      · have hpos:0<n+n':=by omega
        clear hz;obtain⟨HP,HU,HS,T1,T2⟩:=lH5 (show 0<la.length+lb.length by rw[LA.out,LB.out];exact hpos) (show la.length+lb.length≤fuel by rw[LA.out,LB.out];exact hfuel) (YY PA.out PB.out) (Yi PA.out (jh la lb)) (Yi PB.out (jh la lb));have Vi:=lH (YW HP.out);obtain⟨r1,r2,hr⟩:∃r1 r2,jO (jj la (jh la lb)).1 (jj lb (jh la lb)).1=(r1,r2):=⟨_,_,rfl⟩
        have QF:=lH (show ∀W,Calls Tryz.prog 249 #[.int .i64 (jj la (jh la lb)).1,.int .i64 (jj lb (jh la lb)).1] W (Ans r1 r2 W) from fun W=>by
         have:=jgp _ _ W T1.out.1.1 T1.out.1.2 T2.out.1.1 T2.out.1.2;rw[hr] at this;exact this)
        have V2:=lH hr;have RB:=lH (show 0≤r1∧r1≤9223372036854775807 by have:=jcn (T1.out.1) (T2.out.1);rw[hr] at this;exact this);clear hr;have hd:(decide (0<n)||decide (0<n'))=true:=by simp;omega
        rcases Nat.eq_zero_or_pos n with h0 | h0
        case' inl=>(have d2:decide (0<n')=true:=by simp;omega)
        case' inl=>(subst h0)
        case' inr=>(have d1:decide (0<n)=true:=by simp;omega)
        all_goals
         clear hd;go_wp2_with fail
         refine(Xl _ _ _ _ _ _ la lb _ (VA.out.kept Vb.out) (VB.out.kept Vb.out) (by omega)).mono ?_;rintro e3 w3 ⟨rfl,k3⟩;have K3:=lH k3;clear k3;go_wp2_with fail
         refine(Yh _ _ _ la _ _ ((VA.out.kept Vb.out).kept K3.out) c1 c2).mono ?_;rintro e4 w4 ⟨A4,c4',rfl,q1,q2,V4,k4⟩;have K4:=lH (K3.out.trans k4);have U9:=lH V4;clear k4 V4;go_wp2_with fail
         refine(Yh _ _ _ lb _ _ ((VB.out.kept Vb.out).kept K4.out) c3 c4).mono ?_;rintro e5 w5 ⟨A5,c5',rfl,q3,q4,V5,k5⟩;have K5:=lH (K4.out.trans k5);have Ta:=lH V5;clear k5 V5;go_wp2_with fail
         refine(QF.out _).mono ?_;rintro e6 w6 ⟨rfl,k6⟩;have K6:=lH (K5.out.trans k6);clear k6;by_cases hx:r2=0
         · subst hx;go_wp2_with fail
           refine(jbF _ _).mono ?_;rintro e7 w7 ⟨rfl,rfl⟩;obtain⟨fuel',hf1,hf2⟩:=qd (f:=jO) (acc:=acc) HP.out HU.out (by rw[V2.out]);have Tb:=lH hf1;have Tc:=lH hf2;clear hf1 hf2;have Va:=lH (show Below w.heap.size w w6 from Vb.out.trans (Below.mono K6.out Vb.out.size));by_cases hy:r1=0
           · subst hy;go_wp2_with fail
             refine(jax _ _ _).mono ?_;rintro e8 w8 ⟨rfl,rfl⟩;go_wp2;go_roundw
             case rel =>
              refine⟨A4,A5,_,c4',_,c5',_,_,acc,fuel',rfl,rfl,q1,q2,q3,q4,U9.out w VA.out,Ta.out w VB.out,T1.out.2,T2.out.2,HO.out.kept K6.out,Va.out,?_,?_,?_⟩
              · have:=Vi.out;have:=HU.out;have:=Tb.out;omega
              · have:=Tc.out;rw[V2.out] at this;rw[←HQ.out,this];rfl
              · have:=Vi.out;have:=LA.out;have:=LB.out;omega
             case measure=>(show lenOf (Value.slice _ _ _)+lenOf (Value.slice _ _ _)<lenOf (Value.slice _ _ _)+lenOf (Value.slice _ _ _);simp only[lenOf];have:=Vi.out;have:=LA.out;have:=LB.out;omega)
           · go_wp2_with fail
             refine(jav _ _ r1 w.heap.size acc _ (HO.out.kept K6.out) hy HS.out (by have:=RB.out;omega) (by have:=RB.out;omega) (by omega) Va.out.size).mono ?_;rintro e8 w8 ⟨v8,rfl,o8,b8⟩;obtain⟨O8,B8,HY⟩:=lH3 o8 b8 hy;clear o8 b8 hy;go_wp2;go_roundw
             case rel =>
              refine⟨A4,A5,_,c4',_,c5',_,_,_,fuel',rfl,rfl,q1,q2,q3,q4,U9.out w VA.out,Ta.out w VB.out,T1.out.2,T2.out.2,O8.out,Va.out.trans B8.out,?_,?_,?_⟩
              · have:=Vi.out;have:=HU.out;have:=Tb.out;omega
              · have:=Tc.out;rw[V2.out] at this;rw[←HQ.out,this];dsimp only;unfold ZL;rw[if_neg HY.out]
              · have:=Vi.out;have:=LA.out;have:=LB.out;rw[List.length_append];simp only[List.length_cons,List.length_nil];omega
             case measure=>(show lenOf (Value.slice _ _ _)+lenOf (Value.slice _ _ _)<lenOf (Value.slice _ _ _)+lenOf (Value.slice _ _ _);simp only[lenOf];have:=Vi.out;have:=LA.out;have:=LB.out;omega)
         · have HX:=lH hx;have HE:=lH (show jg jO l l'=(r2,[]) by
            rw[HM.out,←HQ.out,jaw HP.out HU.out (by rw[V2.out];exact hx),V2.out];dsimp only;rw[if_pos hx])
           go_wp2_with fail
           refine(jar _ _ _ hx).mono ?_;rintro e7 w7 ⟨rfl,rfl⟩;clear hx;go_wp2;exact⟨rfl,jS.bad (by rw[HE.out]) HX.out (Vb.out.trans (Below.mono K6.out Vb.out.size))⟩
   · obtain⟨HM,HA,HB,H1,H2⟩:=lH5 (show jg jO l l'=(jE l',[]) by unfold jg;rw[if_neg (by rw[h1];decide),if_pos h2]) hr hr' h1 h2;clear h1 h2 hr hr';go_enter Tryz.func207,Tryz.ntmps207;go_wp2_with fail
     refine(zi _ _ _ l _ HA.out).mono ?_;rintro e1 w1 ⟨g1,_,k1⟩;obtain rfl:=g1 H1.out;have K1:=lH k1;clear g1 k1;go_wp2_with fail
     refine(zi _ _ _ l' _ (HB.out.kept K1.out)).mono ?_;rintro e2 w2 ⟨_,g2,k2⟩;obtain rfl:=g2 H2.out;have K2:=lH (K1.out.trans k2);clear g2 k2;go_wp2;exact⟨rfl,jS.bad (by rw[HM.out]) H2.out K2.out⟩
 · obtain⟨HM,HA,H1⟩:=lH3 (show jg jO l l'=(jE l,[]) by unfold jg;rw[if_pos h1]) hr h1;clear h1 hr hr';go_enter Tryz.func207,Tryz.ntmps207;go_wp2_with fail
   refine(zi _ _ _ l _ HA.out).mono ?_;rintro e1 w1 ⟨_,g1,k1⟩;obtain rfl:=g1 H1.out;have K1:=lH k1;clear g1 k1;go_wp2;exact⟨rfl,jS.bad (by rw[HM.out]) H1.out K1.out⟩
theorem jdj (C:Addr×Addr) (r:Int×V) (w:World) (hr:r.1≠0→r.2=[])
 (hk:∀W,Kept w W→Calls Tryz.prog 248 #[.pointer (some C.1),.pointer (some C.2)] W (jS r W.heap.size W)) :
 Calls Tryz.prog 205 #[.func (.func 248) #[] #[.pointer (some C.1),.pointer (some C.2)]] w (ZS r w):=by
 have hmf:=hmfL (P:=Tryz.prog);have HK:=lH hk;have HR:=lH hr;clear hk hr;obtain⟨r1,r2⟩:=r;go_enter_defers Tryz.func205,Tryz.ntmps205
 go_wp2_with fail
 refine(HK.out _ (ja _ _)).mono ?_;rintro e1 w1 ⟨h0,h1,hb⟩;have k1:=hb.size;simp only[World.size_alloc] at k1;have c2:=(hb.cell (p:=⟨w.heap.size,0,none⟩) (by simp))
 have z2:=(hb.frozen (p:=⟨w.heap.size,0,none⟩) (by simp))
 have e2':w1.cell? ⟨w.heap.size,0,none⟩=some (.int .i64 0):=by rw[c2];go_simp
 have y2:w1.frozen? ⟨w.heap.size,0,none⟩=false:=by rw[z2];go_simp
 clear c2 z2;have KB:=lH (show Below w.heap.size w w1 from(ja w _).trans hb);by_cases hx:r1=0
 · subst hx;obtain⟨v,rfl,ho⟩:=h0 rfl;have HO:=lH ho;obtain⟨av,cv,rfl,_,_,_⟩:=ho.at_;have hsz:=World.size_alloc w (.cells #[.int .i64 0] 53);clear h0 h1 hb ho;go_wp2_with fail
   refine leaves_cons (f:=231) (args:=#[.pointer (some ⟨w.heap.size,0,none⟩)]) (by simp) (by simp[go_sem]) ?_;refine(Yr ⟨w.heap.size,0,none⟩ _).mono ?_;rintro e u' w'' ⟨rfl,rfl,rfl⟩;simp[Leaves,settle,results,Tryz.results205,go_sem,e2'];exact⟨_,rfl,(HO.out.setCell_below (a:=⟨w.heap.size,0,none⟩) (by simp) _).base_le (by simp),KB.out.setCell (p:=⟨w.heap.size,0,none⟩) (Nat.le_refl _) _⟩
 · obtain rfl:=h1 hx;obtain rfl:=HR.out hx;clear h0 h1 hb;go_wp2_with fail
   refine leaves_cons (f:=231) (args:=#[.pointer (some ⟨w.heap.size,0,none⟩)]) (by simp) (by simp[go_sem]) ?_;refine(J6 w.heap.size w.heap.size r1 0 _ e2' y2 (by omega)).mono ?_;rintro e u' w'' ⟨rfl,rfl,q2,q3⟩;simp[Leaves,settle,results,Tryz.results205,go_sem,q2];exact⟨_,rfl,jP.nil _ _ _,KB.out.trans q3⟩
theorem jb0 (C:Addr×Addr) (a a':Option Addr) (len cap len' cap':Nat) (l l':V) (w:World) (h1:w.cell? C.1=some (.slice a len cap)) (h2:w.cell? C.2=some (.slice a' len' cap'))
 (hr:js w a len l) (hr':js w a' len' l') (hc:len≤cap) (hm:cap≤maxLen) (hc':len'≤cap') (hm':cap'≤maxLen) :
 Calls Tryz.prog 248 #[.pointer (some C.1),.pointer (some C.2)] w (jS (jg jO l l') w.heap.size w):=by
 have HR:=lH hr;have HR':=lH hr';have HM:=lH hm;have HM':=lH hm';clear hr hr' hm hm';go_enter Tryz.func248,Tryz.ntmps248;go_wp2_with fail
 refine(jc4 a a' len cap len' cap' l l' _ HR.out HR'.out hc HM.out hc' HM'.out).mono ?_;rintro e w' ⟨g0,g1,k⟩;by_cases hx:(jg jO l l').1=0
 · obtain⟨v,rfl,ho⟩:=g0 hx;obtain⟨HX,HO,HK⟩:=lH3 hx ho k;clear g0 g1 hx ho k;go_wp2;go_ret;exact jS.good HX.out HO.out HK.out
 · obtain rfl:=g1 hx;have HX:=lH hx;have HK:=lH k;clear g0 g1 hx k;go_wp2;exact⟨rfl,jS.bad rfl HX.out HK.out⟩
theorem Yf (l l':V):(jg jO l l').1≠0→(jg jO l l').2=[]:=by
 unfold jg;split
 · exact fun _=>rfl
 · split
   · exact fun _=>rfl
   · dsimp only;split
     · exact fun _=>rfl
     · split
       · exact fun _=>rfl
       · exact fun h=>absurd rfl h
theorem jf4 (a a':Option Addr) (len cap len' cap':Nat) (l l':V) (w:World)
 (hr:js w a len l) (hr':js w a' len' l') (hc:len≤cap) (hm:cap≤maxLen) (hc':len'≤cap') (hm':cap'≤maxLen) :
 Calls Tryz.prog 221 #[.slice a len cap,.slice a' len' cap'] w (ZS (jg jO l l') w):=by
 have hmf:=hmfL (P:=Tryz.prog);have hC:∀W,Kept ((w.alloc (.cells #[.slice a len cap] 24)).alloc (.cells #[.slice a' len' cap'] 24)) W→Calls Tryz.prog 248 #[.pointer (some ⟨w.heap.size,0,none⟩),.pointer (some ⟨w.heap.size+1,0,none⟩)] W (jS (jg jO l l') W.heap.size W):=by
  intro W k;have c1:=k.cell (p:=⟨w.heap.size,0,none⟩) (by simp;omega);have c2:=k.cell (p:=⟨w.heap.size+1,0,none⟩) (by simp);exact jb0 (⟨w.heap.size,0,none⟩,⟨w.heap.size+1,0,none⟩) a a' len cap len' cap' l l' W (by rw[c1];go_simp) (by rw[c2];go_simp) (hr.kept ((ji w _ _).trans k)) (hr'.kept ((ji w _ _).trans k)) hc hm hc' hm'
 have HC:=lH hC;clear hC hr hr' hm hm';go_enter Tryz.func221,Tryz.ntmps221;go_wp2_with fail
 refine(jdj (⟨w.heap.size,0,none⟩,⟨w.heap.size+1,0,none⟩) (jg jO l l') _ (Yf l l') HC.out).mono ?_;rintro e w' ⟨v,rfl,ho,k⟩;have HO:=lH ho;have HK:=lH k;clear ho k;go_wp2;go_ret2
 exact⟨v,rfl,HO.out.base_le (by simp;omega),(ji w _ _).trans HK.out⟩
def nameOf (p:List UInt8):List UInt8:=(Lib.cut p [61]).1
def jeD (p:List UInt8):List UInt8:=(Lib.cut p [61]).2.1
open Go.RowKit Go.Shelf
attribute [local go_sem] Oper.semAt_some
theorem jP.put {e:TypeId} {w:World} {B D:Nat} {v:Value} {l:V} (h:jP e w B v l) (hD:D<B) (o:Obj):jP e (w.putObj D o) B v l:=by
 obtain⟨⟨h0,h1⟩,hf⟩:=h;refine⟨⟨h0,h1.imp id ?_⟩,hf⟩;rintro ⟨g,cap,cur,rfl,hbg,hg,rest⟩;exact⟨g,cap,cur,rfl,hbg,(World.putObj_heap_other (by omega)).trans hg,rest⟩
theorem jP.row {e:TypeId} {w:World} {B n:Nat} {v:Value} {l:V} (h:jP e w B v l) (hn:l.length=n):w.ownsRow B e 2 v n (cellsOf l):=hn▸h.1
end Go.Proofs.YtabafpoklpiiiaaGreat.Vec
namespace Go.Proofs.YtabafpoklpiiiaaGreat.Vec
open Go.RowKit Go.Shelf
def qc (b:Nat) (w w':World):Prop:=∀g cs fr,g≠b→w.heap[g]?=some (.cells cs 88 fr)→w'.heap[g]?=w.heap[g]?
theorem qc.trans {b:Nat} {x y z:World} (h:qc b x y) (k:qc b y z):qc b x z:=fun g cs fr hg hc=>(k g cs fr hg ((h g cs fr hg hc).trans hc)).trans (h g cs fr hg hc)
theorem YL (l:List UInt8):(bytes l).size=l.length:=rfl
open Go.RowKit
theorem Reads.nil (w:World):Reads w (.slice none 0 0) []:=⟨none,0,rfl,Nat.le_refl _,by decide,js.nil w⟩
theorem jeP {v:Value} {l:V} {n:ByteArray} {c:Int} {w:World} (h:Reads w v l) (e:jf l n=c) :
 Calls Tryz.prog 168 #[v,.string n] w fun x w'=>x=.returned (.int .i64 c)∧Kept w w':=by
 subst e;obtain⟨a,cap,rfl,h1,h2,h3⟩:=h;exact ZQ a _ cap l n w h3
theorem jgW {v v':Value} {l l':V} {c:Bool} {w:World} (h:Reads w v l) (h':Reads w v' l') (e:jy l' l=c) :
 Calls Tryz.prog 123 #[v,v'] w fun x w'=>x=.returned (.bool c)∧Kept w w':=by
 subst e;obtain⟨a,cap,rfl,h1,h2,h3⟩:=h;obtain⟨a',cap',rfl,h1',h2',h3'⟩:=h';exact XO a a' _ cap _ cap' l l' w h3 h3'
def cpu:ByteArray:=⟨#[99,112,117]⟩
def mem:ByteArray:=⟨#[109,101,109]⟩
def kA:V:=[(cpu,100),(mem,5)]
theorem XN:∀s:List UInt8,Op.bytesLess s s=false
 | []=>rfl
 | a::s=>by
  have:¬a<a:=UInt8.lt_irrefl a;simp[Op.bytesLess,XN s,this]
theorem qk:∀{a b c:List UInt8},Op.bytesLess a b=true→Op.bytesLess b c=true→Op.bytesLess a c=true
 | _,_,[],_,h=>by simp[Op.bytesLess] at h
 | [],_,_::_,_,_=>by simp[Op.bytesLess]
 | x::a,[],z::c,h,_=>by simp[Op.bytesLess] at h
 | x::a,y::b,z::c,h,g=>by
  simp only[Op.bytesLess,Bool.or_eq_true,Bool.and_eq_true,decide_eq_true_eq,beq_iff_eq] at h g ⊢;rcases h with h | ⟨rfl,h⟩
  · rcases g with g | ⟨rfl,g⟩
    · exact .inl (UInt8.lt_trans h g)
    · exact .inl h
  · rcases g with g | ⟨rfl,g⟩
    · exact .inl g
    · exact .inr ⟨rfl,qk h g⟩
theorem jbf:∀{a b:List UInt8},Op.bytesLess a b=false→Op.bytesLess b a=false→a=b
 | [],[],_,_=>rfl
 | [],_::_,h,_=>by simp[Op.bytesLess] at h
 | _::_,[],_,h=>by simp[Op.bytesLess] at h
 | x::a,y::b,h,g=>by
  simp only[Op.bytesLess,Bool.or_eq_false_iff,decide_eq_false_iff_not,Bool.and_eq_false_iff,beq_eq_false_iff_ne] at h g;have e:x=y:=by
   have h1:=UInt8.not_lt.1 h.1;have h2:=UInt8.not_lt.1 g.1;exact UInt8.le_antisymm h2 h1
  subst e;have h2:=h.2.resolve_left (by simp);have g2:=g.2.resolve_left (by simp);rw[jbf h2 g2]
theorem jc7 (s t:ByteArray):ltS s t=Op.bytesLess s.data.toList t.data.toList:=by unfold ltS;rw[Lib.toList_data,Lib.toList_data]
theorem jI {s t:ByteArray}:eqS s t=true↔s=t:=by
 unfold eqS;rw[Lib.toList_data,Lib.toList_data,beq_iff_eq];exact⟨fun h=>Go.WideShapes.bytes_inj h,fun h=>by rw[h]⟩
theorem Zg (s:ByteArray):ltS s s=false:=by rw[jc7];exact XN _
theorem zD {s t u:ByteArray} (h:ltS s t=true) (g:ltS t u=true):ltS s u=true:=by
 rw[jc7] at *;exact qk h g
theorem ZP {s t:ByteArray} (h:ltS s t=false) (g:ltS t s=false):s=t:=by
 rw[jc7] at *;exact Go.WideShapes.bytes_inj (jbf h g)
theorem ZM {s t:ByteArray} (h:ltS s t=true):s≠t:=by rintro rfl;rw[Zg] at h;cases h
theorem jaB {s t:ByteArray} (h:ltS s t=true) (g:ltS t s=true):False:=ZM (zD h g) rfl
def Gd (l:V):Prop:=(∀x ∈ l,isName x.1=true∧0<x.2∧x.2≤9223372036854775807)∧l.Pairwise (fun x y=>ltS x.1 y.1=true)
theorem Gd.nil:Gd []:=⟨fun x hx=>absurd hx (by simp),.nil⟩
theorem Gd.cons {x:ByteArray×Int} {t:V}:Gd (x::t)↔(isName x.1=true∧0<x.2∧x.2≤9223372036854775807)∧(∀y ∈ t,ltS x.1 y.1=true)∧Gd t:=by
 unfold Gd;rw[List.pairwise_cons,List.forall_mem_cons];constructor
 · rintro ⟨⟨a,b⟩,c,d⟩;exact⟨a,c,b,d⟩
 · rintro ⟨a,c,b,d⟩;exact⟨⟨a,b⟩,c,d⟩
theorem zy (x:ByteArray×Int) (t:V):jf (x::t) x.1=x.2:=by rw[jf,if_pos (jI.2 rfl)]
theorem zG {x:ByteArray×Int} {n:ByteArray} (t:V) (h:x.1≠n):jf (x::t) n=jf t n:=by rw[jf,if_neg (fun e=>h (jI.1 e))]
theorem Z9:∀{l:V} {n:ByteArray},(∀y ∈ l,y.1≠n)→jf l n=0
 | [],_,_=>rfl
 | x::t,n,h=>by rw[zG t (h x (by simp))];exact Z9 fun y hy=>h y (by simp[hy])
theorem get_mem:∀{l:V} {n:ByteArray},jf l n≠0→∃y ∈ l,y.1=n
 | [],_,h=>absurd rfl h
 | x::t,n,h=>by
  by_cases e:x.1=n
  · exact⟨x,by simp,e⟩
  · rw[zG t e] at h;obtain⟨y,hy,hn⟩:=get_mem h;exact⟨y,by simp[hy],hn⟩
theorem Jh:∀{l:V} (n:ByteArray),Gd l→0≤jf l n∧jf l n≤9223372036854775807
 | [],_,_=>⟨Int.le_refl _,(by decide:(0:Int)≤9223372036854775807)⟩
 | x::t,n,h=>by
  have h':=Gd.cons.1 h;by_cases e:x.1=n
  · subst e;rw[zy];omega
  · rw[zG t e];exact Jh n h'.2.2
theorem jbt:∀{l:V} {x:ByteArray×Int},Gd l→x ∈ l→jf l x.1=x.2
 | [],_,_,h=>absurd h (by simp)
 | y::t,x,h,hx=>by
  have h':=Gd.cons.1 h;rcases List.mem_cons.1 hx with rfl | hx
  · exact zy _ _
  · rw[zG t (ZM (h'.2.1 x hx))];exact jbt h'.2.2 hx
theorem zW {l:V} {n:ByteArray} (h:∀y ∈ l,ltS n y.1=true):jf l n=0:=Z9 fun y hy=>(ZM (h y hy)).symm
theorem Gd.ext:∀{a b:V},Gd a→Gd b→(∀n,jf a n=jf b n)→a=b
 | [],[],_,_,_=>rfl
 | [],y::t,_,hb,h=>by
  have:=h y.1;rw[zy] at this;have:=(Gd.cons.1 hb).1;rw[show jf [] y.1=0 from rfl] at *;omega
 | x::s,[],ha,_,h=>by
  have:=h x.1;rw[zy] at this;have:=(Gd.cons.1 ha).1;rw[show jf [] x.1=0 from rfl] at *;omega
 | x::s,y::t,ha,hb,h=>by
  have ha':=Gd.cons.1 ha;have hb':=Gd.cons.1 hb;have e1:ltS x.1 y.1=false:=by
   cases e:ltS x.1 y.1 with
   | false=>rfl
   | true =>
    have hx:=h x.1;rw[zy,zW (l:=y::t) (fun z hz=>by
     rcases List.mem_cons.1 hz with rfl | hz
     · exact e
     · exact zD e (hb'.2.1 z hz))] at hx
    omega
  have e2:ltS y.1 x.1=false:=by
   cases e:ltS y.1 x.1 with
   | false=>rfl
   | true =>
    have hx:=h y.1;rw[zy,zW (l:=x::s) (fun z hz=>by
     rcases List.mem_cons.1 hz with rfl | hz
     · exact e
     · exact zD e (ha'.2.1 z hz))] at hx
    omega
  have e:=ZP e1 e2;have hv:x.2=y.2:=by have:=h x.1;rw[zy,e,zy] at this;exact this
  have ht:s=t:=Gd.ext ha'.2.2 hb'.2.2 fun n=>by
   by_cases en:x.1=n
   · rw[zW (fun z hz=>en▸ha'.2.1 z hz),zW (fun z hz=>en▸e▸hb'.2.1 z hz)]
   · have:=h n;rw[zG s en,zG t (by rw[←e];exact en)] at this;exact this
  obtain⟨x1,x2⟩:=x;obtain⟨y1,y2⟩:=y
  cases e;cases hv;rw[ht]
theorem Gd.len:∀{b r:V},Gd r→Gd b→(∀n,jf r n≠0→jf b n≠0)→r.length≤b.length
 | [],[],_,_,_=>Nat.le_refl _
 | [],x::s,hr,_,h=>by
  have:=h x.1;rw[zy] at this;have h1:=(Gd.cons.1 hr).1;exact absurd rfl (this (by omega))
 | y::t,[],_,_,_=>Nat.zero_le _
 | y::t,x::s,hr,hb,h=>by
  have hr':=Gd.cons.1 hr;have hb':=Gd.cons.1 hb;have:s.length≤t.length:=Gd.len hr'.2.2 hb'.2.2 fun n hn=>by
   obtain⟨z,hz,rfl⟩:=get_mem hn;have hlt:=hr'.2.1 z hz;have hb2:=h z.1 (by rw[zG s (ZM hlt)];exact hn);by_cases e:y.1=z.1
   · obtain⟨u,hu,hux⟩:=get_mem (h x.1 (by rw[zy];omega));rcases List.mem_cons.1 hu with rfl | hu
     · rw[←hux,e,Zg] at hlt;cases hlt
     · have:=hb'.2.1 u hu;rw[hux,e] at this;exact(jaB hlt this).elim
   · rw[zG t e] at hb2;exact hb2
  simp only[List.length_cons];omega
theorem jat {s t:ByteArray} (h:leS s t=false):ltS t s=true:=by
 unfold leS at h;rw[Bool.or_eq_false_iff] at h
 cases e:ltS t s with
 | true=>rfl
 | false=>rw[ZP h.1 e,jI.2 rfl] at h;cases h.2
theorem Xa {s t:ByteArray} (h:ltS t s=true):leS s t=false:=by
 unfold leS;rw[Bool.or_eq_false_iff];refine⟨?_,?_⟩
 · cases e:ltS s t with
   | false=>rfl
   | true=>exact(jaB h e).elim
 · cases e:eqS s t with
   | false=>rfl
   | true=>exact absurd (jI.1 e).symm (ZM h)
theorem qE {l:V} (h:Gd l) (hl:l.length≤8):jE l=0:=by
 have key:∀(l:V) (p:Option ByteArray),Gd l→(∀x,p=some x→∀y ∈ l,ltS x y.1=true)→jF p l=0:=by
  intro l
  induction l with
  | nil=>intro p _ _;cases p<;>rfl
  | cons x t ih =>
   intro p hg hp;have hg':=Gd.cons.1 hg;rw[jF,if_neg (by rw[hg'.1.1];decide),if_neg (by omega),if_neg]
   · exact ih _ hg'.2.2 fun q e y hy=>by cases e;exact hg'.2.1 y hy
   · cases p with
     | none=>simp[jJ]
     | some q=>rw[show jJ (some q) x.1=leS x.1 q from rfl,Xa (hp q rfl x (by simp))];decide
 unfold jE;rw[if_neg (by omega)];exact key l none h (fun _ e=>by cases e)
theorem qY {l:V} {s:ByteArray} (hg:Gd l) (h:∀y ∈ l,y.1=s∨ltS s y.1=true) :
 (jj l s).1=jf l s∧Gd (jj l s).2∧(∀y ∈ (jj l s).2,ltS s y.1=true)∧(∀n,n≠s→jf (jj l s).2 n=jf l n)∧(∀m,(∀y ∈ l,ltS m y.1=true)→∀y ∈ (jj l s).2,ltS m y.1=true):=by
 cases l with
 | nil=>exact⟨rfl,hg,fun y hy=>absurd hy (by simp[jj]),fun _ _=>rfl,fun _ _ y hy=>absurd hy (by simp[jj])⟩
 | cons x t =>
  have hg':=Gd.cons.1 hg;rw[ZK];by_cases e:x.1=s
  · rw[if_pos (jI.2 e)];subst e;exact⟨(zy x t).symm,hg'.2.2,hg'.2.1,fun n hn=>(zG t (Ne.symm hn)).symm,fun m hm y hy=>hm y (by simp[hy])⟩
  · rw[if_neg (fun c=>e (jI.1 c))];have hx:ltS s x.1=true:=(h x (by simp)).resolve_left e;have hall:∀y ∈ x::t,ltS s y.1=true:=fun y hy=>by
     rcases List.mem_cons.1 hy with rfl | hy
     · exact hx
     · exact zD hx (hg'.2.1 y hy)
    exact⟨(zW hall).symm,hg,hall,fun _ _=>rfl,fun m hm=>hm⟩
theorem jaI {la lb:V} (ha:Gd la) (hb:Gd lb) (h:0<la.length+lb.length) :
 isName (jh la lb)=true∧(∀y ∈ la,y.1=jh la lb∨ltS (jh la lb) y.1=true)∧(∀y ∈ lb,y.1=jh la lb∨ltS (jh la lb) y.1=true) ∧
  (∀m,(∀y ∈ la,ltS m y.1=true)→(∀y ∈ lb,ltS m y.1=true)→ltS m (jh la lb)=true):=by
 have own:∀{x:ByteArray×Int} {t:V},Gd (x::t)→∀y ∈ x::t,y.1=x.1∨ltS x.1 y.1=true:=fun {x t} hg y hy=>by
  rcases List.mem_cons.1 hy with rfl | hy
  · exact .inl rfl
  · exact .inr ((Gd.cons.1 hg).2.1 y hy)
 cases la with
 | nil =>
  cases lb with
  | nil=>simp at h
  | cons y t=>exact⟨(Gd.cons.1 hb).1.1,fun z hz=>absurd hz (by simp),own hb,fun m _ hm=>hm y (by simp)⟩
 | cons x s =>
  cases lb with
  | nil=>exact⟨(Gd.cons.1 ha).1.1,own ha,fun z hz=>absurd hz (by simp),fun m hm _=>hm x (by simp)⟩
  | cons y t =>
   rw[Y3];by_cases e:ltS y.1 x.1=true
   · rw[if_pos e];refine⟨(Gd.cons.1 hb).1.1,fun z hz=>.inr ?_,own hb,fun m _ hm=>hm y (by simp)⟩;rcases own ha z hz with hz | hz
     · rw[hz];exact e
     · exact zD e hz
   · rw[if_neg e];refine⟨(Gd.cons.1 ha).1.1,own ha,fun z hz=>?_,fun m hm _=>hm x (by simp)⟩;have e':ltS y.1 x.1=false:=by simpa using e
     have hxy:y.1=x.1∨ltS x.1 y.1=true:=by
      cases e2:ltS x.1 y.1 with
      | true=>exact .inr rfl
      | false=>exact .inl (ZP e' e2)
     rcases own hb z hz with hz | hz
     · rw[hz];exact hxy
     · rcases hxy with hxy | hxy
       · rw[←hxy];exact .inr hz
       · exact .inr (zD hxy hz)
structure Rk (f:Int→Int→Int×Int):Prop where
 zero:f 0 0=(0,0)
 code:∀x y,0≤x∧x≤9223372036854775807→0≤y∧y≤9223372036854775807→(f x y).2=0∨(f x y).2=5
 bd:∀x y,0≤x∧x≤9223372036854775807→0≤y∧y≤9223372036854775807→0≤(f x y).1∧(f x y).1≤9223372036854775807
theorem jdY:Rk jB:=by
 refine⟨by decide,fun x y hx hy=>?_,fun x y hx hy=>jci hx hy⟩;unfold jB;split
 · exact .inl rfl
 · exact .inr rfl
theorem jem:Rk jO:=by
 refine⟨by decide,fun x y hx hy=>?_,fun x y hx hy=>jcn hx hy⟩;unfold jO;split
 · exact .inl rfl
 · exact .inr rfl
def Made (f:ByteArray→Int) (r:V):Prop:=Gd r∧∀n,jf r n=f n
theorem jep {r:V} {s:ByteArray} {v:Int} {g g':ByteArray→Int} (hr:Made g' r) (hs:isName s=true) (hv:0≤v∧v≤9223372036854775807) (hall:∀y ∈ r,ltS s y.1=true)
 (h1:g s=v) (h2:∀n,n≠s→g n=g' n):∃r',(∀acc,ZL acc s v++r=acc++r')∧Made g r'∧(∀m,ltS m s=true→(∀y ∈ r,ltS m y.1=true)→∀y ∈ r',ltS m y.1=true)∧r'.length≤r.length+1:=by
 by_cases e:v=0
 · refine⟨r,fun acc=>by unfold ZL;rw[if_pos e],⟨hr.1,fun n=>?_⟩,fun m _ h=>h,by omega⟩;by_cases en:n=s
   · subst en;rw[zW hall,h1,e]
   · rw[hr.2 n,h2 n en]
 · refine⟨(s,v)::r,fun acc=>by unfold ZL;rw[if_neg e];simp,⟨Gd.cons.2 ⟨⟨hs,by omega,hv.2⟩,hall,hr.1⟩,fun n=>?_⟩,fun m hm h y hy=>?_,by simp⟩
   · by_cases en:n=s
     · subst en;rw[zy (n,v) r,h1]
     · rw[zG (x:=(s,v)) r (fun c=>en c.symm),hr.2 n,h2 n en]
   · rcases List.mem_cons.1 hy with rfl | hy
     · exact hm
     · exact h y hy
theorem merge_spec {f:Int→Int→Int×Int} (hf:Rk f):∀(fuel:Nat) (la lb:V),la.length+lb.length≤fuel→Gd la→Gd lb →
 ((∃n,(f (jf la n) (jf lb n)).2≠0)∧∀acc,jH f fuel la lb acc=(5,[])) ∨
 ((∀n,(f (jf la n) (jf lb n)).2=0)∧∃r,(∀acc,jH f fuel la lb acc=(0,acc++r))∧Made (fun n=>(f (jf la n) (jf lb n)).1) r ∧
   (∀m,(∀y ∈ la,ltS m y.1=true)→(∀y ∈ lb,ltS m y.1=true)→∀y ∈ r,ltS m y.1=true)):=by
 intro fuel
 induction fuel with
 | zero =>
  intro la lb hl ha hb;have e1:la=[]:=List.eq_nil_of_length_eq_zero (by omega);have e2:lb=[]:=List.eq_nil_of_length_eq_zero (by omega);subst e1;subst e2;refine .inr ⟨fun n=>by rw[show jf [] n=0 from rfl,hf.zero],[],fun acc=>by rw[jH,List.append_nil],⟨Gd.nil,fun n=>by show (0:Int)=(f 0 0).1;rw[hf.zero]⟩,fun m _ _ y hy=>absurd hy (by simp)⟩
 | succ fuel ih =>
  intro la lb hl ha hb;by_cases h0:la.length+lb.length=0
  · have e1:la=[]:=List.eq_nil_of_length_eq_zero (by omega);have e2:lb=[]:=List.eq_nil_of_length_eq_zero (by omega);subst e1;subst e2;refine .inr ⟨fun n=>by rw[show jf [] n=0 from rfl,hf.zero],[],fun acc=>by rw[Xp (by simp),List.append_nil],⟨Gd.nil,fun n=>by show (0:Int)=(f 0 0).1;rw[hf.zero]⟩,fun m _ _ y hy=>absurd hy (by simp)⟩
  · obtain⟨hs,hsa,hsb,hsm⟩:=jaI ha hb (by omega);have hless:=YW (la:=la) (lb:=lb) (by omega);obtain⟨s,es⟩:=eX (jh la lb)
    have hstep:∀acc,jH f (fuel+1) la lb acc=if (f (jj la s).1 (jj lb s).1).2≠0 then ((f (jj la s).1 (jj lb s).1).2,[]) else jH f fuel (jj la s).2 (jj lb s).2 (ZL acc s (f (jj la s).1 (jj lb s).1).1):=fun acc=>by
     rw[jH,if_neg h0];dsimp only;rw[es]
    rw[es] at hs hsa hsb hsm hless;obtain⟨a1,a2,a3,a4,a5⟩:=qY ha hsa;obtain⟨b1,b2,b3,b4,b5⟩:=qY hb hsb;rw[a1,b1] at hstep;have hca:=Jh s ha;have hcb:=Jh s hb;by_cases hx:(f (jf la s) (jf lb s)).2=0
    · have hstep2:∀acc,jH f (fuel+1) la lb acc=jH f fuel (jj la s).2 (jj lb s).2 (ZL acc s (f (jf la s) (jf lb s)).1):=fun acc=>by
       rw[hstep acc,if_neg (by rw[hx];decide)]
      have e0:∀n,n=s→f (jf (jj la s).2 n) (jf (jj lb s).2 n)=(0,0):=fun n hn=>by
       subst hn;rw[zW a3,zW b3,hf.zero]
      rcases ih (jj la s).2 (jj lb s).2 (by omega) a2 b2 with ⟨⟨n,hn⟩,hbad⟩ | ⟨hgood,r,hr,hm,hmin⟩
      · refine .inl ⟨⟨n,?_⟩,fun acc=>by rw[hstep2,hbad]⟩;by_cases en:n=s
        · rw[e0 n en] at hn;exact absurd rfl hn
        · rw[a4 n en,b4 n en] at hn;exact hn
      · obtain⟨r',h1,h2,h3,_⟩:=jep (s:=s) (v:=(f (jf la s) (jf lb s)).1) (g:=fun n=>(f (jf la n) (jf lb n)).1) hm hs (hf.bd _ _ hca hcb) (hmin s a3 b3) rfl
         (fun n hn=>by show _=_;rw[a4 n hn,b4 n hn])
        refine .inr ⟨fun n=>?_,r',fun acc=>by rw[hstep2,hr,h1],h2,fun m hma hmb=>h3 m (hsm m hma hmb) (hmin m (a5 m hma) (b5 m hmb))⟩;by_cases en:n=s
        · rw[en];exact hx
        · have:=hgood n;rw[a4 n en,b4 n en] at this;exact this
    · refine .inl ⟨⟨s,hx⟩,fun acc=>?_⟩;rw[hstep acc,if_pos hx,(hf.code _ _ hca hcb).resolve_left hx]
theorem merged_spec {f:Int→Int→Int×Int} (hf:Rk f) {l l':V} (h:Gd l) (h':Gd l') (hl:l.length≤8) (hl':l'.length≤8) :
 ((∃n,(f (jf l n) (jf l' n)).2≠0)∧jg f l l'=(5,[])) ∨
 ((∀n,(f (jf l n) (jf l' n)).2=0)∧∃r,Made (fun n=>(f (jf l n) (jf l' n)).1) r∧((8<r.length∧jg f l l'=(4,[]))∨(r.length≤8∧jg f l l'=(0,r)))):=by
 have e:jg f l l'=(let r:=jH f (l.length+l'.length) l l' [];if r.1≠0 then (r.1,[]) else if 8<r.2.length then (4,[]) else (0,r.2)):=by
  rw[jg,if_neg (by rw[qE h hl];decide),if_neg (by rw[qE h' hl'];decide)]
 rcases merge_spec hf (l.length+l'.length) l l' (Nat.le_refl _) h h' with ⟨hn,hb⟩ | ⟨hn,r,hr,hm,_⟩
 · exact .inl ⟨hn,by rw[e,hb];rfl⟩
 · refine .inr ⟨hn,r,hm,?_⟩;rw[e,hr];by_cases h8:8<r.length
   · exact .inl ⟨h8,by simp[h8]⟩
   · exact .inr ⟨by omega,by simp[h8]⟩
theorem jbI:∀{l h:V},jy h l=true↔∀x ∈ l,x.2≤jf h x.1
 | [],h=>⟨fun _ x hx=>absurd hx (by simp),fun _=>rfl⟩
 | x::t,h=>by
  rw[jy,Bool.and_eq_true,decide_eq_true_eq,jbI,List.forall_mem_cons]
theorem Zl {l h:V} (hl:Gd l) (hh:Gd h):jy h l=true↔∀n,jf l n≤jf h n:=by
 rw[jbI];constructor
 · intro hx n;by_cases e:jf l n=0
   · rw[e];exact(Jh n hh).1
   · obtain⟨x,hm,rfl⟩:=get_mem e;rw[jbt hl hm];exact hx x hm
 · intro hn x hx;have:=hn x.1;rw[jbt hl hx] at this;exact this
theorem jan (x y:Int):(jO x y).2=0↔y≤x:=by
 unfold jO;split
 · simp only[true_iff];assumption
 · constructor
   · intro h;cases h
   · intro h;contradiction
theorem Yl (x y:Int):(jB x y).2=0↔x+y≤9223372036854775807:=by
 unfold jB;split
 · simp only[true_iff];assumption
 · constructor
   · intro h;cases h
   · intro h;contradiction
theorem je6 {x y:Int} (h:y≤x):jO x y=(x-y,0):=by unfold jO;rw[if_pos h]
theorem X4 {x y:Int} (h:x+y≤9223372036854775807):jB x y=(x+y,0):=by unfold jB;rw[if_pos h]
theorem XZ {l l':V} (h:Gd l) (h':Gd l') (hl:l.length≤8) (hl':l'.length≤8) (hf:∀n,jf l' n≤jf l n) :
 ∃r,jg jO l l'=(0,r)∧Made (fun n=>jf l n-jf l' n) r∧r.length≤8:=by
 rcases merged_spec jem h h' hl hl' with ⟨⟨n,hn⟩,_⟩ | ⟨_,r,hm,hr⟩
 · exact absurd ((jan _ _).2 (hf n)) hn
 · have hm':Made (fun n=>jf l n-jf l' n) r:=⟨hm.1,fun n=>by rw[hm.2 n];show (jO _ _).1=_;rw[je6 (hf n)]⟩
   have hlen:r.length≤l.length:=Gd.len hm.1 h fun n hn=>by
    rw[hm'.2 n] at hn;dsimp only at hn;have h1:=Jh n h;have h2:=Jh n h';have:=hf n;omega
   rcases hr with ⟨h8,_⟩ | ⟨h8,e⟩
   · omega
   · exact⟨r,e,hm',h8⟩
theorem jfl {l l':V} (h:Gd l) (h':Gd l') (hl:l.length≤8) (hl':l'.length≤8):((jg jO l l').1=0)↔jy l l'=true:=by
 rw[Zl h' h];constructor
 · intro e;rcases merged_spec jem h h' hl hl' with ⟨⟨n,hn⟩,hb⟩ | ⟨hn,_⟩
   · rw[hb] at e;cases e
   · exact fun n=>(jan _ _).1 (hn n)
 · intro hf;obtain⟨r,e,_⟩:=XZ h h' hl hl' hf;rw[e]
theorem jfu {l l' r:V} (h:Gd l) (h':Gd l') (hl:l.length≤8) (hl':l'.length≤8) (hs:∀n,jf l n+jf l' n≤9223372036854775807) (hr:Made (fun n=>jf l n+jf l' n) r) (h8:r.length≤8):jg jB l l'=(0,r):=by
 rcases merged_spec jdY h h' hl hl' with ⟨⟨n,hn⟩,_⟩ | ⟨hn,q,hm,hq⟩
 · exact absurd ((Yl _ _).2 (hs n)) hn
 · have e:q=r:=Gd.ext hm.1 hr.1 fun n=>by rw[hm.2 n,hr.2 n];show (jB _ _).1=_;rw[X4 (hs n)]
   subst e;rcases hq with ⟨h9,_⟩ | ⟨_,e⟩
   · omega
   · exact e
theorem Reads.fine {v:Value} {l:V} {w:World} (h:Reads w v l):Jd l:=by
 obtain⟨a,cap,rfl,h1,h2,h3⟩:=h;exact h3.2.2.1
end Go.Proofs.YtabafpoklpiiiaaGreat.Vec
namespace Go.Proofs.YtabafpoklpiiiaaGreat
open Go.RowKit
theorem jfV (w:World) (x:ByteArray) (hx:x.size≤maxLen):Own jK 9 (w.alloc (.cells #[.string x] 9)) w.heap.size (.slice (some ⟨w.heap.size,0,none⟩) 1 1) [x] :=
 ⟨⟨rfl,.inr ⟨w.heap.size,1,#[.string x],rfl,Nat.le_refl _,World.alloc_heap_new w _,Nat.le_refl _,by decide,rfl,rfl⟩⟩,fun z hz=>by
  have:z=x:=by simpa using hz
  rw[this];exact hx⟩
end Go.Proofs.YtabafpoklpiiiaaGreat
namespace Go.Proofs.YtabafpoklpiiiaaGreat.Vec
open Go.RowKit Go.Proofs.YtabafpoklpiiiaaGreat
def Yn (w:World) (v:Value) (vs:List (Nat×Nat)) (ps:List (List UInt8)):Prop :=
 ∀(i:Nat) (x:Nat×Nat) (p:List UInt8),vs[i]?=some x→ps[i]?=some p→x.1<w.heap.size∧v.ownBlock≠some x.1 ∧
  w.cell? ⟨x.1,0,none⟩=some (.string (bytes (nameOf p)))∧w.cell? ⟨x.1,1,none⟩=some (.string (bytes (jeD p)))
theorem Yn.nil (w:World) (v:Value) (ps:List (List UInt8)):Yn w v [] ps:=fun i x p h=>by simp at h
theorem Yn.kept {w w':World} {v:Value} {vs:List (Nat×Nat)} {ps:List (List UInt8)} (h:Yn w v vs ps) (k:Kept w w'):Yn w' v vs ps:=fun i x p hx hp=>by
 obtain⟨h1,h2,h3,h4⟩:=h i x p hx hp;exact⟨Nat.lt_of_lt_of_le h1 k.size,h2,cell_later k h3,cell_later k h4⟩
theorem Yn.snoc {w w':World} {v:Value} {vs:List (Nat×Nat)} {ps:List (List UInt8)} {g n cap b c:Nat} {p:List UInt8} (h:Yn w v vs ps) (hg:w.grownBy w' v.ownBlock) (hgo:v.ownBlock=some g∨g=w.heap.size)
 (hp:ps[vs.length]?=some p) (hb:b<w.heap.size) (hne:v.ownBlock≠some b)
 (c0:w.cell? ⟨b,0,none⟩=some (.string (bytes (nameOf p)))) (c1:w.cell? ⟨b,1,none⟩=some (.string (bytes (jeD p)))) :
 Yn w' (.slice (some ⟨g,0,none⟩) n cap) (vs++[(b,c)]) ps:=by
 have far:∀d,d<w.heap.size→v.ownBlock≠some d→d<w'.heap.size∧(Value.slice (some ⟨g,0,none⟩) n cap).ownBlock≠some d∧∀j,w'.cell? ⟨d,j,none⟩=w.cell? ⟨d,j,none⟩:=fun d hd hn=>by
  refine⟨Nat.lt_of_lt_of_le hd hg.size,?_,fun j=>hg.cell_far ⟨d,j,none⟩ hd (fun e=>hn e.symm)⟩;show some g≠some d;intro e;have e':g=d:=Option.some.inj e;rcases hgo with h1 | h1
  · exact hn (by rw[h1,e'])
  · omega
 intro i x q hx hq;by_cases hi:i<vs.length
 · rw[List.getElem?_append_left hi] at hx;obtain⟨h1,h2,h3,h4⟩:=h i x q hx hq;obtain⟨f1,f2,f3⟩:=far x.1 h1 h2;exact⟨f1,f2,(f3 0).trans h3,(f3 1).trans h4⟩
 · have hi2:i=vs.length:=by
    have:=(List.getElem?_eq_some_iff.1 hx).1;simp at this;omega
   subst hi2;have hxx:(b,c)=x:=by simpa using hx
   have hqq:q=p:=Option.some.inj (hq.symm.trans hp);subst hxx;subst hqq;obtain⟨f1,f2,f3⟩:=far b hb hne;exact⟨f1,f2,(f3 0).trans c0,(f3 1).trans c1⟩
open Go.RowKit
def Told (c:Int) (m:V) (w:World) (e:Ending) (w':World):Prop:=∃x,e=.returned (.tuple #[x,.int .i64 c])∧jP 180 w' w.heap.size x m∧Kept w w'
theorem Told.none {c:Int} {w w':World} (k:Kept w w'):Told c [] w (.returned (.tuple #[.slice none 0 0,.int .i64 c])) w':=⟨_,rfl,jP.nil _ _ _,k⟩
theorem jP.reads {e:TypeId} {w:World} {B:Nat} {v:Value} {l:V} (h:jP e w B v l):Reads w v l:=h.at_
end Go.Proofs.YtabafpoklpiiiaaGreat.Vec
namespace Go.Proofs.YtabafpoklpiiiaaGreat
open Go.RowKit
structure Nod where
 name:ByteArray
 cap:Vec.V
 labels:PL
 taints:NL
 cordon:Bool
def Nod.zero:Nod:=⟨ByteArray.empty,[],[],[],false⟩
abbrev Zh (n:Nod) (v1 v2 v3:Value):Value:=.agg #[.string n.name,v1,v2,v3,.bool n.cordon]
structure zA (w:World) (v1 v2 v3:Value) (n:Nod):Prop where
 size:n.name.size≤maxLen
 cap:Vec.Reads w v1 n.cap
 labels:Reads zc w v2 n.labels
 taints:Reads zr w v3 n.taints
theorem zA.kept {w w':World} {v1 v2 v3:Value} {n:Nod} (h:zA w v1 v2 v3 n) (k:Kept w w'):zA w' v1 v2 v3 n:=⟨h.size,h.cap.kept k,h.labels.kept k,h.taints.kept k⟩
def jcB (w:World) (v:Value) (n:Nod):Prop:=∃v1 v2 v3,v=Zh n v1 v2 v3∧zA w v1 v2 v3 n
theorem jcB.kept {w w':World} {v:Value} {n:Nod} (h:jcB w v n) (k:Kept w w'):jcB w' v n:=by
 obtain⟨v1,v2,v3,e,h⟩:=h;exact⟨v1,v2,v3,e,h.kept k⟩
def Jj (n:Nod):Int:=if isName n.name=false then 3 else if Vec.jE n.cap≠0 then Vec.jE n.cap else if je9 n.labels≠0 then je9 n.labels else jg5 n.taints
def or3 (a b c:Int):Int:=if a≠0 then a else if b≠0 then b else c
end Go.Proofs.YtabafpoklpiiiaaGreat
namespace Go.Proofs.YtabafpoklpiiiaaGreat.Vec
open Go.RowKit Go.Proofs.YtabafpoklpiiiaaGreat
def ZR (u:Nat):List UInt8:=if u<10 then [] else Lib.decDigits (u / 10)
theorem qm (u:Nat):Lib.decDigits u=ZR u++[UInt8.ofNat (48+u % 10)]:=by
 unfold ZR;by_cases h:u<10
 · rw[Lib.decDigits,dif_pos h,if_pos h,Nat.mod_eq_of_lt h];rfl
 · rw[Lib.decDigits,dif_neg h,if_neg h]
def dig (d:Int):UInt8:=UInt8.ofNat d.toNat
theorem jcp (u:Nat):dig (48+(u:Int) % 10)=UInt8.ofNat (48+u % 10):=by
 unfold dig;rw[show (48+(u:Int) % 10).toNat=48+u % 10 by omega]
theorem jfd (W:World) (d:Int):Sem.run Tryz.prog (convert 148 9 (.slice (some ⟨W.heap.size,0,none⟩) 1 1)) (W.alloc (.cells #[.int .u8 d] 5))=.ok (.string (bytes [dig d])) (W.alloc (.cells #[.int .u8 d] 5)) :=
 run_convert_bytes_arg (W.alloc (.cells #[.int .u8 d] 5)) 148 5 Tryz.underlying148 Tryz.underlying5 W.heap.size 0 1 1 [d] rfl (fun i hi=>by
  obtain rfl:i=0:=by omega
  have hh:=W.alloc_heap_new (.cells #[.int .u8 d] 5);rw[Lib.cell_of_heap hh];rfl) 9 Tryz.underlying9
theorem jds:∀(k u:Nat),u<10 ^ (k+1)→(Lib.decDigits u).length≤k+1
 | 0,u,h=>by rw[Lib.decDigits,dif_pos (by simpa using h)];simp
 | k+1,u,h=>by
  by_cases h10:u<10
  · rw[Lib.decDigits,dif_pos h10];simp
  · rw[Lib.decDigits,dif_neg h10,List.length_append];have:=jds k (u / 10) (by rw[Nat.pow_succ] at h;omega);simp;omega
theorem jbK {u:Nat} (h:u≤9223372036854775808):(Lib.decDigits u).length≤19:=jds 18 u (Nat.lt_of_le_of_lt h (by decide))
theorem jaq (x y:List UInt8):bytes x++bytes y=bytes (x++y):=by
 apply Go.WideShapes.bytes_inj;simp[bytes,ByteArray.data_append]
theorem jcj (u:Nat) (w:World) (hu:u≤9223372036854775807) :
 Calls Tryz.prog 37 #[.int .i64 (u:Int)] w fun e w'=>e=.returned (.string (bytes (Lib.decDigits u)))∧Kept w w':=by
 have hn:¬(u:Int)<0:=by omega
 have cv:=jfd;go_enter Tryz.func37,Tryz.ntmps37;go_wp2;go_loopw [0,3] (fun n s wr=>∃(v:Nat) (t:List UInt8),v≤u∧n=.int .i64 v∧s=.string (bytes t)∧Hid (Lib.decDigits u=ZR v++t)∧Kept w wr) (fun n _ _=>(intOf n).toNat)
 case atStart =>
  refine⟨u,[UInt8.ofNat (48+u % 10)],Nat.le_refl _,rfl,?_,lH (qm u),ja _ _⟩;rw[jcp]
 case round =>
  obtain⟨v,t,hv,rfl,rfl,HT,hK⟩:=hrel;have HK:=lH hK;clear hK;by_cases h10:v<10
  · have HE:=lH (show Lib.decDigits u=t by rw[HT];unfold ZR;rw[if_pos h10];rfl);go_wp2;go_ret;rw[HE.out];exact⟨rfl,HK.out⟩
  · obtain⟨q,hq⟩:=eX (v / 10)
    have hqi:(v:Int) / 10=(q:Int):=by omega
    have hge:(10:Int)≤(v:Int):=by omega
    have hsz:(bytes [dig (48+(q:Int) % 10)]).size=1:=by simp[bytes,ByteArray.size]
    have hst:(bytes t).size=t.length:=YL t;have hlen:t.length≤19:=by
     have h1:=congrArg List.length HT;rw[List.length_append] at h1;have:=jbK (u:=u) (by omega);omega
    have HN:=lH (show Lib.decDigits u=ZR q++(dig (48+(q:Int) % 10)::t) by
     rw[HT,jcp];have:ZR v=Lib.decDigits q:=by unfold ZR;rw[if_neg h10,hq]
     rw[this,qm q];simp)
    clear HT;go_wp2;go_roundw
    case rel =>
     refine⟨q,dig (48+(q:Int) % 10)::t,by omega,rfl,?_,HN,HK.out.trans (ja _ _)⟩;rw[jaq];rfl
    case measure=>simp[intOf];omega
theorem jdl:bytes (Lib.itoa (-9223372036854775808))=⟨#[45,57,50,50,51,51,55,50,48,51,54,56,53,52,55,55,53,56,48,56]⟩:=by
 simp[Lib.itoa,Lib.decDigits,bytes]
theorem jbV (n:Int) (w:World) (h1:-9223372036854775808≤n) (h2:n≤9223372036854775807) :
 Calls Tryz.prog 37 #[.int .i64 n] w fun e w'=>e=.returned (.string (bytes (Lib.itoa n)))∧Kept w w':=by
 by_cases h0:0≤n
 · obtain⟨u,rfl⟩:∃u:Nat,n=(u:Int):=⟨n.toNat,by omega⟩
   have e:Lib.itoa (u:Int)=Lib.decDigits u:=by unfold Lib.itoa;rw[if_neg (by omega)];rfl
   rw[e];exact jcj u w (by omega)
 · by_cases hm:n=-9223372036854775808
   · subst hm;have HV:=lH jdl;clear h0 h1 h2;go_enter Tryz.func37,Tryz.ntmps37;go_wp2;go_ret;rw[HV.out];exact⟨rfl,Kept.refl _⟩
   · obtain⟨u,hu⟩:∃u:Nat,-n=(u:Int):=⟨(-n).toNat,by omega⟩
     have e:Lib.itoa n=45::Lib.decDigits u:=by
      unfold Lib.itoa;rw[if_pos (by omega),show n.natAbs=u by omega]
     have HE:=lH e;have hs:(0:Int)-n=(u:Int):=by omega
     have hl:=jbK (u:=u) (by omega);have hsz:(bytes (Lib.decDigits u)).size=(Lib.decDigits u).length:=YL _;have hlt:n<0:=by omega
     have hne:(n==-9223372036854775808)=false:=by simpa using hm
     have HD:=lH (fun W=>jcj u W (by omega));have hw:IntKind.i64.wrap (0-n)=(u:Int):=by rw[hs,IntKind.wrap_i64];omega
     clear e hu h0;go_enter Tryz.func37,Tryz.ntmps37;go_wp2_with fail
     refine(HD.out _).mono ?_;rintro e w1 ⟨rfl,k⟩;have K:=lH k;clear k;go_wp2;go_ret;rw[HE.out];exact⟨by rw[show (⟨#[45]⟩:ByteArray)=bytes [45] from rfl,jaq];rfl,K.out⟩
end Go.Proofs.YtabafpoklpiiiaaGreat.Vec
namespace Go.Proofs.YtabafpoklpiiiaaGreat
open Go.RowKit
def zK (B:Nat) (w:World) (v:Value) (n:Nod):Prop:=∃a1 m1 c1 a2 m2 c2 a3 m3 c3,v=.agg #[.string n.name,.slice a1 m1 c1,.slice a2 m2 c2,.slice a3 m3 c3,.bool n.cordon]∧n.name.size≤maxLen∧Vec.Reads w (.slice a1 m1 c1) n.cap∧Reads zc w (.slice a2 m2 c2) n.labels∧Reads zr w (.slice a3 m3 c3) n.taints ∧
 (∀b off sp,a1=some ⟨b,off,sp⟩→B≤b)∧(∀b off sp,a2=some ⟨b,off,sp⟩→B≤b)∧(∀b off sp,a3=some ⟨b,off,sp⟩→B≤b)
theorem zK.toR {B:Nat} {w:World} {v:Value} {n:Nod} (h:zK B w v n):jcB w v n:=by
 obtain⟨a1,m1,c1,a2,m2,c2,a3,m3,c3,e,h0,h1,h2,h3,_⟩:=h;exact⟨_,_,_,e,h0,h1,h2,h3⟩
def qt (r:Int×Nod) (w:World) (e:Ending) (w':World):Prop:=(r.1=0→∃v,e=.returned v∧zK w.heap.size w' v r.2)∧(r.1≠0→e=.panicked [jV r.1])∧Kept w w'
theorem qt.good {r:Int×Nod} {w w':World} {v:Value} (h:r.1=0) (ho:zK w.heap.size w' v r.2) (hb:Kept w w'):qt r w (.returned v) w':=⟨fun _=>⟨v,rfl,ho⟩,fun g=>absurd h g,hb⟩
theorem qt.bad {r:Int×Nod} {w w':World} {c:Int} (h:r.1=c) (hc:c≠0) (hb:Kept w w'):qt r w (.panicked [jV c]) w':=⟨fun g=>absurd (h.symm.trans g) hc,fun _=>by rw[h],hb⟩
theorem Vec.ZS.spelt {r:Int×Vec.V} {w w':World} {e:Ending} (h:Vec.ZS r w e w'):∃a m cap,e=.returned (.tuple #[.slice a m cap,.int .i64 r.1])∧Vec.Reads w' (.slice a m cap) r.2∧(∀b off sp,a=some ⟨b,off,sp⟩→w.heap.size≤b∧b<w'.heap.size)∧Kept w w':=by
 obtain⟨v,rfl,ho,k⟩:=h;obtain⟨a,cap,rfl,h⟩:=ho.at_;exact⟨a,_,cap,rfl,⟨a,cap,rfl,h⟩,fun b off sp e=>ho.1.lt b (by subst e;rfl),k⟩
theorem X7 (w:World) (v0 v1 v2 v3 v4:Value) (T:TypeId) (W:World) (k:Kept (w.alloc (.cells #[v0,v1,v2,v3,v4] T)) W) :
 (W.cell? ⟨w.heap.size,0,none⟩=some v0∧W.cell? ⟨w.heap.size,1,none⟩=some v1∧W.cell? ⟨w.heap.size,2,none⟩=some v2∧W.cell? ⟨w.heap.size,3,none⟩=some v3∧W.cell? ⟨w.heap.size,4,none⟩=some v4) ∧
 W.frozen? ⟨w.heap.size,0,none⟩=false∧W.frozen? ⟨w.heap.size,1,none⟩=false∧W.frozen? ⟨w.heap.size,2,none⟩=false∧W.frozen? ⟨w.heap.size,3,none⟩=false∧W.frozen? ⟨w.heap.size,4,none⟩=false:=by
 have hh:=w.alloc_heap_new (.cells #[v0,v1,v2,v3,v4] T);have hf:∀j,W.frozen? ⟨w.heap.size,j,none⟩=false:=fun j=>by
  have:=k.frozen (p:=⟨w.heap.size,j,none⟩) (by simp);rw[this];unfold World.frozen?;rw[show (w.alloc (.cells #[v0,v1,v2,v3,v4] T)).heap[(⟨w.heap.size,j,none⟩:Addr).block]?=some (.cells #[v0,v1,v2,v3,v4] T) from hh];simp
 exact⟨⟨cell_later k (by rw[Lib.cell_of_heap hh];rfl),cell_later k (by rw[Lib.cell_of_heap hh];rfl),cell_later k (by rw[Lib.cell_of_heap hh];rfl),cell_later k (by rw[Lib.cell_of_heap hh];rfl),cell_later k (by rw[Lib.cell_of_heap hh];rfl)⟩,hf 0,hf 1,hf 2,hf 3,hf 4⟩
theorem jdc (W:World) (q:Nat) (u0 u1 u2 u3 u4:Value) (b:Nat) (h:b≠q) :
 (((((W.setCell ⟨q,0,none⟩ u0).setCell ⟨q,1,none⟩ u1).setCell ⟨q,2,none⟩ u2).setCell ⟨q,3,none⟩ u3).setCell ⟨q,4,none⟩ u4).heap[b]?=W.heap[b]? :=
 (Below.heap_setCell _ ⟨q,4,none⟩ _ b h).trans ((Below.heap_setCell _ ⟨q,3,none⟩ _ b h).trans ((Below.heap_setCell _ ⟨q,2,none⟩ _ b h).trans ((Below.heap_setCell _ ⟨q,1,none⟩ _ b h).trans (Below.heap_setCell _ ⟨q,0,none⟩ _ b h))))
theorem jdO (W:World) (q:Nat) (u0 u1 u2 u3 u4:Value) :
 (((((W.setCell ⟨q,0,none⟩ u0).setCell ⟨q,1,none⟩ u1).setCell ⟨q,2,none⟩ u2).setCell ⟨q,3,none⟩ u3).setCell ⟨q,4,none⟩ u4).heap.size=W.heap.size:=by simp[World.setCell]
theorem Reads.far {α:Type} {L:Lay α} {w w':World} {a:Option Addr} {m cap:Nat} {l:List α} (h:Reads L w (.slice a m cap) l) (hs:w'.heap.size=w.heap.size) (hb:∀b off sp,a=some ⟨b,off,sp⟩→w'.heap[b]?=w.heap[b]?):Reads L w' (.slice a m cap) l:=by
 obtain⟨a',cap',e,h1,h2,h3,h4,h5,h6⟩:=h
 cases e
 refine⟨a,cap,rfl,h1,h2,h3,h4,h5,h6.imp id ?_⟩;rintro ⟨b,off,rfl,hlt,hc⟩;exact⟨b,off,rfl,by rw[hs];exact hlt,fun i x j u hi hj=>(World.cell?_of_block (a:=⟨b,off+i*L.m+j,none⟩) (hb b off none rfl)).trans (hc i x j u hi hj)⟩
theorem Vec.Reads.far {w w':World} {a:Option Addr} {m cap:Nat} {l:Vec.V} (h:Vec.Reads w (.slice a m cap) l) (hs:w'.heap.size=w.heap.size) (hb:∀b off sp,a=some ⟨b,off,sp⟩→w'.heap[b]?=w.heap[b]?):Vec.Reads w' (.slice a m cap) l:=by
 obtain⟨a',cap',e,h1,h2,h3,h4,h5,h6⟩:=h
 cases e
 refine⟨a,cap,rfl,h1,h2,h3,h4,h5,h6.imp id ?_⟩;rintro ⟨b,off,rfl,hlt,hc⟩;exact⟨b,off,rfl,by rw[hs];exact hlt,fun i hi=>⟨(World.cell?_of_block (a:=⟨b,off+i*2,none⟩) (hb b off none rfl)).trans (hc i hi).1,(World.cell?_of_block (a:=⟨b,off+i*2+1,none⟩) (hb b off none rfl)).trans (hc i hi).2⟩⟩
theorem YF {W:World} {q:Nat} {v0 v1 v2 v3 v4 u0 u1 u2 u3 u4:Value} (y0:W.cell? ⟨q,0,none⟩=some v0) (y1:W.cell? ⟨q,1,none⟩=some v1) (y2:W.cell? ⟨q,2,none⟩=some v2) (y3:W.cell? ⟨q,3,none⟩=some v3) (y4:W.cell? ⟨q,4,none⟩=some v4) (W':World)
 (hW:(((((W.setCell ⟨q,0,none⟩ u0).setCell ⟨q,1,none⟩ u1).setCell ⟨q,2,none⟩ u2).setCell ⟨q,3,none⟩ u3).setCell ⟨q,4,none⟩ u4)=W') :
 W'.cell? ⟨q,0,none⟩=some u0∧W'.cell? ⟨q,1,none⟩=some u1∧W'.cell? ⟨q,2,none⟩=some u2∧W'.cell? ⟨q,3,none⟩=some u3∧W'.cell? ⟨q,4,none⟩=some u4:=by
 subst hW;refine⟨?_,?_,?_,?_,?_⟩<;>go_simp
theorem XC (B:Nat) (q:Nat) (x y:Int) (w:World) (hq:w.cell? ⟨q,0,none⟩=some (.int .i64 y)) (hzq:w.frozen? ⟨q,0,none⟩=false) (hBq:B≤q) :
 CallsD Tryz.prog 148 #[.pointer (some ⟨q,0,none⟩)] (.panicking [jV x]) w fun e u' w' =>
  e=.returned (.tuple #[])∧u'=.panicking [{ jV x with recovered:=true }]∧w'=w.setCell ⟨q,0,none⟩ (.int .i64 x)∧w'.cell? ⟨q,0,none⟩=some (.int .i64 x)∧Below B w w':=by
 have hta:∀W,(Instr.typeAssert (.iface 53 (.int .i64 x)) 20 53 false).run Tryz.prog W=.ok (.int .i64 x) W:=fun _=>by kernel_rfl
 refine callsD_of_wpS Tryz.func148 rfl fun c₀ cs hu=>?_;apply wpS_seq;apply wpS_region;simp[wpOpsS,go_sem,recoverD,hu,Tryz.ntmps148,Exit.thenS];apply wpS_seq;apply wpS_region;simp[wpOpsS,go_sem,recoverD,Exit.thenS];refine wpS_cond (t:=true) (by simp[Act.eval,Array.replicate]) ?_;simp only[if_true];refine wpS_of_wp ?_;simp[Array.replicate];go_wp2;simp[bodyPostS,results,Tryz.results148];exact⟨World.cell?_setCell_same' _ _ _ (by rw[hq];rfl),(Below.refl B w).setCell (p:=⟨q,0,none⟩) hBq _⟩
theorem jbh (q:Addr) (w:World) :
 CallsD Tryz.prog 148 #[.pointer (some q)] .returning w fun e u' w'=>e=.returned (.tuple #[])∧u'=.returning∧w'=w:=by
 refine callsD_of_wpS Tryz.func148 rfl fun c₀ cs hu=>?_;apply wpS_seq;apply wpS_region;simp[wpOpsS,go_sem,recoverD,hu,Tryz.ntmps148,Exit.thenS];apply wpS_seq;apply wpS_region;simp[wpOpsS,go_sem,recoverD,hu,Exit.thenS];refine wpS_cond (t:=false) (by simp[Act.eval,Array.replicate]) ?_;simp only[Bool.false_eq_true,if_false];refine wpS_of_wp (wp_skip ?_)
 cases c₀
 simp_all [bodyPostS,results,Tryz.results148]
theorem jcM (B:Nat) (w:World):zK B w (.agg #[.string ⟨#[]⟩,.slice none 0 0,.slice none 0 0,.slice none 0 0,.bool false]) Nod.zero :=
 ⟨none,0,0,none,0,0,none,0,0,rfl,(by decide:(0:Nat)≤maxLen),Vec.Reads.nil w,Reads.nil w,Reads.nil w,(fun _ _ _ e=>by cases e),(fun _ _ _ e=>by cases e),(fun _ _ _ e=>by cases e)⟩
theorem zK.less {B B':Nat} {w:World} {v:Value} {n:Nod} (h:zK B w v n) (hb:B'≤B):zK B' w v n:=by
 obtain⟨a1,m1,c1,a2,m2,c2,a3,m3,c3,e,h0,h1,h2,h3,g1,g2,g3⟩:=h;exact⟨a1,m1,c1,a2,m2,c2,a3,m3,c3,e,h0,h1,h2,h3,fun b o s e=>Nat.le_trans hb (g1 b o s e),fun b o s e=>Nat.le_trans hb (g2 b o s e),fun b o s e=>Nat.le_trans hb (g3 b o s e)⟩
theorem zK.far {B:Nat} {w w':World} {v:Value} {n:Nod} (h:zK B w v n) (hs:w'.heap.size=w.heap.size) (hb:∀b,B≤b→w'.heap[b]?=w.heap[b]?):zK B w' v n:=by
 obtain⟨a1,m1,c1,a2,m2,c2,a3,m3,c3,e,h0,h1,h2,h3,g1,g2,g3⟩:=h;exact⟨a1,m1,c1,a2,m2,c2,a3,m3,c3,e,h0,h1.far hs (fun b o s e=>hb b (g1 b o s e)),h2.far hs (fun b o s e=>hb b (g2 b o s e)),h3.far hs (fun b o s e=>hb b (g3 b o s e)),g1,g2,g3⟩
theorem zK.kept {B:Nat} {w w':World} {v:Value} {n:Nod} (h:zK B w v n) (k:Kept w w'):zK B w' v n:=by
 obtain⟨a1,m1,c1,a2,m2,c2,a3,m3,c3,e,h0,h1,h2,h3,g1,g2,g3⟩:=h;exact⟨a1,m1,c1,a2,m2,c2,a3,m3,c3,e,h0,h1.kept k,h2.kept k,h3.kept k,g1,g2,g3⟩
def jgQ (q:Nat) (x:ByteArray) (a1 a2 a3:Option Addr) (m1 c1 m2 c2 m3 c3:Nat) (b:Bool) (W W':World):Prop :=
 (W'.cell? ⟨q,0,none⟩=some (.string x)∧W'.cell? ⟨q,1,none⟩=some (.slice a1 m1 c1)∧W'.cell? ⟨q,2,none⟩=some (.slice a2 m2 c2)∧W'.cell? ⟨q,3,none⟩=some (.slice a3 m3 c3)∧W'.cell? ⟨q,4,none⟩=some (.bool b)) ∧
  W'.heap.size=W.heap.size∧(∀j,j≠q→W'.heap[j]?=W.heap[j]?)∧∀B w,B≤q→Below B w W→Below B w W'
theorem Zz {W:World} {q:Nat} {v0 v1 v2 v3 v4:Value} (y:W.cell? ⟨q,0,none⟩=some v0∧W.cell? ⟨q,1,none⟩=some v1∧W.cell? ⟨q,2,none⟩=some v2∧W.cell? ⟨q,3,none⟩=some v3∧W.cell? ⟨q,4,none⟩=some v4) (x:ByteArray) (a1 a2 a3:Option Addr) (m1 c1 m2 c2 m3 c3:Nat) (b:Bool) :
 jgQ q x a1 a2 a3 m1 c1 m2 c2 m3 c3 b W (((((W.setCell ⟨q,0,none⟩ (.string x)).setCell ⟨q,1,none⟩ (.slice a1 m1 c1)).setCell ⟨q,2,none⟩ (.slice a2 m2 c2)).setCell ⟨q,3,none⟩ (.slice a3 m3 c3)).setCell ⟨q,4,none⟩ (.bool b)) :=
 ⟨YF y.1 y.2.1 y.2.2.1 y.2.2.2.1 y.2.2.2.2 _ rfl,jdO _ _ _ _ _ _ _,fun j hj=>jdc _ _ _ _ _ _ _ j hj,
  fun B w hB hk=>((((hk.setCell (p:=⟨q,0,none⟩) hB _).setCell (p:=⟨q,1,none⟩) hB _).setCell (p:=⟨q,2,none⟩) hB _).setCell (p:=⟨q,3,none⟩) hB _).setCell (p:=⟨q,4,none⟩) hB _⟩
def Kind (t e:TypeId) (size bytes:Nat):Prop:=∃i z,Tryz.prog.underlying t=some (.slice e)∧Tryz.prog.info? e=some i∧i.zero=some z∧i.size=size∧i.bytes=bytes∧z.cells.size=size∧0<size
def Y9 (w:World) (y:Value) (m:Nat) (news:List Value):Prop :=
 (∃ad c,y=.slice (some ad) m c∧∀j u,news[j]?=some u→w.cell? (ad.add j)=some u)∨(∃c,y=.slice none 0 c∧m=0)
theorem jbZ {t e:TypeId} {size bytes:Nat} (K:Kind t e size bytes) (w:World) (B:Nat) (hB:B≤w.heap.size) (g n cap:Nat) (xs:List Value) (hown:w.ownsRow B e size (.slice (some ⟨g,0,none⟩) n cap) n xs) (y:Value) (m:Nat) (news:List Value) (hl:news.length=m*size) (hone:∀u ∈ news,u.oneCell'=true) (hy:Y9 w y m news)
 (h63:n+m≤maxLen) (hb:((n+m)+(n+m) / 4+192)*bytes≤281474976710656) (ty:TypeId) :
 ∃g' cap' w',(Builtin.append_ #[t,t] ty #[.slice (some ⟨g,0,none⟩) n cap,y]).run Tryz.prog w=.ok (.slice (some ⟨g',0,none⟩) (n+m) cap') w'∧w'.ownsRow B e size (.slice (some ⟨g',0,none⟩) (n+m) cap') (n+m) (xs++news)∧Below B w w'∧w.grownBy w' (some g):=by
 obtain⟨i,z,ht,hi,hz,h1,h8,hzs,hsz⟩:=K;have hbg:B≤g:=by
  rcases hown.2 with ⟨h0,_⟩ | ⟨g2,cap2,cur,h0,hbg,_⟩
  · cases h0
  · cases h0;exact hbg
 rcases hy with ⟨ad,c,rfl,hc⟩ | ⟨c,rfl,rfl⟩
 · obtain⟨v',w',hr,ho,hg,hnil⟩:=run_append_own_wide w B t ty e i z size bytes ht hi hz h1 h8 hzs hsz _ n xs hown ad m c news hl hc hone h63 hb hB;have hb:=(Below.refl B w).grown hg hB (by intro k hk;cases hk;exact hbg);rcases ho.2 with ⟨h0,_⟩ | ⟨g2,cap2,cur,rfl,_⟩
   · have:=(hnil.1 h0).1
     cases this
   · exact⟨g2,cap2,w',hr,ho,hb,hg⟩
 · have:news=[]:=List.eq_nil_of_length_eq_zero (by rw[hl,Nat.zero_mul]);subst this;rcases hown.2 with ⟨h0,_⟩ | ⟨g2,cap2,cur,h0,_,hg,hnc,_⟩
   · cases h0
   · cases h0
     have hr:=run_append_room_src w t t ty e i ht hi g 0 n cap (.slice none 0 c) 0 [] (Src.ofNil w ht c) (by omega) (by intro j hj;simp at hj) (by intro j hj;simp at hj);exact⟨_,_,_,hr,by simpa [World.setCells] using hown,Below.refl B w,World.grownBy.refl _ _⟩
theorem jcW {t e:TypeId} {size bytes:Nat} (Kd:Kind t e size bytes) {o:Oper} {a:Act} {K:Act→World→Prop} {Q:Exit→Act→World→Prop} (s x:Operand) (w:World)
 (ho:o.op=.call { callee:=.builtin .append,args:=#[s,x],argTypes:=#[t,t] })
 (B:Nat) (hB:B≤w.heap.size) (g n cap:Nat) (xs:List Value) (hs:a.eval s=.slice (some ⟨g,0,none⟩) n cap) (hown:w.ownsRow B e size (.slice (some ⟨g,0,none⟩) n cap) n xs) (y:Value) (m:Nat) (news:List Value) (hx:a.eval x=y) (hl:news.length=m*size) (hone:∀u ∈ news,u.oneCell'=true) (hy:Y9 w y m news)
 (h63:n+m≤maxLen) (hb:((n+m)+(n+m) / 4+192)*bytes≤281474976710656)
 (h:∀g' cap' w',w'.ownsRow B e size (.slice (some ⟨g',0,none⟩) (n+m) cap') (n+m) (xs++news)→Below B w w'→w.grownBy w' (some g)→K (a.put o.dst (.slice (some ⟨g',0,none⟩) (n+m) cap')) w'):o.wp Tryz.prog a w K Q:=by
 obtain⟨g',cap',w',hr,h2,h3,h4⟩:=jbZ Kd w B hB g n cap xs hown y m news hl hone hy h63 hb o.type;unfold Oper.wp execOp;simp only[ho,resolve,invoke,builtin,Sem.run_bind,Sem.run_pure,Result.andThen_ok,List.map_toArray,List.map_cons,List.map_nil,hs,hx,hr];exact h g' cap' w' h2 h3 h4
theorem zg {t e:TypeId} {size bytes:Nat} (Kd:Kind t e size bytes) {ops:Array Oper} {rest:List Oper} {o:Oper} {a:Act} {Q:Exit→Act→World→Prop} (w:World) (hgd:o.guard=none) (s x:Operand)
 (ho:o.op=.call { callee:=.builtin .append,args:=#[s,x],argTypes:=#[t,t] })
 (B:Nat) (hB:B≤w.heap.size) (g n cap:Nat) (xs:List Value) (hs:a.eval s=.slice (some ⟨g,0,none⟩) n cap) (hown:w.ownsRow B e size (.slice (some ⟨g,0,none⟩) n cap) n xs) (y:Value) (m:Nat) (news:List Value) (hx:a.eval x=y) (hl:news.length=m*size) (hone:∀u ∈ news,u.oneCell'=true) (hy:Y9 w y m news)
 (h63:n+m≤maxLen) (hb:((n+m)+(n+m) / 4+192)*bytes≤281474976710656)
 (h:∀g' cap' w',w'.ownsRow B e size (.slice (some ⟨g',0,none⟩) (n+m) cap') (n+m) (xs++news)→Below B w w'→w.grownBy w' (some g)→wpList Tryz.prog ops Q rest (a.put o.dst (.slice (some ⟨g',0,none⟩) (n+m) cap')) w'):wpList Tryz.prog ops Q (o::rest) a w :=
 wpList_plain hgd fun _ hK=>jcW Kd s x w ho B hB g n cap xs hs hown y m news hx hl hone hy h63 hb fun g' cap' w' h2 h3 h4=>hK _ _ (h g' cap' w' h2 h3 h4)
theorem Jk (w:World) (B size:Nat) (e:TypeId) (hB:B≤w.heap.size):(w.alloc (.cells #[] e)).ownsRow B e size (.slice (some ⟨w.heap.size,0,none⟩) 0 0) 0 [] :=
 ⟨by simp,.inr ⟨w.heap.size,0,#[],rfl,hB,World.alloc_heap_new w _,by omega,by unfold maxLen;omega,by simp,by simp⟩⟩
theorem Y4 {α:Type} (L:Lay α):∀(l:List α) (j:Nat) (u:Value),(jd L l)[j]?=some u→∃i x k,l[i]?=some x∧(L.cs x)[k]?=some u∧j=i*L.m+k
 | [],j,u,h=>by simp[jd] at h
 | y::t,j,u,h=>by
  unfold jd at h;rw[List.flatMap_cons] at h;by_cases hj:j<L.m
  · rw[List.getElem?_append_left (by rw[L.len];exact hj)] at h;exact⟨0,y,j,rfl,h,by omega⟩
  · rw[List.getElem?_append_right (by rw[L.len];omega),L.len] at h;obtain⟨i,x,k,h1,h2,h3⟩:=Y4 L t (j-L.m) u h;exact⟨i+1,x,k,by simpa using h1,h2,by rw[Nat.add_mul];omega⟩
theorem jk.src {α:Type} {L:Lay α} {w:World} {a:Option Addr} {len cap:Nat} {l:List α} (h:jk L w a len l):Y9 w (.slice a len cap) len (jd L l):=by
 obtain⟨h0,h1,h2,h3⟩:=h;rcases h3 with h3 | ⟨b,off,rfl,hb,hc⟩
 · have hl:l=[]:=List.eq_nil_of_length_eq_zero (by omega);subst hl;subst h3
   cases a with
   | none=>exact .inr ⟨cap,rfl,rfl⟩
   | some ad=>exact .inl ⟨ad,cap,rfl,fun j u hu=>by simp[jd] at hu⟩
 · refine .inl ⟨_,cap,rfl,fun j u hu=>?_⟩;obtain⟨i,x,k,hi,hk,rfl⟩:=Y4 L l j u hu;have e:(⟨b,off,none⟩:Addr).add (i*L.m+k)=⟨b,off+i*L.m+k,none⟩:=by
    unfold Addr.add;split<;>simp_all [Nat.add_assoc]
   rw[e];exact hc i x k u hi hk
end Go.Proofs.YtabafpoklpiiiaaGreat
