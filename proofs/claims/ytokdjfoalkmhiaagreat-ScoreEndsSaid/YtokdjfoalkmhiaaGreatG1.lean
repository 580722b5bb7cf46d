/- C. -/
import Derived.Test.YtokdjfoalkmhiaaGreatG0
import Derived.Lib.AtoiErrMem
import Derived.Shelf.Strings.BuilderX
import Derived.Lib.ItoaLen
import Derived.Lib.SmallJoins
import Derived.StillTailTactics
import Derived.Test.YtokdjfoalkmhiaaGreatRows
import Derived.Stop.LaidErr
import Derived.Stop.Joined
import Derived.MakeChecks
import Derived.Handy
import Derived.Deep.CutRange
import Derived.Deep.AppendSrc
import Derived.Deep.DeepAppendWide
set_option linter.unusedVariables false
set_option maxRecDepth 100000
set_option maxHeartbeats 25600000
namespace Go.Proofs.YtokdjfoalkmhiaaGreat.Vec
open Go.RowKit
def jE (x y:Int):Int×Int:=if x+y≤9223372036854775807 then (x+y,0) else (0,5)
def jS (x y:Int):Int×Int:=if y≤x then (x-y,0) else (0,5)
theorem jfh {x y:Int} (h:0≤x∧x≤9223372036854775807) (g:0≤y∧y≤9223372036854775807):0≤(jE x y).1∧(jE x y).1≤9223372036854775807:=by
 unfold jE;split
 · dsimp only;omega
 · decide
theorem je7 {x y:Int} (h:0≤x∧x≤9223372036854775807) (g:0≤y∧y≤9223372036854775807):0≤(jS x y).1∧(jS x y).1≤9223372036854775807:=by
 unfold jS;split
 · dsimp only;omega
 · decide
def jae (acc:V) (s:ByteArray) (n:Int):V:=if n=0 then acc else acc++[(s,n)]
def zg (f:Int→Int→Int×Int):Nat→V→V→V→Int×V
 | 0,_,_,acc=>(0,acc)
 | fuel+1,la,lb,acc =>
  if la.length+lb.length=0 then (0,acc)
  else
   let s:=jg la lb
   let r:=f (jo la s).1 (jo lb s).1
   if r.2≠0 then (r.2,[]) else zg f fuel (jo la s).2 (jo lb s).2 (jae acc s r.1)
def jf (f:Int→Int→Int×Int) (l l':V):Int×V :=
 if jB l≠0 then (jB l,[])
 else if jB l'≠0 then (jB l',[])
 else
  let r:=zg f (l.length+l'.length) l l' []
  if r.1≠0 then (r.1,[]) else if 8<r.2.length then (4,[]) else (0,r.2)
theorem qE {f:Int→Int→Int×Int} {fuel:Nat} {la lb acc:V} (h:la.length+lb.length=0):zg f fuel la lb acc=(0,acc):=by
 cases fuel with
 | zero=>rfl
 | succ n=>rw[zg,if_pos h]
theorem qD {f:Int→Int→Int×Int} {fuel:Nat} {la lb acc:V} (h:0<la.length+lb.length) (hf:la.length+lb.length≤fuel)
 (hx:(f (jo la (jg la lb)).1 (jo lb (jg la lb)).1).2≠0):zg f fuel la lb acc=((f (jo la (jg la lb)).1 (jo lb (jg la lb)).1).2,[]):=by
 cases fuel with
 | zero=>omega
 | succ n=>rw[zg,if_neg (by omega)];dsimp only;rw[if_pos hx]
theorem XQ {f:Int→Int→Int×Int} {fuel:Nat} {la lb acc:V} (h:0<la.length+lb.length) (hf:la.length+lb.length≤fuel)
 (hx:(f (jo la (jg la lb)).1 (jo lb (jg la lb)).1).2=0) :
 ∃fuel',fuel=fuel'+1∧zg f fuel la lb acc=zg f fuel' (jo la (jg la lb)).2 (jo lb (jg la lb)).2 (jae acc (jg la lb) (f (jo la (jg la lb)).1 (jo lb (jg la lb)).1).1):=by
 cases fuel with
 | zero=>omega
 | succ n=>exact⟨n,rfl,by rw[zg,if_neg (by omega)];dsimp only;rw[if_neg (by rw[hx];decide)]⟩
theorem JD (s:ByteArray):eqS s s=true:=by unfold eqS;exact beq_self_eq_true _
theorem j9 (x:ByteArray×Int) (t:V) (n:ByteArray):jo (x::t) n=if eqS x.1 n=true then (x.2,t) else (0,x::t):=rfl
theorem JA (x y:ByteArray×Int) (s t:V):jg (x::s) (y::t)=if ltS y.1 x.1=true then y.1 else x.1:=rfl
theorem jao (l:V) (s:ByteArray):(jo l s).2.length≤l.length:=by
 cases l with
 | nil=>exact Nat.le_refl _
 | cons x t=>rw[j9];split<;>simp
theorem Ys {x:ByteArray×Int} (t:V):(jo (x::t) x.1).2.length=t.length:=by
 rw[j9,if_pos (JD _)]
theorem XN {la lb:V} (h:0<la.length+lb.length):(jo la (jg la lb)).2.length+(jo lb (jg la lb)).2.length+1≤la.length+lb.length:=by
 cases la with
 | nil =>
  cases lb with
  | nil=>simp at h
  | cons y t =>
   have e:jg [] (y::t)=y.1:=rfl;rw[e,Ys t];simp[jo]
 | cons x s =>
  cases lb with
  | nil =>
   have e:jg (x::s) []=x.1:=rfl;rw[e,Ys s];simp[jo]
  | cons y t =>
   by_cases hlt:ltS y.1 x.1=true
   · have e:jg (x::s) (y::t)=y.1:=by rw[jg,if_pos hlt]
     have:=jao (x::s) y.1;rw[e,Ys t];simp only[List.length_cons] at *;omega
   · have e:jg (x::s) (y::t)=x.1:=by rw[jg,if_neg hlt]
     have:=jao (y::t) x.1;rw[e,Ys s];simp only[List.length_cons] at *;omega
def Pos (l:V):Prop:=∀x ∈ l,0≤x.2∧x.2≤9223372036854775807∧x.1.size≤maxLen
theorem ZK {l:V} (h:Pos l) (s:ByteArray):(0≤(jo l s).1∧(jo l s).1≤9223372036854775807)∧Pos (jo l s).2:=by
 cases l with
 | nil=>exact⟨⟨by simp[jo],by simp[jo]⟩,h⟩
 | cons x t =>
  have hx:=h x (by simp);rw[j9];split
  · exact⟨⟨hx.1,hx.2.1⟩,fun y hy=>h y (by simp[hy])⟩
  · exact⟨⟨Int.le_refl _,by show (0:Int)≤_;omega⟩,h⟩
theorem YA {la lb:V} (ha:Pos la) (hb:Pos lb):(jg la lb).size≤maxLen:=by
 cases la with
 | nil =>
  cases lb with
  | nil=>show 0≤maxLen;exact Nat.zero_le _
  | cons y t=>exact(hb y (by simp)).2.2
 | cons x s =>
  cases lb with
  | nil=>exact(ha x (by simp)).2.2
  | cons y t =>
   rw[JA];split
   · exact(hb y (by simp)).2.2
   · exact(ha x (by simp)).2.2
theorem ZS {l:V} (h:jB l=0) (hf:zI l):Pos l:=by
 have h2:jC none l=0:=by
  unfold jB at h;split at h
  · cases h
  · exact h
 have key:∀(l:V) (p:Option ByteArray),jC p l=0→zI l→Pos l:=by
  intro l
  induction l with
  | nil=>intro _ _ _ x hx;cases hx
  | cons x t ih =>
   intro p hc hf;rw[zI.cons] at hf;unfold jC at hc;split at hc
   · cases hc
   · split at hc
     · cases hc
     · split at hc
       · cases hc
       · intro y hy;rcases List.mem_cons.1 hy with rfl | hy
         · exact⟨by omega,hf.1.2.2,hf.1.1⟩
         · exact ih _ hc hf.2 y hy
 exact key l none h2 hf
theorem ZL {l:V} (h:jB l=0):l.length≤8:=by
 unfold jB at h;split at h
 · cases h
 · omega
def lenOf:Value→Nat
 | .slice _ n _=>n
 | _=>0
def jH (r:Int×V) (base:Nat) (w:World) (e:Ending) (w':World):Prop :=
 (r.1=0→∃v,e=.returned v∧jD 100 w' base v r.2)∧(r.1≠0→e=.panicked [jN r.1])∧Below base w w'
theorem jH.good {r:Int×V} {base:Nat} {w w':World} {v:Value} (h:r.1=0) (ho:jD 100 w' base v r.2) (hb:Below base w w'):jH r base w (.returned v) w':=⟨fun _=>⟨v,rfl,ho⟩,fun g=>absurd h g,hb⟩
theorem jH.bad {r:Int×V} {base:Nat} {w w':World} {c:Int} (h:r.1=c) (hc:c≠0) (hb:Below base w w'):jH r base w (.panicked [jN c]) w':=⟨fun g=>absurd (h.symm.trans g) hc,fun _=>by rw[h],hb⟩
theorem zR (B:Nat) (q:Nat) (x y:Int) (w:World) (hq:w.cell? ⟨q,0,none⟩=some (.int .i64 y)) (hzq:w.frozen? ⟨q,0,none⟩=false) (hBq:B≤q) :
 CallsD Tryz.prog 240 #[.pointer (some ⟨q,0,none⟩)] (.panicking [jN x]) w fun e u' w' =>
  e=.returned (.tuple #[])∧u'=.panicking [{ jN x with recovered:=true }]∧w'.cell? ⟨q,0,none⟩=some (.int .i64 x)∧Below B w w':=by
 have hta:∀W,(Instr.typeAssert (.iface 45 (.int .i64 x)) 20 45 false).run Tryz.prog W=.ok (.int .i64 x) W:=fun _=>by kernel_rfl
 refine callsD_of_wpS Tryz.func240 rfl fun c₀ cs hu=>?_;apply wpS_seq;apply wpS_region;simp[wpOpsS,go_sem,recoverD,hu,Tryz.ntmps240,Exit.thenS];apply wpS_seq;apply wpS_region;simp[wpOpsS,go_sem,recoverD,Exit.thenS];refine wpS_cond (t:=true) (by simp[Act.eval,Array.replicate]) ?_;simp only[if_true];refine wpS_of_wp ?_;simp[Array.replicate];go_wp2;simp[bodyPostS,results,Tryz.results240];exact⟨World.cell?_setCell_same' _ _ _ (by rw[hq];rfl),(Below.refl B w).setCell (p:=⟨q,0,none⟩) hBq _⟩
theorem Za (q:Addr) (w:World) :
 CallsD Tryz.prog 240 #[.pointer (some q)] .returning w fun e u' w'=>e=.returned (.tuple #[])∧u'=.returning∧w'=w:=by
 refine callsD_of_wpS Tryz.func240 rfl fun c₀ cs hu=>?_;apply wpS_seq;apply wpS_region;simp[wpOpsS,go_sem,recoverD,hu,Tryz.ntmps240,Exit.thenS];apply wpS_seq;apply wpS_region;simp[wpOpsS,go_sem,recoverD,hu,Exit.thenS];refine wpS_cond (t:=false) (by simp[Act.eval,Array.replicate]) ?_;simp only[Bool.false_eq_true,if_false];refine wpS_of_wp (wp_skip ?_)
 cases c₀
 simp_all [bodyPostS,results,Tryz.results240]
theorem jD.base_le {e:TypeId} {w:World} {B B':Nat} {v:Value} {l:V} (h:jD e w B' v l) (hb:B≤B'):jD e w B v l:=by
 obtain⟨⟨h0,h1⟩,hf⟩:=h;refine⟨⟨h0,h1.imp id ?_⟩,hf⟩;rintro ⟨g,cap,cur,rfl,hbg,rest⟩;exact⟨g,cap,cur,rfl,Nat.le_trans hb hbg,rest⟩
theorem jD.setCell_below {e:TypeId} {w:World} {B:Nat} {v:Value} {l:V} (h:jD e w B v l) {a:Addr} (ha:a.block<B) (u:Value):jD e (w.setCell a u) B v l :=
 ⟨ownsRow_setCell_below h.1 ha u,h.2⟩
def JY (r:Int×V) (w:World) (e:Ending) (w':World):Prop :=
 ∃v,e=.returned (.tuple #[v,.int .i64 r.1])∧jD 100 w' w.heap.size v r.2∧Kept w w'
theorem jfT (x y:Int) (w:World) (h0:0≤x) (h1:x≤9223372036854775807) (h2:0≤y) (h3:y≤9223372036854775807) :
 Calls Tryz.prog 214 #[.int .i64 x,.int .i64 y] w (Ans (jE x y).1 (jE x y).2 w):=by
 by_cases h:x+y≤9223372036854775807
 · have e:jE x y=(x+y,0):=by unfold jE;rw[if_pos h]
   rw[e];exact(jfN x y w h0 h2 h).mono fun _ _ g=>g.ans
 · have e:jE x y=(0,5):=by unfold jE;rw[if_neg h]
   rw[e];exact(jd4 x y w h0 h2 h3 (by omega)).mono fun _ _ g=>g.ans
theorem jcb (a a':Option Addr) (len cap len' cap':Nat) (l l':V) (w:World) (hr:jn w a len l) (hr':jn w a' len' l') (hc:len≤cap) (hm:cap≤maxLen) (hc':len'≤cap') (hm':cap'≤maxLen) :
 Calls Tryz.prog 213 #[.slice a len cap,.slice a' len' cap',.func (.func 214) #[] #[]] w (jH (jf jE l l') w.heap.size w):=by
 by_cases h1:jB l=0
 · by_cases h2:jB l'=0
   · have HL:=lH hr.1;have HL':=lH hr'.1;have P1:=lH (ZS h1 hr.2.2.1);have P2:=lH (ZS h2 hr'.2.2.1);have n8:len≤8:=by have:=ZL h1;rw[hr.1] at this;exact this
     have n8':len'≤8:=by have:=ZL h2;rw[hr'.1] at this;exact this
     obtain⟨R,hR⟩:=eX (zg jE (l.length+l'.length) l l' [])
     have HM:=lH (show jf jE l l'=if R.1≠0 then (R.1,[]) else if 8<R.2.length then (4,[]) else (0,R.2) by
      unfold jf;rw[if_neg (by rw[h1];decide),if_neg (by rw[h2];decide)];dsimp only;rw[hR])
     obtain⟨HR,H1,H2,HA,HB⟩:=lH5 hR h1 h2 hr hr';clear hR h1 h2 hr hr';go_enter Tryz.func213,Tryz.ntmps213;go_wp2_with fail
     refine(j7 _ _ _ l _ HA.out).mono ?_;rintro e1 w1 ⟨g1,_,k1⟩;obtain rfl:=g1 H1.out;have K1:=lH k1;clear g1 k1;go_wp2_with fail
     refine(j7 _ _ _ l' _ (HB.out.kept K1.out)).mono ?_;rintro e2 w2 ⟨g2,_,k2⟩;obtain rfl:=g2 H2.out;have K2:=lH (K1.out.trans k2);clear g2 k2;go_wp2
     go_loopw [0,1,7] (fun va vb v wr=>∃(A B:Option Addr) (n c n' c':Nat) (la lb acc:V) (fuel:Nat),va=.slice A n c∧vb=.slice B n' c'∧n≤c∧c≤maxLen∧n'≤c'∧c'≤maxLen ∧
      jn w A n la∧jn w B n' lb∧Pos la∧Pos lb∧jD 100 wr w.heap.size v acc∧Below w.heap.size w wr∧n+n'≤fuel∧zg jE fuel la lb acc=R∧acc.length+n+n'≤16)
      (fun va vb _ _=>lenOf va+lenOf vb)
     case atStart =>
      exact⟨a,a',len,cap,len',cap',l,l',[],l.length+l'.length,rfl,rfl,hc,hm,hc',hm',HA.out,HB.out,P1.out,P2.out,jD.nil _ _ _,K2.out,by rw[HL.out,HL'.out];exact Nat.le_refl _,HR.out,by simp;omega⟩
     case round =>
      obtain⟨A,B,n,c,n',c',la,lb,acc,fuel,rfl,rfl,c1,c2,c3,c4,va1,vb1,pa,pb,ho,hB,hfuel,hres,h16⟩:=hrel;obtain⟨VA,VB,PA,PB,HO,Va,HQ,LA⟩:=lH8 va1 vb1 pa pb ho hB hres va1.1;have LB:=lH vb1.1;clear va1 vb1 pa pb ho hB hres;by_cases hz:n+n'=0
      · obtain rfl:n=0:=by omega
        obtain rfl:n'=0:=by omega
        clear hz;obtain⟨av,cv,rfl,g1,g2,g3⟩:=HO.out.at_;have HE:=lH (show R=(0,acc) from HQ.out.symm.trans (qE (by rw[LA.out,LB.out])));have hal:acc.length≤9223372036854775807:=by omega
        clear g3 g1 g2;by_cases h8:acc.length≤8
        · have HF:=lH (show jf jE l l'=(0,acc) by rw[HM.out,HE.out];dsimp only;rw[if_neg (by decide),if_neg (by omega)]);go_wp2_with fail
          refine(Y2 _ _ _ _ h8).mono ?_;rintro e3 w3 ⟨rfl,rfl⟩;go_wp2;go_ret;exact jH.good (by rw[HF.out]) (by rw[HF.out];exact HO.out) Va.out
        · have HF:=lH (show jf jE l l'=(4,[]) by rw[HM.out,HE.out];dsimp only;rw[if_neg (by decide),if_pos (by omega)]);go_wp2_with fail
          refine(Xq _ _ _ _ (by omega) hal).mono ?_;rintro e3 w3 ⟨rfl,rfl⟩;go_wp2;exact⟨rfl,jH.bad (by rw[HF.out]) (by decide) Va.out⟩
      · have hpos:0<n+n':=by omega
        clear hz;obtain⟨HP,HU,HS,T1,T2⟩:=lH5 (show 0<la.length+lb.length by rw[LA.out,LB.out];exact hpos) (show la.length+lb.length≤fuel by rw[LA.out,LB.out];exact hfuel) (YA PA.out PB.out) (ZK PA.out (jg la lb)) (ZK PB.out (jg la lb));have Vj:=lH (XN HP.out);obtain⟨r1,r2,hr⟩:∃r1 r2,jE (jo la (jg la lb)).1 (jo lb (jg la lb)).1=(r1,r2):=⟨_,_,rfl⟩
        have QF:=lH (show ∀W,Calls Tryz.prog 214 #[.int .i64 (jo la (jg la lb)).1,.int .i64 (jo lb (jg la lb)).1] W (Ans r1 r2 W) from fun W=>by
         have:=jfT _ _ W T1.out.1.1 T1.out.1.2 T2.out.1.1 T2.out.1.2;rw[hr] at this;exact this)
        have VX:=lH hr;have RB:=lH (show 0≤r1∧r1≤9223372036854775807 by have:=jfh (T1.out.1) (T2.out.1);rw[hr] at this;exact this);clear hr;have hd:(decide (0<n)||decide (0<n'))=true:=by simp;omega
        rcases Nat.eq_zero_or_pos n with h0 | h0
        case' inl=>(have d2:decide (0<n')=true:=by simp;omega)
        case' inl=>(subst h0)
        case' inr=>(have d1:decide (0<n)=true:=by simp;omega)
        all_goals
         clear hd;go_wp2_with fail
         refine(YJ _ _ _ _ _ _ la lb _ (VA.out.kept Va.out) (VB.out.kept Va.out) (by omega)).mono ?_;rintro e3 w3 ⟨rfl,k3⟩;have K3:=lH k3;clear k3;go_wp2_with fail
         refine(ZU _ _ _ la _ _ ((VA.out.kept Va.out).kept K3.out) c1 c2).mono ?_;rintro e4 w4 ⟨A4,c4',rfl,q1,q2,V4,k4⟩;have K4:=lH (K3.out.trans k4);have UJ:=lH V4;clear k4 V4;go_wp2_with fail
         refine(ZU _ _ _ lb _ _ ((VB.out.kept Va.out).kept K4.out) c3 c4).mono ?_;rintro e5 w5 ⟨A5,c5',rfl,q3,q4,V5,k5⟩;have K5:=lH (K4.out.trans k5);have UK:=lH V5;clear k5 V5;go_wp2_with fail
         refine(QF.out _).mono ?_;rintro e6 w6 ⟨rfl,k6⟩;have K6:=lH (K5.out.trans k6);clear k6;by_cases hx:r2=0
         · subst hx;go_wp2_with fail
           refine(jaH _ _).mono ?_;rintro e7 w7 ⟨rfl,rfl⟩;obtain⟨fuel',hf1,hf2⟩:=XQ (f:=jE) (acc:=acc) HP.out HU.out (by rw[VX.out]);have UL:=lH hf1;have UM:=lH hf2;clear hf1 hf2;have Vn:=lH (show Below w.heap.size w w6 from Va.out.trans (Below.mono K6.out Va.out.size));by_cases hy:r1=0
           · subst hy;go_wp2_with fail
             refine(qw _ _ _).mono ?_;rintro e8 w8 ⟨rfl,rfl⟩;go_wp2;go_roundw
             case rel =>
              refine⟨A4,A5,_,c4',_,c5',_,_,acc,fuel',rfl,rfl,q1,q2,q3,q4,UJ.out w VA.out,UK.out w VB.out,T1.out.2,T2.out.2,HO.out.kept K6.out,Vn.out,?_,?_,?_⟩
              · have:=Vj.out;have:=HU.out;have:=UL.out;omega
              · have:=UM.out;rw[VX.out] at this;rw[←HQ.out,this];rfl
              · have:=Vj.out;have:=LA.out;have:=LB.out;omega
             case measure=>(show lenOf (Value.slice _ _ _)+lenOf (Value.slice _ _ _)<lenOf (Value.slice _ _ _)+lenOf (Value.slice _ _ _);simp only[lenOf];have:=Vj.out;have:=LA.out;have:=LB.out;omega)
           · go_wp2_with fail
             refine(qt _ _ r1 w.heap.size acc _ (HO.out.kept K6.out) hy HS.out (by have:=RB.out;omega) (by have:=RB.out;omega) (by omega) Vn.out.size).mono ?_;rintro e8 w8 ⟨v8,rfl,o8,b8⟩;obtain⟨O8,B8,HY⟩:=lH3 o8 b8 hy;clear o8 b8 hy;go_wp2;go_roundw
             case rel =>
              refine⟨A4,A5,_,c4',_,c5',_,_,_,fuel',rfl,rfl,q1,q2,q3,q4,UJ.out w VA.out,UK.out w VB.out,T1.out.2,T2.out.2,O8.out,Vn.out.trans B8.out,?_,?_,?_⟩
              · have:=Vj.out;have:=HU.out;have:=UL.out;omega
              · have:=UM.out;rw[VX.out] at this;rw[←HQ.out,this];dsimp only;unfold jae;rw[if_neg HY.out]
              · have:=Vj.out;have:=LA.out;have:=LB.out;rw[List.length_append];simp only[List.length_cons,List.length_nil];omega
             case measure=>(show lenOf (Value.slice _ _ _)+lenOf (Value.slice _ _ _)<lenOf (Value.slice _ _ _)+lenOf (Value.slice _ _ _);simp only[lenOf];have:=Vj.out;have:=LA.out;have:=LB.out;omega)
         · have HX:=lH hx;have HE:=lH (show jf jE l l'=(r2,[]) by
            rw[HM.out,←HQ.out,qD HP.out HU.out (by rw[VX.out];exact hx),VX.out];dsimp only;rw[if_pos hx])
           go_wp2_with fail
           refine(qJ _ _ _ hx).mono ?_;rintro e7 w7 ⟨rfl,rfl⟩;clear hx;go_wp2;exact⟨rfl,jH.bad (by rw[HE.out]) HX.out (Va.out.trans (Below.mono K6.out Va.out.size))⟩
   · obtain⟨HM,HA,HB,H1,H2⟩:=lH5 (show jf jE l l'=(jB l',[]) by unfold jf;rw[if_neg (by rw[h1];decide),if_pos h2]) hr hr' h1 h2;clear h1 h2 hr hr';go_enter Tryz.func213,Tryz.ntmps213;go_wp2_with fail
     refine(j7 _ _ _ l _ HA.out).mono ?_;rintro e1 w1 ⟨g1,_,k1⟩;obtain rfl:=g1 H1.out;have K1:=lH k1;clear g1 k1;go_wp2_with fail
     refine(j7 _ _ _ l' _ (HB.out.kept K1.out)).mono ?_;rintro e2 w2 ⟨_,g2,k2⟩;obtain rfl:=g2 H2.out;have K2:=lH (K1.out.trans k2);clear g2 k2;go_wp2;exact⟨rfl,jH.bad (by rw[HM.out]) H2.out K2.out⟩
 · obtain⟨HM,HA,H1⟩:=lH3 (show jf jE l l'=(jB l,[]) by unfold jf;rw[if_pos h1]) hr h1;clear h1 hr hr';go_enter Tryz.func213,Tryz.ntmps213;go_wp2_with fail
   refine(j7 _ _ _ l _ HA.out).mono ?_;rintro e1 w1 ⟨_,g1,k1⟩;obtain rfl:=g1 H1.out;have K1:=lH k1;clear g1 k1;go_wp2;exact⟨rfl,jH.bad (by rw[HM.out]) H1.out K1.out⟩
theorem jcS (C:Addr×Addr) (r:Int×V) (w:World) (hr:r.1≠0→r.2=[])
 (hk:∀W,Kept w W→Calls Tryz.prog 212 #[.pointer (some C.1),.pointer (some C.2)] W (jH r W.heap.size W)) :
 Calls Tryz.prog 211 #[.func (.func 212) #[] #[.pointer (some C.1),.pointer (some C.2)]] w (JY r w):=by
 have hmf:=hmfL (P:=Tryz.prog);have HK:=lH hk;have HR:=lH hr;clear hk hr;obtain⟨r1,r2⟩:=r;go_enter_defers Tryz.func211,Tryz.ntmps211
 go_wp2_with fail
 refine(HK.out _ (ja _ _)).mono ?_;rintro e1 w1 ⟨h0,h1,hb⟩;have k1:=hb.size;simp only[World.size_alloc] at k1;have c2:=(hb.cell (p:=⟨w.heap.size,0,none⟩) (by simp))
 have z2:=(hb.frozen (p:=⟨w.heap.size,0,none⟩) (by simp))
 have e2':w1.cell? ⟨w.heap.size,0,none⟩=some (.int .i64 0):=by rw[c2];go_simp
 have y2:w1.frozen? ⟨w.heap.size,0,none⟩=false:=by rw[z2];go_simp
 clear c2 z2;have KB:=lH (show Below w.heap.size w w1 from(ja w _).trans hb);by_cases hx:r1=0
 · subst hx;obtain⟨v,rfl,ho⟩:=h0 rfl;have HO:=lH ho;obtain⟨av,cv,rfl,_,_,_⟩:=ho.at_;have hsz:=World.size_alloc w (.cells #[.int .i64 0] 45);clear h0 h1 hb ho;go_wp2_with fail
   refine leaves_cons (f:=240) (args:=#[.pointer (some ⟨w.heap.size,0,none⟩)]) (by simp) (by simp[go_sem]) ?_;refine(Za ⟨w.heap.size,0,none⟩ _).mono ?_;rintro e u' w'' ⟨rfl,rfl,rfl⟩;simp[Leaves,settle,results,Tryz.results211,go_sem,e2'];exact⟨_,rfl,(HO.out.setCell_below (a:=⟨w.heap.size,0,none⟩) (by simp) _).base_le (by simp),KB.out.setCell (p:=⟨w.heap.size,0,none⟩) (Nat.le_refl _) _⟩
 · obtain rfl:=h1 hx;obtain rfl:=HR.out hx;clear h0 h1 hb;go_wp2_with fail
   refine leaves_cons (f:=240) (args:=#[.pointer (some ⟨w.heap.size,0,none⟩)]) (by simp) (by simp[go_sem]) ?_;refine(zR w.heap.size w.heap.size r1 0 _ e2' y2 (by omega)).mono ?_;rintro e u' w'' ⟨rfl,rfl,q2,q3⟩;simp[Leaves,settle,results,Tryz.results211,go_sem,q2];exact⟨_,rfl,jD.nil _ _ _,KB.out.trans q3⟩
theorem jbi (C:Addr×Addr) (a a':Option Addr) (len cap len' cap':Nat) (l l':V) (w:World) (h1:w.cell? C.1=some (.slice a len cap)) (h2:w.cell? C.2=some (.slice a' len' cap'))
 (hr:jn w a len l) (hr':jn w a' len' l') (hc:len≤cap) (hm:cap≤maxLen) (hc':len'≤cap') (hm':cap'≤maxLen) :
 Calls Tryz.prog 212 #[.pointer (some C.1),.pointer (some C.2)] w (jH (jf jE l l') w.heap.size w):=by
 have HR:=lH hr;have HR':=lH hr';have HM:=lH hm;have HM':=lH hm';clear hr hr' hm hm';go_enter Tryz.func212,Tryz.ntmps212;go_wp2_with fail
 refine(jcb a a' len cap len' cap' l l' _ HR.out HR'.out hc HM.out hc' HM'.out).mono ?_;rintro e w' ⟨g0,g1,k⟩;by_cases hx:(jf jE l l').1=0
 · obtain⟨v,rfl,ho⟩:=g0 hx;obtain⟨HX,HO,HK⟩:=lH3 hx ho k;clear g0 g1 hx ho k;go_wp2;go_ret;exact jH.good HX.out HO.out HK.out
 · obtain rfl:=g1 hx;have HX:=lH hx;have HK:=lH k;clear g0 g1 hx k;go_wp2;exact⟨rfl,jH.bad rfl HX.out HK.out⟩
theorem X2 (l l':V):(jf jE l l').1≠0→(jf jE l l').2=[]:=by
 unfold jf;split
 · exact fun _=>rfl
 · split
   · exact fun _=>rfl
   · dsimp only;split
     · exact fun _=>rfl
     · split
       · exact fun _=>rfl
       · exact fun h=>absurd rfl h
theorem jeV (a a':Option Addr) (len cap len' cap':Nat) (l l':V) (w:World)
 (hr:jn w a len l) (hr':jn w a' len' l') (hc:len≤cap) (hm:cap≤maxLen) (hc':len'≤cap') (hm':cap'≤maxLen) :
 Calls Tryz.prog 162 #[.slice a len cap,.slice a' len' cap'] w (JY (jf jE l l') w):=by
 have hmf:=hmfL (P:=Tryz.prog);have hC:∀W,Kept ((w.alloc (.cells #[.slice a len cap] 37)).alloc (.cells #[.slice a' len' cap'] 37)) W→Calls Tryz.prog 212 #[.pointer (some ⟨w.heap.size,0,none⟩),.pointer (some ⟨w.heap.size+1,0,none⟩)] W (jH (jf jE l l') W.heap.size W):=by
  intro W k;have c1:=k.cell (p:=⟨w.heap.size,0,none⟩) (by simp;omega);have c2:=k.cell (p:=⟨w.heap.size+1,0,none⟩) (by simp);exact jbi (⟨w.heap.size,0,none⟩,⟨w.heap.size+1,0,none⟩) a a' len cap len' cap' l l' W (by rw[c1];go_simp) (by rw[c2];go_simp) (hr.kept ((jj w _ _).trans k)) (hr'.kept ((jj w _ _).trans k)) hc hm hc' hm'
 have HC:=lH hC;clear hC hr hr' hm hm';go_enter Tryz.func162,Tryz.ntmps162;go_wp2_with fail
 refine(jcS (⟨w.heap.size,0,none⟩,⟨w.heap.size+1,0,none⟩) (jf jE l l') _ (X2 l l') HC.out).mono ?_;rintro e w' ⟨v,rfl,ho,k⟩;have HO:=lH ho;have HK:=lH k;clear ho k;go_wp2;go_ret2
 exact⟨v,rfl,HO.out.base_le (by simp;omega),(jj w _ _).trans HK.out⟩
theorem jfV (x y:Int) (w:World) (h0:0≤x) (h1:x≤9223372036854775807) (h2:0≤y) (h3:y≤9223372036854775807) :
 Calls Tryz.prog 266 #[.int .i64 x,.int .i64 y] w (Ans (jS x y).1 (jS x y).2 w):=by
 by_cases h:y≤x
 · have e:jS x y=(x-y,0):=by unfold jS;rw[if_pos h]
   rw[e];exact(jfL x y w h2 h1 h).mono fun _ _ g=>g.ans
 · have e:jS x y=(0,5):=by unfold jS;rw[if_neg h]
   rw[e];exact(jdR x y w h0 h3 (by omega)).mono fun _ _ g=>g.ans
theorem jct (a a':Option Addr) (len cap len' cap':Nat) (l l':V) (w:World) (hr:jn w a len l) (hr':jn w a' len' l') (hc:len≤cap) (hm:cap≤maxLen) (hc':len'≤cap') (hm':cap'≤maxLen) :
 Calls Tryz.prog 213 #[.slice a len cap,.slice a' len' cap',.func (.func 266) #[] #[]] w (jH (jf jS l l') w.heap.size w):=by
 by_cases h1:jB l=0
 · by_cases h2:jB l'=0
   · have HL:=lH hr.1;have HL':=lH hr'.1;have P1:=lH (ZS h1 hr.2.2.1);have P2:=lH (ZS h2 hr'.2.2.1);have n8:len≤8:=by have:=ZL h1;rw[hr.1] at this;exact this
     have n8':len'≤8:=by have:=ZL h2;rw[hr'.1] at this;exact this
     obtain⟨R,hR⟩:=eX (zg jS (l.length+l'.length) l l' [])
     have HM:=lH (show jf jS l l'=if R.1≠0 then (R.1,[]) else if 8<R.2.length then (4,[]) else (0,R.2) by
      unfold jf;rw[if_neg (by rw[h1];decide),if_neg (by rw[h2];decide)];dsimp only;rw[hR])
     obtain⟨HR,H1,H2,HA,HB⟩:=lH5 hR h1 h2 hr hr';clear hR h1 h2 hr hr';go_enter Tryz.func213,Tryz.ntmps213;go_wp2_with fail
     refine(j7 _ _ _ l _ HA.out).mono ?_;rintro e1 w1 ⟨g1,_,k1⟩;obtain rfl:=g1 H1.out;have K1:=lH k1;clear g1 k1;go_wp2_with fail
     refine(j7 _ _ _ l' _ (HB.out.kept K1.out)).mono ?_;rintro e2 w2 ⟨g2,_,k2⟩;obtain rfl:=g2 H2.out;have K2:=lH (K1.out.trans k2);clear g2 k2;go_wp2
     go_loopw [0,1,7] (fun va vb v wr=>∃(A B:Option Addr) (n c n' c':Nat) (la lb acc:V) (fuel:Nat),va=.slice A n c∧vb=.slice B n' c'∧n≤c∧c≤maxLen∧n'≤c'∧c'≤maxLen ∧
      jn w A n la∧jn w B n' lb∧Pos la∧Pos lb∧jD 100 wr w.heap.size v acc∧Below w.heap.size w wr∧n+n'≤fuel∧zg jS fuel la lb acc=R∧acc.length+n+n'≤16)
      (fun va vb _ _=>lenOf va+lenOf vb)
     case atStart =>
      exact⟨a,a',len,cap,len',cap',l,l',[],l.length+l'.length,rfl,rfl,hc,hm,hc',hm',HA.out,HB.out,P1.out,P2.out,jD.nil _ _ _,K2.out,by rw[HL.out,HL'.out];exact Nat.le_refl _,HR.out,by simp;omega⟩
     case round =>
      obtain⟨A,B,n,c,n',c',la,lb,acc,fuel,rfl,rfl,c1,c2,c3,c4,va1,vb1,pa,pb,ho,hB,hfuel,hres,h16⟩:=hrel;obtain⟨VA,VB,PA,PB,HO,Va,HQ,LA⟩:=lH8 va1 vb1 pa pb ho hB hres va1.1;have LB:=lH vb1.1;clear va1 vb1 pa pb ho hB hres;by_cases hz:n+n'=0
      · obtain rfl:n=0:=by omega
        obtain rfl:n'=0:=by omega
        clear hz;obtain⟨av,cv,rfl,g1,g2,g3⟩:=HO.out.at_;have HE:=lH (show R=(0,acc) from HQ.out.symm.trans (qE (by rw[LA.out,LB.out])));have hal:acc.length≤9223372036854775807:=by omega
        clear g3 g1 g2;by_cases h8:acc.length≤8
        · have HF:=lH (show jf jS l l'=(0,acc) by rw[HM.out,HE.out];dsimp only;rw[if_neg (by decide),if_neg (by omega)]);go_wp2_with fail
          refine(Y2 _ _ _ _ h8).mono ?_;rintro e3 w3 ⟨rfl,rfl⟩;go_wp2;go_ret;exact jH.good (by rw[HF.out]) (by rw[HF.out];exact HO.out) Va.out
        · have HF:=lH (show jf jS l l'=(4,[]) by rw[HM.out,HE.out];dsimp only;rw[if_neg (by decide),if_pos (by omega)]);go_wp2_with fail
          refine(Xq _ _ _ _ (by omega) hal).mono ?_;rintro e3 w3 ⟨rfl,rfl⟩;go_wp2;exact⟨rfl,jH.bad (by rw[HF.out]) (by decide) Va.out⟩
      · have hpos:0<n+n':=by omega
        clear hz;obtain⟨HP,HU,HS,T1,T2⟩:=lH5 (show 0<la.length+lb.length by rw[LA.out,LB.out];exact hpos) (show la.length+lb.length≤fuel by rw[LA.out,LB.out];exact hfuel) (YA PA.out PB.out) (ZK PA.out (jg la lb)) (ZK PB.out (jg la lb));have Vj:=lH (XN HP.out);obtain⟨r1,r2,hr⟩:∃r1 r2,jS (jo la (jg la lb)).1 (jo lb (jg la lb)).1=(r1,r2):=⟨_,_,rfl⟩
        have QF:=lH (show ∀W,Calls Tryz.prog 266 #[.int .i64 (jo la (jg la lb)).1,.int .i64 (jo lb (jg la lb)).1] W (Ans r1 r2 W) from fun W=>by
         have:=jfV _ _ W T1.out.1.1 T1.out.1.2 T2.out.1.1 T2.out.1.2;rw[hr] at this;exact this)
        have VX:=lH hr;have RB:=lH (show 0≤r1∧r1≤9223372036854775807 by have:=je7 (T1.out.1) (T2.out.1);rw[hr] at this;exact this);clear hr;have hd:(decide (0<n)||decide (0<n'))=true:=by simp;omega
        rcases Nat.eq_zero_or_pos n with h0 | h0
        case' inl=>(have d2:decide (0<n')=true:=by simp;omega)
        case' inl=>(subst h0)
        case' inr=>(have d1:decide (0<n)=true:=by simp;omega)
        all_goals
         clear hd;go_wp2_with fail
         refine(YJ _ _ _ _ _ _ la lb _ (VA.out.kept Va.out) (VB.out.kept Va.out) (by omega)).mono ?_;rintro e3 w3 ⟨rfl,k3⟩;have K3:=lH k3;clear k3;go_wp2_with fail
         refine(ZU _ _ _ la _ _ ((VA.out.kept Va.out).kept K3.out) c1 c2).mono ?_;rintro e4 w4 ⟨A4,c4',rfl,q1,q2,V4,k4⟩;have K4:=lH (K3.out.trans k4);have UJ:=lH V4;clear k4 V4;go_wp2_with fail
         refine(ZU _ _ _ lb _ _ ((VB.out.kept Va.out).kept K4.out) c3 c4).mono ?_;rintro e5 w5 ⟨A5,c5',rfl,q3,q4,V5,k5⟩;have K5:=lH (K4.out.trans k5);have UK:=lH V5;clear k5 V5;go_wp2_with fail
         refine(QF.out _).mono ?_;rintro e6 w6 ⟨rfl,k6⟩;have K6:=lH (K5.out.trans k6);clear k6;by_cases hx:r2=0
         · subst hx;go_wp2_with fail
           refine(jaH _ _).mono ?_;rintro e7 w7 ⟨rfl,rfl⟩;obtain⟨fuel',hf1,hf2⟩:=XQ (f:=jS) (acc:=acc) HP.out HU.out (by rw[VX.out]);have UL:=lH hf1;have UM:=lH hf2;clear hf1 hf2;have Vn:=lH (show Below w.heap.size w w6 from Va.out.trans (Below.mono K6.out Va.out.size));by_cases hy:r1=0
           · subst hy;go_wp2_with fail
             refine(qw _ _ _).mono ?_;rintro e8 w8 ⟨rfl,rfl⟩;go_wp2;go_roundw
             case rel =>
              refine⟨A4,A5,_,c4',_,c5',_,_,acc,fuel',rfl,rfl,q1,q2,q3,q4,UJ.out w VA.out,UK.out w VB.out,T1.out.2,T2.out.2,HO.out.kept K6.out,Vn.out,?_,?_,?_⟩
              · have:=Vj.out;have:=HU.out;have:=UL.out;omega
              · have:=UM.out;rw[VX.out] at this;rw[←HQ.out,this];rfl
              · have:=Vj.out;have:=LA.out;have:=LB.out;omega
             case measure=>(show lenOf (Value.slice _ _ _)+lenOf (Value.slice _ _ _)<lenOf (Value.slice _ _ _)+lenOf (Value.slice _ _ _);simp only[lenOf];have:=Vj.out;have:=LA.out;have:=LB.out;omega)
           · go_wp2_with fail
             refine(qt _ _ r1 w.heap.size acc _ (HO.out.kept K6.out) hy HS.out (by have:=RB.out;omega) (by have:=RB.out;omega) (by omega) Vn.out.size).mono ?_;rintro e8 w8 ⟨v8,rfl,o8,b8⟩;obtain⟨O8,B8,HY⟩:=lH3 o8 b8 hy;clear o8 b8 hy;go_wp2;go_roundw
             case rel =>
              refine⟨A4,A5,_,c4',_,c5',_,_,_,fuel',rfl,rfl,q1,q2,q3,q4,UJ.out w VA.out,UK.out w VB.out,T1.out.2,T2.out.2,O8.out,Vn.out.trans B8.out,?_,?_,?_⟩
              · have:=Vj.out;have:=HU.out;have:=UL.out;omega
              · have:=UM.out;rw[VX.out] at this;rw[←HQ.out,this];dsimp only;unfold jae;rw[if_neg HY.out]
              · have:=Vj.out;have:=LA.out;have:=LB.out;rw[List.length_append];simp only[List.length_cons,List.length_nil];omega
             case measure=>(show lenOf (Value.slice _ _ _)+lenOf (Value.slice _ _ _)<lenOf (Value.slice _ _ _)+lenOf (Value.slice _ _ _);simp only[lenOf];have:=Vj.out;have:=LA.out;have:=LB.out;omega)
         · have HX:=lH hx;have HE:=lH (show jf jS l l'=(r2,[]) by
            rw[HM.out,←HQ.out,qD HP.out HU.out (by rw[VX.out];exact hx),VX.out];dsimp only;rw[if_pos hx])
           go_wp2_with fail
           refine(qJ _ _ _ hx).mono ?_;rintro e7 w7 ⟨rfl,rfl⟩;clear hx;go_wp2;exact⟨rfl,jH.bad (by rw[HE.out]) HX.out (Va.out.trans (Below.mono K6.out Va.out.size))⟩
   · obtain⟨HM,HA,HB,H1,H2⟩:=lH5 (show jf jS l l'=(jB l',[]) by unfold jf;rw[if_neg (by rw[h1];decide),if_pos h2]) hr hr' h1 h2;clear h1 h2 hr hr';go_enter Tryz.func213,Tryz.ntmps213;go_wp2_with fail
     refine(j7 _ _ _ l _ HA.out).mono ?_;rintro e1 w1 ⟨g1,_,k1⟩;obtain rfl:=g1 H1.out;have K1:=lH k1;clear g1 k1;go_wp2_with fail
     refine(j7 _ _ _ l' _ (HB.out.kept K1.out)).mono ?_;rintro e2 w2 ⟨_,g2,k2⟩;obtain rfl:=g2 H2.out;have K2:=lH (K1.out.trans k2);clear g2 k2;go_wp2;exact⟨rfl,jH.bad (by rw[HM.out]) H2.out K2.out⟩
 · obtain⟨HM,HA,H1⟩:=lH3 (show jf jS l l'=(jB l,[]) by unfold jf;rw[if_pos h1]) hr h1;clear h1 hr hr';go_enter Tryz.func213,Tryz.ntmps213;go_wp2_with fail
   refine(j7 _ _ _ l _ HA.out).mono ?_;rintro e1 w1 ⟨_,g1,k1⟩;obtain rfl:=g1 H1.out;have K1:=lH k1;clear g1 k1;go_wp2;exact⟨rfl,jH.bad (by rw[HM.out]) H1.out K1.out⟩
theorem jcO (C:Addr×Addr) (r:Int×V) (w:World) (hr:r.1≠0→r.2=[])
 (hk:∀W,Kept w W→Calls Tryz.prog 265 #[.pointer (some C.1),.pointer (some C.2)] W (jH r W.heap.size W)) :
 Calls Tryz.prog 211 #[.func (.func 265) #[] #[.pointer (some C.1),.pointer (some C.2)]] w (JY r w):=by
 have hmf:=hmfL (P:=Tryz.prog);have HK:=lH hk;have HR:=lH hr;clear hk hr;obtain⟨r1,r2⟩:=r;go_enter_defers Tryz.func211,Tryz.ntmps211
 go_wp2_with fail
 refine(HK.out _ (ja _ _)).mono ?_;rintro e1 w1 ⟨h0,h1,hb⟩;have k1:=hb.size;simp only[World.size_alloc] at k1;have c2:=(hb.cell (p:=⟨w.heap.size,0,none⟩) (by simp))
 have z2:=(hb.frozen (p:=⟨w.heap.size,0,none⟩) (by simp))
 have e2':w1.cell? ⟨w.heap.size,0,none⟩=some (.int .i64 0):=by rw[c2];go_simp
 have y2:w1.frozen? ⟨w.heap.size,0,none⟩=false:=by rw[z2];go_simp
 clear c2 z2;have KB:=lH (show Below w.heap.size w w1 from(ja w _).trans hb);by_cases hx:r1=0
 · subst hx;obtain⟨v,rfl,ho⟩:=h0 rfl;have HO:=lH ho;obtain⟨av,cv,rfl,_,_,_⟩:=ho.at_;have hsz:=World.size_alloc w (.cells #[.int .i64 0] 45);clear h0 h1 hb ho;go_wp2_with fail
   refine leaves_cons (f:=240) (args:=#[.pointer (some ⟨w.heap.size,0,none⟩)]) (by simp) (by simp[go_sem]) ?_;refine(Za ⟨w.heap.size,0,none⟩ _).mono ?_;rintro e u' w'' ⟨rfl,rfl,rfl⟩;simp[Leaves,settle,results,Tryz.results211,go_sem,e2'];exact⟨_,rfl,(HO.out.setCell_below (a:=⟨w.heap.size,0,none⟩) (by simp) _).base_le (by simp),KB.out.setCell (p:=⟨w.heap.size,0,none⟩) (Nat.le_refl _) _⟩
 · obtain rfl:=h1 hx;obtain rfl:=HR.out hx;clear h0 h1 hb;go_wp2_with fail
   refine leaves_cons (f:=240) (args:=#[.pointer (some ⟨w.heap.size,0,none⟩)]) (by simp) (by simp[go_sem]) ?_;refine(zR w.heap.size w.heap.size r1 0 _ e2' y2 (by omega)).mono ?_;rintro e u' w'' ⟨rfl,rfl,q2,q3⟩;simp[Leaves,settle,results,Tryz.results211,go_sem,q2];exact⟨_,rfl,jD.nil _ _ _,KB.out.trans q3⟩
theorem jbu (C:Addr×Addr) (a a':Option Addr) (len cap len' cap':Nat) (l l':V) (w:World) (h1:w.cell? C.1=some (.slice a len cap)) (h2:w.cell? C.2=some (.slice a' len' cap'))
 (hr:jn w a len l) (hr':jn w a' len' l') (hc:len≤cap) (hm:cap≤maxLen) (hc':len'≤cap') (hm':cap'≤maxLen) :
 Calls Tryz.prog 265 #[.pointer (some C.1),.pointer (some C.2)] w (jH (jf jS l l') w.heap.size w):=by
 have HR:=lH hr;have HR':=lH hr';have HM:=lH hm;have HM':=lH hm';clear hr hr' hm hm';go_enter Tryz.func265,Tryz.ntmps265;go_wp2_with fail
 refine(jct a a' len cap len' cap' l l' _ HR.out HR'.out hc HM.out hc' HM'.out).mono ?_;rintro e w' ⟨g0,g1,k⟩;by_cases hx:(jf jS l l').1=0
 · obtain⟨v,rfl,ho⟩:=g0 hx;obtain⟨HX,HO,HK⟩:=lH3 hx ho k;clear g0 g1 hx ho k;go_wp2;go_ret;exact jH.good HX.out HO.out HK.out
 · obtain rfl:=g1 hx;have HX:=lH hx;have HK:=lH k;clear g0 g1 hx k;go_wp2;exact⟨rfl,jH.bad rfl HX.out HK.out⟩
theorem ZF (l l':V):(jf jS l l').1≠0→(jf jS l l').2=[]:=by
 unfold jf;split
 · exact fun _=>rfl
 · split
   · exact fun _=>rfl
   · dsimp only;split
     · exact fun _=>rfl
     · split
       · exact fun _=>rfl
       · exact fun h=>absurd rfl h
theorem jfb (a a':Option Addr) (len cap len' cap':Nat) (l l':V) (w:World)
 (hr:jn w a len l) (hr':jn w a' len' l') (hc:len≤cap) (hm:cap≤maxLen) (hc':len'≤cap') (hm':cap'≤maxLen) :
 Calls Tryz.prog 230 #[.slice a len cap,.slice a' len' cap'] w (JY (jf jS l l') w):=by
 have hmf:=hmfL (P:=Tryz.prog);have hC:∀W,Kept ((w.alloc (.cells #[.slice a len cap] 37)).alloc (.cells #[.slice a' len' cap'] 37)) W→Calls Tryz.prog 265 #[.pointer (some ⟨w.heap.size,0,none⟩),.pointer (some ⟨w.heap.size+1,0,none⟩)] W (jH (jf jS l l') W.heap.size W):=by
  intro W k;have c1:=k.cell (p:=⟨w.heap.size,0,none⟩) (by simp;omega);have c2:=k.cell (p:=⟨w.heap.size+1,0,none⟩) (by simp);exact jbu (⟨w.heap.size,0,none⟩,⟨w.heap.size+1,0,none⟩) a a' len cap len' cap' l l' W (by rw[c1];go_simp) (by rw[c2];go_simp) (hr.kept ((jj w _ _).trans k)) (hr'.kept ((jj w _ _).trans k)) hc hm hc' hm'
 have HC:=lH hC;clear hC hr hr' hm hm';go_enter Tryz.func230,Tryz.ntmps230;go_wp2_with fail
 refine(jcO (⟨w.heap.size,0,none⟩,⟨w.heap.size+1,0,none⟩) (jf jS l l') _ (ZF l l') HC.out).mono ?_;rintro e w' ⟨v,rfl,ho,k⟩;have HO:=lH ho;have HK:=lH k;clear ho k;go_wp2;go_ret2
 exact⟨v,rfl,HO.out.base_le (by simp;omega),(jj w _ _).trans HK.out⟩
def nameOf (p:List UInt8):List UInt8:=(Lib.cut p [61]).1
def jcT (p:List UInt8):List UInt8:=(Lib.cut p [61]).2.1
open Go.RowKit Go.Shelf
attribute [local go_sem] Oper.semAt_some
theorem jD.put {e:TypeId} {w:World} {B D:Nat} {v:Value} {l:V} (h:jD e w B v l) (hD:D<B) (o:Obj):jD e (w.putObj D o) B v l:=by
 obtain⟨⟨h0,h1⟩,hf⟩:=h;refine⟨⟨h0,h1.imp id ?_⟩,hf⟩;rintro ⟨g,cap,cur,rfl,hbg,hg,rest⟩;exact⟨g,cap,cur,rfl,hbg,(World.putObj_heap_other (by omega)).trans hg,rest⟩
theorem jD.row {e:TypeId} {w:World} {B n:Nat} {v:Value} {l:V} (h:jD e w B v l) (hn:l.length=n):w.ownsRow B e 2 v n (cellsOf l):=hn▸h.1
end Go.Proofs.YtokdjfoalkmhiaaGreat.Vec
namespace Go.Proofs.YtokdjfoalkmhiaaGreat.Vec
open Go.RowKit Go.Shelf
def XE (b:Nat) (w w':World):Prop:=∀g cs fr,g≠b→w.heap[g]?=some (.cells cs 100 fr)→w'.heap[g]?=w.heap[g]?
theorem XE.trans {b:Nat} {x y z:World} (h:XE b x y) (k:XE b y z):XE b x z:=fun g cs fr hg hc=>(k g cs fr hg ((h g cs fr hg hc).trans hc)).trans (h g cs fr hg hc)
theorem Yf (l:List UInt8):(bytes l).size=l.length:=rfl
open Go.RowKit
theorem Reads.nil (w:World):Reads w (.slice none 0 0) []:=⟨none,0,rfl,Nat.le_refl _,by decide,jn.nil w⟩
theorem jaZ {v:Value} {l:V} {n:ByteArray} {c:Int} {w:World} (h:Reads w v l) (e:jK l n=c) :
 Calls Tryz.prog 160 #[v,.string n] w fun x w'=>x=.returned (.int .i64 c)∧Kept w w':=by
 subst e;obtain⟨a,cap,rfl,h1,h2,h3⟩:=h;exact Zp a _ cap l n w h3
theorem jgo {v v':Value} {l l':V} {c:Bool} {w:World} (h:Reads w v l) (h':Reads w v' l') (e:jR l' l=c) :
 Calls Tryz.prog 94 #[v,v'] w fun x w'=>x=.returned (.bool c)∧Kept w w':=by
 subst e;obtain⟨a,cap,rfl,h1,h2,h3⟩:=h;obtain⟨a',cap',rfl,h1',h2',h3'⟩:=h';exact Xl a a' _ cap _ cap' l l' w h3 h3'
def cpu:ByteArray:=⟨#[99,112,117]⟩
def mem:ByteArray:=⟨#[109,101,109]⟩
def kA:V:=[(cpu,100),(mem,5)]
theorem Xb:∀s:List UInt8,Op.bytesLess s s=false
 | []=>rfl
 | a::s=>by
  have:¬a<a:=UInt8.lt_irrefl a;simp[Op.bytesLess,Xb s,this]
theorem XV:∀{a b c:List UInt8},Op.bytesLess a b=true→Op.bytesLess b c=true→Op.bytesLess a c=true
 | _,_,[],_,h=>by simp[Op.bytesLess] at h
 | [],_,_::_,_,_=>by simp[Op.bytesLess]
 | x::a,[],z::c,h,_=>by simp[Op.bytesLess] at h
 | x::a,y::b,z::c,h,g=>by
  simp only[Op.bytesLess,Bool.or_eq_true,Bool.and_eq_true,decide_eq_true_eq,beq_iff_eq] at h g ⊢;rcases h with h | ⟨rfl,h⟩
  · rcases g with g | ⟨rfl,g⟩
    · exact .inl (UInt8.lt_trans h g)
    · exact .inl h
  · rcases g with g | ⟨rfl,g⟩
    · exact .inl g
    · exact .inr ⟨rfl,XV h g⟩
theorem jaQ:∀{a b:List UInt8},Op.bytesLess a b=false→Op.bytesLess b a=false→a=b
 | [],[],_,_=>rfl
 | [],_::_,h,_=>by simp[Op.bytesLess] at h
 | _::_,[],_,h=>by simp[Op.bytesLess] at h
 | x::a,y::b,h,g=>by
  simp only[Op.bytesLess,Bool.or_eq_false_iff,decide_eq_false_iff_not,Bool.and_eq_false_iff,beq_eq_false_iff_ne] at h g;have e:x=y:=by
   have h1:=UInt8.not_lt.1 h.1;have h2:=UInt8.not_lt.1 g.1;exact UInt8.le_antisymm h2 h1
  subst e;have h2:=h.2.resolve_left (by simp);have g2:=g.2.resolve_left (by simp);rw[jaQ h2 g2]
theorem jce (s t:ByteArray):ltS s t=Op.bytesLess s.data.toList t.data.toList:=by unfold ltS;rw[Lib.toList_data,Lib.toList_data]
theorem jL {s t:ByteArray}:eqS s t=true↔s=t:=by
 unfold eqS;rw[Lib.toList_data,Lib.toList_data,beq_iff_eq];exact⟨fun h=>Go.WideShapes.bytes_inj h,fun h=>by rw[h]⟩
theorem Yi (s:ByteArray):ltS s s=false:=by rw[jce];exact Xb _
theorem YM {s t u:ByteArray} (h:ltS s t=true) (g:ltS t u=true):ltS s u=true:=by
 rw[jce] at *;exact XV h g
theorem qe {s t:ByteArray} (h:ltS s t=false) (g:ltS t s=false):s=t:=by
 rw[jce] at *;exact Go.WideShapes.bytes_inj (jaQ h g)
theorem YX {s t:ByteArray} (h:ltS s t=true):s≠t:=by rintro rfl;rw[Yi] at h;cases h
theorem YC {s t:ByteArray} (h:ltS s t=true) (g:ltS t s=true):False:=YX (YM h g) rfl
def Gd (l:V):Prop:=(∀x ∈ l,isName x.1=true∧0<x.2∧x.2≤9223372036854775807)∧l.Pairwise (fun x y=>ltS x.1 y.1=true)
theorem Gd.nil:Gd []:=⟨fun x hx=>absurd hx (by simp),.nil⟩
theorem Gd.cons {x:ByteArray×Int} {t:V}:Gd (x::t)↔(isName x.1=true∧0<x.2∧x.2≤9223372036854775807)∧(∀y ∈ t,ltS x.1 y.1=true)∧Gd t:=by
 unfold Gd;rw[List.pairwise_cons,List.forall_mem_cons];constructor
 · rintro ⟨⟨a,b⟩,c,d⟩;exact⟨a,c,b,d⟩
 · rintro ⟨a,c,b,d⟩;exact⟨⟨a,b⟩,c,d⟩
theorem Yl (x:ByteArray×Int) (t:V):jK (x::t) x.1=x.2:=by rw[jK,if_pos (jL.2 rfl)]
theorem YF {x:ByteArray×Int} {n:ByteArray} (t:V) (h:x.1≠n):jK (x::t) n=jK t n:=by rw[jK,if_neg (fun e=>h (jL.1 e))]
theorem get_mem:∀{l:V} {n:ByteArray},jK l n≠0→∃y ∈ l,y.1=n
 | [],_,h=>absurd rfl h
 | x::t,n,h=>by
  by_cases e:x.1=n
  · exact⟨x,by simp,e⟩
  · rw[YF t e] at h;obtain⟨y,hy,hn⟩:=get_mem h;exact⟨y,by simp[hy],hn⟩
theorem Gd.len:∀{b r:V},Gd r→Gd b→(∀n,jK r n≠0→jK b n≠0)→r.length≤b.length
 | [],[],_,_,_=>Nat.le_refl _
 | [],x::s,hr,_,h=>by
  have:=h x.1;rw[Yl] at this;have h1:=(Gd.cons.1 hr).1;exact absurd rfl (this (by omega))
 | y::t,[],_,_,_=>Nat.zero_le _
 | y::t,x::s,hr,hb,h=>by
  have hr':=Gd.cons.1 hr;have hb':=Gd.cons.1 hb;have:s.length≤t.length:=Gd.len hr'.2.2 hb'.2.2 fun n hn=>by
   obtain⟨z,hz,rfl⟩:=get_mem hn;have hlt:=hr'.2.1 z hz;have hb2:=h z.1 (by rw[YF s (YX hlt)];exact hn);by_cases e:y.1=z.1
   · obtain⟨u,hu,hux⟩:=get_mem (h x.1 (by rw[Yl];omega));rcases List.mem_cons.1 hu with rfl | hu
     · rw[←hux,e,Yi] at hlt;cases hlt
     · have:=hb'.2.1 u hu;rw[hux,e] at this;exact(YC hlt this).elim
   · rw[YF t e] at hb2;exact hb2
  simp only[List.length_cons];omega
theorem ql {s t:ByteArray} (h:leS s t=false):ltS t s=true:=by
 unfold leS at h;rw[Bool.or_eq_false_iff] at h
 cases e:ltS t s with
 | true=>rfl
 | false=>rw[qe h.1 e,jL.2 rfl] at h;cases h.2
theorem jdB {s t:ByteArray} (h:ltS t s=true):leS s t=false:=by
 unfold leS;rw[Bool.or_eq_false_iff];refine⟨?_,?_⟩
 · cases e:ltS s t with
   | false=>rfl
   | true=>exact(YC h e).elim
 · cases e:eqS s t with
   | false=>rfl
   | true=>exact absurd (jL.1 e).symm (YX h)
theorem Reads.fine {v:Value} {l:V} {w:World} (h:Reads w v l):zI l:=by
 obtain⟨a,cap,rfl,h1,h2,h3⟩:=h;exact h3.2.2.1
open Go.RowKit Go.Proofs.YtokdjfoalkmhiaaGreat
def ZQ (w:World) (v:Value) (vs:List (Nat×Nat)) (ps:List (List UInt8)):Prop :=
 ∀(i:Nat) (x:Nat×Nat) (p:List UInt8),vs[i]?=some x→ps[i]?=some p→x.1<w.heap.size∧v.ownBlock≠some x.1 ∧
  w.cell? ⟨x.1,0,none⟩=some (.string (bytes (nameOf p)))∧w.cell? ⟨x.1,1,none⟩=some (.string (bytes (jcT p)))
theorem ZQ.nil (w:World) (v:Value) (ps:List (List UInt8)):ZQ w v [] ps:=fun i x p h=>by simp at h
theorem ZQ.kept {w w':World} {v:Value} {vs:List (Nat×Nat)} {ps:List (List UInt8)} (h:ZQ w v vs ps) (k:Kept w w'):ZQ w' v vs ps:=fun i x p hx hp=>by
 obtain⟨h1,h2,h3,h4⟩:=h i x p hx hp;exact⟨Nat.lt_of_lt_of_le h1 k.size,h2,cell_later k h3,cell_later k h4⟩
theorem ZQ.snoc {w w':World} {v:Value} {vs:List (Nat×Nat)} {ps:List (List UInt8)} {g n cap b c:Nat} {p:List UInt8} (h:ZQ w v vs ps) (hg:w.grownBy w' v.ownBlock) (hgo:v.ownBlock=some g∨g=w.heap.size)
 (hp:ps[vs.length]?=some p) (hb:b<w.heap.size) (hne:v.ownBlock≠some b)
 (c0:w.cell? ⟨b,0,none⟩=some (.string (bytes (nameOf p)))) (c1:w.cell? ⟨b,1,none⟩=some (.string (bytes (jcT p)))) :
 ZQ w' (.slice (some ⟨g,0,none⟩) n cap) (vs++[(b,c)]) ps:=by
 have far:∀d,d<w.heap.size→v.ownBlock≠some d→d<w'.heap.size∧(Value.slice (some ⟨g,0,none⟩) n cap).ownBlock≠some d∧∀j,w'.cell? ⟨d,j,none⟩=w.cell? ⟨d,j,none⟩:=fun d hd hn=>by
  refine⟨Nat.lt_of_lt_of_le hd hg.size,?_,fun j=>hg.cell_far ⟨d,j,none⟩ hd (fun e=>hn e.symm)⟩;show some g≠some d;intro e;have e':g=d:=Option.some.inj e;rcases hgo with h1 | h1
  · exact hn (by rw[h1,e'])
  · omega
 intro i x q hx hq;by_cases hi:i<vs.length
 · rw[List.getElem?_append_left hi] at hx;obtain⟨h1,h2,h3,h4⟩:=h i x q hx hq;obtain⟨f1,f2,f3⟩:=far x.1 h1 h2;exact⟨f1,f2,(f3 0).trans h3,(f3 1).trans h4⟩
 · have hi2:i=vs.length:=by
    have:=(List.getElem?_eq_some_iff.1 hx).1;simp at this;omega
   subst hi2;have hxx:(b,c)=x:=by simpa using hx
   have hqq:q=p:=Option.some.inj (hq.symm.trans hp);subst hxx;subst hqq;obtain⟨f1,f2,f3⟩:=far b hb hne;exact⟨f1,f2,(f3 0).trans c0,(f3 1).trans c1⟩
def Told (c:Int) (m:V) (w:World) (e:Ending) (w':World):Prop:=∃x,e=.returned (.tuple #[x,.int .i64 c])∧jD 196 w' w.heap.size x m∧Kept w w'
theorem Told.none {c:Int} {w w':World} (k:Kept w w'):Told c [] w (.returned (.tuple #[.slice none 0 0,.int .i64 c])) w':=⟨_,rfl,jD.nil _ _ _,k⟩
theorem jD.reads {e:TypeId} {w:World} {B:Nat} {v:Value} {l:V} (h:jD e w B v l):Reads w v l:=h.at_
end Go.Proofs.YtokdjfoalkmhiaaGreat.Vec
namespace Go.Proofs.YtokdjfoalkmhiaaGreat
open Go.RowKit
structure Nod where
 name:ByteArray
 cap:Vec.V
 labels:PL
 taints:NL
 cordon:Bool
def Nod.zero:Nod:=⟨ByteArray.empty,[],[],[],false⟩
abbrev zS (n:Nod) (v1 v2 v3:Value):Value:=.agg #[.string n.name,v1,v2,v3,.bool n.cordon]
structure jT (w:World) (v1 v2 v3:Value) (n:Nod):Prop where
 size:n.name.size≤maxLen
 cap:Vec.Reads w v1 n.cap
 labels:Reads jO w v2 n.labels
 taints:Reads jM w v3 n.taints
theorem jT.kept {w w':World} {v1 v2 v3:Value} {n:Nod} (h:jT w v1 v2 v3 n) (k:Kept w w'):jT w' v1 v2 v3 n:=⟨h.size,h.cap.kept k,h.labels.kept k,h.taints.kept k⟩
def jb9 (w:World) (v:Value) (n:Nod):Prop:=∃v1 v2 v3,v=zS n v1 v2 v3∧jT w v1 v2 v3 n
theorem jb9.kept {w w':World} {v:Value} {n:Nod} (h:jb9 w v n) (k:Kept w w'):jb9 w' v n:=by
 obtain⟨v1,v2,v3,e,h⟩:=h;exact⟨v1,v2,v3,e,h.kept k⟩
def JI (n:Nod):Int:=if isName n.name=false then 3 else if Vec.jB n.cap≠0 then Vec.jB n.cap else if jee n.labels≠0 then jee n.labels else jgL n.taints
def zv (B:Nat) (w:World) (v:Value) (n:Nod):Prop:=∃a1 m1 c1 a2 m2 c2 a3 m3 c3,v=.agg #[.string n.name,.slice a1 m1 c1,.slice a2 m2 c2,.slice a3 m3 c3,.bool n.cordon]∧n.name.size≤maxLen∧Vec.Reads w (.slice a1 m1 c1) n.cap∧Reads jO w (.slice a2 m2 c2) n.labels∧Reads jM w (.slice a3 m3 c3) n.taints ∧
 (∀b off sp,a1=some ⟨b,off,sp⟩→B≤b)∧(∀b off sp,a2=some ⟨b,off,sp⟩→B≤b)∧(∀b off sp,a3=some ⟨b,off,sp⟩→B≤b)
theorem zv.toR {B:Nat} {w:World} {v:Value} {n:Nod} (h:zv B w v n):jb9 w v n:=by
 obtain⟨a1,m1,c1,a2,m2,c2,a3,m3,c3,e,h0,h1,h2,h3,_⟩:=h;exact⟨_,_,_,e,h0,h1,h2,h3⟩
def XM (r:Int×Nod) (w:World) (e:Ending) (w':World):Prop:=(r.1=0→∃v,e=.returned v∧zv w.heap.size w' v r.2)∧(r.1≠0→e=.panicked [jN r.1])∧Kept w w'
theorem XM.good {r:Int×Nod} {w w':World} {v:Value} (h:r.1=0) (ho:zv w.heap.size w' v r.2) (hb:Kept w w'):XM r w (.returned v) w':=⟨fun _=>⟨v,rfl,ho⟩,fun g=>absurd h g,hb⟩
theorem XM.bad {r:Int×Nod} {w w':World} {c:Int} (h:r.1=c) (hc:c≠0) (hb:Kept w w'):XM r w (.panicked [jN c]) w':=⟨fun g=>absurd (h.symm.trans g) hc,fun _=>by rw[h],hb⟩
theorem Vec.JY.spelt {r:Int×Vec.V} {w w':World} {e:Ending} (h:Vec.JY r w e w'):∃a m cap,e=.returned (.tuple #[.slice a m cap,.int .i64 r.1])∧Vec.Reads w' (.slice a m cap) r.2∧(∀b off sp,a=some ⟨b,off,sp⟩→w.heap.size≤b∧b<w'.heap.size)∧Kept w w':=by
 obtain⟨v,rfl,ho,k⟩:=h;obtain⟨a,cap,rfl,h⟩:=ho.at_;exact⟨a,_,cap,rfl,⟨a,cap,rfl,h⟩,fun b off sp e=>ho.1.lt b (by subst e;rfl),k⟩
theorem XU (w:World) (v0 v1 v2 v3 v4:Value) (T:TypeId) (W:World) (k:Kept (w.alloc (.cells #[v0,v1,v2,v3,v4] T)) W) :
 (W.cell? ⟨w.heap.size,0,none⟩=some v0∧W.cell? ⟨w.heap.size,1,none⟩=some v1∧W.cell? ⟨w.heap.size,2,none⟩=some v2∧W.cell? ⟨w.heap.size,3,none⟩=some v3∧W.cell? ⟨w.heap.size,4,none⟩=some v4) ∧
 W.frozen? ⟨w.heap.size,0,none⟩=false∧W.frozen? ⟨w.heap.size,1,none⟩=false∧W.frozen? ⟨w.heap.size,2,none⟩=false∧W.frozen? ⟨w.heap.size,3,none⟩=false∧W.frozen? ⟨w.heap.size,4,none⟩=false:=by
 have hh:=w.alloc_heap_new (.cells #[v0,v1,v2,v3,v4] T);have hf:∀j,W.frozen? ⟨w.heap.size,j,none⟩=false:=fun j=>by
  have:=k.frozen (p:=⟨w.heap.size,j,none⟩) (by simp);rw[this];unfold World.frozen?;rw[show (w.alloc (.cells #[v0,v1,v2,v3,v4] T)).heap[(⟨w.heap.size,j,none⟩:Addr).block]?=some (.cells #[v0,v1,v2,v3,v4] T) from hh];simp
 exact⟨⟨cell_later k (by rw[Lib.cell_of_heap hh];rfl),cell_later k (by rw[Lib.cell_of_heap hh];rfl),cell_later k (by rw[Lib.cell_of_heap hh];rfl),cell_later k (by rw[Lib.cell_of_heap hh];rfl),cell_later k (by rw[Lib.cell_of_heap hh];rfl)⟩,hf 0,hf 1,hf 2,hf 3,hf 4⟩
theorem jcE (W:World) (q:Nat) (u0 u1 u2 u3 u4:Value) (b:Nat) (h:b≠q) :
 (((((W.setCell ⟨q,0,none⟩ u0).setCell ⟨q,1,none⟩ u1).setCell ⟨q,2,none⟩ u2).setCell ⟨q,3,none⟩ u3).setCell ⟨q,4,none⟩ u4).heap[b]?=W.heap[b]? :=
 (Below.heap_setCell _ ⟨q,4,none⟩ _ b h).trans ((Below.heap_setCell _ ⟨q,3,none⟩ _ b h).trans ((Below.heap_setCell _ ⟨q,2,none⟩ _ b h).trans ((Below.heap_setCell _ ⟨q,1,none⟩ _ b h).trans (Below.heap_setCell _ ⟨q,0,none⟩ _ b h))))
theorem jdK (W:World) (q:Nat) (u0 u1 u2 u3 u4:Value) :
 (((((W.setCell ⟨q,0,none⟩ u0).setCell ⟨q,1,none⟩ u1).setCell ⟨q,2,none⟩ u2).setCell ⟨q,3,none⟩ u3).setCell ⟨q,4,none⟩ u4).heap.size=W.heap.size:=by simp[World.setCell]
theorem Reads.far {α:Type} {L:Lay α} {w w':World} {a:Option Addr} {m cap:Nat} {l:List α} (h:Reads L w (.slice a m cap) l) (hs:w'.heap.size=w.heap.size) (hb:∀b off sp,a=some ⟨b,off,sp⟩→w'.heap[b]?=w.heap[b]?):Reads L w' (.slice a m cap) l:=by
 obtain⟨a',cap',e,h1,h2,h3,h4,h5,h6⟩:=h
 cases e
 refine⟨a,cap,rfl,h1,h2,h3,h4,h5,h6.imp id ?_⟩;rintro ⟨b,off,rfl,hlt,hc⟩;exact⟨b,off,rfl,by rw[hs];exact hlt,fun i x j u hi hj=>(World.cell?_of_block (a:=⟨b,off+i*L.m+j,none⟩) (hb b off none rfl)).trans (hc i x j u hi hj)⟩
theorem Vec.Reads.far {w w':World} {a:Option Addr} {m cap:Nat} {l:Vec.V} (h:Vec.Reads w (.slice a m cap) l) (hs:w'.heap.size=w.heap.size) (hb:∀b off sp,a=some ⟨b,off,sp⟩→w'.heap[b]?=w.heap[b]?):Vec.Reads w' (.slice a m cap) l:=by
 obtain⟨a',cap',e,h1,h2,h3,h4,h5,h6⟩:=h
 cases e
 refine⟨a,cap,rfl,h1,h2,h3,h4,h5,h6.imp id ?_⟩;rintro ⟨b,off,rfl,hlt,hc⟩;exact⟨b,off,rfl,by rw[hs];exact hlt,fun i hi=>⟨(World.cell?_of_block (a:=⟨b,off+i*2,none⟩) (hb b off none rfl)).trans (hc i hi).1,(World.cell?_of_block (a:=⟨b,off+i*2+1,none⟩) (hb b off none rfl)).trans (hc i hi).2⟩⟩
theorem Ye {W:World} {q:Nat} {v0 v1 v2 v3 v4 u0 u1 u2 u3 u4:Value} (y0:W.cell? ⟨q,0,none⟩=some v0) (y1:W.cell? ⟨q,1,none⟩=some v1) (y2:W.cell? ⟨q,2,none⟩=some v2) (y3:W.cell? ⟨q,3,none⟩=some v3) (y4:W.cell? ⟨q,4,none⟩=some v4) (W':World)
 (hW:(((((W.setCell ⟨q,0,none⟩ u0).setCell ⟨q,1,none⟩ u1).setCell ⟨q,2,none⟩ u2).setCell ⟨q,3,none⟩ u3).setCell ⟨q,4,none⟩ u4)=W') :
 W'.cell? ⟨q,0,none⟩=some u0∧W'.cell? ⟨q,1,none⟩=some u1∧W'.cell? ⟨q,2,none⟩=some u2∧W'.cell? ⟨q,3,none⟩=some u3∧W'.cell? ⟨q,4,none⟩=some u4:=by
 subst hW;refine⟨?_,?_,?_,?_,?_⟩<;>go_simp
theorem Y9 (B:Nat) (q:Nat) (x y:Int) (w:World) (hq:w.cell? ⟨q,0,none⟩=some (.int .i64 y)) (hzq:w.frozen? ⟨q,0,none⟩=false) (hBq:B≤q) :
 CallsD Tryz.prog 135 #[.pointer (some ⟨q,0,none⟩)] (.panicking [jN x]) w fun e u' w' =>
  e=.returned (.tuple #[])∧u'=.panicking [{ jN x with recovered:=true }]∧w'=w.setCell ⟨q,0,none⟩ (.int .i64 x)∧w'.cell? ⟨q,0,none⟩=some (.int .i64 x)∧Below B w w':=by
 have hta:∀W,(Instr.typeAssert (.iface 45 (.int .i64 x)) 20 45 false).run Tryz.prog W=.ok (.int .i64 x) W:=fun _=>by kernel_rfl
 refine callsD_of_wpS Tryz.func135 rfl fun c₀ cs hu=>?_;apply wpS_seq;apply wpS_region;simp[wpOpsS,go_sem,recoverD,hu,Tryz.ntmps135,Exit.thenS];apply wpS_seq;apply wpS_region;simp[wpOpsS,go_sem,recoverD,Exit.thenS];refine wpS_cond (t:=true) (by simp[Act.eval,Array.replicate]) ?_;simp only[if_true];refine wpS_of_wp ?_;simp[Array.replicate];go_wp2;simp[bodyPostS,results,Tryz.results135];exact⟨World.cell?_setCell_same' _ _ _ (by rw[hq];rfl),(Below.refl B w).setCell (p:=⟨q,0,none⟩) hBq _⟩
theorem jav (q:Addr) (w:World) :
 CallsD Tryz.prog 135 #[.pointer (some q)] .returning w fun e u' w'=>e=.returned (.tuple #[])∧u'=.returning∧w'=w:=by
 refine callsD_of_wpS Tryz.func135 rfl fun c₀ cs hu=>?_;apply wpS_seq;apply wpS_region;simp[wpOpsS,go_sem,recoverD,hu,Tryz.ntmps135,Exit.thenS];apply wpS_seq;apply wpS_region;simp[wpOpsS,go_sem,recoverD,hu,Exit.thenS];refine wpS_cond (t:=false) (by simp[Act.eval,Array.replicate]) ?_;simp only[Bool.false_eq_true,if_false];refine wpS_of_wp (wp_skip ?_)
 cases c₀
 simp_all [bodyPostS,results,Tryz.results135]
theorem jcM (B:Nat) (w:World):zv B w (.agg #[.string ⟨#[]⟩,.slice none 0 0,.slice none 0 0,.slice none 0 0,.bool false]) Nod.zero :=
 ⟨none,0,0,none,0,0,none,0,0,rfl,(by decide:(0:Nat)≤maxLen),Vec.Reads.nil w,Reads.nil w,Reads.nil w,(fun _ _ _ e=>by cases e),(fun _ _ _ e=>by cases e),(fun _ _ _ e=>by cases e)⟩
theorem zv.less {B B':Nat} {w:World} {v:Value} {n:Nod} (h:zv B w v n) (hb:B'≤B):zv B' w v n:=by
 obtain⟨a1,m1,c1,a2,m2,c2,a3,m3,c3,e,h0,h1,h2,h3,g1,g2,g3⟩:=h;exact⟨a1,m1,c1,a2,m2,c2,a3,m3,c3,e,h0,h1,h2,h3,fun b o s e=>Nat.le_trans hb (g1 b o s e),fun b o s e=>Nat.le_trans hb (g2 b o s e),fun b o s e=>Nat.le_trans hb (g3 b o s e)⟩
theorem zv.far {B:Nat} {w w':World} {v:Value} {n:Nod} (h:zv B w v n) (hs:w'.heap.size=w.heap.size) (hb:∀b,B≤b→w'.heap[b]?=w.heap[b]?):zv B w' v n:=by
 obtain⟨a1,m1,c1,a2,m2,c2,a3,m3,c3,e,h0,h1,h2,h3,g1,g2,g3⟩:=h;exact⟨a1,m1,c1,a2,m2,c2,a3,m3,c3,e,h0,h1.far hs (fun b o s e=>hb b (g1 b o s e)),h2.far hs (fun b o s e=>hb b (g2 b o s e)),h3.far hs (fun b o s e=>hb b (g3 b o s e)),g1,g2,g3⟩
theorem zv.kept {B:Nat} {w w':World} {v:Value} {n:Nod} (h:zv B w v n) (k:Kept w w'):zv B w' v n:=by
 obtain⟨a1,m1,c1,a2,m2,c2,a3,m3,c3,e,h0,h1,h2,h3,g1,g2,g3⟩:=h;exact⟨a1,m1,c1,a2,m2,c2,a3,m3,c3,e,h0,h1.kept k,h2.kept k,h3.kept k,g1,g2,g3⟩
def jgh (q:Nat) (x:ByteArray) (a1 a2 a3:Option Addr) (m1 c1 m2 c2 m3 c3:Nat) (b:Bool) (W W':World):Prop :=
 (W'.cell? ⟨q,0,none⟩=some (.string x)∧W'.cell? ⟨q,1,none⟩=some (.slice a1 m1 c1)∧W'.cell? ⟨q,2,none⟩=some (.slice a2 m2 c2)∧W'.cell? ⟨q,3,none⟩=some (.slice a3 m3 c3)∧W'.cell? ⟨q,4,none⟩=some (.bool b)) ∧
  W'.heap.size=W.heap.size∧(∀j,j≠q→W'.heap[j]?=W.heap[j]?)∧∀B w,B≤q→Below B w W→Below B w W'
theorem Ze {W:World} {q:Nat} {v0 v1 v2 v3 v4:Value} (y:W.cell? ⟨q,0,none⟩=some v0∧W.cell? ⟨q,1,none⟩=some v1∧W.cell? ⟨q,2,none⟩=some v2∧W.cell? ⟨q,3,none⟩=some v3∧W.cell? ⟨q,4,none⟩=some v4) (x:ByteArray) (a1 a2 a3:Option Addr) (m1 c1 m2 c2 m3 c3:Nat) (b:Bool) :
 jgh q x a1 a2 a3 m1 c1 m2 c2 m3 c3 b W (((((W.setCell ⟨q,0,none⟩ (.string x)).setCell ⟨q,1,none⟩ (.slice a1 m1 c1)).setCell ⟨q,2,none⟩ (.slice a2 m2 c2)).setCell ⟨q,3,none⟩ (.slice a3 m3 c3)).setCell ⟨q,4,none⟩ (.bool b)) :=
 ⟨Ye y.1 y.2.1 y.2.2.1 y.2.2.2.1 y.2.2.2.2 _ rfl,jdK _ _ _ _ _ _ _,fun j hj=>jcE _ _ _ _ _ _ _ j hj,
  fun B w hB hk=>((((hk.setCell (p:=⟨q,0,none⟩) hB _).setCell (p:=⟨q,1,none⟩) hB _).setCell (p:=⟨q,2,none⟩) hB _).setCell (p:=⟨q,3,none⟩) hB _).setCell (p:=⟨q,4,none⟩) hB _⟩
def Kind (t e:TypeId) (size bytes:Nat):Prop:=∃i z,Tryz.prog.underlying t=some (.slice e)∧Tryz.prog.info? e=some i∧i.zero=some z∧i.size=size∧i.bytes=bytes∧z.cells.size=size∧0<size
def YH (w:World) (y:Value) (m:Nat) (news:List Value):Prop :=
 (∃ad c,y=.slice (some ad) m c∧∀j u,news[j]?=some u→w.cell? (ad.add j)=some u)∨(∃c,y=.slice none 0 c∧m=0)
theorem jbl {t e:TypeId} {size bytes:Nat} (K:Kind t e size bytes) (w:World) (B:Nat) (hB:B≤w.heap.size) (g n cap:Nat) (xs:List Value) (hown:w.ownsRow B e size (.slice (some ⟨g,0,none⟩) n cap) n xs) (y:Value) (m:Nat) (news:List Value) (hl:news.length=m*size) (hone:∀u ∈ news,u.oneCell'=true) (hy:YH w y m news)
 (h63:n+m≤maxLen) (hb:((n+m)+(n+m) / 4+192)*bytes≤281474976710656) (ty:TypeId) :
 ∃g' cap' w',(Builtin.append_ #[t,t] ty #[.slice (some ⟨g,0,none⟩) n cap,y]).run Tryz.prog w=.ok (.slice (some ⟨g',0,none⟩) (n+m) cap') w'∧w'.ownsRow B e size (.slice (some ⟨g',0,none⟩) (n+m) cap') (n+m) (xs++news)∧Below B w w'∧w.grownBy w' (some g):=by
 obtain⟨i,z,ht,hi,hz,h1,h8,hzs,hsz⟩:=K;have hbg:B≤g:=by
  rcases hown.2 with ⟨h0,_⟩ | ⟨g2,cap2,cur,h0,hbg,_⟩
  · cases h0
  · cases h0;exact hbg
 rcases hy with ⟨ad,c,rfl,hc⟩ | ⟨c,rfl,rfl⟩
 · obtain⟨v',w',hr,ho,hg,hnil⟩:=run_append_own_wide w B t ty e i z size bytes ht hi hz h1 h8 hzs hsz _ n xs hown ad m c news hl hc hone h63 hb hB;have hb:=(Below.refl B w).grown hg hB (by intro k hk;cases hk;exact hbg);rcases ho.2 with ⟨h0,_⟩ | ⟨g2,cap2,cur,rfl,_⟩
   · have:=(hnil.1 h0).1
     cases this
   · exact⟨g2,cap2,w',hr,ho,hb,hg⟩
 · have:news=[]:=List.eq_nil_of_length_eq_zero (by rw[hl,Nat.zero_mul]);subst this;rcases hown.2 with ⟨h0,_⟩ | ⟨g2,cap2,cur,h0,_,hg,hnc,_⟩
   · cases h0
   · cases h0
     have hr:=run_append_room_src w t t ty e i ht hi g 0 n cap (.slice none 0 c) 0 [] (Src.ofNil w ht c) (by omega) (by intro j hj;simp at hj) (by intro j hj;simp at hj);exact⟨_,_,_,hr,by simpa [World.setCells] using hown,Below.refl B w,World.grownBy.refl _ _⟩
theorem jb2 {t e:TypeId} {size bytes:Nat} (Kd:Kind t e size bytes) {o:Oper} {a:Act} {K:Act→World→Prop} {Q:Exit→Act→World→Prop} (s x:Operand) (w:World)
 (ho:o.op=.call { callee:=.builtin .append,args:=#[s,x],argTypes:=#[t,t] })
 (B:Nat) (hB:B≤w.heap.size) (g n cap:Nat) (xs:List Value) (hs:a.eval s=.slice (some ⟨g,0,none⟩) n cap) (hown:w.ownsRow B e size (.slice (some ⟨g,0,none⟩) n cap) n xs) (y:Value) (m:Nat) (news:List Value) (hx:a.eval x=y) (hl:news.length=m*size) (hone:∀u ∈ news,u.oneCell'=true) (hy:YH w y m news)
 (h63:n+m≤maxLen) (hb:((n+m)+(n+m) / 4+192)*bytes≤281474976710656)
 (h:∀g' cap' w',w'.ownsRow B e size (.slice (some ⟨g',0,none⟩) (n+m) cap') (n+m) (xs++news)→Below B w w'→w.grownBy w' (some g)→K (a.put o.dst (.slice (some ⟨g',0,none⟩) (n+m) cap')) w'):o.wp Tryz.prog a w K Q:=by
 obtain⟨g',cap',w',hr,h2,h3,h4⟩:=jbl Kd w B hB g n cap xs hown y m news hl hone hy h63 hb o.type;unfold Oper.wp execOp;simp only[ho,resolve,invoke,builtin,Sem.run_bind,Sem.run_pure,Result.andThen_ok,List.map_toArray,List.map_cons,List.map_nil,hs,hx,hr];exact h g' cap' w' h2 h3 h4
theorem jW {t e:TypeId} {size bytes:Nat} (Kd:Kind t e size bytes) {ops:Array Oper} {rest:List Oper} {o:Oper} {a:Act} {Q:Exit→Act→World→Prop} (w:World) (hgd:o.guard=none) (s x:Operand)
 (ho:o.op=.call { callee:=.builtin .append,args:=#[s,x],argTypes:=#[t,t] })
 (B:Nat) (hB:B≤w.heap.size) (g n cap:Nat) (xs:List Value) (hs:a.eval s=.slice (some ⟨g,0,none⟩) n cap) (hown:w.ownsRow B e size (.slice (some ⟨g,0,none⟩) n cap) n xs) (y:Value) (m:Nat) (news:List Value) (hx:a.eval x=y) (hl:news.length=m*size) (hone:∀u ∈ news,u.oneCell'=true) (hy:YH w y m news)
 (h63:n+m≤maxLen) (hb:((n+m)+(n+m) / 4+192)*bytes≤281474976710656)
 (h:∀g' cap' w',w'.ownsRow B e size (.slice (some ⟨g',0,none⟩) (n+m) cap') (n+m) (xs++news)→Below B w w'→w.grownBy w' (some g)→wpList Tryz.prog ops Q rest (a.put o.dst (.slice (some ⟨g',0,none⟩) (n+m) cap')) w'):wpList Tryz.prog ops Q (o::rest) a w :=
 wpList_plain hgd fun _ hK=>jb2 Kd s x w ho B hB g n cap xs hs hown y m news hx hl hone hy h63 hb fun g' cap' w' h2 h3 h4=>hK _ _ (h g' cap' w' h2 h3 h4)
theorem zQ (w:World) (B size:Nat) (e:TypeId) (hB:B≤w.heap.size):(w.alloc (.cells #[] e)).ownsRow B e size (.slice (some ⟨w.heap.size,0,none⟩) 0 0) 0 [] :=
 ⟨by simp,.inr ⟨w.heap.size,0,#[],rfl,hB,World.alloc_heap_new w _,by omega,by unfold maxLen;omega,by simp,by simp⟩⟩
theorem Yy {α:Type} (L:Lay α):∀(l:List α) (j:Nat) (u:Value),(jb L l)[j]?=some u→∃i x k,l[i]?=some x∧(L.cs x)[k]?=some u∧j=i*L.m+k
 | [],j,u,h=>by simp[jb] at h
 | y::t,j,u,h=>by
  unfold jb at h;rw[List.flatMap_cons] at h;by_cases hj:j<L.m
  · rw[List.getElem?_append_left (by rw[L.len];exact hj)] at h;exact⟨0,y,j,rfl,h,by omega⟩
  · rw[List.getElem?_append_right (by rw[L.len];omega),L.len] at h;obtain⟨i,x,k,h1,h2,h3⟩:=Yy L t (j-L.m) u h;exact⟨i+1,x,k,by simpa using h1,h2,by rw[Nat.add_mul];omega⟩
theorem ji.src {α:Type} {L:Lay α} {w:World} {a:Option Addr} {len cap:Nat} {l:List α} (h:ji L w a len l):YH w (.slice a len cap) len (jb L l):=by
 obtain⟨h0,h1,h2,h3⟩:=h;rcases h3 with h3 | ⟨b,off,rfl,hb,hc⟩
 · have hl:l=[]:=List.eq_nil_of_length_eq_zero (by omega);subst hl;subst h3
   cases a with
   | none=>exact .inr ⟨cap,rfl,rfl⟩
   | some ad=>exact .inl ⟨ad,cap,rfl,fun j u hu=>by simp[jb] at hu⟩
 · refine .inl ⟨_,cap,rfl,fun j u hu=>?_⟩;obtain⟨i,x,k,hi,hk,rfl⟩:=Yy L l j u hu;have e:(⟨b,off,none⟩:Addr).add (i*L.m+k)=⟨b,off+i*L.m+k,none⟩:=by
    unfold Addr.add;split<;>simp_all [Nat.add_assoc]
   rw[e];exact hc i x k u hi hk
theorem jgt:Kind 39 156 2 32:=by
 obtain⟨i,hi,hz,h1,h2⟩:=info_parts (show (Tryz.prog.info? 156).map (fun i=>(i.zero,i.size,i.bytes))=some (some (.agg #[.string ByteArray.empty,.string ByteArray.empty]),2,32) by kernel_rfl);exact⟨i,_,Tryz.underlying39,hi,hz,h1,h2,rfl,by decide⟩
theorem jgu:Kind 55 159 3 40:=by
 obtain⟨i,hi,hz,h1,h2⟩:=info_parts (show (Tryz.prog.info? 159).map (fun i=>(i.zero,i.size,i.bytes))=some (some (.agg #[.string ByteArray.empty,.string ByteArray.empty,.bool false]),3,40) by kernel_rfl);exact⟨i,_,Tryz.underlying55,hi,hz,h1,h2,rfl,by decide⟩
theorem jge:Kind 37 100 2 24:=by
 obtain⟨i,hi,hz,h1,h2⟩:=info_parts (show (Tryz.prog.info? 100).map (fun i=>(i.zero,i.size,i.bytes))=some (some (.agg #[.string ByteArray.empty,.int .i64 0]),2,24) by kernel_rfl);exact⟨i,_,Tryz.underlying37,hi,hz,h1,h2,rfl,by decide⟩
theorem qg:∀(l:Vec.V) (j:Nat) (u:Value),(Vec.cellsOf l)[j]?=some u→∃i,i<l.length∧((j=i*2∧u=.string (Vec.nm l i))∨(j=i*2+1∧u=.int .i64 (Vec.qn l i))):=by
 intro l j u h;have hlt:j<l.length*2:=by have:=(List.getElem?_eq_some_iff.1 h).1;rw[Vec.JZ] at this;exact this
 have hi:j / 2<l.length:=by omega
 obtain⟨h1,h2⟩:=Vec.Yn l (j / 2) hi;refine⟨j / 2,hi,?_⟩;by_cases he:j % 2=0
 · have e:j=j / 2*2:=by omega
   rw[←e] at h1;rw[h1] at h;exact .inl ⟨e,by cases h;rfl⟩
 · have e:j=j / 2*2+1:=by omega
   rw[←e] at h2;rw[h2] at h;exact .inr ⟨e,by cases h;rfl⟩
theorem jfn {w:World} {a:Option Addr} {len cap:Nat} {l:Vec.V} (h:Vec.jn w a len l):YH w (.slice a len cap) len (Vec.cellsOf l):=by
 obtain⟨h0,h1,h2,h3⟩:=h;rcases h3 with h3 | ⟨b,off,rfl,hb,hc⟩
 · have hl:l=[]:=List.eq_nil_of_length_eq_zero (by omega);subst hl;subst h3
   cases a with
   | none=>exact .inr ⟨cap,rfl,rfl⟩
   | some ad=>exact .inl ⟨ad,cap,rfl,fun j u hu=>by simp[Vec.cellsOf] at hu⟩
 · refine .inl ⟨_,cap,rfl,fun j u hu=>?_⟩;obtain⟨i,hi,hj⟩:=qg l j u hu;obtain⟨c1,c2⟩:=hc i (by omega);have e:(⟨b,off,none⟩:Addr).add j=⟨b,off+j,none⟩:=by
    unfold Addr.add;split<;>simp_all
   rw[e];rcases hj with ⟨rfl,rfl⟩ | ⟨rfl,rfl⟩
   · exact c1
   · rw[←Nat.add_assoc];exact c2
theorem Yh (a:Option Addr) (len cap:Nat) (l:PL) (w:World) (hr:ji jO w a len l) (hc:len≤cap) (hm:cap≤maxLen) (hn:len≤1000000) :
 Calls Tryz.prog 144 #[.slice a len cap] w fun e w'=>∃a' m' c',e=.returned (.slice a' m' c')∧Reads jO w' (.slice a' m' c') l∧(∀b off sp,a'=some ⟨b,off,sp⟩→w.heap.size≤b)∧Kept w w':=by
 have hl:=hr.1;have q22:∀(w:World) (a:Option Addr) (n c n' c':Nat),(binOp .eql 39 (.slice a n c) (.slice none n' c')).run Tryz.prog w=.ok (.bool a.isNone) w:=fun w a n c n' c'=>Lib.run_eql_slice_nil w _ _ a n c n' c' Tryz.underlying39
 cases a with
 | none =>
  have h0:len=0:=by
   rcases hr.form with h | ⟨b,off,h⟩
   · exact h
   · cases h
  subst h0;have hl0:l=[]:=List.eq_nil_of_length_eq_zero hl;subst hl0;clear hr hl;go_enter Tryz.func144,Tryz.ntmps144;go_wp2;go_ret;exact⟨none,0,0,rfl,Reads.nil _,(fun b o s e=>by cases e),Kept.refl _⟩
 | some ad =>
  have HR:=lH hr;have HL:=lH hl;have hrl:(jb jO l).length=len*2:=by rw[jF,hl];rfl
  have hb1:0+len≤maxLen:=by unfold maxLen;omega
  have hb2:((0+len)+(0+len) / 4+192)*32≤281474976710656:=by omega
  clear hr hl;go_enter Tryz.func144,Tryz.ntmps144;go_wp2_with (at_builtin;refine jW jgt _ rfl (.tmp 5) (.tmp 6) rfl w.heap.size (by simp) w.heap.size 0 0 [] rfl (zQ w w.heap.size 2 _ (Nat.le_refl _)) _ len (jb jO l) rfl hrl (za _ _) (ji.src (HR.out.kept (ja _ _))) hb1 hb2 ?_;intro g1 k1 W1 ho hd hg;have HO:=lH ho;have HD:=lH hd;clear ho hd hg;refine Hid.out ?_)
  refine lH ?_;simp only[Nat.zero_add,List.nil_append] at HO ⊢;go_wp2;go_ret;exact⟨_,_,_,rfl,Own.reads (⟨by rw[HL.out];exact HO.out,HR.out.2.2.1⟩:Own jO 156 W1 w.heap.size (.slice (some ⟨g1,0,none⟩) len k1) l),(fun b o s e=>by cases e;exact(HO.out.lt g1 rfl).1),Below.trans (ja w _) HD.out⟩
theorem XL (a:Option Addr) (len cap:Nat) (l:NL) (w:World) (hr:ji jM w a len l) (hc:len≤cap) (hm:cap≤maxLen) (hn:len≤1000000) :
 Calls Tryz.prog 145 #[.slice a len cap] w fun e w'=>∃a' m' c',e=.returned (.slice a' m' c')∧Reads jM w' (.slice a' m' c') l∧(∀b off sp,a'=some ⟨b,off,sp⟩→w.heap.size≤b)∧Kept w w':=by
 have hl:=hr.1;have q22:∀(w:World) (a:Option Addr) (n c n' c':Nat),(binOp .eql 55 (.slice a n c) (.slice none n' c')).run Tryz.prog w=.ok (.bool a.isNone) w:=fun w a n c n' c'=>Lib.run_eql_slice_nil w _ _ a n c n' c' Tryz.underlying55
 cases a with
 | none =>
  have h0:len=0:=by
   rcases hr.form with h | ⟨b,off,h⟩
   · exact h
   · cases h
  subst h0;have hl0:l=[]:=List.eq_nil_of_length_eq_zero hl;subst hl0;clear hr hl;go_enter Tryz.func145,Tryz.ntmps145;go_wp2;go_ret;exact⟨none,0,0,rfl,Reads.nil _,(fun b o s e=>by cases e),Kept.refl _⟩
 | some ad =>
  have HR:=lH hr;have HL:=lH hl;have hrl:(jb jM l).length=len*3:=by rw[jF,hl];rfl
  have hb1:0+len≤maxLen:=by unfold maxLen;omega
  have hb2:((0+len)+(0+len) / 4+192)*40≤281474976710656:=by omega
  clear hr hl;go_enter Tryz.func145,Tryz.ntmps145;go_wp2_with (at_builtin;refine jW jgu _ rfl (.tmp 5) (.tmp 6) rfl w.heap.size (by simp) w.heap.size 0 0 [] rfl (zQ w w.heap.size 3 _ (Nat.le_refl _)) _ len (jb jM l) rfl hrl (za _ _) (ji.src (HR.out.kept (ja _ _))) hb1 hb2 ?_;intro g1 k1 W1 ho hd hg;have HO:=lH ho;have HD:=lH hd;clear ho hd hg;refine Hid.out ?_)
  refine lH ?_;simp only[Nat.zero_add,List.nil_append] at HO ⊢;go_wp2;go_ret;exact⟨_,_,_,rfl,Own.reads (⟨by rw[HL.out];exact HO.out,HR.out.2.2.1⟩:Own jM 159 W1 w.heap.size (.slice (some ⟨g1,0,none⟩) len k1) l),(fun b o s e=>by cases e;exact(HO.out.lt g1 rfl).1),Below.trans (ja w _) HD.out⟩
theorem Yv (a:Option Addr) (len cap:Nat) (l:Vec.V) (w:World) (hr:Vec.jn w a len l) (hc:len≤cap) (hm:cap≤maxLen) (hn:len≤1000000) :
 Calls Tryz.prog 143 #[.slice a len cap] w fun e w'=>∃a' m' c',e=.returned (.slice a' m' c')∧Vec.Reads w' (.slice a' m' c') l∧(∀b off sp,a'=some ⟨b,off,sp⟩→w.heap.size≤b)∧Kept w w':=by
 have hl:=hr.1;have q22:∀(w:World) (a:Option Addr) (n c n' c':Nat),(binOp .eql 37 (.slice a n c) (.slice none n' c')).run Tryz.prog w=.ok (.bool a.isNone) w:=fun w a n c n' c'=>Lib.run_eql_slice_nil w _ _ a n c n' c' Tryz.underlying37
 cases a with
 | none =>
  have h0:len=0:=by
   rcases hr.form with h | ⟨b,off,h⟩
   · exact h
   · cases h
  subst h0;have hl0:l=[]:=List.eq_nil_of_length_eq_zero hl;subst hl0;clear hr hl;go_enter Tryz.func143,Tryz.ntmps143;go_wp2;go_ret;exact⟨none,0,0,rfl,Vec.Reads.nil _,(fun b o s e=>by cases e),Kept.refl _⟩
 | some ad =>
  have HR:=lH hr;have HL:=lH hl;have hrl:(Vec.cellsOf l).length=len*2:=by rw[Vec.JZ,hl]
  have hb1:0+len≤maxLen:=by unfold maxLen;omega
  have hb2:((0+len)+(0+len) / 4+192)*24≤281474976710656:=by omega
  clear hr hl;go_enter Tryz.func143,Tryz.ntmps143;go_wp2_with (at_builtin;refine jW jge _ rfl (.tmp 5) (.tmp 6) rfl w.heap.size (by simp) w.heap.size 0 0 [] rfl (zQ w w.heap.size 2 _ (Nat.le_refl _)) _ len (Vec.cellsOf l) rfl hrl (Vec.ZY _) (jfn (HR.out.kept (ja _ _))) hb1 hb2 ?_;intro g1 k1 W1 ho hd hg;have HO:=lH ho;have HD:=lH hd;clear ho hd hg;refine Hid.out ?_)
  refine lH ?_;simp only[Nat.zero_add,List.nil_append] at HO ⊢;go_wp2;go_ret;exact⟨_,_,_,rfl,Vec.jD.reads (⟨by rw[HL.out];exact HO.out,HR.out.2.2.1⟩:Vec.jD 100 W1 w.heap.size (.slice (some ⟨g1,0,none⟩) len k1) l),(fun b o s e=>by cases e;exact(HO.out.lt g1 rfl).1),Below.trans (ja w _) HD.out⟩
def jP (q:Nat) (v0 v1 v2 v3 v4:Value) (W:World):Prop :=
 (W.cell? ⟨q,0,none⟩=some v0∧W.cell? ⟨q,1,none⟩=some v1∧W.cell? ⟨q,2,none⟩=some v2∧W.cell? ⟨q,3,none⟩=some v3∧W.cell? ⟨q,4,none⟩=some v4) ∧
  W.frozen? ⟨q,0,none⟩=false∧W.frozen? ⟨q,1,none⟩=false∧W.frozen? ⟨q,2,none⟩=false∧W.frozen? ⟨q,3,none⟩=false∧W.frozen? ⟨q,4,none⟩=false
theorem jP.block {q:Nat} {v0 v1 v2 v3 v4:Value} {W W':World} (h:jP q v0 v1 v2 v3 v4 W) (e:W'.heap[q]?=W.heap[q]?):jP q v0 v1 v2 v3 v4 W':=by
 have c:∀j,W'.cell? ⟨q,j,none⟩=W.cell? ⟨q,j,none⟩:=fun j=>World.cell?_of_block (a:=⟨q,j,none⟩) e;have f:∀j,W'.frozen? ⟨q,j,none⟩=W.frozen? ⟨q,j,none⟩:=fun j=>World.frozen?_of_block (a:=⟨q,j,none⟩) e;unfold jP;simp only[c,f];exact h
theorem jP.kept {q:Nat} {v0 v1 v2 v3 v4:Value} {W W':World} (h:jP q v0 v1 v2 v3 v4 W) (k:Kept W W'):jP q v0 v1 v2 v3 v4 W':=h.block (k.block q (World.block_lt_of_cell? _ _ h.1.1))
theorem jP.other {q p j:Nat} {v0 v1 v2 v3 v4 u:Value} {W:World} (h:jP q v0 v1 v2 v3 v4 W) (hp:q≠p):jP q v0 v1 v2 v3 v4 (W.setCell ⟨p,j,none⟩ u):=h.block (Below.heap_setCell W ⟨p,j,none⟩ u q hp)
theorem jP.set1 {q:Nat} {v0 v1 v2 v3 v4:Value} {W:World} (h:jP q v0 v1 v2 v3 v4 W) (u:Value):jP q v0 u v2 v3 v4 (W.setCell ⟨q,1,none⟩ u):=by
 obtain⟨⟨y0,y1,y2,y3,y4⟩,x0,x1,x2,x3,x4⟩:=h;refine⟨⟨?_,?_,?_,?_,?_⟩,?_,?_,?_,?_,?_⟩<;>go_simp
theorem jP.set2 {q:Nat} {v0 v1 v2 v3 v4:Value} {W:World} (h:jP q v0 v1 v2 v3 v4 W) (u:Value):jP q v0 v1 u v3 v4 (W.setCell ⟨q,2,none⟩ u):=by
 obtain⟨⟨y0,y1,y2,y3,y4⟩,x0,x1,x2,x3,x4⟩:=h;refine⟨⟨?_,?_,?_,?_,?_⟩,?_,?_,?_,?_,?_⟩<;>go_simp
theorem jP.set3 {q:Nat} {v0 v1 v2 v3 v4:Value} {W:World} (h:jP q v0 v1 v2 v3 v4 W) (u:Value):jP q v0 v1 v2 u v4 (W.setCell ⟨q,3,none⟩ u):=by
 obtain⟨⟨y0,y1,y2,y3,y4⟩,x0,x1,x2,x3,x4⟩:=h;refine⟨⟨?_,?_,?_,?_,?_⟩,?_,?_,?_,?_,?_⟩<;>go_simp
theorem zA {α:Type} {L:Lay α} {B p j:Nat} {u:Value} {w:World} {a:Option Addr} {m c:Nat} {l:List α} (h:Reads L w (.slice a m c) l) (g:∀b off sp,a=some ⟨b,off,sp⟩→B≤b) (hp:p<B):Reads L (w.setCell ⟨p,j,none⟩ u) (.slice a m c) l :=
 h.far (by simp[World.setCell]) (fun b o s e=>Below.heap_setCell w ⟨p,j,none⟩ u b (show b≠p by have:=g b o s e;omega))
theorem zJ {B p j:Nat} {u:Value} {w:World} {a:Option Addr} {m c:Nat} {l:Vec.V} (h:Vec.Reads w (.slice a m c) l) (g:∀b off sp,a=some ⟨b,off,sp⟩→B≤b) (hp:p<B):Vec.Reads (w.setCell ⟨p,j,none⟩ u) (.slice a m c) l :=
 h.far (by simp[World.setCell]) (fun b o s e=>Below.heap_setCell w ⟨p,j,none⟩ u b (show b≠p by have:=g b o s e;omega))
structure zH (n:Nod):Prop where
 cap:n.cap.length≤1000000
 labels:n.labels.length≤1000000
 taints:n.taints.length≤1000000
theorem jdu (n:Nod) (a1 a2 a3:Option Addr) (m1 c1 m2 c2 m3 c3:Nat) (w:World) (h:jT w (.slice a1 m1 c1) (.slice a2 m2 c2) (.slice a3 m3 c3) n) (hl:zH n) :
 Calls Tryz.prog 210 #[.agg #[.string n.name,.slice a1 m1 c1,.slice a2 m2 c2,.slice a3 m3 c3,.bool n.cordon]] w fun e w'=>∃v,e=.returned v∧zv w.heap.size w' v n∧Kept w w':=by
 have hsz:=h.size;obtain⟨x1,y1,e1,p1,q1,r1⟩:=h.cap
 cases e1
 obtain⟨x2,y2,e2,p2,q2,r2⟩:=h.labels
 cases e2
 obtain⟨x3,y3,e3,p3,q3,r3⟩:=h.taints
 cases e3
 obtain⟨H1,H2,H3⟩:=lH3 (fun W (k:Kept w W)=>Yv a1 n.cap.length c1 n.cap W (r1.kept k) p1 q1 hl.cap) (fun W (k:Kept w W)=>Yh a2 n.labels.length c2 n.labels W (r2.kept k) p2 q2 hl.labels) (fun W (k:Kept w W)=>XL a3 n.taints.length c3 n.taints W (r3.kept k) p3 q3 hl.taints);obtain⟨k1,hk1⟩:=eX (n.cap.length)
 obtain⟨k2,hk2⟩:=eX (n.labels.length)
 obtain⟨k3,hk3⟩:=eX (n.taints.length)
 obtain⟨x,hx⟩:=eX (n.name)
 obtain⟨cd,hcd⟩:=eX (n.cordon)
 have hxs:x.size≤maxLen:=by rw[←hx];exact hsz
 rw[hk1] at H1;rw[hk2] at H2;rw[hk3] at H3;rw[hk1,hk2,hk3,hx,hcd];have HX:=lH hx;have Tq:=lH hcd;clear h hl p1 q1 r1 p2 q2 r2 p3 q3 r3 hk1 hk2 hk3 hx hcd hsz;obtain⟨Z,hZ⟩:=eX ((w.alloc (.cells #[.string x,.slice a1 k1 c1,.slice a2 k2 c2,.slice a3 k3 c3,.bool cd] 57)).alloc (.cells #[.string ⟨#[]⟩,.slice none 0 0,.slice none 0 0,.slice none 0 0,.bool false] 57))
 have hkz:Kept w Z:=by rw[←hZ];exact jj _ _ _
 have hzs:Z.heap.size=w.heap.size+2:=by rw[←hZ];simp
 have Q0:=lH (show jP w.heap.size (.string x) (.slice a1 k1 c1) (.slice a2 k2 c2) (.slice a3 k3 c3) (.bool cd) Z from XU w _ _ _ _ _ 57 Z (by rw[←hZ];exact ja _ _));have Q1:=lH (show jP (w.heap.size+1) (.string ⟨#[]⟩) (.slice none 0 0) (.slice none 0 0) (.slice none 0 0) (.bool false) Z by
  have:=XU (w.alloc (.cells #[.string x,.slice a1 k1 c1,.slice a2 k2 c2,.slice a3 k3 c3,.bool cd] 57)) (.string ⟨#[]⟩) (.slice none 0 0) (.slice none 0 0) (.slice none 0 0) (.bool false) 57 Z (by rw[hZ];exact Kept.refl _);rw[World.size_alloc] at this;exact this)
 have K:=lH hkz;have hs0:w.heap.size+2≤Z.heap.size:=by omega
 clear hkz hzs;obtain⟨⟨y0,y1,y2,y3,y4⟩,x0,x1,x2,x3,x4⟩:=Q0.out;go_enter Tryz.func210,Tryz.ntmps210;go_wp2_with fail
 try rw[hZ]
 clear hZ;clear y0 y1 y2 y3 y4 x0 x1 x2 x3 x4;refine(H1.out _ K.out).mono ?_;rintro e w1 ⟨b1,n1,d1,rfl,rr,gg,k⟩;obtain⟨VY,RA,K⟩:=lH3 (show ∀b off sp,b1=some ⟨b,off,sp⟩→w.heap.size+2≤b from fun b o s e=>by have:=gg b o s e;omega) rr (K.out.trans k);have hs1:w.heap.size+2≤w1.heap.size:=by have:=k.size;omega
 have Q0:=lH (Q0.out.kept k);have Q1:=lH (Q1.out.kept k);clear rr gg k hs0;obtain⟨⟨y0,y1,y2,y3,y4⟩,x0,x1,x2,x3,x4⟩:=Q0.out;obtain⟨Q0,Q1,RA,K⟩:=lH4 (Q0.out.set1 (.slice b1 n1 d1)) (Q1.out.other (p:=w.heap.size) (j:=1) (u:=.slice b1 n1 d1) (by omega)) (zJ (p:=w.heap.size) (j:=1) (u:=.slice b1 n1 d1) RA.out VY.out (by omega)) (show Kept w (w1.setCell ⟨w.heap.size,1,none⟩ (.slice b1 n1 d1)) from K.out.setCell (p:=⟨w.heap.size,1,none⟩) (Nat.le_refl _) _);have hs0:w.heap.size+2≤(w1.setCell ⟨w.heap.size,1,none⟩ (.slice b1 n1 d1)).heap.size:=by simpa [World.setCell] using hs1
 clear hs1;obtain⟨⟨z0,z1,z2,z3,z4⟩,-⟩:=Q0.out;go_wp2_with fail
 clear y0 y1 y2 y3 y4 x0 x1 x2 x3 x4 z0 z1 z2 z3 z4;obtain⟨W1,hW1⟩:=eX (w1.setCell ⟨w.heap.size,1,none⟩ (.slice b1 n1 d1))
 rw[hW1] at Q0 Q1 RA K hs0 ⊢;clear hW1;refine(H2.out _ K.out).mono ?_;rintro e w2 ⟨b2,n2,d2,rfl,rr,gg,k⟩;obtain⟨Vn,RB,K⟩:=lH3 (show ∀b off sp,b2=some ⟨b,off,sp⟩→w.heap.size+2≤b from fun b o s e=>by have:=gg b o s e;omega) rr (K.out.trans k);have hs1:w.heap.size+2≤w2.heap.size:=by have:=k.size;omega
 obtain⟨Q0,Q1,RA⟩:=lH3 (Q0.out.kept k) (Q1.out.kept k) (RA.out.kept k);clear rr gg k hs0;obtain⟨⟨y0,y1,y2,y3,y4⟩,x0,x1,x2,x3,x4⟩:=Q0.out;obtain⟨Q0,Q1,RA,RB,K⟩:=lH5 (Q0.out.set2 (.slice b2 n2 d2)) (Q1.out.other (p:=w.heap.size) (j:=2) (u:=.slice b2 n2 d2) (by omega)) (zJ (p:=w.heap.size) (j:=2) (u:=.slice b2 n2 d2) RA.out VY.out (by omega)) (zA (p:=w.heap.size) (j:=2) (u:=.slice b2 n2 d2) RB.out Vn.out (by omega)) (show Kept w (w2.setCell ⟨w.heap.size,2,none⟩ (.slice b2 n2 d2)) from K.out.setCell (p:=⟨w.heap.size,2,none⟩) (Nat.le_refl _) _);have hs0:w.heap.size+2≤(w2.setCell ⟨w.heap.size,2,none⟩ (.slice b2 n2 d2)).heap.size:=by simpa [World.setCell] using hs1
 clear hs1;obtain⟨⟨z0,z1,z2,z3,z4⟩,-⟩:=Q0.out;go_wp2_with fail
 clear y0 y1 y2 y3 y4 x0 x1 x2 x3 x4 z0 z1 z2 z3 z4;obtain⟨W2,hW2⟩:=eX (w2.setCell ⟨w.heap.size,2,none⟩ (.slice b2 n2 d2))
 rw[hW2] at Q0 Q1 RA RB K hs0 ⊢;clear hW2;refine(H3.out _ K.out).mono ?_;rintro e w3 ⟨b3,n3,d3,rfl,rr,gg,k⟩;obtain⟨Um,RC,K⟩:=lH3 (show ∀b off sp,b3=some ⟨b,off,sp⟩→w.heap.size+2≤b from fun b o s e=>by have:=gg b o s e;omega) rr (K.out.trans k);have hs1:w.heap.size+2≤w3.heap.size:=by have:=k.size;omega
 obtain⟨Q0,Q1,RA,RB⟩:=lH4 (Q0.out.kept k) (Q1.out.kept k) (RA.out.kept k) (RB.out.kept k);clear rr gg k hs0;obtain⟨⟨y0,y1,y2,y3,y4⟩,x0,x1,x2,x3,x4⟩:=Q0.out;obtain⟨Q0,Q1,RA,RB,RC,K⟩:=lH6 (Q0.out.set3 (.slice b3 n3 d3)) (Q1.out.other (p:=w.heap.size) (j:=3) (u:=.slice b3 n3 d3) (by omega)) (zJ (p:=w.heap.size) (j:=3) (u:=.slice b3 n3 d3) RA.out VY.out (by omega)) (zA (p:=w.heap.size) (j:=3) (u:=.slice b3 n3 d3) RB.out Vn.out (by omega)) (zA (p:=w.heap.size) (j:=3) (u:=.slice b3 n3 d3) RC.out Um.out (by omega)) (show Kept w (w3.setCell ⟨w.heap.size,3,none⟩ (.slice b3 n3 d3)) from K.out.setCell (p:=⟨w.heap.size,3,none⟩) (Nat.le_refl _) _);have hs0:w.heap.size+2≤(w3.setCell ⟨w.heap.size,3,none⟩ (.slice b3 n3 d3)).heap.size:=by simpa [World.setCell] using hs1
 clear hs1;obtain⟨⟨z0,z1,z2,z3,z4⟩,-⟩:=Q0.out;obtain⟨⟨g0,g1,g2,g3,g4⟩,f0,f1,f2,f3,f4⟩:=Q1.out;go_wp2;have P:=lH (Ze ⟨g0,g1,g2,g3,g4⟩ x b1 b2 b3 n1 d1 n2 d2 n3 d3 cd);clear y0 y1 y2 y3 y4 x0 x1 x2 x3 x4 z0 z1 z2 z3 z4 g0 g1 g2 g3 g4 f0 f1 f2 f3 f4;obtain⟨W3,hW3⟩:=eX (w3.setCell ⟨w.heap.size,3,none⟩ (.slice b3 n3 d3))
 rw[hW3] at RA RB RC K hs0 P ⊢;obtain⟨WE,hWE⟩:=eX ((((((W3.setCell ⟨w.heap.size+1,0,none⟩ (.string x)).setCell ⟨w.heap.size+1,1,none⟩ (.slice b1 n1 d1)).setCell ⟨w.heap.size+1,2,none⟩ (.slice b2 n2 d2)).setCell ⟨w.heap.size+1,3,none⟩ (.slice b3 n3 d3)).setCell ⟨w.heap.size+1,4,none⟩ (.bool cd)))
 rw[hWE] at P ⊢;clear hWE hW3;obtain⟨⟨e0,e1,e2,e3,e4⟩,hsz,hbl,hkp⟩:=P.out;refine bodyPost_ret (by simp[results,Tryz.results210,go_sem,e0,e1,e2,e3,e4];try rfl) rfl ?_;exact⟨_,rfl,⟨b1,n1,d1,b2,n2,d2,b3,n3,d3,by rw[HX.out,Tq.out],by rw[HX.out];exact hxs,RA.out.far hsz (fun b o s e=>hbl b (by have:=VY.out b o s e;omega)),RB.out.far hsz (fun b o s e=>hbl b (by have:=Vn.out b o s e;omega)),RC.out.far hsz (fun b o s e=>hbl b (by have:=Um.out b o s e;omega)),fun b o s e=>Nat.le_trans (Nat.le_add_right _ 2) (VY.out b o s e),fun b o s e=>Nat.le_trans (Nat.le_add_right _ 2) (Vn.out b o s e),fun b o s e=>Nat.le_trans (Nat.le_add_right _ 2) (Um.out b o s e)⟩,hkp _ _ (Nat.le_succ _) K.out⟩
def js (w:World) (a:Option Addr) (len:Nat) (l:List Nod):Prop :=
 l.length=len∧len≤maxLen∧(len=0∨∃b off,a=some ⟨b,off,none⟩∧b<w.heap.size∧∀i n,l[i]?=some n→∃a1 m1 c1 a2 m2 c2 a3 m3 c3,
  w.cell? ⟨b,off+i*5,none⟩=some (.string n.name)∧w.cell? ⟨b,off+i*5+1,none⟩=some (.slice a1 m1 c1)∧w.cell? ⟨b,off+i*5+2,none⟩=some (.slice a2 m2 c2)∧w.cell? ⟨b,off+i*5+3,none⟩=some (.slice a3 m3 c3)∧w.cell? ⟨b,off+i*5+4,none⟩=some (.bool n.cordon) ∧
  jT w (.slice a1 m1 c1) (.slice a2 m2 c2) (.slice a3 m3 c3) n)
theorem js.kept {w w':World} {a:Option Addr} {len:Nat} {l:List Nod} (h:js w a len l) (k:Kept w w'):js w' a len l:=by
 obtain⟨h0,h1,h2⟩:=h;refine⟨h0,h1,h2.imp id ?_⟩;rintro ⟨b,off,rfl,hb,hc⟩;refine⟨b,off,rfl,Nat.lt_of_lt_of_le hb k.size,fun i n hi=>?_⟩;obtain⟨a1,m1,c1,a2,m2,c2,a3,m3,c3,p0,p1,p2,p3,p4,hn⟩:=hc i n hi;exact⟨a1,m1,c1,a2,m2,c2,a3,m3,c3,cell_later k p0,cell_later k p1,cell_later k p2,cell_later k p3,cell_later k p4,hn.kept k⟩
theorem js.form {w:World} {a:Option Addr} {len:Nat} {l:List Nod} (h:js w a len l):len=0∨∃b off,a=some ⟨b,off,none⟩:=by
 obtain⟨_,_,h2⟩:=h;exact h2.imp id fun ⟨b,off,e,_⟩=>⟨b,off,e⟩
theorem js.at_ {w:World} {b off len:Nat} {l:List Nod} {k:Nat} (h:js w (some ⟨b,off,none⟩) len l) (hk:k<len):∃n a1 m1 c1 a2 m2 c2 a3 m3 c3,l[k]?=some n∧l.drop k=n::l.drop (k+1)∧b<w.heap.size ∧
 w.cell? ⟨b,off+k*5,none⟩=some (.string n.name)∧w.cell? ⟨b,off+k*5+1,none⟩=some (.slice a1 m1 c1)∧w.cell? ⟨b,off+k*5+2,none⟩=some (.slice a2 m2 c2)∧w.cell? ⟨b,off+k*5+3,none⟩=some (.slice a3 m3 c3)∧w.cell? ⟨b,off+k*5+4,none⟩=some (.bool n.cordon) ∧
 jT w (.slice a1 m1 c1) (.slice a2 m2 c2) (.slice a3 m3 c3) n:=by
 obtain⟨h0,_,h3⟩:=h;have hkl:k<l.length:=by omega
 rcases h3 with h3 | ⟨b',off',e,hb,hc⟩
 · omega
 · injection e with e;injection e with e1 e2 e3;subst e1;subst e2;have he:l[k]?=some l[k]:=List.getElem?_eq_getElem hkl;obtain⟨a1,m1,c1,a2,m2,c2,a3,m3,c3,r⟩:=hc k _ he;exact⟨l[k],a1,m1,c1,a2,m2,c2,a3,m3,c3,he,List.drop_eq_getElem_cons hkl,hb,r⟩
def JN (w:World) (v:Value) (l:List Nod):Prop:=∃a cap,v=.slice a l.length cap∧l.length≤cap∧cap≤maxLen∧js w a l.length l
theorem JN.kept {w w':World} {v:Value} {l:List Nod} (h:JN w v l) (k:Kept w w'):JN w' v l:=by
 obtain⟨a,cap,e,h1,h2,h3⟩:=h;exact⟨a,cap,e,h1,h2,h3.kept k⟩
end Go.Proofs.YtokdjfoalkmhiaaGreat
