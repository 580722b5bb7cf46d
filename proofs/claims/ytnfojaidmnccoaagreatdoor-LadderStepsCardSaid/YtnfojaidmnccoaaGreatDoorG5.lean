/- The law. -/
import Derived.Test.YtnfojaidmnccoaaGreatDoorG4
set_option linter.unusedVariables false
set_option maxRecDepth 100000
set_option maxHeartbeats 25600000
namespace Go.Proofs.YtnfojaidmnccoaaGreatDoor
open Go.RowKit
theorem LadderSteps_walk (v:Value) (n:Lad) (tv:Value) (t:Vec.V) (w:World) (hE:Vec.jV w) (h:JL w v n) (ht:Vec.Reads w tv t):Calls Tryz.prog 8 #[v,tv] w fun e w'=>e=.returned (.bool true)∧Kept w w':=by
 obtain⟨v1,v2,rfl,hat⟩:=h;obtain⟨a1,c1,rfl,-⟩:=id hat.unit;obtain⟨a2,c2,rfl,-⟩:=id hat.rungs;obtain⟨l1,hl1⟩:=eX (n.unit.length)
 obtain⟨l2,hl2⟩:=eX (n.rungs.length)
 rw[hl1,hl2] at hat;unfold J8;rw[hl1,hl2];clear hl1 hl2;obtain⟨W0,hW0⟩:=eX (w.alloc (.cells #[.string n.what,.slice a1 l1 c1,.slice a2 l2 c2,.int .i64 n.lo,.int .i64 n.hi] 26))
 have hk0:Kept w W0:=by rw[←hW0];exact ja _ _
 have HL:=lH (jo w (.string n.what) [.slice a1 l1 c1,.slice a2 l2 c2,.int .i64 n.lo,.int .i64 n.hi] 26 W0 (by rw[hW0];exact Kept.refl _));obtain⟨lb,hlb⟩:=eX (w.heap.size)
 rw[hlb] at HL;obtain⟨HK,Va,HT,HE⟩:=lH4 hk0 (hat.kept hk0) (ht.kept hk0) (hE.kept hk0);clear hk0 hat ht hE;go_enter Tryz.func8,Tryz.ntmps8;go_wp2_with fail
 try rw[hW0]
 try rw[hlb]
 clear hW0 hlb;refine(Y8 _ HE.out).mono ?_;rintro e w1 ⟨rfl,kk⟩;obtain⟨HL,Va,HT,HE,HK⟩:=lH5 (HL.out.kept kk) (Va.out.kept kk) (HT.out.kept kk) (HE.out.kept kk) (HK.out.trans kk);obtain⟨y0,y1,y2,y3,y4⟩:=HL.out.at5;clear kk;obtain⟨f1,hf1⟩:=eX (Z8 n)
 have Uu:=lH hf1;have U2:=lH (qR n a1 a2 l1 c1 l2 c2 w1 Va.out);rw[hf1] at U2;clear hf1;go_wp2_with fail
 refine U2.out.mono ?_;rintro e w2 ⟨rfl,kk⟩;clear y0 y1 y2 y3 y4;obtain⟨HL,Va,HT,HE,HK⟩:=lH5 (HL.out.kept kk) (Va.out.kept kk) (HT.out.kept kk) (HE.out.kept kk) (HK.out.trans kk);obtain⟨y0,y1,y2,y3,y4⟩:=HL.out.at5;clear kk U2
 cases f1 with
 | false =>
  go_wp2;go_ret;exact⟨rfl,HK.out⟩
 | true =>
  obtain⟨e1,he1⟩:=eX (jF n)
  have VB:=lH he1;have Vt:=lH (zK n (.slice a1 l1 c1) (.slice a2 l2 c2) w2 Va.out);unfold J8 at Vt;rw[he1] at Vt;clear he1;go_wp2_with fail
  refine Vt.out.mono ?_;rintro e w3 ⟨rfl,kk⟩;clear y0 y1 y2 y3 y4;obtain⟨HL,Va,HT,HE,HK⟩:=lH5 (HL.out.kept kk) (Va.out.kept kk) (HT.out.kept kk) (HE.out.kept kk) (HK.out.trans kk);obtain⟨y0,y1,y2,y3,y4⟩:=HL.out.at5;clear kk Vt;by_cases z1:e1=0
  · subst z1;obtain⟨e2,he2⟩:=eX (Vec.jf t)
    have T1:=lH he2;have Ve:=lH (Vec.qM HT.out he2);clear he2;go_wp2_with fail
    refine Ve.out.mono ?_;rintro e w4 ⟨rfl,kk⟩;clear y0 y1 y2 y3 y4;obtain⟨HL,Va,HT,HE,HK⟩:=lH5 (HL.out.kept kk) (Va.out.kept kk) (HT.out.kept kk) (HE.out.kept kk) (HK.out.trans kk);obtain⟨y0,y1,y2,y3,y4⟩:=HL.out.at5;clear kk Ve;by_cases z2:e2=0
    · subst z2;obtain⟨g1,g2,g3,g4⟩:=ZJ VB.out;have hlm:=jbb g3;obtain⟨UW,TQ,Uo,Th,TR,VR,TS,TT⟩:=lH8 hlm (show jF ⟨n.what,n.unit,n.rungs,n.lo,n.lo⟩=0 from ZV VB.out rfl rfl rfl (q6 hlm.1 (Int.le_refl _) (by dsimp only;omega))) (show jF ⟨n.what,n.unit,n.rungs,0,128⟩=0 from ZV VB.out rfl rfl rfl (show jJ 0 128=0 by decide)) (show Vec.Gd n.unit from Vec.XQ g2 (by obtain⟨_,_,-,-,-,q⟩:=Va.out.unit;exact q.2.2.1)) (YF VB.out) (Xr g4) (show ∀W,jN W (.slice a1 l1 c1) (.slice a2 l2 c2) n→jN W (.slice a1 l1 c1) (.slice a2 l2 c2) ⟨n.what,n.unit,n.rungs,n.lo,n.lo⟩ from fun W q=>⟨q.size,q.unit,q.rungs,q.lo,q.lo⟩) (show ∀W,jN W (.slice a1 l1 c1) (.slice a2 l2 c2) n→jN W (.slice a1 l1 c1) (.slice a2 l2 c2) ⟨n.what,n.unit,n.rungs,0,128⟩ from fun W q=>⟨q.size,q.unit,q.rungs,(show I64 0 by unfold I64;decide),(show I64 128 by unfold I64;decide)⟩);clear g1 g2 g3 g4 hlm;obtain⟨w5,hw5⟩:=eX (w4.alloc (.cells #[.string n.what,.slice a1 l1 c1,.slice a2 l2 c2,.int .i64 n.lo,.int .i64 n.hi] 26))
      have kk:Kept w4 w5:=by rw[←hw5];exact ja _ _
      have Vo:=lH (jo w4 (.string n.what) [.slice a1 l1 c1,.slice a2 l2 c2,.int .i64 n.lo,.int .i64 n.hi] 26 w5 (by rw[hw5];exact Kept.refl _));obtain⟨ab,hab⟩:=eX (w4.heap.size)
      rw[hab] at Vo;have U3:=lH hab;have EW5:=lH hw5;clear hw5;go_upto_region 6 with fail
      try rw[EW5.out]
      try rw[hab]
      clear hab;obtain⟨p0,p1,p2,p3,p4⟩:=Vo.out.at5;have f4:=Vo.out.free 4;go_upto_region 7 with fail
      clear y0 y1 y2 y3 y4 p0 p1 p2 p3 p4 f4;obtain⟨w6,hw6⟩:=eX (w5.setCell ⟨ab,4,none⟩ (.int .i64 n.lo))
      have Vo:=lH (show jt ab [.string n.what,.slice a1 l1 c1,.slice a2 l2 c2,.int .i64 n.lo,.int .i64 n.lo] w6 by rw[←hw6];exact Vo.out.set (j:=4) (by simp));have kk:=show Kept w4 w6 by rw[←hw6];exact kk.setCell (p:=⟨ab,4,none⟩) (by show w4.heap.size≤ab;rw[U3.out];exact Nat.le_refl _) _
      rw[hw6];clear hw6 EW5;obtain⟨HL,Va,HT,HE,HK⟩:=lH5 (HL.out.kept kk) (Va.out.kept kk) (HT.out.kept kk) (HE.out.kept kk) (HK.out.trans kk);clear kk;obtain⟨y0,y1,y2,y3,y4⟩:=HL.out.at5;obtain⟨w7,hw7⟩:=eX (w6.alloc (.cells #[.string n.what,.slice a1 l1 c1,.slice a2 l2 c2,.int .i64 n.lo,.int .i64 n.hi] 26))
      have kk:Kept w6 w7:=by rw[←hw7];exact ja _ _
      have Vf:=lH (jo w6 (.string n.what) [.slice a1 l1 c1,.slice a2 l2 c2,.int .i64 n.lo,.int .i64 n.hi] 26 w7 (by rw[hw7];exact Kept.refl _));obtain⟨bb,hbb⟩:=eX (w6.heap.size)
      rw[hbb] at Vf;have Ug:=lH hbb;have EW7:=lH hw7;clear hw7;go_upto_region 8 with fail
      try rw[EW7.out]
      try rw[hbb]
      clear hbb;obtain⟨p0,p1,p2,p3,p4⟩:=Vf.out.at5;have f3:=Vf.out.free 3;have f4:=Vf.out.free 4;go_upto_region 9 with fail
      clear y0 y1 y2 y3 y4 p0 p1 p2 p3 p4 f3 f4;obtain⟨w8,hw8⟩:=eX ((w7.setCell ⟨bb,3,none⟩ (.int .i64 0)).setCell ⟨bb,4,none⟩ (.int .i64 128))
      have Vf:=lH (show jt bb [.string n.what,.slice a1 l1 c1,.slice a2 l2 c2,.int .i64 0,.int .i64 128] w8 by rw[←hw8];exact(Vf.out.set (j:=3) (by simp)).set (j:=4) (by simp));have kk:=show Kept w6 w8 by rw[←hw8];exact(kk.setCell (p:=⟨bb,3,none⟩) (by show w6.heap.size≤bb;rw[Ug.out];exact Nat.le_refl _) _).setCell (p:=⟨bb,4,none⟩) (by show w6.heap.size≤bb;rw[Ug.out];exact Nat.le_refl _) _
      rw[hw8];clear hw8 EW7;obtain⟨HL,Va,HT,HE,Vo,HK⟩:=lH6 (HL.out.kept kk) (Va.out.kept kk) (HT.out.kept kk) (HE.out.kept kk) (Vo.out.kept kk) (HK.out.trans kk);clear kk;obtain⟨o,ho⟩:=eX (atL n t)
      obtain⟨HO,VU,VA,TU⟩:=lH4 ho (show jW ⟨n.what,n.unit,n.rungs,n.lo,n.lo⟩ t=Jm o n.lo n.lo n.unit by rw[YD TQ.out,show atL ⟨n.what,n.unit,n.rungs,n.lo,n.lo⟩ t=o from ho]) (show jW ⟨n.what,n.unit,n.rungs,0,128⟩ t=Jm o 0 128 n.unit by rw[YD Uo.out,show atL ⟨n.what,n.unit,n.rungs,0,128⟩ t=o from ho]) (fun r (h:o=some r)=>(VR.out.2.1 r (XL (ho.trans h))));clear ho;obtain⟨⟨na,va,ea⟩,hwa⟩:∃x,jW ⟨n.what,n.unit,n.rungs,n.lo,n.lo⟩ t=x:=⟨_,rfl⟩
      obtain⟨⟨nb,vb,eb⟩,hwb⟩:∃x,jW ⟨n.what,n.unit,n.rungs,0,128⟩ t=x:=⟨_,rfl⟩
      rw[hwa] at VU;rw[hwb] at VA;have Uh:=lH (fun W (q:jN W (.slice a1 l1 c1) (.slice a2 l2 c2) n) (r:Vec.Reads W tv t)=>J4 ⟨n.what,n.unit,n.rungs,n.lo,n.lo⟩ a1 a2 l1 c1 l2 c2 tv t W (TS.out W q) r);have Ui:=lH (fun W (q:jN W (.slice a1 l1 c1) (.slice a2 l2 c2) n) (r:Vec.Reads W tv t)=>J4 ⟨n.what,n.unit,n.rungs,0,128⟩ a1 a2 l1 c1 l2 c2 tv t W (TT.out W q) r);rw[hwa] at Uh;rw[hwb] at Ui;unfold XT at Uh Ui;dsimp only at Uh Ui;clear hwa hwb;obtain⟨p0,p1,p2,p3,p4⟩:=Vo.out.at5;go_wp2_with fail
      refine(Uh.out _ Va.out HT.out).mono ?_;rintro e w9 ⟨xa,rfl,hra,kk⟩;clear p0 p1 p2 p3 p4;obtain⟨HL,Va,HT,HE,Vo,Vf,HK,Vx⟩:=lH8 (HL.out.kept kk) (Va.out.kept kk) (HT.out.kept kk) (HE.out.kept kk) (Vo.out.kept kk) (Vf.out.kept kk) (HK.out.trans kk) hra;clear kk hra Uh;obtain⟨p0,p1,p2,p3,p4⟩:=Vf.out.at5;go_wp2_with fail
      refine(Ui.out _ Va.out HT.out).mono ?_;rintro e w10 ⟨xb,rfl,hrb,kk⟩;clear p0 p1 p2 p3 p4;obtain⟨HL,Va,HT,HE,Vx,HK,Vn⟩:=lH7 (HL.out.kept kk) (Va.out.kept kk) (HT.out.kept kk) (HE.out.kept kk) (Vx.out.kept kk) (HK.out.trans kk) hrb;clear kk hrb Ui;obtain⟨y0,y1,y2,y3,y4⟩:=HL.out.at5;have VL:=lH (YI n a1 a2 l1 c1 l2 c2 tv t w10 Va.out HT.out);rw[HO.out] at VL;unfold AtR XP at VL;obtain⟨⟨u,c,p⟩,hr⟩:∃r,o.getD (0,0,0)=r:=⟨_,rfl⟩
      rw[hr] at VL;have VK:=lH hr;obtain⟨ok,hok⟩:=eX (o.isSome)
      rw[hok] at VL;have Vp:=lH hok;dsimp only at VL;clear hr hok;go_wp2_with fail
      refine VL.out.mono ?_;rintro e w11 ⟨rfl,kk⟩;clear y0 y1 y2 y3 y4;obtain⟨HL,Va,HT,HE,Vx,Vn,HK⟩:=lH7 (HL.out.kept kk) (Va.out.kept kk) (HT.out.kept kk) (HE.out.kept kk) (Vx.out.kept kk) (Vn.out.kept kk) (HK.out.trans kk);clear kk VL;obtain⟨w12,hw12⟩:=eX (w11.alloc (.cells #[.int .i64 u,.int .i64 c,.int .i64 p] 46))
      have kk:Kept w11 w12:=by rw[←hw12];exact ja _ _
      have Uj:=lH (jo w11 (.int .i64 u) [.int .i64 c,.int .i64 p] 46 w12 (by rw[hw12];exact Kept.refl _));obtain⟨rb,hrb⟩:=eX (w11.heap.size)
      rw[hrb] at Uj;have EW:=lH hw12;have EB:=lH hrb;clear hw12 hrb;obtain⟨HL,Va,HT,HE,Vx,Vn,HK⟩:=lH7 (HL.out.kept kk) (Va.out.kept kk) (HT.out.kept kk) (HE.out.kept kk) (Vx.out.kept kk) (Vn.out.kept kk) (HK.out.trans kk);clear kk;obtain⟨y0,y1,y2,y3,y4⟩:=HL.out.at5;obtain⟨r0,r1,r2⟩:=Uj.out.at3;go_upto_region 12 with fail
      try rw[EW.out]
      try rw[EB.out]
      clear EW EB
      cases o with
      | none =>
       obtain⟨rfl,rfl,rfl⟩:na=n.lo∧va=n.unit∧ea=0:=by have:=VU.out;simpa [Jm] using this
       obtain⟨rfl,rfl,rfl⟩:nb=0∧vb=n.unit∧eb=0:=by have:=VA.out;simpa [Jm] using this
       obtain rfl:ok=false:=Vp.out.symm;have U4:=lH (Vec.jaw Vn.out Va.out.unit (Vec.JK n.unit));go_wp2_with fail
       refine U4.out.mono ?_;rintro e w13 ⟨rfl,kk⟩;have HK:=lH (HK.out.trans kk);clear kk;go_wp2;go_ret;exact⟨rfl,HK.out⟩
      | some r =>
       obtain rfl:(u,c,p)=r:=by have:=VK.out;simpa using this.symm
       obtain rfl:ok=true:=Vp.out.symm;have hrg:=XB (TU.out _ rfl);dsimp only at hrg;unfold Jm at VU VA;dsimp only at VU VA;obtain⟨⟨ce,me⟩,hce⟩:∃x,Vec.jy Vec.je p n.unit=x:=⟨_,rfl⟩
       rw[hce] at VU VA;have hcode:=qt Th.out TR.out hrg.2.2.1;rw[hce] at hcode;dsimp only at VU VA hcode;have TV:=lH (Vec.jau (n:=p) Va.out.unit (by omega) (by omega) hce);clear hce;rcases hcode with rfl | rfl
       · obtain⟨rfl,rfl,rfl⟩:na=n.lo∧va=me∧ea=0:=by
          have:=VU.out;rw[if_neg (by decide)] at this;have h2:=UW.out;simp only[Prod.mk.injEq] at this;obtain⟨q1,q2,q3⟩:=this;refine⟨?_,q2,q3⟩;rw[q1];unfold JN;omega
         obtain⟨rfl,rfl,rfl⟩:nb=c∧vb=va∧eb=0:=by
          have:=VA.out;rw[if_neg (by decide)] at this;simp only[Prod.mk.injEq] at this;obtain⟨q1,q2,q3⟩:=this;refine⟨?_,q2,q3⟩;rw[q1];unfold JN;omega
         clear hrg;go_wp2_with fail
         refine TV.out.mono ?_;rintro e w13 ⟨xp,rfl,hrp,kk⟩;obtain⟨Vn,Uj,HK⟩:=lH3 (Vn.out.kept kk) (Uj.out.kept kk) (HK.out.trans kk);have U4:=lH (Vec.jaw Vn.out hrp (Vec.JK _));clear kk hrp y0 y1 y2 y3 y4 r0 r1 r2;obtain⟨r0,r1,r2⟩:=Uj.out.at3;go_wp2_with fail
         refine U4.out.mono ?_;rintro e w14 ⟨rfl,kk⟩;have HK:=lH (HK.out.trans kk);clear kk;go_wp2;go_ret;exact⟨rfl,HK.out⟩
       · obtain⟨rfl,rfl,rfl⟩:na=0∧va=[]∧ea=5:=by
          have:=VU.out;rw[if_pos (by decide)] at this;simpa using this
         obtain⟨rfl,rfl,rfl⟩:nb=0∧vb=[]∧eb=5:=by
          have:=VA.out;rw[if_pos (by decide)] at this;simpa using this
         clear hrg;go_wp2;go_ret;exact⟨rfl,HK.out⟩
    · have z2':(e2 != 0)=true:=by simpa using z2
      clear z2;go_wp2;go_ret;exact⟨rfl,HK.out⟩
  · have z1':(e1 != 0)=true:=by simpa using z1
    clear z1;go_wp2;go_ret;exact⟨rfl,HK.out⟩
end Go.Proofs.YtnfojaidmnccoaaGreatDoor
