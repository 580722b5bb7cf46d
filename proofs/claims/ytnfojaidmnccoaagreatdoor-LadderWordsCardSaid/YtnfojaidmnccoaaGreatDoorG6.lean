/- The law. -/
import Derived.Test.YtnfojaidmnccoaaGreatDoorG3
import Derived.Test.YtnfojaidmnccoaaGreatDoorG4
import Derived.Test.YtnfojaidmnccoaaGreatDoorG5
set_option linter.unusedVariables false
set_option maxRecDepth 100000
set_option maxHeartbeats 25600000
namespace Go.Proofs.YtnfojaidmnccoaaGreatDoor
open Go.RowKit
def ju (s:List UInt8):List (List UInt8):=(ja 32 s).drop 3
def jS (s:List UInt8):Lad:=⟨bytes (w3L s 0),(Vec.jH (w3L s 1)).2,(ju s).map jq,(Vec.valL (jx s 0):Int),(Vec.valL (jx s 1):Int)⟩
theorem ZY (s:List UInt8):jF (jS s)=jF (zD s)∧(jF (jS s)=0→zD s=jS s):=by
 by_cases h:(ju s).length≤8
 · have e:zD s=jS s:=by
    unfold zD jS;rw[show (((ja 32 s).drop 3).map jq).take 9=(ju s).map jq from List.take_of_length_le (by show ((ju s).map jq).length≤9;rw[List.length_map];omega)]
   exact⟨by rw[e],fun _=>e⟩
 · have h1:jC ((ju s).map jq)=4:=by unfold jC;rw[if_pos (by rw[List.length_map];omega)]
   have h2:jC (((ju s).map jq).take 9)=4:=by unfold jC;rw[if_pos (by rw[List.length_take,List.length_map];omega)]
   have e:jF (jS s)=jF (zD s):=by
    unfold jF jS zD;dsimp only;rw[h1,show (((ja 32 s).drop 3).map jq).take 9=((ju s).map jq).take 9 from rfl,h2]
   refine⟨e,fun g=>?_⟩;have:=(Zq g).2.2.2;have g4:jC ((ju s).map jq)=0:=this;rw[h1] at g4;cases g4
theorem ZA {s:List UInt8} (h:jR s=false):jd s=(2,Lad.zero):=by unfold jd;rw[if_pos h]
theorem qk {s:List UInt8} (h1:jR s=true) (h:zm s=false):jd s=(5,Lad.zero):=by unfold jd;rw[if_neg (by rw[h1];decide),if_pos h]
theorem jap {s:List UInt8} {c:Int} (h1:jR s=true) (h2:zm s=true) (h:(Vec.jH (w3L s 1)).1=c) (hc:c≠0):jd s=(c,Lad.zero):=by
 unfold jd;rw[if_neg (by rw[h1];decide),if_neg (by rw[h2];decide),if_pos (by rw[h];exact hc),h]
theorem jaq {s:List UInt8} {c:Int} (h1:jR s=true) (h2:zm s=true) (h3:(Vec.jH (w3L s 1)).1=0) (h:jF (jS s)=c) (hc:c≠0):jd s=(c,Lad.zero):=by
 rw[(ZY s).1] at h;unfold jd;rw[if_neg (by rw[h1];decide),if_neg (by rw[h2];decide),if_neg (by rw[h3];decide),if_pos (by rw[h];exact hc),h]
theorem qu {s:List UInt8} (h1:jR s=true) (h2:zm s=true) (h3:(Vec.jH (w3L s 1)).1=0) (h:jF (jS s)=0):jd s=(0,jS s):=by
 have g:=(ZY s).2 h;rw[(ZY s).1] at h;unfold jd;rw[if_neg (by rw[h1];decide),if_neg (by rw[h2];decide),if_neg (by rw[h3];decide),if_neg (by rw[h];decide),g]
def jN (p:List UInt8):Int×Int×Int:=((Vec.jU (jW p 0)).1,(Vec.jU (jW p 1)).1,(Vec.jU (jW p 2)).1)
theorem Xe (p:List UInt8):jh.fine (jN p):=⟨zJ _,zJ _,zJ _⟩
theorem JE {p:List UInt8} (h:inQ p=true):(Vec.jU p).1=(Vec.valL p:Int):=by
 unfold inQ at h;unfold Vec.jU;rw[if_pos (of_decide_eq_true h)]
theorem qE {p:List UInt8} (h:jV p=true):jN p=jq p:=by
 unfold jV at h;simp only[Bool.and_eq_true] at h;unfold jN jq;rw[JE h.1,JE h.2.1,JE h.2.2]
theorem jaX {p:List UInt8} (h:jA 58 3 p=true):ja 58 p=[jW p 0,jW p 1,jW p 2]:=by
 have hl:=(Jb h).1;unfold jW
 match hp:ja 58 p,hl with
 | [a,b,c],_=>rfl
theorem jbe {p:List UInt8} (h:jA 47 2 p=true):ja 47 p=[(ja 47 p).getD 0 [],(ja 47 p).getD 1 []]:=by
 have hl:=(Jb h).1
 match hp:ja 47 p,hl with
 | [a,b],_=>rfl
theorem jbo {p:List UInt8} (h:jA 58 3 p=true):(ja 58 p).all inQ=jV p∧vsL 58 p=[(jN p).1,(jN p).2.1,(jN p).2.2]:=by
 have e:=jaX h;constructor
 · rw[e];unfold jV;simp
 · unfold vsL;rw[e];rfl
theorem jb9 {s:List UInt8} (h:jA 47 2 (w3L s 2)=true):(ja 47 (w3L s 2)).all inQ=(inQ (jx s 0)&&inQ (jx s 1))∧vsL 47 (w3L s 2)=[(Vec.jU (jx s 0)).1,(Vec.jU (jx s 1)).1]:=by
 have e:=jbe h;constructor
 · rw[e];unfold jx;simp
 · unfold vsL;rw[e];rfl
theorem YF {w:World} {B:Nat} {v:Value} {l:List Int} (ho:Own Jf 2 w B v l) {k:Nat} (hl:l.length=k) (hk:0<k):∃g cap,v=.slice (some ⟨g,0,none⟩) k cap∧B≤g∧∀(i:Nat) x,l[i]?=some x→w.cell? ⟨g,i,none⟩=some (.int .i64 x):=by
 obtain⟨a',cap',e',-,-,h3⟩:=ho.at_;rcases ho.1.2 with ⟨_,h0⟩ | ⟨g,cap,cur,e2,-⟩
 · rw[hl] at h0;omega
 · rw[e2] at e';injection e' with e1 e3 e4;subst e1;refine⟨g,cap,by rw[e2,hl],(ho.1.lt g (by rw[e2];rfl)).1,fun i x hx=>?_⟩;have hi:i<l.length:=(List.getElem?_eq_some_iff.1 hx).1;obtain⟨z,hz,_,h⟩:=h3.int hi;rw[hx] at hz
   cases hz
   rw[Nat.zero_add] at h;exact h
theorem Jw (w:World):j7 w (.slice none 0 0) (.slice none 0 0) Lad.zero:=⟨by decide,Vec.Reads.nil _,Reads.nil _,(by unfold I64 Lad.zero;decide),(by unfold I64 Lad.zero;decide)⟩
def qi (r:Int×Lad) (w:World) (e:Ending) (w':World):Prop:=∃v,e=.returned (.tuple #[v,.int .i64 r.1])∧JN w' v r.2∧Kept w w'
theorem Xu (s:List UInt8) (w:World) (hs:s.length≤900000):Calls Tryz.prog 26 #[.string (bytes s)] w (qi (jd s) w):=by
 obtain⟨W1,hW1⟩:=eX (w.alloc (.cells #[.string ⟨#[]⟩,.slice none 0 0,.slice none 0 0,.int .i64 0,.int .i64 0] 35))
 have k1:Kept w W1:=by rw[←hW1];exact jb _ _
 obtain⟨Q,hQ⟩:=eX (w.heap.size)
 obtain⟨HZ,HQ,K,Vd,Rd⟩:=lH5 (show jj Q [.string ⟨#[]⟩,.slice none 0 0,.slice none 0 0,.int .i64 0,.int .i64 0] W1 by rw[←hQ];exact js w (.string ⟨#[]⟩) [.slice none 0 0,.slice none 0 0,.int .i64 0,.int .i64 0] 35 W1 (by rw[hW1];exact Kept.refl _)) hQ k1 (fun W=>Ym 32 s W (by omega) rfl) (fun p (hp:p ∈ ja 32 s)=>Nat.le_trans (jz 32 s p hp) hs);obtain⟨m,hm⟩:=eX ((ja 32 s).length)
 have HM:=lH hm;have hmb:m≤900001:=by have:=J0 32 s;omega
 clear hs hm k1;obtain⟨i0,hi,hz0,hz1,hz2⟩:=info_parts YE;go_enter Tryz.func26,Tryz.ntmps26;go_wp2_with fail
 try rw[hW1]
 try rw[hQ]
 clear hW1 hQ;refine(Vd.out _).mono ?_;rintro e w1 ⟨ov,rfl,hov,kk⟩;have K:=lH (K.out.trans kk);have HZ:=lH (HZ.out.kept kk);obtain⟨a,cap,rfl,hcl,hcm,hrow⟩:=hov.at_;have hln:(splitB 32 s).length=m:=by unfold splitB;rw[List.length_map,HM.out]
 rw[hln] at hrow;rw[hln];have HR:=lH hrow;clear hov kk hcl hcm hrow hln Vd;by_cases h3:m<3
 case pos =>
  have h3i:(m:Int)<3:=by omega
  have HF:=lH (ZA (show jR s=false by unfold jR;rw[HM.out,decide_eq_false (by omega),Bool.false_and]));obtain⟨z0,z1,z2,z3,z4⟩:=HZ.out.at5;have e0:=HZ.out.free 0;have e1:=HZ.out.free 1;have e2:=HZ.out.free 2;have e3:=HZ.out.free 3;have e4:=HZ.out.free 4;have PP:=lH (zl (vs:=[.string ⟨#[]⟩,.slice none 0 0,.slice none 0 0,.int .i64 0,.int .i64 0]) HZ.out rfl);obtain⟨WE,hWE⟩:=eX (w1.setCells Q 0 [.string ⟨#[]⟩,.slice none 0 0,.slice none 0 0,.int .i64 0,.int .i64 0])
  have hWE2:(((((w1.setCell ⟨Q,0,none⟩ (.string ⟨#[]⟩)).setCell ⟨Q,1,none⟩ (.slice none 0 0)).setCell ⟨Q,2,none⟩ (.slice none 0 0)).setCell ⟨Q,3,none⟩ (.int .i64 0)).setCell ⟨Q,4,none⟩ (.int .i64 0))=WE:=hWE;rw[hWE] at PP;have EWE:=lH hWE2;clear hWE hWE2;go_wp2;try rw[EWE.out]
  have PC:=PP.out.cells;refine bodyPost_ret (by simp[results,Tryz.results26,go_sem,PC.at_ 0 _ rfl,PC.at_ 1 _ rfl,PC.at_ 2 _ rfl,PC.at_ 3 _ rfl,PC.at_ 4 _ rfl];try rfl) rfl ?_;exact⟨.agg #[.string ⟨#[]⟩,.slice none 0 0,.slice none 0 0,.int .i64 0,.int .i64 0],by rw[HF.out],by rw[HF.out];exact⟨_,_,rfl,Jw _⟩,PP.out.below _ _ (by rw[HQ.out];exact Nat.le_refl _) K.out⟩
 have h3i:¬(m:Int)<3:=by omega
 obtain⟨b,off,rfl⟩:∃b off,a=some ⟨b,off,none⟩:=by rcases HR.out.form with h | h;omega;exact h
 have HW:=lH (show ∀(i:Nat) (p:List UInt8),(ja 32 s)[i]?=some p→p.length≤900000∧∀W,Kept w1 W→W.cell? ⟨b,off+i,none⟩=some (.string (bytes p)) from fun i p hp=>by
  have hi:i<m:=by rw[←HM.out];exact(List.getElem?_eq_some_iff.1 hp).1
  obtain⟨z,hz,-,-,-,hc⟩:=HR.out.str hi;have h9:(splitB 32 s)[i]?=some (bytes p):=by unfold splitB;rw[List.getElem?_map,hp];rfl
  rw[h9] at hz
  cases hz
  exact⟨Rd.out p (List.mem_of_getElem? hp),fun W k=>cell_later k hc⟩)
 obtain⟨TH,TI,Rf⟩:=lH3 (HW.out 0 _ (Jo (by rw[HM.out];omega) 0 (by decide))) (HW.out 1 _ (Jo (by rw[HM.out];omega) 1 (by decide))) (HW.out 2 _ (Jo (by rw[HM.out];omega) 2 (by decide)));have c0:=TH.out.2 _ (Kept.refl _);have c1:=TI.out.2 _ (Kept.refl _);have c2:=Rf.out.2 _ (Kept.refl _);rw[Nat.add_zero] at c0;have VK:=lH (fun W=>ZF 47 2 (w3L s 2) W (by have:=Rf.out.1;omega) rfl (by decide));have m0:(0:Int)<(m:Int):=by omega
 have m1:(1:Int)<(m:Int):=by omega
 have m2:(2:Int)<(m:Int):=by omega
 go_wp2_with fail
 refine(VK.out _).mono ?_;rintro e w2 ⟨hbad,hgood,kk⟩;obtain⟨K,HZ,J⟩:=lH3 (K.out.trans kk) (HZ.out.kept kk) kk;clear kk VK c0 c1 c2;obtain⟨dl,hdl⟩:=eX (jA 47 2 (w3L s 2))
 have TJ:=lH hdl;rw[hdl] at hbad hgood;clear hdl
 cases dl with
 | false =>
  obtain rfl:=hbad rfl;clear hbad hgood;have HF:=lH (ZA (show jR s=false by unfold jR;rw[TJ.out,Bool.false_and,Bool.and_false]));obtain⟨z0,z1,z2,z3,z4⟩:=HZ.out.at5;have e0:=HZ.out.free 0;have e1:=HZ.out.free 1;have e2:=HZ.out.free 2;have e3:=HZ.out.free 3;have e4:=HZ.out.free 4;have PP:=lH (zl (vs:=[.string ⟨#[]⟩,.slice none 0 0,.slice none 0 0,.int .i64 0,.int .i64 0]) HZ.out rfl);obtain⟨WE,hWE⟩:=eX (w2.setCells Q 0 [.string ⟨#[]⟩,.slice none 0 0,.slice none 0 0,.int .i64 0,.int .i64 0])
  have hWE2:(((((w2.setCell ⟨Q,0,none⟩ (.string ⟨#[]⟩)).setCell ⟨Q,1,none⟩ (.slice none 0 0)).setCell ⟨Q,2,none⟩ (.slice none 0 0)).setCell ⟨Q,3,none⟩ (.int .i64 0)).setCell ⟨Q,4,none⟩ (.int .i64 0))=WE:=hWE;rw[hWE] at PP;have EWE:=lH hWE2;clear hWE hWE2;go_wp2;try rw[EWE.out]
  have PC:=PP.out.cells;refine bodyPost_ret (by simp[results,Tryz.results26,go_sem,PC.at_ 0 _ rfl,PC.at_ 1 _ rfl,PC.at_ 2 _ rfl,PC.at_ 3 _ rfl,PC.at_ 4 _ rfl];try rfl) rfl ?_;exact⟨.agg #[.string ⟨#[]⟩,.slice none 0 0,.slice none 0 0,.int .i64 0,.int .i64 0],by rw[HF.out],by rw[HF.out];exact⟨_,_,rfl,Jw _⟩,PP.out.below _ _ (by rw[HQ.out];exact Nat.le_refl _) K.out⟩
 | true =>
  obtain⟨nv,rfl,hnv⟩:=hgood rfl;clear hbad hgood;obtain⟨la1,la2⟩:=jb9 TJ.out;rw[la2] at hnv;rw[la1];obtain⟨g6,cap6,rfl,-,h6⟩:=YF hnv (k:=2) rfl (by decide);have U9:=lH (show ∀W,Kept w2 W→W.cell? ⟨g6,0,none⟩=some (.int .i64 (Vec.jU (jx s 0)).1)∧W.cell? ⟨g6,1,none⟩=some (.int .i64 (Vec.jU (jx s 1)).1) from fun W k=>⟨cell_later k (h6 0 _ rfl),cell_later k (h6 1 _ rfl)⟩);clear hnv h6 la1 la2;obtain⟨lq,hlq⟩:=eX ((inQ (jx s 0)&&inQ (jx s 1)))
  have U2:=lH hlq;rw[hlq];clear hlq;have c0:=TH.out.2 _ J.out;rw[Nat.add_zero] at c0;obtain⟨lbo,hlbo⟩:∃z:Int,(if lq=true then 0 else 5)=z:=⟨_,rfl⟩
  have TK:=lH hlbo;have hl2:¬lbo=2:=by cases lq<;>simp at hlbo<;>omega
  rw[hlbo];clear hlbo;go_upto_if 32 with fail
  go_cut [5] from 27 to 33 (fun s5 wx=>s5=.int .i64 lbo∧wx=w2)
  case first =>
   by_cases hl5:lbo=0
   · subst hl5;go_wp2;go_meet
     case rel=>exact⟨rfl,rfl⟩
   · have hl6:(lbo != 0)=true:=by simpa using hl5
     go_wp2;go_meet
     case rel=>exact⟨rfl,rfl⟩
  case rest =>
   obtain⟨rfl,hwc⟩:=hcut;subst hwc;obtain⟨wK,hwK⟩:∃W,W=wc:=⟨_,rfl⟩
   subst hwK;obtain⟨w3,hw3⟩:=eX (wK.alloc (.cells #[.string (bytes (w3L s 0)),.slice none 0 0,.slice none 0 0,.int .i64 0,.int .i64 0] 35))
   have kk:Kept wK w3:=by rw[←hw3];exact jb _ _
   obtain⟨lb,hlb⟩:=eX (wK.heap.size)
   obtain⟨QA,Uy,VF,UR,K3,EW3⟩:=lH6 (show jj lb [.string (bytes (w3L s 0)),.slice none 0 0,.slice none 0 0,.int .i64 0,.int .i64 0] w3 by rw[←hlb];exact js wK (.string (bytes (w3L s 0))) [.slice none 0 0,.slice none 0 0,.int .i64 0,.int .i64 0] 35 w3 (by rw[hw3];exact Kept.refl _)) (show w3.heap.size=lb+1 by rw[←hw3,World.size_alloc,hlb]) hlb (show Q<lb by have:=HZ.out.lt;omega) kk hw3;clear kk hw3 hlb;go_upto_region 11 with fail
   try rw[EW3.out]
   try rw[VF.out]
   clear c0;go_wp2;go_loopw [5,9] (fun fv iv wr=>∃(j:Nat) (av:Option Addr) (cv:Nat),j+3≤m∧iv=.int .i64 ((j+3:Nat):Int)∧fv=.int .i64 (if (lq&&((ju s).take j).all jV)=true then 0 else 5)∧jj lb [.string (bytes (w3L s 0)),.slice none 0 0,.slice av j cv,.int .i64 0,.int .i64 0] wr∧Own jh 49 wr (lb+1) (.slice av j cv) (((ju s).take j).map jN)∧(∀p ∈ (ju s).take j,jA 58 3 p=true)∧Kept wK wr∧lb+1≤wr.heap.size) (fun _ iv _=>m-(intOf iv).toNat)
   case atStart=>exact⟨0,none,0,by omega,rfl,by rw[←TK.out];simp,QA.out,Own.nil _ _ _,by simp,K3.out,Nat.le_of_eq Uy.out.symm⟩
   case round =>
    obtain⟨j,av,cv,hj3,rfl,rfl,hqa,how,hdd,hj,hbz⟩:=hrel;obtain⟨QA,OW,UP,J2,Vb⟩:=lH5 hqa how hdd hj hbz;clear hqa how hdd hj hbz;have K9:=lH (K.out.trans J2.out);have HZ:=lH (HZ.out.kept J2.out);obtain⟨ob,hob⟩:=eX ((lq&&((ju s).take j).all jV))
    have VL:=lH hob;rw[hob];clear hob;obtain⟨fo,hfo⟩:∃z:Int,(if ob=true then 0 else 5)=z:=⟨_,rfl⟩
    have UK:=lH hfo;rw[hfo];clear hfo;have VJ:=lH (show (((ju s).take j).map jN).length=j by unfold ju;rw[List.length_map,List.length_take,List.length_drop,HM.out];omega);obtain⟨i,hi9⟩:=eX (j+3)
    have Vx:=lH hi9;rw[hi9];rw[hi9] at hj3;clear hi9;by_cases hlt:i<m
    · skip;obtain⟨p,hp⟩:∃p,(ja 32 s)[i]?=some p:=⟨_,List.getElem?_eq_getElem (by rw[HM.out];exact hlt)⟩
      have hpr:(ju s)[j]?=some p:=by unfold ju;rw[List.getElem?_drop,show 3+j=i by have:=Vx.out;omega];exact hp
      have Ta:=lH hpr;have Rg:=lH (HW.out i p hp);have ci:=Rg.out.2 _ (J.out.trans J2.out);have hki:(i:Int)<(m:Int):=by omega
      have Rh:=lH (fun W=>ZF 58 3 p W (by have:=Rg.out.1;omega) rfl (by decide));clear hp hpr;have Vl:=lH (show ∀r,(Value.slice av j cv).ownBlock=some r→lb+1≤r∧r<wr.heap.size from fun r hr=>OW.out.1.lt r hr);have Tb:=lH (show lb<wr.heap.size from QA.out.lt);go_wp2_with fail
      refine(Rh.out _).mono ?_;rintro e w5 ⟨hbad,hgood,kk⟩;clear ci Rh;obtain⟨K,HZ,J5,QA,OW,Vb⟩:=lH6 (K9.out.trans kk) (HZ.out.kept kk) (J2.out.trans kk) (QA.out.kept kk) (OW.out.kept kk) (Nat.le_trans Vb.out kk.size);clear kk;obtain⟨dr,hdr⟩:=eX (jA 58 3 p)
      have V6:=lH hdr;rw[hdr] at hbad hgood;clear hdr
      cases dr with
      | false =>
       obtain rfl:=hbad rfl;clear hbad hgood;have HF:=lH (ZA (show jR s=false by
        unfold jR;rw[show j3 ((ja 32 s).drop 3)=false from List.all_eq_false.2 ⟨p,List.mem_of_getElem? Ta.out,by rw[V6.out];decide⟩,Bool.and_false,Bool.and_false]))
       obtain⟨z0,z1,z2,z3,z4⟩:=HZ.out.at5;have e0:=HZ.out.free 0;have e1:=HZ.out.free 1;have e2:=HZ.out.free 2;have e3:=HZ.out.free 3;have e4:=HZ.out.free 4;have PP:=lH (zl (vs:=[.string ⟨#[]⟩,.slice none 0 0,.slice none 0 0,.int .i64 0,.int .i64 0]) HZ.out rfl);obtain⟨WE,hWE⟩:=eX (w5.setCells Q 0 [.string ⟨#[]⟩,.slice none 0 0,.slice none 0 0,.int .i64 0,.int .i64 0])
       have hWE2:(((((w5.setCell ⟨Q,0,none⟩ (.string ⟨#[]⟩)).setCell ⟨Q,1,none⟩ (.slice none 0 0)).setCell ⟨Q,2,none⟩ (.slice none 0 0)).setCell ⟨Q,3,none⟩ (.int .i64 0)).setCell ⟨Q,4,none⟩ (.int .i64 0))=WE:=hWE;rw[hWE] at PP;have EWE:=lH hWE2;clear hWE hWE2;go_wp2;try rw[EWE.out]
       have PC:=PP.out.cells;refine bodyPost_ret (by simp[results,Tryz.results26,go_sem,PC.at_ 0 _ rfl,PC.at_ 1 _ rfl,PC.at_ 2 _ rfl,PC.at_ 3 _ rfl,PC.at_ 4 _ rfl];try rfl) rfl ?_;exact⟨.agg #[.string ⟨#[]⟩,.slice none 0 0,.slice none 0 0,.int .i64 0,.int .i64 0],by rw[HF.out],by rw[HF.out];exact⟨_,_,rfl,Jw _⟩,PP.out.below _ _ (by rw[HQ.out];exact Nat.le_refl _) K.out⟩
      | true =>
       obtain⟨rv,rfl,hrv⟩:=hgood rfl;clear hbad hgood;obtain⟨ra1,ra2⟩:=jbo V6.out;rw[ra2] at hrv;rw[ra1];obtain⟨gr,cr,rfl,hgr,hr6⟩:=YF hrv (k:=3) rfl (by decide);obtain⟨rq,hrq⟩:=eX (jV p)
       have R0:=lH hrq;rw[hrq];obtain⟨fr,hfr⟩:∃z:Int,(if rq=true then 0 else 5)=z:=⟨_,rfl⟩
       rw[hfr];obtain⟨⟨xu,xc,xp⟩,hx⟩:∃z,jN p=z:=⟨_,rfl⟩
       have HX:=lH hx;have Vu:=lH (Xe p);rw[hx] at hr6 Vu;dsimp only at hr6 Vu;have Ri:=lH (show ∀W,Kept w5 W→W.cell? ⟨gr,0,none⟩=some (.int .i64 xu)∧W.cell? ⟨gr,1,none⟩=some (.int .i64 xc)∧W.cell? ⟨gr,2,none⟩=some (.int .i64 xp) from fun W k=>⟨cell_later k (hr6 0 _ rfl),cell_later k (hr6 1 _ rfl),cell_later k (hr6 2 _ rfl)⟩);have VQ:=lH hgr;clear hrv hr6 ra1 ra2 hrq hx hgr;obtain⟨V5,Ux,UC⟩:=lH3 (show ((ju s).take (j+1)).map jN=((ju s).take j).map jN++[(xu,xc,xp)] by rw[List.take_add_one,Ta.out,List.map_append];simp[HX.out]) (show (lq&&((ju s).take (j+1)).all jV)=(ob&&rq) by rw[Xd jV Ta.out,R0.out,←Bool.and_assoc,VL.out]) (JD UP.out Ta.out V6.out);have hfr2:¬fr=2:=by cases rq<;>simp at hfr<;>omega
       obtain⟨fn,hfn9⟩:∃z:Int,(if (ob&&rq)=true then 0 else 5)=z:=⟨_,rfl⟩
       have V9:=lH hfn9;have hfn:fn=if fr=0 then fo else fr:=by rw[←hfn9,←UK.out];cases ob<;>cases rq<;>simp at hfr<;>subst hfr<;>rfl
       have Rj:=lH hfn;clear hfn hfr hfn9;by_cases hf5:fr=0
       · have US:=lH (Rj.out.trans (if_pos hf5));subst hf5;go_wp2_with fail
         obtain⟨wd,hwd⟩:=eX (w5.drew)
         have kd:Kept w5 wd:=by rw[←hwd];exact Kept.drew w5
         obtain⟨Va,J5,QA,OW,Vb⟩:=lH5 (Ri.out _ kd) (J5.out.trans kd) (QA.out.kept kd) (OW.out.kept kd) (Nat.le_trans Vb.out kd.size);have VR:=lH (show gr<wd.heap.size from World.block_lt_of_cell? _ _ Va.out.1);refine wp_region_held_drew (S:=fun W=>W.cell? ⟨gr,0,none⟩=some (.int .i64 xu)∧W.cell? ⟨gr,1,none⟩=some (.int .i64 xc)∧W.cell? ⟨gr,2,none⟩=some (.int .i64 xp)) (by kernel_rfl) (by rw[hwd];exact Va.out) (fun hHeld=>?_);rw[hwd] at hHeld;try rw[hwd]
         clear hwd kd;refine tR 0 rfl (by kernel_rfl) (fun _ _ _=>id) (Or.inl ⟨by rfl,by rintro W ⟨s0,s1,s2⟩;go_simp<;>with_reducible rfl⟩) ‹_› ?_;try simp only[nA,nB,nC,nD,nE]
         refine tR 2 rfl (by kernel_rfl) (fun _ _ _=>id) (Or.inl ⟨by rfl,by rintro W ⟨s0,s1,s2⟩;go_simp<;>with_reducible rfl⟩) ‹_› ?_;try simp only[nA,nB,nC,nD,nE]
         refine tR 3 rfl (by kernel_rfl) (fun _ _ _=>id) (Or.inl ⟨by rfl,by rintro W ⟨s0,s1,s2⟩;go_simp<;>with_reducible rfl⟩) ‹_› ?_;try simp only[nA,nB,nC,nD,nE]
         refine tR 4 rfl (by kernel_rfl) (fun _ _ _=>id) (Or.inl ⟨by rfl,by rintro W ⟨s0,s1,s2⟩;go_simp<;>with_reducible rfl⟩) ‹_› ?_;try simp only[nA,nB,nC,nD,nE]
         refine tR 5 rfl (by kernel_rfl) (fun _ _ _=>id) (Or.inl ⟨by rfl,by rintro W ⟨s0,s1,s2⟩;go_simp<;>with_reducible rfl⟩) ‹_› ?_;try simp only[nA,nB,nC,nD,nE]
         refine tR 6 rfl (by kernel_rfl) (fun _ _ _=>id) (Or.inl ⟨by rfl,by rintro W ⟨s0,s1,s2⟩;go_simp<;>with_reducible rfl⟩) ‹_› ?_;try simp only[nA,nB,nC,nD,nE]
         refine tR 7 rfl (by kernel_rfl) (fun _ _ _=>id) (Or.inl ⟨by rfl,by rintro W ⟨s0,s1,s2⟩;go_simp<;>with_reducible rfl⟩) ‹_› ?_;try simp only[nA,nB,nC,nD,nE]
         refine tR 8 rfl (by kernel_rfl) (fun _ _ _=>id) (Or.inl ⟨by rfl,by rintro W ⟨s0,s1,s2⟩;go_simp<;>with_reducible rfl⟩) ‹_› ?_;try simp only[nA,nB,nC,nD,nE]
         refine tR 9 rfl (by kernel_rfl) (fun _ _ _=>id) (Or.inl ⟨by rfl,by rintro W ⟨s0,s1,s2⟩;go_simp<;>with_reducible rfl⟩) ‹_› ?_;try simp only[nA,nB,nC,nD,nE]
         refine tR 10 rfl (by kernel_rfl) (fun _ _ _=>id) (Or.inl ⟨by rfl,by rintro W ⟨s0,s1,s2⟩;go_simp<;>with_reducible rfl⟩) ‹_› ?_;try simp only[nA,nB,nC,nD,nE]
         refine tR 11 rfl (by kernel_rfl) (fun _ _ _=>id) (Or.inl ⟨by rfl,by rintro W ⟨s0,s1,s2⟩;go_simp<;>with_reducible rfl⟩) ‹_› ?_;try simp only[nA,nB,nC,nD,nE]
         refine wpAnyH_ready  (rs:=[1,12]) (by kernel_rfl) (by simp) (AllReadyH.cons  (by rw[List.getElem?_toArray];exact rfl) (fun K9 Ky=>?_) (AllReadyH.cons  (by rw[List.getElem?_toArray];exact rfl) (fun K9 Ky=>?_) AllReadyH.nil))
         · skip;obtain⟨z0,z1,z2,z3,z4⟩:=QA.out.at5;go_simp;clear z0 z1 z2 z3 z4;refine Ky.out _ _ (Va.out) (fun _=>?_);clear Ky K9;try simp only[nA,nB,nC,nD,nE]
           refine rd1 12 fun K9 Ky=>?_;go_simp;obtain⟨g0,hg0⟩:=eX (wd.heap.size)
           obtain⟨vv2,hnw⟩:=eX (wd.alloc (.cells #[.int .i64 xu,.int .i64 xc,.int .i64 xp] 49))
           have kk:Kept wd vv2:=by rw[←hnw];exact jb _ _
           have HC:=lH (show vv2.heap[g0]?=some (.cells #[.int .i64 xu,.int .i64 xc,.int .i64 xp] 49) by rw[←hnw,←hg0];exact World.alloc_heap_new wd _);try rw[hnw]
           try rw[hg0]
           clear hnw hg0;obtain⟨Va,VR,J5,QA,OW,Vb⟩:=lH6 (show vv2.cell? ⟨gr,0,none⟩=some (.int .i64 xu)∧vv2.cell? ⟨gr,1,none⟩=some (.int .i64 xc)∧vv2.cell? ⟨gr,2,none⟩=some (.int .i64 xp) from⟨cell_later kk Va.out.1,cell_later kk Va.out.2.1,cell_later kk Va.out.2.2⟩) (Nat.lt_of_lt_of_le VR.out kk.size) (J5.out.trans kk) (QA.out.kept kk) (OW.out.kept kk) (Nat.le_trans Vb.out kk.size);clear kk;refine Ky.out _ _ (Va.out) (fun _=>?_);clear Ky K9;try simp only[nA,nB,nC,nD,nE]
           refine rd1 13 fun K9 Ky=>?_;refine step_append_lies _ (by rfl) _ _ _ (by rfl) (lb+1) 49 i0 _ 3 24 Tryz.underlying33 hi hz0 hz1 hz2 rfl (by decide) (.slice av j cv) j (jg jh (((ju s).take j).map jN)) (by rfl) (by have:=OW.out.1;rw[VJ.out] at this;exact this) ⟨g0,0,none⟩ 1 1 [.int .i64 xu,.int .i64 xc,.int .i64 xp] (by rfl) (by rfl) (World.news_of_block (cs:=#[.int .i64 xu,.int .i64 xc,.int .i64 xp]) (t:=49) (fr:=(0,0)) HC.out) (za jh [(xu,xc,xp)]) (by decide) (by have:=Vx.out;unfold maxLen;omega) (by have:=Vx.out;omega) Vb.out _ rfl ?_;intro gg cap1 vv3 hown1 hgrow hat hlt1;have hgb:vv3.heap[gr]?=vv2.heap[gr]?:=hgrow.block gr VR.out (fun e=>by have:=(Vl.out gr e.symm).2;have:=VQ.out;omega);obtain⟨Va,QA,J5,Vb,OW⟩:=lH5 (show vv3.cell? ⟨gr,0,none⟩=some (.int .i64 xu)∧vv3.cell? ⟨gr,1,none⟩=some (.int .i64 xc)∧vv3.cell? ⟨gr,2,none⟩=some (.int .i64 xp) from⟨(World.cell?_of_block (a:=⟨gr,0,none⟩) hgb).trans Va.out.1,(World.cell?_of_block (a:=⟨gr,1,none⟩) hgb).trans Va.out.2.1,(World.cell?_of_block (a:=⟨gr,2,none⟩) hgb).trans Va.out.2.2⟩) (QA.out.block (hgrow.block lb QA.out.lt (fun e=>by have:=(Vl.out lb e.symm).1;omega))) (show Kept wK vv3 from(show Below wK.heap.size wK vv2 from J5.out).grown hgrow J5.out.size (fun r hr=>by have:=(Vl.out r hr).1;have:=VF.out;omega)) (Nat.le_trans Vb.out hgrow.size) (show Own jh 49 vv3 (lb+1) (.slice (some ⟨gg,0,none⟩) (j+1) cap1) (((ju s).take (j+1)).map jN) by rw[V5.out];exact Own.snoc hown1 (by rw[VJ.out]) OW.out.2 Vu.out);clear hgrow hat hlt1 hown1 hgb;refine Ky.out _ _ (Va.out) (fun _=>?_);clear Ky K9;try simp only[nA,nB,nC,nD,nE]
           refine tR 14 rfl (by kernel_rfl) (fun _ _ _=>id) (Or.inl ⟨by rfl,by rintro W ⟨s0,s1,s2⟩;go_simp<;>with_reducible rfl⟩) ‹_› ?_;try simp only[nA,nB,nC,nD,nE]
           refine rd1 15 fun K9 Ky=>?_;obtain⟨z0,z1,z2,z3,z4⟩:=QA.out.at5;have y2:=QA.out.free 2;go_simp;obtain⟨vv4,hnw⟩:=eX (vv3.setCell ⟨lb,2,none⟩ (.slice (some ⟨gg,0,none⟩) (j+1) cap1))
           have QA:=lH (show jj lb [.string (bytes (w3L s 0)),.slice none 0 0,.slice (some ⟨gg,0,none⟩) (j+1) cap1,.int .i64 0,.int .i64 0] vv4 by rw[←hnw];exact QA.out.set (j:=2) (by show 2<5;omega));have OW:=lH (show Own jh 49 vv4 (lb+1) _ _ by rw[←hnw];exact OW.out.setCell_below (a:=⟨lb,2,none⟩) (by show lb<lb+1;omega) _);have hgb:vv4.heap[gr]?=vv3.heap[gr]?:=by rw[←hnw];exact Below.heap_setCell _ ⟨lb,2,none⟩ _ gr (by show gr≠lb;have:=Tb.out;have:=VQ.out;omega)
           obtain⟨Va,J5,Vb⟩:=lH3 (show vv4.cell? ⟨gr,0,none⟩=some (.int .i64 xu)∧vv4.cell? ⟨gr,1,none⟩=some (.int .i64 xc)∧vv4.cell? ⟨gr,2,none⟩=some (.int .i64 xp) from⟨(World.cell?_of_block (a:=⟨gr,0,none⟩) hgb).trans Va.out.1,(World.cell?_of_block (a:=⟨gr,1,none⟩) hgb).trans Va.out.2.1,(World.cell?_of_block (a:=⟨gr,2,none⟩) hgb).trans Va.out.2.2⟩) (show Kept wK vv4 by rw[←hnw];exact(show Below wK.heap.size wK vv3 from J5.out).setCell (p:=⟨lb,2,none⟩) (by show wK.heap.size≤lb;have:=VF.out;omega) _) (show lb+1≤vv4.heap.size by rw[←hnw];have:=Vb.out;simpa [World.setCell] using this);try rw[hnw]
           clear hnw hgb z0 z1 z2 z3 z4 y2;refine Ky.out _ _ (Va.out) (fun _=>?_);clear Ky K9;try simp only[nA,nB,nC,nD,nE]
           refine wpAnyH_done (by kernel_rfl) ?_ _;go_wp2;go_roundw
           case rel=>exact⟨j+1,some ⟨gg,0,none⟩,cap1,by have:=Vx.out;omega,by rw[show j+1+3=i+1 by have:=Vx.out;omega];go_num,by rw[Ux.out,V9.out,US.out],QA.out,OW.out,UC.out,J5.out,Vb.out⟩
           case measure=>simp[intOf];omega
         · skip;go_simp;obtain⟨g0,hg0⟩:=eX (wd.heap.size)
           obtain⟨vv5,hnw⟩:=eX (wd.alloc (.cells #[.int .i64 xu,.int .i64 xc,.int .i64 xp] 49))
           have kk:Kept wd vv5:=by rw[←hnw];exact jb _ _
           have HC:=lH (show vv5.heap[g0]?=some (.cells #[.int .i64 xu,.int .i64 xc,.int .i64 xp] 49) by rw[←hnw,←hg0];exact World.alloc_heap_new wd _);try rw[hnw]
           try rw[hg0]
           clear hnw hg0;obtain⟨Va,VR,J5,QA,OW,Vb⟩:=lH6 (show vv5.cell? ⟨gr,0,none⟩=some (.int .i64 xu)∧vv5.cell? ⟨gr,1,none⟩=some (.int .i64 xc)∧vv5.cell? ⟨gr,2,none⟩=some (.int .i64 xp) from⟨cell_later kk Va.out.1,cell_later kk Va.out.2.1,cell_later kk Va.out.2.2⟩) (Nat.lt_of_lt_of_le VR.out kk.size) (J5.out.trans kk) (QA.out.kept kk) (OW.out.kept kk) (Nat.le_trans Vb.out kk.size);clear kk;refine Ky.out _ _ (Va.out) (fun _=>?_);clear Ky K9;try simp only[nA,nB,nC,nD,nE]
           refine rd1 1 fun K9 Ky=>?_;obtain⟨z0,z1,z2,z3,z4⟩:=QA.out.at5;go_simp;clear z0 z1 z2 z3 z4;refine Ky.out _ _ (Va.out) (fun _=>?_);clear Ky K9;try simp only[nA,nB,nC,nD,nE]
           refine rd1 13 fun K9 Ky=>?_;refine step_append_lies _ (by rfl) _ _ _ (by rfl) (lb+1) 49 i0 _ 3 24 Tryz.underlying33 hi hz0 hz1 hz2 rfl (by decide) (.slice av j cv) j (jg jh (((ju s).take j).map jN)) (by rfl) (by have:=OW.out.1;rw[VJ.out] at this;exact this) ⟨g0,0,none⟩ 1 1 [.int .i64 xu,.int .i64 xc,.int .i64 xp] (by rfl) (by rfl) (World.news_of_block (cs:=#[.int .i64 xu,.int .i64 xc,.int .i64 xp]) (t:=49) (fr:=(0,0)) HC.out) (za jh [(xu,xc,xp)]) (by decide) (by have:=Vx.out;unfold maxLen;omega) (by have:=Vx.out;omega) Vb.out _ rfl ?_;intro gg cap1 vv7 hown1 hgrow hat hlt1;have hgb:vv7.heap[gr]?=vv5.heap[gr]?:=hgrow.block gr VR.out (fun e=>by have:=(Vl.out gr e.symm).2;have:=VQ.out;omega);obtain⟨Va,QA,J5,Vb,OW⟩:=lH5 (show vv7.cell? ⟨gr,0,none⟩=some (.int .i64 xu)∧vv7.cell? ⟨gr,1,none⟩=some (.int .i64 xc)∧vv7.cell? ⟨gr,2,none⟩=some (.int .i64 xp) from⟨(World.cell?_of_block (a:=⟨gr,0,none⟩) hgb).trans Va.out.1,(World.cell?_of_block (a:=⟨gr,1,none⟩) hgb).trans Va.out.2.1,(World.cell?_of_block (a:=⟨gr,2,none⟩) hgb).trans Va.out.2.2⟩) (QA.out.block (hgrow.block lb QA.out.lt (fun e=>by have:=(Vl.out lb e.symm).1;omega))) (show Kept wK vv7 from(show Below wK.heap.size wK vv5 from J5.out).grown hgrow J5.out.size (fun r hr=>by have:=(Vl.out r hr).1;have:=VF.out;omega)) (Nat.le_trans Vb.out hgrow.size) (show Own jh 49 vv7 (lb+1) (.slice (some ⟨gg,0,none⟩) (j+1) cap1) (((ju s).take (j+1)).map jN) by rw[V5.out];exact Own.snoc hown1 (by rw[VJ.out]) OW.out.2 Vu.out);clear hgrow hat hlt1 hown1 hgb;refine Ky.out _ _ (Va.out) (fun _=>?_);clear Ky K9;try simp only[nA,nB,nC,nD,nE]
           refine tR 14 rfl (by kernel_rfl) (fun _ _ _=>id) (Or.inl ⟨by rfl,by rintro W ⟨s0,s1,s2⟩;go_simp<;>with_reducible rfl⟩) ‹_› ?_;try simp only[nA,nB,nC,nD,nE]
           refine rd1 15 fun K9 Ky=>?_;obtain⟨z0,z1,z2,z3,z4⟩:=QA.out.at5;have y2:=QA.out.free 2;go_simp;obtain⟨vv8,hnw⟩:=eX (vv7.setCell ⟨lb,2,none⟩ (.slice (some ⟨gg,0,none⟩) (j+1) cap1))
           have QA:=lH (show jj lb [.string (bytes (w3L s 0)),.slice none 0 0,.slice (some ⟨gg,0,none⟩) (j+1) cap1,.int .i64 0,.int .i64 0] vv8 by rw[←hnw];exact QA.out.set (j:=2) (by show 2<5;omega));have OW:=lH (show Own jh 49 vv8 (lb+1) _ _ by rw[←hnw];exact OW.out.setCell_below (a:=⟨lb,2,none⟩) (by show lb<lb+1;omega) _);have hgb:vv8.heap[gr]?=vv7.heap[gr]?:=by rw[←hnw];exact Below.heap_setCell _ ⟨lb,2,none⟩ _ gr (by show gr≠lb;have:=Tb.out;have:=VQ.out;omega)
           obtain⟨Va,J5,Vb⟩:=lH3 (show vv8.cell? ⟨gr,0,none⟩=some (.int .i64 xu)∧vv8.cell? ⟨gr,1,none⟩=some (.int .i64 xc)∧vv8.cell? ⟨gr,2,none⟩=some (.int .i64 xp) from⟨(World.cell?_of_block (a:=⟨gr,0,none⟩) hgb).trans Va.out.1,(World.cell?_of_block (a:=⟨gr,1,none⟩) hgb).trans Va.out.2.1,(World.cell?_of_block (a:=⟨gr,2,none⟩) hgb).trans Va.out.2.2⟩) (show Kept wK vv8 by rw[←hnw];exact(show Below wK.heap.size wK vv7 from J5.out).setCell (p:=⟨lb,2,none⟩) (by show wK.heap.size≤lb;have:=VF.out;omega) _) (show lb+1≤vv8.heap.size by rw[←hnw];have:=Vb.out;simpa [World.setCell] using this);try rw[hnw]
           clear hnw hgb z0 z1 z2 z3 z4 y2;refine Ky.out _ _ (Va.out) (fun _=>?_);clear Ky K9;try simp only[nA,nB,nC,nD,nE]
           refine wpAnyH_done (by kernel_rfl) ?_ _;go_wp2;go_roundw
           case rel=>exact⟨j+1,some ⟨gg,0,none⟩,cap1,by have:=Vx.out;omega,by rw[show j+1+3=i+1 by have:=Vx.out;omega];go_num,by rw[Ux.out,V9.out,US.out],QA.out,OW.out,UC.out,J5.out,Vb.out⟩
           case measure=>simp[intOf];omega
       · have hf6:(fr != 0)=true:=by simpa using hf5
         have US:=lH (Rj.out.trans (if_neg hf5));go_wp2_with fail
         obtain⟨wd,hwd⟩:=eX (w5.drew)
         have kd:Kept w5 wd:=by rw[←hwd];exact Kept.drew w5
         obtain⟨Va,J5,QA,OW,Vb⟩:=lH5 (Ri.out _ kd) (J5.out.trans kd) (QA.out.kept kd) (OW.out.kept kd) (Nat.le_trans Vb.out kd.size);have VR:=lH (show gr<wd.heap.size from World.block_lt_of_cell? _ _ Va.out.1);refine wp_region_held_drew (S:=fun W=>W.cell? ⟨gr,0,none⟩=some (.int .i64 xu)∧W.cell? ⟨gr,1,none⟩=some (.int .i64 xc)∧W.cell? ⟨gr,2,none⟩=some (.int .i64 xp)) (by kernel_rfl) (by rw[hwd];exact Va.out) (fun hHeld=>?_);rw[hwd] at hHeld;try rw[hwd]
         clear hwd kd;refine tR 0 rfl (by kernel_rfl) (fun _ _ _=>id) (Or.inl ⟨by rfl,by rintro W ⟨s0,s1,s2⟩;go_simp<;>with_reducible rfl⟩) ‹_› ?_;try simp only[nA,nB,nC,nD,nE]
         refine tR 2 rfl (by kernel_rfl) (fun _ _ _=>id) (Or.inl ⟨by rfl,by rintro W ⟨s0,s1,s2⟩;go_simp<;>with_reducible rfl⟩) ‹_› ?_;try simp only[nA,nB,nC,nD,nE]
         refine tR 3 rfl (by kernel_rfl) (fun _ _ _=>id) (Or.inl ⟨by rfl,by rintro W ⟨s0,s1,s2⟩;go_simp<;>with_reducible rfl⟩) ‹_› ?_;try simp only[nA,nB,nC,nD,nE]
         refine tR 4 rfl (by kernel_rfl) (fun _ _ _=>id) (Or.inl ⟨by rfl,by rintro W ⟨s0,s1,s2⟩;go_simp<;>with_reducible rfl⟩) ‹_› ?_;try simp only[nA,nB,nC,nD,nE]
         refine tR 5 rfl (by kernel_rfl) (fun _ _ _=>id) (Or.inl ⟨by rfl,by rintro W ⟨s0,s1,s2⟩;go_simp<;>with_reducible rfl⟩) ‹_› ?_;try simp only[nA,nB,nC,nD,nE]
         refine tR 6 rfl (by kernel_rfl) (fun _ _ _=>id) (Or.inl ⟨by rfl,by rintro W ⟨s0,s1,s2⟩;go_simp<;>with_reducible rfl⟩) ‹_› ?_;try simp only[nA,nB,nC,nD,nE]
         refine tR 7 rfl (by kernel_rfl) (fun _ _ _=>id) (Or.inl ⟨by rfl,by rintro W ⟨s0,s1,s2⟩;go_simp<;>with_reducible rfl⟩) ‹_› ?_;try simp only[nA,nB,nC,nD,nE]
         refine tR 8 rfl (by kernel_rfl) (fun _ _ _=>id) (Or.inl ⟨by rfl,by rintro W ⟨s0,s1,s2⟩;go_simp<;>with_reducible rfl⟩) ‹_› ?_;try simp only[nA,nB,nC,nD,nE]
         refine tR 9 rfl (by kernel_rfl) (fun _ _ _=>id) (Or.inl ⟨by rfl,by rintro W ⟨s0,s1,s2⟩;go_simp<;>with_reducible rfl⟩) ‹_› ?_;try simp only[nA,nB,nC,nD,nE]
         refine tR 10 rfl (by kernel_rfl) (fun _ _ _=>id) (Or.inl ⟨by rfl,by rintro W ⟨s0,s1,s2⟩;go_simp<;>with_reducible rfl⟩) ‹_› ?_;try simp only[nA,nB,nC,nD,nE]
         refine tR 11 rfl (by kernel_rfl) (fun _ _ _=>id) (Or.inl ⟨by rfl,by rintro W ⟨s0,s1,s2⟩;go_simp<;>with_reducible rfl⟩) ‹_› ?_;try simp only[nA,nB,nC,nD,nE]
         refine wpAnyH_ready  (rs:=[1,12]) (by kernel_rfl) (by simp) (AllReadyH.cons  (by rw[List.getElem?_toArray];exact rfl) (fun K9 Ky=>?_) (AllReadyH.cons  (by rw[List.getElem?_toArray];exact rfl) (fun K9 Ky=>?_) AllReadyH.nil))
         · skip;obtain⟨z0,z1,z2,z3,z4⟩:=QA.out.at5;go_simp;clear z0 z1 z2 z3 z4;refine Ky.out _ _ (Va.out) (fun _=>?_);clear Ky K9;try simp only[nA,nB,nC,nD,nE]
           refine rd1 12 fun K9 Ky=>?_;go_simp;obtain⟨g0,hg0⟩:=eX (wd.heap.size)
           obtain⟨vv10,hnw⟩:=eX (wd.alloc (.cells #[.int .i64 xu,.int .i64 xc,.int .i64 xp] 49))
           have kk:Kept wd vv10:=by rw[←hnw];exact jb _ _
           have HC:=lH (show vv10.heap[g0]?=some (.cells #[.int .i64 xu,.int .i64 xc,.int .i64 xp] 49) by rw[←hnw,←hg0];exact World.alloc_heap_new wd _);try rw[hnw]
           try rw[hg0]
           clear hnw hg0;obtain⟨Va,VR,J5,QA,OW,Vb⟩:=lH6 (show vv10.cell? ⟨gr,0,none⟩=some (.int .i64 xu)∧vv10.cell? ⟨gr,1,none⟩=some (.int .i64 xc)∧vv10.cell? ⟨gr,2,none⟩=some (.int .i64 xp) from⟨cell_later kk Va.out.1,cell_later kk Va.out.2.1,cell_later kk Va.out.2.2⟩) (Nat.lt_of_lt_of_le VR.out kk.size) (J5.out.trans kk) (QA.out.kept kk) (OW.out.kept kk) (Nat.le_trans Vb.out kk.size);clear kk;refine Ky.out _ _ (Va.out) (fun _=>?_);clear Ky K9;try simp only[nA,nB,nC,nD,nE]
           refine rd1 13 fun K9 Ky=>?_;refine step_append_lies _ (by rfl) _ _ _ (by rfl) (lb+1) 49 i0 _ 3 24 Tryz.underlying33 hi hz0 hz1 hz2 rfl (by decide) (.slice av j cv) j (jg jh (((ju s).take j).map jN)) (by rfl) (by have:=OW.out.1;rw[VJ.out] at this;exact this) ⟨g0,0,none⟩ 1 1 [.int .i64 xu,.int .i64 xc,.int .i64 xp] (by rfl) (by rfl) (World.news_of_block (cs:=#[.int .i64 xu,.int .i64 xc,.int .i64 xp]) (t:=49) (fr:=(0,0)) HC.out) (za jh [(xu,xc,xp)]) (by decide) (by have:=Vx.out;unfold maxLen;omega) (by have:=Vx.out;omega) Vb.out _ rfl ?_;intro gg cap1 vv11 hown1 hgrow hat hlt1;have hgb:vv11.heap[gr]?=vv10.heap[gr]?:=hgrow.block gr VR.out (fun e=>by have:=(Vl.out gr e.symm).2;have:=VQ.out;omega);obtain⟨Va,QA,J5,Vb,OW⟩:=lH5 (show vv11.cell? ⟨gr,0,none⟩=some (.int .i64 xu)∧vv11.cell? ⟨gr,1,none⟩=some (.int .i64 xc)∧vv11.cell? ⟨gr,2,none⟩=some (.int .i64 xp) from⟨(World.cell?_of_block (a:=⟨gr,0,none⟩) hgb).trans Va.out.1,(World.cell?_of_block (a:=⟨gr,1,none⟩) hgb).trans Va.out.2.1,(World.cell?_of_block (a:=⟨gr,2,none⟩) hgb).trans Va.out.2.2⟩) (QA.out.block (hgrow.block lb QA.out.lt (fun e=>by have:=(Vl.out lb e.symm).1;omega))) (show Kept wK vv11 from(show Below wK.heap.size wK vv10 from J5.out).grown hgrow J5.out.size (fun r hr=>by have:=(Vl.out r hr).1;have:=VF.out;omega)) (Nat.le_trans Vb.out hgrow.size) (show Own jh 49 vv11 (lb+1) (.slice (some ⟨gg,0,none⟩) (j+1) cap1) (((ju s).take (j+1)).map jN) by rw[V5.out];exact Own.snoc hown1 (by rw[VJ.out]) OW.out.2 Vu.out);clear hgrow hat hlt1 hown1 hgb;refine Ky.out _ _ (Va.out) (fun _=>?_);clear Ky K9;try simp only[nA,nB,nC,nD,nE]
           refine tR 14 rfl (by kernel_rfl) (fun _ _ _=>id) (Or.inl ⟨by rfl,by rintro W ⟨s0,s1,s2⟩;go_simp<;>with_reducible rfl⟩) ‹_› ?_;try simp only[nA,nB,nC,nD,nE]
           refine rd1 15 fun K9 Ky=>?_;obtain⟨z0,z1,z2,z3,z4⟩:=QA.out.at5;have y2:=QA.out.free 2;go_simp;obtain⟨vv12,hnw⟩:=eX (vv11.setCell ⟨lb,2,none⟩ (.slice (some ⟨gg,0,none⟩) (j+1) cap1))
           have QA:=lH (show jj lb [.string (bytes (w3L s 0)),.slice none 0 0,.slice (some ⟨gg,0,none⟩) (j+1) cap1,.int .i64 0,.int .i64 0] vv12 by rw[←hnw];exact QA.out.set (j:=2) (by show 2<5;omega));have OW:=lH (show Own jh 49 vv12 (lb+1) _ _ by rw[←hnw];exact OW.out.setCell_below (a:=⟨lb,2,none⟩) (by show lb<lb+1;omega) _);have hgb:vv12.heap[gr]?=vv11.heap[gr]?:=by rw[←hnw];exact Below.heap_setCell _ ⟨lb,2,none⟩ _ gr (by show gr≠lb;have:=Tb.out;have:=VQ.out;omega)
           obtain⟨Va,J5,Vb⟩:=lH3 (show vv12.cell? ⟨gr,0,none⟩=some (.int .i64 xu)∧vv12.cell? ⟨gr,1,none⟩=some (.int .i64 xc)∧vv12.cell? ⟨gr,2,none⟩=some (.int .i64 xp) from⟨(World.cell?_of_block (a:=⟨gr,0,none⟩) hgb).trans Va.out.1,(World.cell?_of_block (a:=⟨gr,1,none⟩) hgb).trans Va.out.2.1,(World.cell?_of_block (a:=⟨gr,2,none⟩) hgb).trans Va.out.2.2⟩) (show Kept wK vv12 by rw[←hnw];exact(show Below wK.heap.size wK vv11 from J5.out).setCell (p:=⟨lb,2,none⟩) (by show wK.heap.size≤lb;have:=VF.out;omega) _) (show lb+1≤vv12.heap.size by rw[←hnw];have:=Vb.out;simpa [World.setCell] using this);try rw[hnw]
           clear hnw hgb z0 z1 z2 z3 z4 y2;refine Ky.out _ _ (Va.out) (fun _=>?_);clear Ky K9;try simp only[nA,nB,nC,nD,nE]
           refine wpAnyH_done (by kernel_rfl) ?_ _;go_wp2;go_roundw
           case rel=>exact⟨j+1,some ⟨gg,0,none⟩,cap1,by have:=Vx.out;omega,by rw[show j+1+3=i+1 by have:=Vx.out;omega];go_num,by rw[Ux.out,V9.out,US.out],QA.out,OW.out,UC.out,J5.out,Vb.out⟩
           case measure=>simp[intOf];omega
         · skip;go_simp;obtain⟨g0,hg0⟩:=eX (wd.heap.size)
           obtain⟨vv13,hnw⟩:=eX (wd.alloc (.cells #[.int .i64 xu,.int .i64 xc,.int .i64 xp] 49))
           have kk:Kept wd vv13:=by rw[←hnw];exact jb _ _
           have HC:=lH (show vv13.heap[g0]?=some (.cells #[.int .i64 xu,.int .i64 xc,.int .i64 xp] 49) by rw[←hnw,←hg0];exact World.alloc_heap_new wd _);try rw[hnw]
           try rw[hg0]
           clear hnw hg0;obtain⟨Va,VR,J5,QA,OW,Vb⟩:=lH6 (show vv13.cell? ⟨gr,0,none⟩=some (.int .i64 xu)∧vv13.cell? ⟨gr,1,none⟩=some (.int .i64 xc)∧vv13.cell? ⟨gr,2,none⟩=some (.int .i64 xp) from⟨cell_later kk Va.out.1,cell_later kk Va.out.2.1,cell_later kk Va.out.2.2⟩) (Nat.lt_of_lt_of_le VR.out kk.size) (J5.out.trans kk) (QA.out.kept kk) (OW.out.kept kk) (Nat.le_trans Vb.out kk.size);clear kk;refine Ky.out _ _ (Va.out) (fun _=>?_);clear Ky K9;try simp only[nA,nB,nC,nD,nE]
           refine rd1 1 fun K9 Ky=>?_;obtain⟨z0,z1,z2,z3,z4⟩:=QA.out.at5;go_simp;clear z0 z1 z2 z3 z4;refine Ky.out _ _ (Va.out) (fun _=>?_);clear Ky K9;try simp only[nA,nB,nC,nD,nE]
           refine rd1 13 fun K9 Ky=>?_;refine step_append_lies _ (by rfl) _ _ _ (by rfl) (lb+1) 49 i0 _ 3 24 Tryz.underlying33 hi hz0 hz1 hz2 rfl (by decide) (.slice av j cv) j (jg jh (((ju s).take j).map jN)) (by rfl) (by have:=OW.out.1;rw[VJ.out] at this;exact this) ⟨g0,0,none⟩ 1 1 [.int .i64 xu,.int .i64 xc,.int .i64 xp] (by rfl) (by rfl) (World.news_of_block (cs:=#[.int .i64 xu,.int .i64 xc,.int .i64 xp]) (t:=49) (fr:=(0,0)) HC.out) (za jh [(xu,xc,xp)]) (by decide) (by have:=Vx.out;unfold maxLen;omega) (by have:=Vx.out;omega) Vb.out _ rfl ?_;intro gg cap1 vv15 hown1 hgrow hat hlt1;have hgb:vv15.heap[gr]?=vv13.heap[gr]?:=hgrow.block gr VR.out (fun e=>by have:=(Vl.out gr e.symm).2;have:=VQ.out;omega);obtain⟨Va,QA,J5,Vb,OW⟩:=lH5 (show vv15.cell? ⟨gr,0,none⟩=some (.int .i64 xu)∧vv15.cell? ⟨gr,1,none⟩=some (.int .i64 xc)∧vv15.cell? ⟨gr,2,none⟩=some (.int .i64 xp) from⟨(World.cell?_of_block (a:=⟨gr,0,none⟩) hgb).trans Va.out.1,(World.cell?_of_block (a:=⟨gr,1,none⟩) hgb).trans Va.out.2.1,(World.cell?_of_block (a:=⟨gr,2,none⟩) hgb).trans Va.out.2.2⟩) (QA.out.block (hgrow.block lb QA.out.lt (fun e=>by have:=(Vl.out lb e.symm).1;omega))) (show Kept wK vv15 from(show Below wK.heap.size wK vv13 from J5.out).grown hgrow J5.out.size (fun r hr=>by have:=(Vl.out r hr).1;have:=VF.out;omega)) (Nat.le_trans Vb.out hgrow.size) (show Own jh 49 vv15 (lb+1) (.slice (some ⟨gg,0,none⟩) (j+1) cap1) (((ju s).take (j+1)).map jN) by rw[V5.out];exact Own.snoc hown1 (by rw[VJ.out]) OW.out.2 Vu.out);clear hgrow hat hlt1 hown1 hgb;refine Ky.out _ _ (Va.out) (fun _=>?_);clear Ky K9;try simp only[nA,nB,nC,nD,nE]
           refine tR 14 rfl (by kernel_rfl) (fun _ _ _=>id) (Or.inl ⟨by rfl,by rintro W ⟨s0,s1,s2⟩;go_simp<;>with_reducible rfl⟩) ‹_› ?_;try simp only[nA,nB,nC,nD,nE]
           refine rd1 15 fun K9 Ky=>?_;obtain⟨z0,z1,z2,z3,z4⟩:=QA.out.at5;have y2:=QA.out.free 2;go_simp;obtain⟨vv16,hnw⟩:=eX (vv15.setCell ⟨lb,2,none⟩ (.slice (some ⟨gg,0,none⟩) (j+1) cap1))
           have QA:=lH (show jj lb [.string (bytes (w3L s 0)),.slice none 0 0,.slice (some ⟨gg,0,none⟩) (j+1) cap1,.int .i64 0,.int .i64 0] vv16 by rw[←hnw];exact QA.out.set (j:=2) (by show 2<5;omega));have OW:=lH (show Own jh 49 vv16 (lb+1) _ _ by rw[←hnw];exact OW.out.setCell_below (a:=⟨lb,2,none⟩) (by show lb<lb+1;omega) _);have hgb:vv16.heap[gr]?=vv15.heap[gr]?:=by rw[←hnw];exact Below.heap_setCell _ ⟨lb,2,none⟩ _ gr (by show gr≠lb;have:=Tb.out;have:=VQ.out;omega)
           obtain⟨Va,J5,Vb⟩:=lH3 (show vv16.cell? ⟨gr,0,none⟩=some (.int .i64 xu)∧vv16.cell? ⟨gr,1,none⟩=some (.int .i64 xc)∧vv16.cell? ⟨gr,2,none⟩=some (.int .i64 xp) from⟨(World.cell?_of_block (a:=⟨gr,0,none⟩) hgb).trans Va.out.1,(World.cell?_of_block (a:=⟨gr,1,none⟩) hgb).trans Va.out.2.1,(World.cell?_of_block (a:=⟨gr,2,none⟩) hgb).trans Va.out.2.2⟩) (show Kept wK vv16 by rw[←hnw];exact(show Below wK.heap.size wK vv15 from J5.out).setCell (p:=⟨lb,2,none⟩) (by show wK.heap.size≤lb;have:=VF.out;omega) _) (show lb+1≤vv16.heap.size by rw[←hnw];have:=Vb.out;simpa [World.setCell] using this);try rw[hnw]
           clear hnw hgb z0 z1 z2 z3 z4 y2;refine Ky.out _ _ (Va.out) (fun _=>?_);clear Ky K9;try simp only[nA,nB,nC,nD,nE]
           refine wpAnyH_done (by kernel_rfl) ?_ _;go_wp2;go_roundw
           case rel=>exact⟨j+1,some ⟨gg,0,none⟩,cap1,by have:=Vx.out;omega,by rw[show j+1+3=i+1 by have:=Vx.out;omega];go_num,by rw[Ux.out,V9.out,US.out],QA.out,OW.out,UC.out,J5.out,Vb.out⟩
           case measure=>simp[intOf];omega
    · obtain rfl:i=m:=by omega
      have hki:¬(i:Int)<(i:Int):=by omega
      have Tc:=lH (show (ju s).take j=ju s by rw[List.take_of_length_le (by unfold ju;rw[List.length_drop,HM.out];have:=Vx.out;omega)]);have UA:=lH (show j3 (ju s)=true by have h:=UP.out;rw[Tc.out] at h;unfold j3;rw[List.all_eq_true];exact h);have Vn:=lH (show jR s=true by
       unfold jR;rw[show (ja 32 s).drop 3=ju s from rfl,UA.out,TJ.out,HM.out,decide_eq_true (by omega)];rfl)
      have VI:=lH (show zm s=ob by
       unfold zm zp;rw[show (ja 32 s).drop 3=ju s from rfl,←VL.out,←U2.out,Tc.out,Bool.and_assoc])
      cases ob with
      | false =>
       have hfo5:fo=5:=by rw[←UK.out];rfl
       subst hfo5;have HF:=lH (qk Vn.out VI.out);have K:=K9;obtain⟨z0,z1,z2,z3,z4⟩:=HZ.out.at5;have e0:=HZ.out.free 0;have e1:=HZ.out.free 1;have e2:=HZ.out.free 2;have e3:=HZ.out.free 3;have e4:=HZ.out.free 4;have PP:=lH (zl (vs:=[.string ⟨#[]⟩,.slice none 0 0,.slice none 0 0,.int .i64 0,.int .i64 0]) HZ.out rfl);obtain⟨WE,hWE⟩:=eX (wr.setCells Q 0 [.string ⟨#[]⟩,.slice none 0 0,.slice none 0 0,.int .i64 0,.int .i64 0])
       have hWE2:(((((wr.setCell ⟨Q,0,none⟩ (.string ⟨#[]⟩)).setCell ⟨Q,1,none⟩ (.slice none 0 0)).setCell ⟨Q,2,none⟩ (.slice none 0 0)).setCell ⟨Q,3,none⟩ (.int .i64 0)).setCell ⟨Q,4,none⟩ (.int .i64 0))=WE:=hWE;rw[hWE] at PP;have EWE:=lH hWE2;clear hWE hWE2;go_wp2;try rw[EWE.out]
       have PC:=PP.out.cells;refine bodyPost_ret (by simp[results,Tryz.results26,go_sem,PC.at_ 0 _ rfl,PC.at_ 1 _ rfl,PC.at_ 2 _ rfl,PC.at_ 3 _ rfl,PC.at_ 4 _ rfl];try rfl) rfl ?_;exact⟨.agg #[.string ⟨#[]⟩,.slice none 0 0,.slice none 0 0,.int .i64 0,.int .i64 0],by rw[HF.out],by rw[HF.out];exact⟨_,_,rfl,Jw _⟩,PP.out.below _ _ (by rw[HQ.out];exact Nat.le_refl _) K.out⟩
      | true =>
       have hfo0:fo=0:=by rw[←UK.out];rfl
       subst hfo0;have hlt2:lq=true∧(ju s).all jV=true:=by have h:=VL.out;rw[Tc.out] at h;simpa using h
       have hlim:inQ (jx s 0)=true∧inQ (jx s 1)=true:=by have h:=U2.out;rw[hlt2.1] at h;simpa using h
       obtain⟨Rk,Rl,R2⟩:=lH3 (JE hlim.1) (JE hlim.2) (show ((ju s).take j).map jN=(ju s).map jq by rw[Tc.out];exact List.map_congr_left fun x hx=>qE (List.all_eq_true.1 hlt2.2 x hx));clear hlt2 hlim;obtain⟨d0,d1⟩:=U9.out _ J2.out;rw[Rk.out] at d0;obtain⟨z0,z1,z2,z3,z4⟩:=QA.out.at5;have y3:=QA.out.free 3;go_upto_region 23 with fail
       clear z0 z1 z2 z3 z4 y3 d0 d1;obtain⟨w7,hnw⟩:=eX (wr.setCell ⟨lb,3,none⟩ (.int .i64 (Vec.valL (jx s 0):Int)))
       try rw[hnw]
       have QA:=lH (show jj lb _ w7 by rw[←hnw];exact QA.out.set (j:=3) (u:=.int .i64 (Vec.valL (jx s 0):Int)) (by show 3<5;omega));simp only[List.set] at QA;obtain⟨OW,J2,HZ⟩:=lH3 (show Own jh 49 w7 (lb+1) _ _ by rw[←hnw];exact OW.out.setCell_below (a:=⟨lb,3,none⟩) (by show lb<lb+1;omega) _) (show Kept wK w7 by rw[←hnw];exact(show Below wK.heap.size wK wr from J2.out).setCell (p:=⟨lb,3,none⟩) (by show wK.heap.size≤lb;have:=VF.out;omega) _) (show jj Q [.string ⟨#[]⟩,.slice none 0 0,.slice none 0 0,.int .i64 0,.int .i64 0] w7 by rw[←hnw];exact HZ.out.other (by have:=UR.out;omega));clear hnw;obtain⟨d0,d1⟩:=U9.out _ J2.out;rw[Rl.out] at d1;obtain⟨z0,z1,z2,z3,z4⟩:=QA.out.at5;have y4:=QA.out.free 4;go_upto_region 24 with fail
       clear z0 z1 z2 z3 z4 y4 d0 d1;obtain⟨w8,hnw⟩:=eX (w7.setCell ⟨lb,4,none⟩ (.int .i64 (Vec.valL (jx s 1):Int)))
       try rw[hnw]
       have QA:=lH (show jj lb _ w8 by rw[←hnw];exact QA.out.set (j:=4) (u:=.int .i64 (Vec.valL (jx s 1):Int)) (by show 4<5;omega));simp only[List.set] at QA;obtain⟨OW,J2,HZ⟩:=lH3 (show Own jh 49 w8 (lb+1) _ _ by rw[←hnw];exact OW.out.setCell_below (a:=⟨lb,4,none⟩) (by show lb<lb+1;omega) _) (show Kept wK w8 by rw[←hnw];exact(show Below wK.heap.size wK w7 from J2.out).setCell (p:=⟨lb,4,none⟩) (by show wK.heap.size≤lb;have:=VF.out;omega) _) (show jj Q [.string ⟨#[]⟩,.slice none 0 0,.slice none 0 0,.int .i64 0,.int .i64 0] w8 by rw[←hnw];exact HZ.out.other (by have:=UR.out;omega));clear hnw;have c1:=TI.out.2 _ (J.out.trans J2.out);obtain⟨⟨pc,pm⟩,hpv⟩:∃z,Vec.jH (w3L s 1)=z:=⟨_,rfl⟩
       have Um:=lH hpv;have Vs:=lH (Vec.jac (w3L s 1) w8 (by have:=TI.out.1;omega));rw[hpv] at Vs;unfold Vec.Told at Vs;dsimp only at Vs;clear hpv;go_wp2_with fail
       refine Vs.out.mono ?_;rintro e w9 ⟨xv,rfl,hov,kk⟩;obtain⟨Uq,QA,OW,J2,HZ,TL⟩:=lH6 (show lb<w8.heap.size from QA.out.lt) (QA.out.kept kk) (OW.out.kept kk) (J2.out.trans kk) (HZ.out.kept kk) hov;clear hov kk Vs c1;by_cases hpc:pc=0
       case neg =>
        have hpc':(pc != 0)=true:=by simpa using hpc
        have HF:=lH (jap Vn.out VI.out (by rw[Um.out]) hpc);have K:=lH (K.out.trans J2.out);clear hpc;obtain⟨z0,z1,z2,z3,z4⟩:=HZ.out.at5;have e0:=HZ.out.free 0;have e1:=HZ.out.free 1;have e2:=HZ.out.free 2;have e3:=HZ.out.free 3;have e4:=HZ.out.free 4;have PP:=lH (zl (vs:=[.string ⟨#[]⟩,.slice none 0 0,.slice none 0 0,.int .i64 0,.int .i64 0]) HZ.out rfl);obtain⟨WE,hWE⟩:=eX (w9.setCells Q 0 [.string ⟨#[]⟩,.slice none 0 0,.slice none 0 0,.int .i64 0,.int .i64 0])
        have hWE2:(((((w9.setCell ⟨Q,0,none⟩ (.string ⟨#[]⟩)).setCell ⟨Q,1,none⟩ (.slice none 0 0)).setCell ⟨Q,2,none⟩ (.slice none 0 0)).setCell ⟨Q,3,none⟩ (.int .i64 0)).setCell ⟨Q,4,none⟩ (.int .i64 0))=WE:=hWE;rw[hWE] at PP;have EWE:=lH hWE2;clear hWE hWE2;go_wp2;try rw[EWE.out]
        have PC:=PP.out.cells;refine bodyPost_ret (by simp[results,Tryz.results26,go_sem,PC.at_ 0 _ rfl,PC.at_ 1 _ rfl,PC.at_ 2 _ rfl,PC.at_ 3 _ rfl,PC.at_ 4 _ rfl];try rfl) rfl ?_;exact⟨.agg #[.string ⟨#[]⟩,.slice none 0 0,.slice none 0 0,.int .i64 0,.int .i64 0],by rw[HF.out],by rw[HF.out];exact⟨_,_,rfl,Jw _⟩,PP.out.below _ _ (by rw[HQ.out];exact Nat.le_refl _) K.out⟩
       subst hpc;obtain⟨xa,xc,rfl,hx1,hx2,hx3⟩:=id TL.out.at_;obtain⟨xm,hxm⟩:=eX (pm.length)
       have RD:=lH (show Vec.Reads w9 _ pm from⟨xa,xc,rfl,hx1,hx2,hx3⟩);have RB:=lH (show ∀b off sp,xa=some ⟨b,off,sp⟩→w8.heap.size≤b∧b<w9.heap.size from fun b off sp e=>TL.out.1.lt b (by subst e;rfl));rw[hxm] at RD;rw[hxm];clear TL hx1 hx2 hx3 hxm;obtain⟨z0,z1,z2,z3,z4⟩:=QA.out.at5;have y1:=QA.out.free 1;go_upto_region 28 with fail
       clear z0 z1 z2 z3 z4 y1;obtain⟨w10,hnw⟩:=eX (w9.setCell ⟨lb,1,none⟩ (.slice xa xm xc))
       try rw[hnw]
       have QA:=lH (show jj lb _ w10 by rw[←hnw];exact QA.out.set (j:=1) (u:=.slice xa xm xc) (by show 1<5;omega));simp only[List.set] at QA;obtain⟨OW,J2,HZ,RD⟩:=lH4 (show Own jh 49 w10 (lb+1) _ _ by rw[←hnw];exact OW.out.setCell_below (a:=⟨lb,1,none⟩) (by show lb<lb+1;omega) _) (show Kept wK w10 by rw[←hnw];exact(show Below wK.heap.size wK w9 from J2.out).setCell (p:=⟨lb,1,none⟩) (by show wK.heap.size≤lb;have:=VF.out;omega) _) (show jj Q [.string ⟨#[]⟩,.slice none 0 0,.slice none 0 0,.int .i64 0,.int .i64 0] w10 by rw[←hnw];exact HZ.out.other (by have:=UR.out;omega)) (show Vec.Reads w10 _ pm by rw[←hnw];exact RD.out.grow (by simp[World.setCell]) (fun b o sp e=>Below.heap_setCell _ ⟨lb,1,none⟩ _ b (by show b≠lb;have:=(RB.out b o sp e).1;have:=Uq.out;omega)));clear hnw;have VC:=lH (show j7 w10 (.slice xa xm xc) (.slice av j cv) (jS s) from⟨by show (bytes (w3L s 0)).size≤maxLen;rw[ZT];have:=TH.out.1;unfold maxLen;omega,by show Vec.Reads w10 _ (Vec.jH (w3L s 1)).2;rw[Um.out];exact RD.out,by show Reads jh w10 _ ((ju s).map jq);rw[←R2.out];exact OW.out.reads,by show I64 (Vec.valL (jx s 0):Int);rw[←Rk.out];exact zJ _,by show I64 (Vec.valL (jx s 1):Int);rw[←Rl.out];exact zJ _⟩);obtain⟨c2,hc2⟩:=eX (jF (jS s))
       have Vi:=lH hc2;have Vv:=lH (Xo (jS s) (.slice xa xm xc) (.slice av j cv) w10 VC.out);rw[hc2] at Vv;unfold Ji jS at Vv;dsimp only at Vv;clear hc2;obtain⟨z0,z1,z2,z3,z4⟩:=QA.out.at5;go_wp2_with fail
       refine Vv.out.mono ?_;rintro e w11 ⟨rfl,kk⟩;clear Vv z0 z1 z2 z3 z4;obtain⟨QA,VC,J2,HZ,TM⟩:=lH5 (QA.out.kept kk) (VC.out.kept kk) (J2.out.trans kk) (HZ.out.kept kk) (show ∀b off sp,av=some ⟨b,off,sp⟩→lb+1≤b from fun b off sp e=>(OW.out.1.lt b (by subst e;rfl)).1);clear kk;by_cases hz2:c2=0
       case neg =>
        have hz2':(c2 != 0)=true:=by simpa using hz2
        have HF:=lH (jaq Vn.out VI.out (by rw[Um.out]) Vi.out hz2);have K:=lH (K.out.trans J2.out);clear hz2;obtain⟨z0,z1,z2,z3,z4⟩:=HZ.out.at5;have e0:=HZ.out.free 0;have e1:=HZ.out.free 1;have e2:=HZ.out.free 2;have e3:=HZ.out.free 3;have e4:=HZ.out.free 4;have PP:=lH (zl (vs:=[.string ⟨#[]⟩,.slice none 0 0,.slice none 0 0,.int .i64 0,.int .i64 0]) HZ.out rfl);obtain⟨WE,hWE⟩:=eX (w11.setCells Q 0 [.string ⟨#[]⟩,.slice none 0 0,.slice none 0 0,.int .i64 0,.int .i64 0])
        have hWE2:(((((w11.setCell ⟨Q,0,none⟩ (.string ⟨#[]⟩)).setCell ⟨Q,1,none⟩ (.slice none 0 0)).setCell ⟨Q,2,none⟩ (.slice none 0 0)).setCell ⟨Q,3,none⟩ (.int .i64 0)).setCell ⟨Q,4,none⟩ (.int .i64 0))=WE:=hWE;rw[hWE] at PP;have EWE:=lH hWE2;clear hWE hWE2;go_wp2;try rw[EWE.out]
        have PC:=PP.out.cells;refine bodyPost_ret (by simp[results,Tryz.results26,go_sem,PC.at_ 0 _ rfl,PC.at_ 1 _ rfl,PC.at_ 2 _ rfl,PC.at_ 3 _ rfl,PC.at_ 4 _ rfl];try rfl) rfl ?_;exact⟨.agg #[.string ⟨#[]⟩,.slice none 0 0,.slice none 0 0,.int .i64 0,.int .i64 0],by rw[HF.out],by rw[HF.out];exact⟨_,_,rfl,Jw _⟩,PP.out.below _ _ (by rw[HQ.out];exact Nat.le_refl _) K.out⟩
       subst hz2;have HG:=lH (qu Vn.out VI.out (by rw[Um.out]) Vi.out);obtain⟨z0,z1,z2,z3,z4⟩:=QA.out.at5;obtain⟨x0,x1,x2,x3,x4⟩:=HZ.out.at5;have e0:=HZ.out.free 0;have e1:=HZ.out.free 1;have e2:=HZ.out.free 2;have e3:=HZ.out.free 3;have e4:=HZ.out.free 4;have PP:=lH (zl (vs:=[.string (bytes (w3L s 0)),.slice xa xm xc,.slice av j cv,.int .i64 (Vec.valL (jx s 0):Int),.int .i64 (Vec.valL (jx s 1):Int)]) HZ.out rfl);obtain⟨WE,hWE⟩:=eX (w11.setCells Q 0 [.string (bytes (w3L s 0)),.slice xa xm xc,.slice av j cv,.int .i64 (Vec.valL (jx s 0):Int),.int .i64 (Vec.valL (jx s 1):Int)])
       have hWE2:(((((w11.setCell ⟨Q,0,none⟩ (.string (bytes (w3L s 0)))).setCell ⟨Q,1,none⟩ (.slice xa xm xc)).setCell ⟨Q,2,none⟩ (.slice av j cv)).setCell ⟨Q,3,none⟩ (.int .i64 (Vec.valL (jx s 0):Int))).setCell ⟨Q,4,none⟩ (.int .i64 (Vec.valL (jx s 1):Int)))=WE:=hWE;rw[hWE] at PP;have EWE:=lH hWE2;clear hWE hWE2;go_wp2;try rw[EWE.out]
       have PC:=PP.out.cells;refine bodyPost_ret (by simp[results,Tryz.results26,go_sem,PC.at_ 0 _ rfl,PC.at_ 1 _ rfl,PC.at_ 2 _ rfl,PC.at_ 3 _ rfl,PC.at_ 4 _ rfl];try rfl) rfl ?_;exact⟨.agg #[.string (bytes (w3L s 0)),.slice xa xm xc,.slice av j cv,.int .i64 (Vec.valL (jx s 0):Int),.int .i64 (Vec.valL (jx s 1):Int)],by rw[HG.out],by rw[HG.out];exact⟨_,_,rfl,⟨VC.out.size,VC.out.unit.far PP.out.size (fun b o sp e=>PP.out.far b (by have:=(RB.out b o sp e).1;have:=Uq.out;have:=UR.out;omega)),VC.out.rungs.far PP.out.size (fun b o sp e=>PP.out.far b (by have:=TM.out b o sp e;have:=UR.out;omega)),VC.out.lo,VC.out.hi⟩⟩,PP.out.below _ _ (by rw[HQ.out];exact Nat.le_refl _) (K.out.trans J2.out)⟩
def zB (c:UInt8):List (List UInt8)→List UInt8
 | []=>[]
 | [x]=>x
 | x::y::t=>x++c::zB c (y::t)
theorem X5 (c b:UInt8) (p:List UInt8):∀q:List (List UInt8),zB c ((b::p)::q)=b::zB c (p::q)
 | []=>rfl
 | y::t=>rfl
theorem zS (c:UInt8):∀s:List UInt8,zB c (ja c s)=s
 | []=>rfl
 | b::t=>by
  have ih:=zS c t;have hne:=jY c t;unfold ja;by_cases h:b=c
  · rw[if_pos h]
    cases hp:ja c t with
    | nil=>exact absurd hp hne
    | cons p q =>
     rw[hp] at ih;show []++c::zB c (p::q)=b::t;rw[ih,h];rfl
  · rw[if_neg h]
    cases hp:ja c t with
    | nil=>exact absurd hp hne
    | cons p q =>
     rw[hp] at ih;show zB c ((b::p)::q)=b::t;rw[X5,ih]
theorem ZO:∀(r:List (List UInt8)) (x:List UInt8),zB 32 (x::r)=x++r.flatMap (fun p=>32::p)
 | [],x=>by simp[zB]
 | y::t,x=>by
  show x++32::zB 32 (y::t)=_;rw[ZO t];simp
theorem jal {p:List UInt8} (h:jA 58 3 p=true):zk (jq p)=p:=by
 have e:=jaX h;have hd:=(Jb h).2;have j:=zS 58 p;rw[e] at j hd;unfold zk jq;dsimp only;rw[Vec.zW (hd _ (by simp)),Vec.zW (hd _ (by simp)),Vec.zW (hd _ (by simp))];exact j
theorem jbq {s:List UInt8} (h:jA 47 2 (w3L s 2)=true):Jl (Vec.valL (jx s 0):Int) (Vec.valL (jx s 1):Int)=w3L s 2:=by
 have e:=jbe h;have hd:=(Jb h).2;have j:=zS 47 (w3L s 2);rw[e] at j hd;unfold Jl jx;rw[Vec.zW (hd _ (by simp)),Vec.zW (hd _ (by simp))];exact j
theorem Y9 {s:List UInt8} (h:(jd s).1=0):jR s=true∧zm s=true∧(Vec.jH (w3L s 1)).1=0∧jF (jS s)=0∧(jd s).2=jS s:=by
 cases h1:jR s with
 | false=>rw[ZA h1] at h;cases h
 | true =>
  cases h2:zm s with
  | false=>rw[qk h1 h2] at h;cases h
  | true =>
   by_cases h3:(Vec.jH (w3L s 1)).1=0
   · by_cases h4:jF (jS s)=0
     · exact⟨rfl,rfl,h3,h4,by rw[qu h1 h2 h3 h4]⟩
     · rw[jaq h1 h2 h3 rfl h4] at h;exact absurd h h4
   · rw[jap h1 h2 rfl h3] at h;exact absurd h h3
theorem ja0 {s:List UInt8} (h:(jd s).1=0):Zo (jd s).2=s:=by
 obtain⟨h1,h2,h3,h4,h5⟩:=Y9 h;rw[h5,jaK];unfold jR at h1;simp only[Bool.and_eq_true,decide_eq_true_eq] at h1;obtain⟨hl,hd,hf⟩:=h1;have hp:ja 32 s=w3L s 0::w3L s 1::w3L s 2::ju s:=by
  unfold w3L ju
  match hq:ja 32 s,hl with
  | a::b::c::t,_=>rfl
 have j:=zS 32 s;rw[hp] at j;have j2:w3L s 0++32::(w3L s 1++32::zB 32 (w3L s 2::ju s))=s:=j;rw[ZO] at j2;have ht:JZ (jS s).rungs=(ju s).flatMap (fun p=>32::p):=by
  show JZ ((ju s).map jq)=_;unfold JZ;rw[List.flatMap_map];have hall:∀p ∈ ju s,zk (jq p)=p:=fun p hp=>jal (by
   unfold j3 at hf;exact List.all_eq_true.1 hf p hp)
  rw[List.flatMap_def,List.flatMap_def];exact congrArg _ (List.map_congr_left fun p hp=>by rw[hall p hp])
 rw[ht];unfold qI jS;dsimp only;rw[Js,Vec.YM _ h3,jbq hd];simpa using j2
theorem jbB {s:List UInt8} (hs:s.length≤500):(jd s).2.unit.length≤1000∧(jd s).2.rungs.length≤1000:=by
 by_cases h:(jd s).1=0
 · obtain⟨h1,h2,h3,h4,h5⟩:=Y9 h;rw[h5];have h8:=XL h4;have hr:=(qO (Zq h4).2.2.2).1;exact⟨by omega,by omega⟩
 · rw[JC h];exact⟨by simp[Lad.zero],by simp[Lad.zero]⟩
theorem jcD {s:List UInt8} (i:Nat):(w3L s i).length≤s.length:=by
 unfold w3L;rw[List.getD_eq_getElem?_getD]
 cases h:(ja 32 s)[i]? with
 | none=>simp
 | some p=>simpa using jz 32 s p (List.mem_of_getElem? h)
theorem LadderWords_walk (x:ByteArray) (w:World) (hE:Vec.zc w) (hx:x.size≤maxLen):Calls Tryz.prog 4 #[.string x] w fun e w'=>e=.returned (.bool true)∧Kept w w':=by
 obtain⟨s,rfl⟩:∃s,x=bytes s:=⟨_,(qG x).symm⟩
 have hsz:=ZT s;unfold maxLen at hx;have HE:=lH hE;clear hE;go_enter Tryz.func4,Tryz.ntmps4;go_wp2_with fail
 refine(XW _ HE.out).mono ?_;rintro e w1 ⟨rfl,kk⟩;have HK:=lH kk;have HE:=lH (HE.out.kept kk);clear kk;by_cases h5:500<(bytes s).size
 case pos =>
  have h5i:(500:Int)<((bytes s).size:Int):=by omega
  go_wp2;go_ret;exact⟨rfl,HK.out⟩
 have h5i:¬(500:Int)<((bytes s).size:Int):=by omega
 have Uq:=lH (show s.length≤500 by omega);obtain⟨Vo,Vs,V1⟩:=lH3 (JB s w1 HE.out (by have:=Uq.out;omega)) (fun W=>Xu s W (by have:=Uq.out;omega)) (jbB Uq.out);obtain⟨⟨pc,n⟩,hpn⟩:∃z,jd s=z:=⟨_,rfl⟩
 have UT:=lH hpn;rw[hpn] at Vo Vs V1;unfold XB at Vo;unfold qi at Vs;dsimp only at Vo Vs V1;clear hpn hsz h5 hx;go_wp2_with fail
 refine Vo.out.mono ?_;rintro e w2 ⟨pv,rfl,⟨g1,k1,h1,g2,k2,h2,rfl,hpa,-,-⟩,kk⟩;obtain⟨Vp,HK,HE⟩:=lH3 hpa (HK.out.trans kk) (HE.out.kept kk);clear hpa kk Vo;obtain⟨w3,hw3⟩:=eX (w2.alloc (.cells #[.string n.what,.slice g1 k1 h1,.slice g2 k2 h2,.int .i64 n.lo,.int .i64 n.hi] 26))
 have kk:Kept w2 w3:=by rw[←hw3];exact jb _ _
 obtain⟨hb,hhb⟩:=eX (w2.heap.size)
 obtain⟨HH,Vp,HK,HE,EW3,EHB⟩:=lH6 (show jj hb [.string n.what,.slice g1 k1 h1,.slice g2 k2 h2,.int .i64 n.lo,.int .i64 n.hi] w3 by rw[←hhb];exact js w2 (.string n.what) [.slice g1 k1 h1,.slice g2 k2 h2,.int .i64 n.lo,.int .i64 n.hi] 26 w3 (by rw[hw3];exact Kept.refl _)) (Vp.out.kept kk) (HK.out.trans kk) (HE.out.kept kk) hw3 hhb;clear kk hw3 hhb;go_upto_region 6 with fail
 try rw[EW3.out]
 try rw[EHB.out]
 clear EW3 EHB;go_wp2_with fail
 refine(Vs.out _).mono ?_;rintro e w4 ⟨qv,rfl,⟨q1,q2,rfl,hqa⟩,kk⟩;obtain⟨b1,d1,rfl,-⟩:=id hqa.unit;obtain⟨b2,d2,rfl,-⟩:=id hqa.rungs;obtain⟨m1,hm1⟩:=eX (n.unit.length)
 obtain⟨m2,hm2⟩:=eX (n.rungs.length)
 rw[hm1,hm2] at hqa;unfold Ji;rw[hm1,hm2];clear hm1 hm2;obtain⟨V2,HH,Vp,HK,HE⟩:=lH5 hqa (HH.out.kept kk) (Vp.out.kept kk) (HK.out.trans kk) (HE.out.kept kk);clear hqa kk Vs;obtain⟨w5,hw5⟩:=eX (w4.alloc (.cells #[.string n.what,.slice b1 m1 d1,.slice b2 m2 d2,.int .i64 n.lo,.int .i64 n.hi] 35))
 have kk:Kept w4 w5:=by rw[←hw5];exact jb _ _
 obtain⟨xb,hxb⟩:=eX (w4.heap.size)
 obtain⟨VT,HH,V2,Vp,HK,HE,EW5,EXB⟩:=lH8 (show jj xb [.string n.what,.slice b1 m1 d1,.slice b2 m2 d2,.int .i64 n.lo,.int .i64 n.hi] w5 by rw[←hxb];exact js w4 (.string n.what) [.slice b1 m1 d1,.slice b2 m2 d2,.int .i64 n.lo,.int .i64 n.hi] 35 w5 (by rw[hw5];exact Kept.refl _)) (HH.out.kept kk) (V2.out.kept kk) (Vp.out.kept kk) (HK.out.trans kk) (HE.out.kept kk) hw5 hxb;clear kk hw5 hxb;go_upto_region 7 with fail
 try rw[EW5.out]
 try rw[EXB.out]
 clear EW5 EXB;obtain⟨wd,hwd⟩:=eX (w5.drew)
 have kk:Kept w5 wd:=by rw[←hwd];exact Kept.drew w5
 obtain⟨HH,VT,V2,Vp,HE,HK⟩:=lH6 (HH.out.kept kk) (VT.out.kept kk) (V2.out.kept kk) (Vp.out.kept kk) (HE.out.kept kk) (HK.out.trans kk);clear kk;refine wp_region_held_drew (S:=fun W=>(W.cell? ⟨hb,0,none⟩=some (.string n.what)∧W.cell? ⟨hb,1,none⟩=some (.slice g1 k1 h1)∧W.cell? ⟨hb,2,none⟩=some (.slice g2 k2 h2)∧W.cell? ⟨hb,3,none⟩=some (.int .i64 n.lo)∧W.cell? ⟨hb,4,none⟩=some (.int .i64 n.hi))∧(W.cell? ⟨xb,0,none⟩=some (.string n.what)∧W.cell? ⟨xb,1,none⟩=some (.slice b1 m1 d1)∧W.cell? ⟨xb,2,none⟩=some (.slice b2 m2 d2)∧W.cell? ⟨xb,3,none⟩=some (.int .i64 n.lo)∧W.cell? ⟨xb,4,none⟩=some (.int .i64 n.hi))) (by kernel_rfl) (by rw[hwd];exact⟨HH.out.at5,VT.out.at5⟩) (fun hHeld=>?_);rw[hwd] at hHeld;try rw[hwd]
 clear hwd;refine tR 0 rfl (by kernel_rfl) (fun _ _ _=>id) (Or.inl ⟨by rfl,(by intro W hSw;obtain⟨⟨s0,s1,s2,s3,s4⟩,⟨t0,t1,t2,t3,t4⟩⟩:=hSw;go_simp<;>with_reducible rfl)⟩) ‹_› ?_;try simp only[nA,nB,nC,nD,nE]
 refine tR 1 rfl (by kernel_rfl) (fun _ _ _=>id) (Or.inl ⟨by rfl,(by intro W hSw;obtain⟨⟨s0,s1,s2,s3,s4⟩,⟨t0,t1,t2,t3,t4⟩⟩:=hSw;go_simp<;>with_reducible rfl)⟩) ‹_› ?_;try simp only[nA,nB,nC,nD,nE]
 refine tR 2 rfl (by kernel_rfl) (fun _ _ _=>id) (Or.inl ⟨by rfl,(by intro W hSw;obtain⟨⟨s0,s1,s2,s3,s4⟩,⟨t0,t1,t2,t3,t4⟩⟩:=hSw;go_simp<;>with_reducible rfl)⟩) ‹_› ?_;try simp only[nA,nB,nC,nD,nE]
 refine tR 3 rfl (by kernel_rfl) (fun _ _ _=>id) (Or.inl ⟨by rfl,(by intro W hSw;obtain⟨⟨s0,s1,s2,s3,s4⟩,⟨t0,t1,t2,t3,t4⟩⟩:=hSw;go_simp<;>with_reducible rfl)⟩) ‹_› ?_;try simp only[nA,nB,nC,nD,nE]
 refine tR 4 rfl (by kernel_rfl) (fun _ _ _=>id) (Or.inl ⟨by rfl,(by intro W hSw;obtain⟨⟨s0,s1,s2,s3,s4⟩,⟨t0,t1,t2,t3,t4⟩⟩:=hSw;go_simp<;>with_reducible rfl)⟩) ‹_› ?_;try simp only[nA,nB,nC,nD,nE]
 refine tR 6 rfl (by kernel_rfl) (fun _ _ _=>id) (Or.inl ⟨by rfl,(by intro W hSw;obtain⟨⟨s0,s1,s2,s3,s4⟩,⟨t0,t1,t2,t3,t4⟩⟩:=hSw;go_simp<;>with_reducible rfl)⟩) ‹_› ?_;try simp only[nA,nB,nC,nD,nE]
 refine rd1 5 fun K9 Ky=>?_;go_simp;refine(jbw n g1 g2 k1 h1 k2 h2 _ Vp.out V1.out.1 V1.out.2).mono ?_;rintro e w6 ⟨yv,rfl,hy,kk⟩;have HY:=lH hy.toR;clear hy;obtain⟨HH,VT,V2,Vp,HE,HK⟩:=lH6 (HH.out.kept kk) (VT.out.kept kk) (V2.out.kept kk) (Vp.out.kept kk) (HE.out.kept kk) (HK.out.trans kk);clear kk;refine Ky.out _ _ (⟨HH.out.at5,VT.out.at5⟩) (fun _=>?_);clear Ky K9;try simp only[nA,nB,nC,nD,nE]
 refine rd1 7 fun K9 Ky=>?_;go_simp;refine(jbY (u:=.agg #[.string n.what,.slice b1 m1 d1,.slice b2 m2 d2,.int .i64 n.lo,.int .i64 n.hi]) HY.out ⟨_,_,rfl,V2.out⟩).mono ?_;rintro e w7 ⟨rfl,kk⟩;obtain⟨HH,VT,V2,Vp,HE,HK⟩:=lH6 (HH.out.kept kk) (VT.out.kept kk) (V2.out.kept kk) (Vp.out.kept kk) (HE.out.kept kk) (HK.out.trans kk);clear kk;refine Ky.out _ _ (⟨HH.out.at5,VT.out.at5⟩) (fun _=>?_);clear Ky K9;try simp only[nA,nB,nC,nD,nE]
 refine tR 8 rfl (by kernel_rfl) (fun _ _ _=>id) (Or.inl ⟨by rfl,(by intro W hSw;obtain⟨⟨s0,s1,s2,s3,s4⟩,⟨t0,t1,t2,t3,t4⟩⟩:=hSw;go_simp<;>with_reducible rfl)⟩) ‹_› ?_;try simp only[nA,nB,nC,nD,nE]
 refine tR 9 rfl (by kernel_rfl) (fun _ _ _=>id) (Or.inl ⟨by rfl,(by intro W hSw;obtain⟨⟨s0,s1,s2,s3,s4⟩,⟨t0,t1,t2,t3,t4⟩⟩:=hSw;go_simp<;>with_reducible rfl)⟩) ‹_› ?_;try simp only[nA,nB,nC,nD,nE]
 refine tR 10 rfl (by kernel_rfl) (fun _ _ _=>id) (Or.inl ⟨by rfl,(by intro W hSw;obtain⟨⟨s0,s1,s2,s3,s4⟩,⟨t0,t1,t2,t3,t4⟩⟩:=hSw;go_simp<;>with_reducible rfl)⟩) ‹_› ?_;try simp only[nA,nB,nC,nD,nE]
 by_cases hpc:pc=0
 · subst hpc;have Uv:=lH (Y9 (s:=s) (by rw[UT.out]));have TN:=lH (ja0 (s:=s) (by rw[UT.out]));rw[UT.out] at TN;dsimp only at TN;have hwz:n.what.size≤1000:=by have h:=Uv.out.2.2.2.2;rw[UT.out] at h;dsimp only at h;rw[h];show (bytes (w3L s 0)).size≤1000;rw[ZT];have:=jcD (s:=s) 0;have:=Uq.out;omega
   have hfv:Vec.Za n.unit=true:=Vec.jaA (by have h:=Uv.out.2.2.2.2;rw[UT.out] at h;dsimp only at h;rw[h];exact(Zq Uv.out.2.2.2.1).2.1) (by obtain⟨_,_,-,-,-,q⟩:=Vp.out.unit;exact q.2.2.1);refine tR 11 rfl (by kernel_rfl) (fun _ _ _=>id) (Or.inl ⟨by rfl,(by intro W hSw;obtain⟨⟨s0,s1,s2,s3,s4⟩,⟨t0,t1,t2,t3,t4⟩⟩:=hSw;go_simp<;>with_reducible rfl)⟩) ‹_› ?_;try simp only[nA,nB,nC,nD,nE]
   refine tR 12 rfl (by kernel_rfl) (fun _ _ _=>id) (Or.inl ⟨by rfl,(by intro W hSw;obtain⟨⟨s0,s1,s2,s3,s4⟩,⟨t0,t1,t2,t3,t4⟩⟩:=hSw;go_simp<;>with_reducible rfl)⟩) ‹_› ?_;try simp only[nA,nB,nC,nD,nE]
   refine tR 13 rfl (by kernel_rfl) (fun _ _ _=>id) (Or.inl ⟨by rfl,(by intro W hSw;obtain⟨⟨s0,s1,s2,s3,s4⟩,⟨t0,t1,t2,t3,t4⟩⟩:=hSw;go_simp<;>with_reducible rfl)⟩) ‹_› ?_;try simp only[nA,nB,nC,nD,nE]
   refine tR 15 rfl (by kernel_rfl) (fun _ _ _=>id) (Or.inl ⟨by rfl,(by intro W hSw;obtain⟨⟨s0,s1,s2,s3,s4⟩,⟨t0,t1,t2,t3,t4⟩⟩:=hSw;go_simp<;>with_reducible rfl)⟩) ‹_› ?_;try simp only[nA,nB,nC,nD,nE]
   refine rd1 14 fun K9 Ky=>?_;go_simp;refine(Yn n (.slice g1 k1 h1) g2 k2 h2 _ HE.out Vp.out hwz hfv V1.out.2).mono ?_;rintro e w8 ⟨rfl,kk⟩;obtain⟨HH,VT,V2,Vp,HE,HK⟩:=lH6 (HH.out.kept kk) (VT.out.kept kk) (V2.out.kept kk) (Vp.out.kept kk) (HE.out.kept kk) (HK.out.trans kk);clear kk;refine Ky.out _ _ (⟨HH.out.at5,VT.out.at5⟩) (fun _=>?_);clear Ky K9;try simp only[nA,nB,nC,nD,nE]
   rw[TN.out];refine tR 16 rfl (by kernel_rfl) (fun _ _ _=>id) (Or.inl ⟨by rfl,(by intro W hSw;obtain⟨⟨s0,s1,s2,s3,s4⟩,⟨t0,t1,t2,t3,t4⟩⟩:=hSw;go_simp<;>with_reducible rfl)⟩) ‹_› ?_;try simp only[nA,nB,nC,nD,nE]
   refine tR 17 rfl (by kernel_rfl) (fun _ _ _=>id) (Or.inl ⟨by rfl,(by intro W hSw;obtain⟨⟨s0,s1,s2,s3,s4⟩,⟨t0,t1,t2,t3,t4⟩⟩:=hSw;go_simp<;>with_reducible rfl)⟩) ‹_› ?_;try simp only[nA,nB,nC,nD,nE]
   refine tR 18 rfl (by kernel_rfl) (fun _ _ _=>id) (Or.inl ⟨by rfl,(by intro W hSw;obtain⟨⟨s0,s1,s2,s3,s4⟩,⟨t0,t1,t2,t3,t4⟩⟩:=hSw;go_simp<;>with_reducible rfl)⟩) ‹_› ?_;try simp only[nA,nB,nC,nD,nE]
   refine tR 19 rfl (by kernel_rfl) (fun _ _ _=>id) (Or.inl ⟨by rfl,(by intro W hSw;obtain⟨⟨s0,s1,s2,s3,s4⟩,⟨t0,t1,t2,t3,t4⟩⟩:=hSw;go_simp<;>with_reducible rfl)⟩) ‹_› ?_;try simp only[nA,nB,nC,nD,nE]
   refine wpAnyH_done (by kernel_rfl) ?_ _;go_wp2;go_ret;exact⟨rfl,HK.out⟩
 · have hpc':(pc != 0)=true:=by simpa using hpc
   refine tR 11 rfl (by kernel_rfl) (fun _ _ _=>id) (Or.inl ⟨by rfl,(by intro W hSw;obtain⟨⟨s0,s1,s2,s3,s4⟩,⟨t0,t1,t2,t3,t4⟩⟩:=hSw;go_simp<;>with_reducible rfl)⟩) ‹_› ?_;try simp only[nA,nB,nC,nD,nE]
   refine tR 12 rfl (by kernel_rfl) (fun _ _ _=>id) (Or.inl ⟨by rfl,(by intro W hSw;obtain⟨⟨s0,s1,s2,s3,s4⟩,⟨t0,t1,t2,t3,t4⟩⟩:=hSw;go_simp<;>with_reducible rfl)⟩) ‹_› ?_;try simp only[nA,nB,nC,nD,nE]
   refine tR 13 (v:=undef) rfl (by kernel_rfl) (fun _ _ _=>id) (Or.inr ⟨by rfl,rfl⟩) ‹_› ?_;try simp only[nA,nB,nC,nD,nE]
   refine tR 14 (v:=undef) rfl (by kernel_rfl) (fun _ _ _=>id) (Or.inr ⟨by rfl,rfl⟩) ‹_› ?_;try simp only[nA,nB,nC,nD,nE]
   refine tR 15 (v:=undef) rfl (by kernel_rfl) (fun _ _ _=>id) (Or.inr ⟨by rfl,rfl⟩) ‹_› ?_;try simp only[nA,nB,nC,nD,nE]
   refine tR 16 (v:=undef) rfl (by kernel_rfl) (fun _ _ _=>id) (Or.inr ⟨by rfl,rfl⟩) ‹_› ?_;try simp only[nA,nB,nC,nD,nE]
   refine tR 17 rfl (by kernel_rfl) (fun _ _ _=>id) (Or.inl ⟨by rfl,(by intro W hSw;obtain⟨⟨s0,s1,s2,s3,s4⟩,⟨t0,t1,t2,t3,t4⟩⟩:=hSw;go_simp<;>with_reducible rfl)⟩) ‹_› ?_;try simp only[nA,nB,nC,nD,nE]
   refine tR 18 rfl (by kernel_rfl) (fun _ _ _=>id) (Or.inl ⟨by rfl,(by intro W hSw;obtain⟨⟨s0,s1,s2,s3,s4⟩,⟨t0,t1,t2,t3,t4⟩⟩:=hSw;go_simp<;>with_reducible rfl)⟩) ‹_› ?_;try simp only[nA,nB,nC,nD,nE]
   refine tR 19 rfl (by kernel_rfl) (fun _ _ _=>id) (Or.inl ⟨by rfl,(by intro W hSw;obtain⟨⟨s0,s1,s2,s3,s4⟩,⟨t0,t1,t2,t3,t4⟩⟩:=hSw;go_simp<;>with_reducible rfl)⟩) ‹_› ?_;try simp only[nA,nB,nC,nD,nE]
   refine wpAnyH_done (by kernel_rfl) ?_ _;go_wp2;go_ret;exact⟨rfl,HK.out⟩
end Go.Proofs.YtnfojaidmnccoaaGreatDoor
