/- C. -/
import Derived.Test.YtibepooajeakfaaGreatG0
import Derived.Test.YtibepooajeakfaaGreatG1
import Derived.Test.YtibepooajeakfaaGreatG2
import Derived.Test.YtibepooajeakfaaGreatG3
import Derived.Test.YtibepooajeakfaaGreatG4
import Derived.Test.YtibepooajeakfaaGreatG5
import Derived.Test.YtibepooajeakfaaGreatG6
import Derived.Test.YtibepooajeakfaaGreatG8
set_option linter.unusedVariables false
set_option maxRecDepth 100000
set_option maxHeartbeats 25600000
namespace Go.Proofs.YtibepooajeakfaaGreat
open Go.RowKit
def JJ (a b:Bd):Bool:=eqS a.name b.name&&(zV a.sel b.sel&&decide (a.floor=b.floor))
def qw (a b:Clu):Bool:=jF Jj a.nodes b.nodes&&(jF zi a.pods b.pods&&jF JJ a.buds b.buds)
theorem Xe {α:Type} {f:α→α→Bool}:∀{l m:List α},l.length≠m.length→jF f l m=false
 | [],[],h=>absurd rfl h
 | [],_::_,_=>rfl
 | _::_,[],_=>rfl
 | x::s,y::t,h=>by rw[jF,Xe (l:=s) (m:=t) (fun e=>h (by rw[List.length_cons,List.length_cons,e])),Bool.and_false]
theorem YT {α:Type} {f:α→α→Bool} (hf:∀x,f x x=true):∀l:List α,jF f l l=true
 | []=>rfl
 | x::t=>by rw[jF,hf,YT hf t];rfl
theorem jgD (a:Bd):JJ a a=true:=by
 unfold JJ;rw[zh,qP,decide_eq_true rfl];rfl
theorem jgH (a:Clu):qw a a=true:=by
 unfold qw;rw[YT jiz,YT jhc,YT jgD];rfl
theorem jdi (a1 a2:Option Addr) (m1 c1 m2 c2:Nat) (n k:Bd) (w:World) (h:zr w (.slice a1 m1 c1) n) (g:zr w (.slice a2 m2 c2) k) :
 Calls Tryz.prog 53 #[JW n (.slice a1 m1 c1),JW k (.slice a2 m2 c2)] w (Say (.bool (JJ n k)) w):=by
 obtain⟨x,s,p⟩:=n;obtain⟨y,t,q⟩:=k;obtain⟨Z,hZ⟩:=eX ((w.alloc (.cells #[.string x,.slice a1 m1 c1,.int .i64 p] 108)).alloc (.cells #[.string y,.slice a2 m2 c2,.int .i64 q] 108))
 have hkz:Kept w Z:=by rw[←hZ];exact jn _ _ _
 have cc:=jc w (.string x) [.slice a1 m1 c1,.int .i64 p] 108 Z (by rw[←hZ];exact ja _ _);have dd:=jc (w.alloc (.cells #[.string x,.slice a1 m1 c1,.int .i64 p] 108)) (.string y) [.slice a2 m2 c2,.int .i64 q] 108 Z (by rw[hZ];exact Kept.refl _);rw[World.size_alloc] at dd;have o0:=cc.at_ 0 _ rfl;have r0:=dd.at_ 0 _ rfl;have o1:=cc.at_ 1 _ rfl;have r1:=dd.at_ 1 _ rfl;have o2:=cc.at_ 2 _ rfl;have r2:=dd.at_ 2 _ rfl;obtain⟨e1,he1⟩:=eX (eqS x y)
 have he1':(x.toList==y.toList)=e1:=he1;obtain⟨e2,he2⟩:=eX (zV s t)
 obtain⟨e3,he3⟩:=eX (decide (p=q))
 have he3':(p==q)=e3:=he3;obtain⟨HV,HE,Vc⟩:=lH3 (show JJ ⟨x,s,p⟩ ⟨y,t,q⟩=(e1&&(e2&&e3)) by unfold JJ;dsimp only;rw[he1,he2,he3]) (fun W (k:Kept Z W)=>YG (h.sel.kept (hkz.trans k)) (g.sel.kept (hkz.trans k)) he2) hkz;clear h g hkz cc dd he1 he2 he3;unfold JW;dsimp only
 cases e1 with
 | false =>
  go_enter Tryz.func53,Tryz.ntmps53;go_wp2;go_ret;exact⟨jd HV.out.symm,by first | exact Vc.out | (rw[hZ];exact Vc.out)⟩
 | true =>
  cases e2 with
  | false =>
   go_enter Tryz.func53,Tryz.ntmps53;go_wp2_with fail
   try rw[hZ]
   refine(HE.out _ (Kept.refl _)).mono ?_;rintro e w1 ⟨rfl,k⟩;have K:=lH k;have cc:=jc w (.string x) [.slice a1 m1 c1,.int .i64 p] 108 w1 (by rw[←hZ] at k;exact(ja _ _).trans k);have dd:=jc (w.alloc (.cells #[.string x,.slice a1 m1 c1,.int .i64 p] 108)) (.string y) [.slice a2 m2 c2,.int .i64 q] 108 w1 (by rw[hZ];exact k);rw[World.size_alloc] at dd;have v0:=cc.at_ 2 _ rfl;have v1:=dd.at_ 2 _ rfl;clear k cc dd;go_wp2;go_ret;exact⟨jd HV.out.symm,Vc.out.trans K.out⟩
  | true =>
   cases e3 <;>
   (go_enter Tryz.func53,Tryz.ntmps53
    go_wp2_with fail
    try rw[hZ]
    refine(HE.out _ (Kept.refl _)).mono ?_;rintro e w1 ⟨rfl,k⟩;have K:=lH k;have cc:=jc w (.string x) [.slice a1 m1 c1,.int .i64 p] 108 w1 (by rw[←hZ] at k;exact(ja _ _).trans k);have dd:=jc (w.alloc (.cells #[.string x,.slice a1 m1 c1,.int .i64 p] 108)) (.string y) [.slice a2 m2 c2,.int .i64 q] 108 w1 (by rw[hZ];exact k);rw[World.size_alloc] at dd;have v0:=cc.at_ 2 _ rfl;have v1:=dd.at_ 2 _ rfl;clear k cc dd;go_wp2;go_ret;exact⟨jd HV.out.symm,Vc.out.trans K.out⟩)
theorem jmj (a a9:Option Addr) (len cap len9 cap9:Nat) (l l9:List Nod) (w:World) (hr:jo w a len l) (hr9:jo w a9 len9 l9) :
 Calls Tryz.prog 48 #[.slice a len cap,.slice a9 len9 cap9,.func (.func 49) #[] #[]] w (Say (.bool (jF Jj l l9)) w):=by
 have hl:=hr.1;have hm:=hr.2.1;have hl9:=hr9.1;have hm9:=hr9.2.1;unfold maxLen at hm hm9;by_cases he:len=len9
 · subst he;obtain⟨HR,UZ,HL,Ui⟩:=lH4 hr hr9 hl hl9;clear hr hr9 hl hl9;go_enter Tryz.func48,Tryz.ntmps48;go_wp2;go_loopw [17] (fun i wr=>∃k:Nat,k≤len∧i=.int .i64 k∧jF Jj (l.drop k) (l9.drop k)=jF Jj l l9∧Kept w wr) (fun i _=>len-(intOf i).toNat)
   case atStart=>exact⟨0,Nat.zero_le _,rfl,rfl,Kept.refl _⟩
   case round =>
    obtain⟨k,hk,rfl,hrest,hK⟩:=hrel;have HT:=lH hrest;have HK:=lH hK;by_cases hlt:k<len
    · obtain⟨b,off,rfl⟩:=HR.out.form.resolve_left (by omega);obtain⟨b9,off9,rfl⟩:=UZ.out.form.resolve_left (by omega);obtain⟨n,a1,m1,c1,a2,m2,c2,a3,m3,c3,hn,hd,hb,p0,p1,p2,p3,p4,hat⟩:=(HR.out.kept hK).at_ hlt;obtain⟨k9,x1,y1,z1,x2,y2,z2,x3,y3,z3,hn9,hd9,hb9,q0,q1,q2,q3,q4,hat9⟩:=(UZ.out.kept hK).at_ hlt;have HD:=lH hd;have VO:=lH hd9;obtain⟨t,ht⟩:=eX (Jj n k9)
      have U0:=lH ht;have HC:=lH (fun W (kk:Kept wr W)=>show Calls Tryz.prog 49 #[zj n (.slice a1 m1 c1) (.slice a2 m2 c2) (.slice a3 m3 c3),zj k9 (.slice x1 y1 z1) (.slice x2 y2 z2) (.slice x3 y3 z3)] W (Say (.bool t) W) from jmt ⟨_,_,_,rfl,hat.kept kk⟩ ⟨_,_,_,rfl,hat9.kept kk⟩ ht);unfold zj at HC;have hkk:(k:Int)<(len:Int):=by omega
      clear hrest hK hat hat9 hn hn9 hd hd9 ht
      cases t with
      | true =>
       have HX:=lH (show jF Jj (l.drop (k+1)) (l9.drop (k+1))=jF Jj l l9 by rw[←HT.out,HD.out,VO.out,jF,U0.out];rfl);go_wp2_with fail
       refine(HC.out _ ((ja _ _).trans (ja _ _))).mono ?_;rintro e w1 ⟨rfl,kk⟩;have KW:=lH (HK.out.trans (((ja _ _).trans (ja _ _)).trans kk));clear kk;go_wp2;go_roundw
       case rel=>exact⟨k+1,by omega,by go_num,HX.out,KW.out⟩
       case measure=>simp[intOf];omega
      | false =>
       have HX:=lH (show jF Jj l l9=false by rw[←HT.out,HD.out,VO.out,jF,U0.out];rfl);go_wp2_with fail
       refine(HC.out _ ((ja _ _).trans (ja _ _))).mono ?_;rintro e w1 ⟨rfl,kk⟩;have KW:=lH (HK.out.trans (((ja _ _).trans (ja _ _)).trans kk));clear kk;go_wp2;go_ret;exact⟨jd HX.out.symm,KW.out⟩
    · have HX:=lH (show jF Jj l l9=true by rw[←hrest,List.drop_of_length_le (by rw[HL.out];omega),List.drop_of_length_le (by rw[Ui.out];omega)];rfl);clear hrest hK;go_wp2;go_ret;exact⟨jd HX.out.symm,HK.out⟩
 · have HX:=lH (show jF Jj l l9=false from Xe (by rw[hl,hl9];exact he));have he':((len:Int) != (len9:Int))=true:=by simpa using (fun e:(len:Int)=(len9:Int)=>he (by omega))
   clear hr hr9 he;go_enter Tryz.func48,Tryz.ntmps48;go_wp2;go_ret;exact⟨jd HX.out.symm,Kept.refl _⟩
theorem jl9 (a a9:Option Addr) (len cap len9 cap9:Nat) (l l9:List Pd) (w:World) (hr:jy w a len l) (hr9:jy w a9 len9 l9) :
 Calls Tryz.prog 50 #[.slice a len cap,.slice a9 len9 cap9,.func (.func 51) #[] #[]] w (Say (.bool (jF zi l l9)) w):=by
 have hl:=hr.1;have hm:=hr.2.1;have hl9:=hr9.1;have hm9:=hr9.2.1;unfold maxLen at hm hm9;by_cases he:len=len9
 · subst he;obtain⟨HR,UZ,HL,Ui⟩:=lH4 hr hr9 hl hl9;clear hr hr9 hl hl9;go_enter Tryz.func50,Tryz.ntmps50;go_wp2;go_loopw [17] (fun i wr=>∃k:Nat,k≤len∧i=.int .i64 k∧jF zi (l.drop k) (l9.drop k)=jF zi l l9∧Kept w wr) (fun i _=>len-(intOf i).toNat)
   case atStart=>exact⟨0,Nat.zero_le _,rfl,rfl,Kept.refl _⟩
   case round =>
    obtain⟨k,hk,rfl,hrest,hK⟩:=hrel;have HT:=lH hrest;have HK:=lH hK;by_cases hlt:k<len
    · obtain⟨b,off,rfl⟩:=HR.out.form.resolve_left (by omega);obtain⟨b9,off9,rfl⟩:=UZ.out.form.resolve_left (by omega);obtain⟨n,a1,m1,c1,a2,m2,c2,a3,m3,c3,a4,m4,c4,hn,hd,hb,p0,p1,p2,p3,p4,p5,p6,p7,p8,p9,p10,hat⟩:=(HR.out.kept hK).at_ hlt;obtain⟨k9,x1,y1,z1,x2,y2,z2,x3,y3,z3,x4,y4,z4,hn9,hd9,hb9,q0,q1,q2,q3,q4,q5,q6,q7,q8,q9,q10,hat9⟩:=(UZ.out.kept hK).at_ hlt;have HD:=lH hd;have VO:=lH hd9;obtain⟨t,ht⟩:=eX (zi n k9)
      have U0:=lH ht;have HC:=lH (fun W (kk:Kept wr W)=>show Calls Tryz.prog 51 #[jx n (.slice a1 m1 c1) (.slice a2 m2 c2) (.slice a3 m3 c3) (.slice a4 m4 c4),jx k9 (.slice x1 y1 z1) (.slice x2 y2 z2) (.slice x3 y3 z3) (.slice x4 y4 z4)] W (Say (.bool t) W) from jmm ⟨_,_,_,_,rfl,hat.kept kk⟩ ⟨_,_,_,_,rfl,hat9.kept kk⟩ ht);unfold jx at HC;have hkk:(k:Int)<(len:Int):=by omega
      clear hrest hK hat hat9 hn hn9 hd hd9 ht
      cases t with
      | true =>
       have HX:=lH (show jF zi (l.drop (k+1)) (l9.drop (k+1))=jF zi l l9 by rw[←HT.out,HD.out,VO.out,jF,U0.out];rfl);go_wp2_with fail
       refine(HC.out _ ((ja _ _).trans (ja _ _))).mono ?_;rintro e w1 ⟨rfl,kk⟩;have KW:=lH (HK.out.trans (((ja _ _).trans (ja _ _)).trans kk));clear kk;go_wp2;go_roundw
       case rel=>exact⟨k+1,by omega,by go_num,HX.out,KW.out⟩
       case measure=>simp[intOf];omega
      | false =>
       have HX:=lH (show jF zi l l9=false by rw[←HT.out,HD.out,VO.out,jF,U0.out];rfl);go_wp2_with fail
       refine(HC.out _ ((ja _ _).trans (ja _ _))).mono ?_;rintro e w1 ⟨rfl,kk⟩;have KW:=lH (HK.out.trans (((ja _ _).trans (ja _ _)).trans kk));clear kk;go_wp2;go_ret;exact⟨jd HX.out.symm,KW.out⟩
    · have HX:=lH (show jF zi l l9=true by rw[←hrest,List.drop_of_length_le (by rw[HL.out];omega),List.drop_of_length_le (by rw[Ui.out];omega)];rfl);clear hrest hK;go_wp2;go_ret;exact⟨jd HX.out.symm,HK.out⟩
 · have HX:=lH (show jF zi l l9=false from Xe (by rw[hl,hl9];exact he));have he':((len:Int) != (len9:Int))=true:=by simpa using (fun e:(len:Int)=(len9:Int)=>he (by omega))
   clear hr hr9 he;go_enter Tryz.func50,Tryz.ntmps50;go_wp2;go_ret;exact⟨jd HX.out.symm,Kept.refl _⟩
theorem jlO (a a9:Option Addr) (len cap len9 cap9:Nat) (l l9:List Bd) (w:World) (hr:j9 w a len l) (hr9:j9 w a9 len9 l9) :
 Calls Tryz.prog 52 #[.slice a len cap,.slice a9 len9 cap9,.func (.func 53) #[] #[]] w (Say (.bool (jF JJ l l9)) w):=by
 have hl:=hr.1;have hm:=hr.2.1;have hl9:=hr9.1;have hm9:=hr9.2.1;unfold maxLen at hm hm9;by_cases he:len=len9
 · subst he;obtain⟨HR,UZ,HL,Ui⟩:=lH4 hr hr9 hl hl9;clear hr hr9 hl hl9;go_enter Tryz.func52,Tryz.ntmps52;go_wp2;go_loopw [17] (fun i wr=>∃k:Nat,k≤len∧i=.int .i64 k∧jF JJ (l.drop k) (l9.drop k)=jF JJ l l9∧Kept w wr) (fun i _=>len-(intOf i).toNat)
   case atStart=>exact⟨0,Nat.zero_le _,rfl,rfl,Kept.refl _⟩
   case round =>
    obtain⟨k,hk,rfl,hrest,hK⟩:=hrel;have HT:=lH hrest;have HK:=lH hK;by_cases hlt:k<len
    · obtain⟨b,off,rfl⟩:=HR.out.form.resolve_left (by omega);obtain⟨b9,off9,rfl⟩:=UZ.out.form.resolve_left (by omega);obtain⟨n,a1,m1,c1,hn,hd,hb,p0,p1,p2,hat⟩:=(HR.out.kept hK).at_ hlt;obtain⟨k9,x1,y1,z1,hn9,hd9,hb9,q0,q1,q2,hat9⟩:=(UZ.out.kept hK).at_ hlt;have HD:=lH hd;have VO:=lH hd9;obtain⟨t,ht⟩:=eX (JJ n k9)
      have U0:=lH ht;have HC:=lH (fun W (kk:Kept wr W)=>show Calls Tryz.prog 53 #[JW n (.slice a1 m1 c1),JW k9 (.slice x1 y1 z1)] W (Say (.bool t) W) from by rw[←ht];exact jdi a1 x1 m1 c1 y1 z1 n k9 W (hat.kept kk) (hat9.kept kk));unfold JW at HC;have hkk:(k:Int)<(len:Int):=by omega
      clear hrest hK hat hat9 hn hn9 hd hd9 ht
      cases t with
      | true =>
       have HX:=lH (show jF JJ (l.drop (k+1)) (l9.drop (k+1))=jF JJ l l9 by rw[←HT.out,HD.out,VO.out,jF,U0.out];rfl);go_wp2_with fail
       refine(HC.out _ ((ja _ _).trans (ja _ _))).mono ?_;rintro e w1 ⟨rfl,kk⟩;have KW:=lH (HK.out.trans (((ja _ _).trans (ja _ _)).trans kk));clear kk;go_wp2;go_roundw
       case rel=>exact⟨k+1,by omega,by go_num,HX.out,KW.out⟩
       case measure=>simp[intOf];omega
      | false =>
       have HX:=lH (show jF JJ l l9=false by rw[←HT.out,HD.out,VO.out,jF,U0.out];rfl);go_wp2_with fail
       refine(HC.out _ ((ja _ _).trans (ja _ _))).mono ?_;rintro e w1 ⟨rfl,kk⟩;have KW:=lH (HK.out.trans (((ja _ _).trans (ja _ _)).trans kk));clear kk;go_wp2;go_ret;exact⟨jd HX.out.symm,KW.out⟩
    · have HX:=lH (show jF JJ l l9=true by rw[←hrest,List.drop_of_length_le (by rw[HL.out];omega),List.drop_of_length_le (by rw[Ui.out];omega)];rfl);clear hrest hK;go_wp2;go_ret;exact⟨jd HX.out.symm,HK.out⟩
 · have HX:=lH (show jF JJ l l9=false from Xe (by rw[hl,hl9];exact he));have he':((len:Int) != (len9:Int))=true:=by simpa using (fun e:(len:Int)=(len9:Int)=>he (by omega))
   clear hr hr9 he;go_enter Tryz.func52,Tryz.ntmps52;go_wp2;go_ret;exact⟨jd HX.out.symm,Kept.refl _⟩
theorem jiD (a b d a9 b9 d9:Option Addr) (len cap m c n e len9 cap9 m9 c9 n9 e9:Nat) (nl nl9:List Nod) (pl pl9:List Pd) (bl bl9:List Bd) (w:World) (h1:jo w a len nl) (h2:jy w b m pl) (h3:j9 w d n bl) (g1:jo w a9 len9 nl9) (g2:jy w b9 m9 pl9) (g3:j9 w d9 n9 bl9) :
 Calls Tryz.prog 19 #[.agg #[.slice a len cap,.slice b m c,.slice d n e],.agg #[.slice a9 len9 cap9,.slice b9 m9 c9,.slice d9 n9 e9]] w (Say (.bool (qw ⟨nl,pl,bl⟩ ⟨nl9,pl9,bl9⟩)) w):=by
 obtain⟨Z,hZ⟩:=eX ((w.alloc (.cells #[.slice a len cap,.slice b m c,.slice d n e] 26)).alloc (.cells #[.slice a9 len9 cap9,.slice b9 m9 c9,.slice d9 n9 e9] 26))
 have hkz:Kept w Z:=by rw[←hZ];exact jn _ _ _
 have HS:=lH (show ∀W,Kept Z W→W.cell? ⟨w.heap.size,0,none⟩=some (.slice a len cap)∧W.cell? ⟨w.heap.size,1,none⟩=some (.slice b m c)∧W.cell? ⟨w.heap.size,2,none⟩=some (.slice d n e)∧W.cell? ⟨w.heap.size+1,0,none⟩=some (.slice a9 len9 cap9)∧W.cell? ⟨w.heap.size+1,1,none⟩=some (.slice b9 m9 c9)∧W.cell? ⟨w.heap.size+1,2,none⟩=some (.slice d9 n9 e9) from fun W k=>by
  have cc:=jc w (.slice a len cap) [.slice b m c,.slice d n e] 26 W (by rw[←hZ] at k;exact(ja _ _).trans k);have dd:=jc (w.alloc (.cells #[.slice a len cap,.slice b m c,.slice d n e] 26)) (.slice a9 len9 cap9) [.slice b9 m9 c9,.slice d9 n9 e9] 26 W (by rw[hZ];exact k);rw[World.size_alloc] at dd;exact⟨cc.at_ 0 _ rfl,cc.at_ 1 _ rfl,cc.at_ 2 _ rfl,dd.at_ 0 _ rfl,dd.at_ 1 _ rfl,dd.at_ 2 _ rfl⟩)
 obtain⟨e1,he1⟩:=eX (jF Jj nl nl9)
 obtain⟨e2,he2⟩:=eX (jF zi pl pl9)
 obtain⟨e3,he3⟩:=eX (jF JJ bl bl9)
 obtain⟨HV,H1,H2,H3⟩:=lH4 (show qw ⟨nl,pl,bl⟩ ⟨nl9,pl9,bl9⟩=(e1&&(e2&&e3)) by unfold qw;dsimp only;rw[he1,he2,he3]) (fun W (k:Kept Z W)=>jmj a a9 len cap len9 cap9 nl nl9 W (h1.kept (hkz.trans k)) (g1.kept (hkz.trans k))) (fun W (k:Kept Z W)=>jl9 b b9 m c m9 c9 pl pl9 W (h2.kept (hkz.trans k)) (g2.kept (hkz.trans k))) (fun W (k:Kept Z W)=>jlO d d9 n e n9 e9 bl bl9 W (h3.kept (hkz.trans k)) (g3.kept (hkz.trans k)));rw[he1] at H1;rw[he2] at H2;rw[he3] at H3;have Vc:=lH hkz;clear h1 h2 h3 g1 g2 g3 hkz he1 he2 he3;obtain⟨o0,o1,o2,o3,o4,o5⟩:=HS.out _ (Kept.refl _);go_enter Tryz.func19,Tryz.ntmps19;go_wp2_with fail
 try rw[hZ]
 refine(H1.out _ (Kept.refl _)).mono ?_;rintro e w1 ⟨rfl,kk⟩;have J1:=lH kk;clear kk o0 o1 o2 o3 o4 o5;obtain⟨o0,o1,o2,o3,o4,o5⟩:=HS.out _ J1.out
 cases e1 with
 | false =>
  go_wp2;go_ret;exact⟨jd HV.out.symm,Vc.out.trans J1.out⟩
 | true =>
  go_wp2_with fail
  try rw[hZ]
  refine(H2.out _ J1.out).mono ?_;rintro e w2 ⟨rfl,kk⟩;have J2:=lH (J1.out.trans kk);clear kk o0 o1 o2 o3 o4 o5;obtain⟨o0,o1,o2,o3,o4,o5⟩:=HS.out _ J2.out
  cases e2 with
  | false =>
   go_wp2;go_ret;exact⟨jd HV.out.symm,Vc.out.trans J2.out⟩
  | true =>
   go_wp2_with fail
   try rw[hZ]
   refine(H3.out _ J2.out).mono ?_;rintro e w3 ⟨rfl,kk⟩;have J3:=lH (J2.out.trans kk);clear kk;go_wp2;go_ret;exact⟨jd HV.out.symm,Vc.out.trans J3.out⟩
theorem jmN {v u:Value} {s t:Clu} {c:Bool} {w:World} (h:jC w v s) (g:jC w u t) (hc:qw s t=c):Calls Tryz.prog 19 #[v,u] w (Say (.bool c) w):=by
 subst hc;obtain⟨v1,v2,v3,rfl,⟨a,cap,rfl,_,_,h1⟩,⟨b,cp,rfl,_,_,h2⟩,⟨d,cb,rfl,_,_,h3⟩⟩:=h;obtain⟨u1,u2,u3,rfl,⟨a9,cap9,rfl,_,_,g1⟩,⟨b9,cp9,rfl,_,_,g2⟩,⟨d9,cb9,rfl,_,_,g3⟩⟩:=g;exact jiD a b d a9 b9 d9 _ cap _ cp _ cb _ cap9 _ cp9 _ cb9 s.nodes t.nodes s.pods t.pods s.buds t.buds w h1 h2 h3 g1 g2 g3
def Z6 (n:Nod):Bool:=decide (n.name.size≤50)&&(Vec.YR n.cap&&(YC n.labels&&Zj n.taints))
theorem jmL {n:Nod} (h:Z6 n=true):zP n:=by
 unfold Z6 at h;simp only[Bool.and_eq_true,decide_eq_true_eq] at h;obtain⟨_,h1,h2,h3⟩:=h;refine⟨?_,?_,?_⟩
 · unfold Vec.YR at h1;simp only[Bool.and_eq_true,decide_eq_true_eq] at h1;omega
 · unfold YC at h2;simp only[Bool.and_eq_true,decide_eq_true_eq] at h2;omega
 · have:=(jho h3).1;omega
theorem jjc (n:Nod) (v1 v2 v3:Value) (w:World) (h:zp w v1 v2 v3 n) :
 Calls Tryz.prog 58 #[zj n v1 v2 v3] w (Say (.bool (Z6 n)) w):=by
 have HB:=lH (show ∀W,Kept (w.alloc (.cells #[.string n.name,v1,v2,v3,.bool n.cordon] 78)) W→W.cell? ⟨w.heap.size,0,none⟩=some (.string n.name)∧W.cell? ⟨w.heap.size,1,none⟩=some v1∧W.cell? ⟨w.heap.size,2,none⟩=some v2∧W.cell? ⟨w.heap.size,3,none⟩=some v3∧W.cell? ⟨w.heap.size,4,none⟩=some (.bool n.cordon) from fun W k=>(Xo w _ _ _ _ _ 78 W k).1);have H:=lH (h.kept (ja w (.cells #[.string n.name,v1,v2,v3,.bool n.cordon] 78)));obtain⟨⟨nm,l1,l2,l3,cd⟩,hnn⟩:∃m,m=n:=⟨n,rfl⟩
 subst hnn;have hsz:nm.size≤maxLen:=h.size;unfold maxLen at hsz;obtain⟨b1,hb1⟩:=eX (Vec.YR l1)
 obtain⟨b2,hb2⟩:=eX (YC l2)
 obtain⟨b3,hb3⟩:=eX (Zj l3)
 obtain⟨HV,H1,H2,H3⟩:=lH4 (show Z6 ⟨nm,l1,l2,l3,cd⟩=(decide (nm.size≤50)&&(b1&&(b2&&b3))) by unfold Z6;dsimp only;rw[hb1,hb2,hb3]) (Vec.jfi H.out.cap hb1) (show Calls Tryz.prog 109 #[v2] _ fun e w'=>e=.returned (.bool b2)∧_=w' by rw[←hb2];exact jfi H.out.labels) (show Calls Tryz.prog 110 #[v3] _ fun e w'=>e=.returned (.bool b3)∧_=w' by rw[←hb3];exact jog H.out.taints);clear h hb1 hb2 hb3 H;dsimp only at HB H1 H2 H3;obtain⟨y0,y1,y2,y3,y4⟩:=HB.out _ (Kept.refl _);unfold zj;dsimp only;by_cases hs:nm.size≤50
 · have hs':decide (nm.size≤50)=true:=decide_eq_true hs;have hsi:(nm.size:Int)≤50:=by omega
   cases b1 with
   | false =>
    go_enter Tryz.func58,Tryz.ntmps58;go_wp2_with fail
    refine H1.out.mono ?_;rintro e w' ⟨rfl,rfl⟩;go_wp2;go_ret;exact⟨jd (by rw[HV.out,hs'];rfl),ja _ _⟩
   | true =>
    cases b2 with
    | false =>
     go_enter Tryz.func58,Tryz.ntmps58;go_wp2_with fail
     refine H1.out.mono ?_;rintro e w' ⟨rfl,rfl⟩;go_wp2_with fail
     refine H2.out.mono ?_;rintro e w' ⟨rfl,rfl⟩;go_wp2;go_ret;exact⟨jd (by rw[HV.out,hs'];rfl),ja _ _⟩
    | true =>
     go_enter Tryz.func58,Tryz.ntmps58;go_wp2_with fail
     refine H1.out.mono ?_;rintro e w' ⟨rfl,rfl⟩;go_wp2_with fail
     refine H2.out.mono ?_;rintro e w' ⟨rfl,rfl⟩;go_wp2_with fail
     refine H3.out.mono ?_;rintro e w' ⟨rfl,rfl⟩;go_wp2;go_ret;exact⟨jd (by rw[HV.out,hs'];cases b3<;>rfl),ja _ _⟩
 · have hs':decide (nm.size≤50)=false:=decide_eq_false hs;have hsi:(50:Int)<(nm.size:Int):=by omega
   go_enter Tryz.func58,Tryz.ntmps58;go_wp2;go_ret;exact⟨jd (by rw[HV.out,hs'];rfl),ja _ _⟩
theorem jnq {v:Value} {n:Nod} {b:Bool} {w:World} (h:jae w v n) (hb:Z6 n=b):Calls Tryz.prog 58 #[v] w (Say (.bool b) w):=by
 subst hb;obtain⟨v1,v2,v3,rfl,h⟩:=h;exact jjc n v1 v2 v3 w h
theorem jix {l:PL} (h:YC l=true):l.length≤20∧∀x ∈ l,x.1.size≤50∧x.2.size≤50:=by
 unfold YC at h;simp only[Bool.and_eq_true,decide_eq_true_eq,List.all_eq_true] at h;refine⟨h.1,fun x hx=>?_⟩;have:=h.2 x hx;unfold Xb at this;simpa only[Bool.and_eq_true,decide_eq_true_eq] using this
theorem ji9 {l:TL} (h:YD l=true):l.length≤20∧∀x ∈ l,x.2.1.size≤50∧x.2.2.size≤50:=by
 unfold YD at h;simp only[Bool.and_eq_true,decide_eq_true_eq,List.all_eq_true] at h;refine⟨h.1,fun x hx=>?_⟩;have:=h.2 x hx;unfold Y5 at this;simpa only[Bool.and_eq_true,decide_eq_true_eq] using this
def JD (n:Pd):Bool:=decide (n.name.size≤50)&&(decide (n.owner.size≤50)&&(decide (n.key.size≤50)&&(decide (n.node.size≤50)&&(Vec.YR n.need&&(YC n.labels&&(YD n.sel&&Zj n.tols))))))
theorem jg2 {n:Pd} (h:JD n=true):n.name.size≤50∧n.owner.size≤50∧n.key.size≤50∧n.node.size≤50∧Vec.YR n.need=true∧YC n.labels=true∧YD n.sel=true∧Zj n.tols=true:=by
 unfold JD at h;simpa only[Bool.and_eq_true,decide_eq_true_eq] using h
def XC (n:Bd):Bool:=decide (n.name.size≤50)&&YD n.sel
def ZK (l:List Bd):Bool:=decide (l.length≤20)&&l.all XC
theorem jfA {l:List Bd} {n:Bd} {k:Nat} (h:l[k]?=some n) (g:XC n=false):ZK l=false:=by
 unfold ZK;have:l.all XC=false:=by
  rw[List.all_eq_false];exact⟨n,List.mem_of_getElem? h,by rw[g];decide⟩
 rw[this];simp
theorem jjC (a:Option Addr) (len cap:Nat) (l:List Bd) (w:World) (hr:j9 w a len l) :
 Calls Tryz.prog 57 #[.slice a len cap] w (Say (.bool (ZK l)) w):=by
 have hl:=hr.1;have hm:=hr.2.1;unfold maxLen at hm;by_cases h20:20<len
 · have HV:=lH (show ZK l=false by unfold ZK;rw[hl];simp;omega);clear hr hl;go_enter Tryz.func57,Tryz.ntmps57;go_wp2;go_ret;exact⟨jd HV.out.symm,Kept.refl _⟩
 · have h20':len≤20:=by omega
   by_cases h0:len=0
   · subst h0;have HV:=lH (show ZK l=true by rw[List.eq_nil_of_length_eq_zero hl];rfl);clear hr hl h20;go_enter Tryz.func57,Tryz.ntmps57;go_wp2;refine wp_loop_rounds 1 ?_;rw[rounds_succ];go_wp2;go_ret;exact⟨jd HV.out.symm,Kept.refl _⟩
   · obtain⟨b,off,rfl⟩:=hr.form.resolve_left h0;have HR:=lH hr;have HL:=lH hl;clear hr hl h0 h20;go_enter Tryz.func57,Tryz.ntmps57;go_wp2;go_loopw [3] (fun i wr=>∃k:Nat,k≤len∧i=.int .i64 k∧(∀n ∈ l.take k,XC n=true)∧Kept w wr) (fun i _=>len-(intOf i).toNat)
     case atStart=>exact⟨0,Nat.zero_le _,rfl,(fun n h=>by cases h),Kept.refl _⟩
     case round =>
      obtain⟨k,hk,rfl,hrest,hK⟩:=hrel;have HS:=lH hrest;have HK:=lH hK;by_cases hlt:k<len
      · obtain⟨n,a1,m1,c1,hn,hd,hb,p0,p1,p2,hat⟩:=(HR.out.kept hK).at_ hlt;have HN:=lH hn;have VH:=lH hat;clear hrest hK hat hd hn;by_cases z:50<n.name.size
        · have z1:(50:Int)<(n.name.size:Int):=by omega
          have HV:=lH (show ZK l=false from jfA HN.out (by unfold XC;simp;omega));clear z;go_wp2;go_ret;exact⟨jd HV.out.symm,HK.out⟩
        · have z1:(n.name.size:Int)≤50:=by omega
          have Z2:=lH (show n.name.size≤50 by omega);clear z
          cases f:YD n.sel with
          | false =>
           have HV:=lH (show ZK l=false from jfA HN.out (by unfold XC;rw[f];simp));have HF:=lH (jdr VH.out.sel);rw[f] at HF;clear f;go_wp2_with fail
           refine HF.out.mono ?_;rintro e w1 ⟨rfl,rfl⟩;go_wp2;go_ret;exact⟨jd HV.out.symm,HK.out⟩
          | true =>
           have HV:=lH (show XC n=true by unfold XC;rw[f];simp;exact Z2.out);have HF:=lH (jdr VH.out.sel);rw[f] at HF;clear f;go_wp2_with fail
           refine HF.out.mono ?_;rintro e w1 ⟨rfl,rfl⟩;go_wp2;go_roundw
           case rel=>exact⟨k+1,by omega,by go_num,(fun x hx=>by
            rw[zI HN.out] at hx;rcases List.mem_append.1 hx with hx | hx
            · exact HS.out x hx
            · obtain rfl:x=n:=by simpa using hx
              exact HV.out),HK.out⟩
           case measure=>simp[intOf];omega
      · have HV:=lH (show ZK l=true by
         have e:l.take k=l:=List.take_of_length_le (by rw[HL.out];omega);rw[e] at hrest;unfold ZK;rw[List.all_eq_true.2 hrest,HL.out];simp;omega)
        clear hrest hK;go_wp2;go_ret;exact⟨jd HV.out.symm,HK.out⟩
theorem jnu {v:Value} {l:List Bd} {c:Bool} {w:World} (h:Ze w v l) (hc:ZK l=c):Calls Tryz.prog 57 #[v] w (Say (.bool c) w):=by
 subst hc;obtain⟨a,cap,rfl,_,_,hr⟩:=h;exact jjC a _ cap l w hr
theorem jkB (n:Pd) (v1 v2 v3 v4:Value) (w:World) (h:ji w v1 v2 v3 v4 n) :
 Calls Tryz.prog 59 #[jx n v1 v2 v3 v4] w (Say (.bool (JD n)) w):=by
 obtain⟨x0,x1,x2,l1,l2,l3,l4,x3,x4,x5,x6⟩:=n;obtain⟨W0,hW0⟩:=eX (w.alloc (.cells #[.string x0,.string x1,.int .i64 x2,v1,v2,v3,v4,.string x3,.int .i64 x4,.string x5,.bool x6] 52))
 have hk0:Kept w W0:=by rw[←hW0];exact ja _ _
 have hc:=jc w (.string x0) [.string x1,.int .i64 x2,v1,v2,v3,v4,.string x3,.int .i64 x4,.string x5,.bool x6] 52 W0 (by rw[hW0];exact Kept.refl _);have s0:x0.size≤maxLen:=h.name;have s1:x1.size≤maxLen:=h.owner;have s2:x3.size≤maxLen:=h.key;have s3:x5.size≤maxLen:=h.node;unfold maxLen at s0 s1 s2 s3;obtain⟨b0,hb0⟩:=eX (decide (x0.size≤50))
 obtain⟨b1,hb1⟩:=eX (decide (x1.size≤50))
 obtain⟨b2,hb2⟩:=eX (decide (x3.size≤50))
 obtain⟨b3,hb3⟩:=eX (decide (x5.size≤50))
 obtain⟨b4,hb4⟩:=eX (Vec.YR l1)
 obtain⟨b5,hb5⟩:=eX (YC l2)
 obtain⟨b6,hb6⟩:=eX (YD l3)
 obtain⟨b7,hb7⟩:=eX (Zj l4)
 obtain⟨VI,E4,E5,E6,E7,Va⟩:=lH6 (show JD ⟨x0,x1,x2,l1,l2,l3,l4,x3,x4,x5,x6⟩=(b0&&(b1&&(b2&&(b3&&(b4&&(b5&&(b6&&b7))))))) by unfold JD;dsimp only;rw[hb0,hb1,hb2,hb3,hb4,hb5,hb6,hb7]) (show Calls Tryz.prog 108 #[v1] W0 _ from Vec.jfi (h.need.kept hk0) hb4) (show Calls Tryz.prog 109 #[v2] W0 fun e w'=>e=.returned (.bool b5)∧W0=w' by rw[←hb5];exact jfi (h.labels.kept hk0)) (show Calls Tryz.prog 107 #[v3] W0 fun e w'=>e=.returned (.bool b6)∧W0=w' by rw[←hb6];exact jdr (h.sel.kept hk0)) (show Calls Tryz.prog 111 #[v4] W0 fun e w'=>e=.returned (.bool b7)∧W0=w' by rw[←hb7];exact jod (h.tols.kept hk0)) hk0;have g0:decide ((x0.size:Int)≤50)=b0:=by rw[←hb0];simp only[decide_eq_decide];omega
 have g1:decide ((x1.size:Int)≤50)=b1:=by rw[←hb1];simp only[decide_eq_decide];omega
 have g2:decide ((x3.size:Int)≤50)=b2:=by rw[←hb2];simp only[decide_eq_decide];omega
 have g3:decide ((x5.size:Int)≤50)=b3:=by rw[←hb3];simp only[decide_eq_decide];omega
 have c0:=hc.at_ 0 _ rfl;have c1:=hc.at_ 1 _ rfl;have c3:=hc.at_ 3 _ rfl;have c4:=hc.at_ 4 _ rfl;have c5:=hc.at_ 5 _ rfl;have c6:=hc.at_ 6 _ rfl;have c7:=hc.at_ 7 _ rfl;have c9:=hc.at_ 9 _ rfl;clear hk0 h hc hb0 hb1 hb2 hb3 hb4 hb5 hb6 hb7;unfold jx;dsimp only
 cases b0 with
 | false =>
  have g0:50<(x0.size:Int):=by have:=of_decide_eq_false g0;omega
  have HV:=lH (show JD ⟨x0,x1,x2,l1,l2,l3,l4,x3,x4,x5,x6⟩=false by rw[VI.out];simp);go_enter Tryz.func59,Tryz.ntmps59;go_wp2;try rw[hW0]
  go_ret;exact⟨jd HV.out.symm,Va.out⟩
 | true =>
  have g0:(x0.size:Int)≤50:=of_decide_eq_true g0
  cases b1 with
  | false =>
   have g1:50<(x1.size:Int):=by have:=of_decide_eq_false g1;omega
   have HV:=lH (show JD ⟨x0,x1,x2,l1,l2,l3,l4,x3,x4,x5,x6⟩=false by rw[VI.out];simp);go_enter Tryz.func59,Tryz.ntmps59;go_wp2;try rw[hW0]
   go_ret;exact⟨jd HV.out.symm,Va.out⟩
  | true =>
   have g1:(x1.size:Int)≤50:=of_decide_eq_true g1
   cases b2 with
   | false =>
    have g2:50<(x3.size:Int):=by have:=of_decide_eq_false g2;omega
    have HV:=lH (show JD ⟨x0,x1,x2,l1,l2,l3,l4,x3,x4,x5,x6⟩=false by rw[VI.out];simp);go_enter Tryz.func59,Tryz.ntmps59;go_wp2;try rw[hW0]
    go_ret;exact⟨jd HV.out.symm,Va.out⟩
   | true =>
    have g2:(x3.size:Int)≤50:=of_decide_eq_true g2
    cases b3 with
    | false =>
     have g3:50<(x5.size:Int):=by have:=of_decide_eq_false g3;omega
     have HV:=lH (show JD ⟨x0,x1,x2,l1,l2,l3,l4,x3,x4,x5,x6⟩=false by rw[VI.out];simp);go_enter Tryz.func59,Tryz.ntmps59;go_wp2;try rw[hW0]
     go_ret;exact⟨jd HV.out.symm,Va.out⟩
    | true =>
     have g3:(x5.size:Int)≤50:=of_decide_eq_true g3
     cases b4 with
     | false =>
      have HV:=lH (show JD ⟨x0,x1,x2,l1,l2,l3,l4,x3,x4,x5,x6⟩=false by rw[VI.out];simp);go_enter Tryz.func59,Tryz.ntmps59;go_wp2_with fail
      try rw[hW0]
      refine E4.out.mono ?_;rintro e w9 ⟨rfl,rfl⟩;go_wp2;go_ret;exact⟨jd HV.out.symm,Va.out⟩
     | true =>
      cases b5 with
      | false =>
       have HV:=lH (show JD ⟨x0,x1,x2,l1,l2,l3,l4,x3,x4,x5,x6⟩=false by rw[VI.out];simp);go_enter Tryz.func59,Tryz.ntmps59;go_wp2_with fail
       try rw[hW0]
       refine E4.out.mono ?_;rintro e w9 ⟨rfl,rfl⟩;go_wp2_with fail
       refine E5.out.mono ?_;rintro e w9 ⟨rfl,rfl⟩;go_wp2;go_ret;exact⟨jd HV.out.symm,Va.out⟩
      | true =>
       cases b6 with
       | false =>
        have HV:=lH (show JD ⟨x0,x1,x2,l1,l2,l3,l4,x3,x4,x5,x6⟩=false by rw[VI.out];simp);go_enter Tryz.func59,Tryz.ntmps59;go_wp2_with fail
        try rw[hW0]
        refine E4.out.mono ?_;rintro e w9 ⟨rfl,rfl⟩;go_wp2_with fail
        refine E5.out.mono ?_;rintro e w9 ⟨rfl,rfl⟩;go_wp2_with fail
        refine E6.out.mono ?_;rintro e w9 ⟨rfl,rfl⟩;go_wp2;go_ret;exact⟨jd HV.out.symm,Va.out⟩
       | true =>
        have HV:=lH (show JD ⟨x0,x1,x2,l1,l2,l3,l4,x3,x4,x5,x6⟩=b7 by rw[VI.out];rfl);go_enter Tryz.func59,Tryz.ntmps59;go_wp2_with fail
        try rw[hW0]
        refine E4.out.mono ?_;rintro e w9 ⟨rfl,rfl⟩;go_wp2_with fail
        refine E5.out.mono ?_;rintro e w9 ⟨rfl,rfl⟩;go_wp2_with fail
        refine E6.out.mono ?_;rintro e w9 ⟨rfl,rfl⟩;go_wp2_with fail
        refine E7.out.mono ?_;rintro e w9 ⟨rfl,rfl⟩;go_wp2;go_ret;exact⟨jd HV.out.symm,Va.out⟩
theorem jnI {v:Value} {n:Pd} {b:Bool} {w:World} (h:jbh w v n) (hb:JD n=b):Calls Tryz.prog 59 #[v] w (Say (.bool b) w):=by
 subst hb;obtain⟨v1,v2,v3,v4,rfl,h⟩:=h;exact jkB n v1 v2 v3 v4 w h
def qf (s:Clu):Bool:=decide (s.nodes.length≤34)&&(decide (s.pods.length≤130)&&(ZK s.buds&&(s.nodes.all Z6&&s.pods.all JD)))
theorem jaq {a:Option Addr} {len cap:Nat} {l:List Nod} {w:World} (h1:len≤cap) (h2:cap≤maxLen) (h:jo w a len l):JB w (.slice a len cap) l:=⟨a,cap,by rw[h.1],by rw[h.1];exact h1,h2,by rw[h.1];exact h⟩
theorem jhp {a:Option Addr} {len cap:Nat} {l:List Pd} {w:World} (h1:len≤cap) (h2:cap≤maxLen) (h:jy w a len l):Jn w (.slice a len cap) l:=⟨a,cap,by rw[h.1],by rw[h.1];exact h1,h2,by rw[h.1];exact h⟩
theorem jdo {a:Option Addr} {len cap:Nat} {l:List Bd} {w:World} (h1:len≤cap) (h2:cap≤maxLen) (h:j9 w a len l):Ze w (.slice a len cap) l:=⟨a,cap,by rw[h.1],by rw[h.1];exact h1,h2,by rw[h.1];exact h⟩
theorem jhA {α:Type} {f:α→Bool} {l:List α} {k:Nat} {x:α} (hd:l.drop k=x::l.drop (k+1)) (h:f x=true) (hr:(l.drop k).all f=l.all f):(l.drop (k+1)).all f=l.all f:=by
 rw[←hr,hd,List.all_cons,h,Bool.true_and]
theorem jfM {α:Type} {f:α→Bool} {l:List α} {k:Nat} {x:α} (hd:l.drop k=x::l.drop (k+1)) (h:f x=false) (hr:(l.drop k).all f=l.all f):l.all f=false:=by
 rw[←hr,hd,List.all_cons,h,Bool.false_and]
theorem jhR {α:Type} {f:α→Bool} {l:List α} {k:Nat} (h:l.length≤k) (hr:(l.drop k).all f=l.all f):l.all f=true:=by
 rw[←hr,List.drop_of_length_le h];rfl
theorem jnF {v:Value} {s:Clu} {c:Bool} {w:World} (h:jC w v s) (hc:qf s=c):Calls Tryz.prog 24 #[v] w (Say (.bool c) w):=by
 subst hc;obtain⟨v1,v2,v3,rfl,⟨a,cap,rfl,l1,m1,h1⟩,⟨b,cp,rfl,l2,m2,h2⟩,⟨d,cb,rfl,l3,m3,h3⟩⟩:=h;obtain⟨nl,pl,bl⟩:=s;dsimp only at *;obtain⟨len,hlen⟩:=eX (nl.length)
 obtain⟨m,hm⟩:=eX (pl.length)
 obtain⟨n,hn⟩:=eX (bl.length)
 rw[hlen] at h1 l1;rw[hm] at h2 l2;rw[hn] at h3 l3;try rw[hlen]
 try rw[hm]
 try rw[hn]
 skip;obtain⟨Z,hZ⟩:=eX (w.alloc (.cells #[.slice a len cap,.slice b m cp,.slice d n cb] 26))
 have hkz:Kept w Z:=by rw[←hZ];exact ja _ _
 have HQ:=lH (show jf w.heap.size [.slice a len cap,.slice b m cp,.slice d n cb] Z from jc w (.slice a len cap) [.slice b m cp,.slice d n cb] 26 Z (by rw[hZ];exact Kept.refl _));obtain⟨e3,he3⟩:=eX (ZK bl)
 obtain⟨HB,HV,HN,HP,Vc,RK,Uq,UF⟩:=lH8 (jnu (jdo l3 m3 (h3.kept hkz)) he3) (show qf ⟨nl,pl,bl⟩=(decide (len≤34)&&(decide (m≤130)&&(e3&&(nl.all Z6&&pl.all JD)))) by unfold qf;dsimp only;rw[hlen,hm,he3]) (h1.kept hkz) (h2.kept hkz) hkz (Nat.le_trans l1 m1) (Nat.le_trans l2 m2) hlen;have Tq:=lH hm;have hml1:=Nat.le_trans l1 m1;have hml2:=Nat.le_trans l2 m2;unfold maxLen at hml1 hml2;clear h1 h2 h3 l1 l2 l3 m1 m2 m3 he3 hkz;obtain⟨cq0,cq1,cq2⟩:=HQ.out.at3;by_cases hA:34<len
 · have HX:=lH (HV.out.trans (by rw[decide_eq_false (show ¬len≤34 by omega),Bool.false_and]));have hA':(34:Int)<(len:Int):=by omega
   rw[HX.out];go_enter Tryz.func24,Tryz.ntmps24;go_wp2;try rw[hZ]
   go_ret;exact⟨rfl,Vc.out⟩
 by_cases hB:130<m
 · have HX:=lH (HV.out.trans (by rw[decide_eq_true (show len≤34 by omega),decide_eq_false (show ¬m≤130 by omega),Bool.false_and,Bool.and_false]));have hA':¬(34:Int)<(len:Int):=by omega
   have hB':(130:Int)<(m:Int):=by omega
   rw[HX.out];go_enter Tryz.func24,Tryz.ntmps24;go_wp2;try rw[hZ]
   go_ret;exact⟨rfl,Vc.out⟩
 have hA':¬(34:Int)<(len:Int):=by omega
 have hB':¬(130:Int)<(m:Int):=by omega
 have HX:=lH (HV.out.trans (by rw[decide_eq_true (show len≤34 by omega),decide_eq_true (show m≤130 by omega),Bool.true_and,Bool.true_and]));rw[HX.out];clear HV HX;go_enter Tryz.func24,Tryz.ntmps24;go_wp2_with fail
 try rw[hZ]
 clear hZ;refine HB.out.mono ?_;rintro e w1 ⟨rfl,kk⟩;have KW:=lH kk;clear kk cq0 cq1 cq2 HB
 cases e3 with
 | false =>
  go_wp2;go_ret;exact⟨rfl,Vc.out.trans KW.out⟩
 | true =>
  have cq0:=(HQ.out.kept KW.out).at_ 0 _ rfl;have cq1:=(HQ.out.kept KW.out).at_ 1 _ rfl;have cq2:=(HQ.out.kept KW.out).at_ 2 _ rfl;go_wp2;go_loopw [3] (fun i wr=>∃k:Nat,k≤len∧i=.int .i64 k∧(nl.drop k).all Z6=nl.all Z6∧Kept Z wr) (fun i _=>len-(intOf i).toNat)
  case atStart=>exact⟨0,Nat.zero_le _,rfl,rfl,KW.out⟩
  case round =>
   clear cq0 cq1 cq2;obtain⟨k,hk,rfl,hrest,hK⟩:=hrel;have HS:=lH hrest;have KN:=lH hK;have cq0:=(HQ.out.kept hK).at_ 0 _ rfl;have cq1:=(HQ.out.kept hK).at_ 1 _ rfl;have cq2:=(HQ.out.kept hK).at_ 2 _ rfl;by_cases hlt:k<len
   · obtain⟨b9,off,rfl⟩:=HN.out.form.resolve_left (by omega);obtain⟨n9,x1,y1,z1,x2,y2,z2,x3,y3,z3,hn,hd,hb,p0,p1,p2,p3,p4,hat⟩:=(HN.out.kept hK).at_ hlt;have HD:=lH hd;obtain⟨t,ht⟩:=eX (Z6 n9)
     have HT:=lH ht;have HC:=lH (show Calls Tryz.prog 58 #[zj n9 (.slice x1 y1 z1) (.slice x2 y2 z2) (.slice x3 y3 z3)] wr (Say (.bool t) wr) from jnq ⟨_,_,_,rfl,hat⟩ ht);unfold zj at HC;have hkk:(k:Int)<(len:Int):=by omega
     clear hrest hK hat hn hd ht
     cases t with
     | false =>
      have HF:=lH (jfM HD.out HT.out HS.out);go_wp2_with fail
      refine HC.out.mono ?_;rintro e w9 ⟨rfl,kk⟩;have KW:=lH (KN.out.trans kk);clear kk;go_wp2;go_ret;exact⟨by rw[HF.out];simp,Vc.out.trans KW.out⟩
     | true =>
      have HF:=lH (jhA HD.out HT.out HS.out);go_wp2_with fail
      refine HC.out.mono ?_;rintro e w9 ⟨rfl,kk⟩;have KW:=lH (KN.out.trans kk);clear kk cq0 cq1 cq2;go_wp2;go_roundw
      case rel=>exact⟨k+1,by omega,by go_num,HF.out,KW.out⟩
      case measure=>simp[intOf];omega
   · have Rf:=lH (jhR (by rw[UF.out];omega) hrest);have hkk:¬(k:Int)<(len:Int):=by omega
     clear hrest hK;clear cq0 cq1 cq2;have cq0:=(HQ.out.kept KN.out).at_ 0 _ rfl;have cq1:=(HQ.out.kept KN.out).at_ 1 _ rfl;have cq2:=(HQ.out.kept KN.out).at_ 2 _ rfl;go_wp2;go_loopw [4] (fun i wr=>∃k:Nat,k≤m∧i=.int .i64 k∧(pl.drop k).all JD=pl.all JD∧Kept Z wr) (fun i _=>m-(intOf i).toNat)
     case atStart=>exact⟨0,Nat.zero_le _,rfl,rfl,KN.out⟩
     case round =>
      clear cq0 cq1 cq2;obtain⟨k,hk,rfl,hrest,hK⟩:=hrel;have HS:=lH hrest;have KP:=lH hK;have cq0:=(HQ.out.kept hK).at_ 0 _ rfl;have cq1:=(HQ.out.kept hK).at_ 1 _ rfl;have cq2:=(HQ.out.kept hK).at_ 2 _ rfl;by_cases hlt:k<m
      · obtain⟨b9,off,rfl⟩:=HP.out.form.resolve_left (by omega);obtain⟨n9,x1,y1,z1,x2,y2,z2,x3,y3,z3,x4,y4,z4,hn,hd,hb,p0,p1,p2,p3,p4,p5,p6,p7,p8,p9,p10,hat⟩:=(HP.out.kept hK).at_ hlt;have HD:=lH hd;obtain⟨t,ht⟩:=eX (JD n9)
        have HT:=lH ht;have HC:=lH (show Calls Tryz.prog 59 #[jx n9 (.slice x1 y1 z1) (.slice x2 y2 z2) (.slice x3 y3 z3) (.slice x4 y4 z4)] wr (Say (.bool t) wr) from jnI ⟨_,_,_,_,rfl,hat⟩ ht);unfold jx at HC;have hkk:(k:Int)<(m:Int):=by omega
        clear hrest hK hat hn hd ht
        cases t with
        | false =>
         have HF:=lH (jfM HD.out HT.out HS.out);go_wp2_with fail
         refine HC.out.mono ?_;rintro e w9 ⟨rfl,kk⟩;have KW:=lH (KP.out.trans kk);clear kk;go_wp2;go_ret;exact⟨by rw[HF.out];simp,Vc.out.trans KW.out⟩
        | true =>
         have HF:=lH (jhA HD.out HT.out HS.out);go_wp2_with fail
         refine HC.out.mono ?_;rintro e w9 ⟨rfl,kk⟩;have KW:=lH (KP.out.trans kk);clear kk cq0 cq1 cq2;go_wp2;go_roundw
         case rel=>exact⟨k+1,by omega,by go_num,HF.out,KW.out⟩
         case measure=>simp[intOf];omega
      · have Rg:=lH (jhR (by rw[Tq.out];omega) hrest);have hkk:¬(k:Int)<(m:Int):=by omega
        clear hrest hK;go_wp2;go_ret;exact⟨by rw[Rf.out,Rg.out];rfl,Vc.out.trans KP.out⟩
theorem jkC (a:Option Addr) (len cap:Nat) (l:List Nod) (x:ByteArray) (w:World) (hr:jo w a len l) :
 Calls Tryz.prog 63 #[.slice a len cap,.string x] w fun e w'=>∃v,e=.returned (.tuple #[v,.bool (jl l x).isSome])∧jae w' v ((jl l x).getD Nod.zero)∧Kept w w':=by
 have hl:=hr.1;have hm:=hr.2.1;unfold maxLen at hm;obtain⟨Z,hZ⟩:=eX (w.alloc (.cells #[.string ⟨#[]⟩,.slice none 0 0,.slice none 0 0,.slice none 0 0,.bool false] 122))
 have hkz:Kept w Z:=by rw[←hZ];exact ja _ _
 obtain⟨HQ,HH,Vc,HR,HL⟩:=lH5 (show zA w.heap.size (.string ⟨#[]⟩) (.slice none 0 0) (.slice none 0 0) (.slice none 0 0) (.bool false) Z from Xo w _ _ _ _ _ 122 Z (by rw[hZ];exact Kept.refl _)) (show Z.heap[w.heap.size]?=some (.cells #[.string ⟨#[]⟩,.slice none 0 0,.slice none 0 0,.slice none 0 0,.bool false] 122) by rw[←hZ];exact w.alloc_heap_new _) hkz (hr.kept hkz) hl;obtain⟨⟨y0,y1,y2,y3,y4⟩,x0,x1,x2,x3,x4⟩:=HQ.out;have P0:=lH (ZC ⟨y0,y1,y2,y3,y4⟩ ⟨#[]⟩ none none none 0 0 0 0 0 0 false);by_cases h0:len=0
 · subst h0;have hl0:l=[]:=List.eq_nil_of_length_eq_zero hl;have HF:=lH (show jl l x=none by rw[hl0];rfl);clear hr hl hkz;go_enter Tryz.func63,Tryz.ntmps63;go_wp2;try rw[hZ]
   clear hZ;refine wp_loop_rounds 1 ?_;rw[rounds_succ];go_wp2;obtain⟨WE,hWE⟩:=eX ((((((Z.setCell ⟨w.heap.size,0,none⟩ (.string ⟨#[]⟩)).setCell ⟨w.heap.size,1,none⟩ (.slice none 0 0)).setCell ⟨w.heap.size,2,none⟩ (.slice none 0 0)).setCell ⟨w.heap.size,3,none⟩ (.slice none 0 0)).setCell ⟨w.heap.size,4,none⟩ (.bool false)))
   rw[hWE] at P0 ⊢;clear hWE y0 y1 y2 y3 y4 x0 x1 x2 x3 x4;obtain⟨⟨e0,e1,e2,e3,e4⟩,hsz,hbl,hkp⟩:=P0.out;refine bodyPost_ret (by simp[results,Tryz.results63,go_sem,e0,e1,e2,e3,e4];try rfl) rfl ?_;rw[HF.out];exact⟨_,rfl,(qN 0 _).toR,hkp _ _ (Nat.le_refl _) Vc.out⟩
 · obtain⟨b,off,rfl⟩:=hr.form.resolve_left h0;clear hr hl hkz h0;go_enter Tryz.func63,Tryz.ntmps63;go_wp2;try rw[hZ]
   clear hZ;go_loop [6] (fun i=>∃k:Nat,k≤len∧i=.int .i64 k∧jl (l.drop k) x=jl l x) (fun i=>len-(intOf i).toNat)
   case atStart=>exact⟨0,Nat.zero_le _,rfl,rfl⟩
   case round =>
    obtain⟨k,hk,rfl,hrest⟩:=hrel;have HS:=lH hrest;by_cases hlt:k<len
    · obtain⟨n,a1,m1,c1,a2,m2,c2,a3,m3,c3,hn,hd,hb,p0,p1,p2,p3,p4,hat⟩:=HR.out.at_ hlt;have VH:=lH hat;have HD:=lH hd;clear hrest hat hd hn;by_cases he:eqS n.name x=true
      · have he':(n.name.toList==x.toList)=true:=he;have HF:=lH (show jl l x=some n by rw[←HS.out,HD.out];unfold jl;rw[List.find?_cons,he]);have P:=lH (ZC ⟨y0,y1,y2,y3,y4⟩ n.name a1 a2 a3 m1 c1 m2 c2 m3 c3 n.cordon);obtain⟨⟨z,l1,l2,l3,cd⟩,hnn⟩:∃m,m=n:=⟨n,rfl⟩
        subst hnn;dsimp only at P he' p0 p4;clear he;go_wp2;obtain⟨WE,hWE⟩:=eX ((((((Z.setCell ⟨w.heap.size,0,none⟩ (.string z)).setCell ⟨w.heap.size,1,none⟩ (.slice a1 m1 c1)).setCell ⟨w.heap.size,2,none⟩ (.slice a2 m2 c2)).setCell ⟨w.heap.size,3,none⟩ (.slice a3 m3 c3)).setCell ⟨w.heap.size,4,none⟩ (.bool cd)))
        rw[hWE] at P ⊢;clear hWE y0 y1 y2 y3 y4 x0 x1 x2 x3 x4;obtain⟨⟨e0,e1,e2,e3,e4⟩,hsz,hbl,hkp⟩:=P.out;refine bodyPost_ret (by simp[results,Tryz.results63,go_sem,e0,e1,e2,e3,e4];try rfl) rfl ?_;rw[HF.out];exact⟨_,rfl,⟨_,_,_,rfl,jbo VH.out hsz hbl (jkq HH.out)⟩,hkp _ _ (Nat.le_refl _) Vc.out⟩
      · have he:eqS n.name x=false:=by simpa using he
        have he':(n.name.toList==x.toList)=false:=he;have HE:=lH (show jl (l.drop k) x=jl (l.drop (k+1)) x by rw[HD.out];unfold jl;rw[List.find?_cons,he]);clear he;go_wp2;go_round
        case rel=>exact⟨k+1,by omega,by go_num,HE.out.symm.trans HS.out⟩
        case measure=>simp[intOf];omega
    · have HF:=lH (show jl l x=none by rw[←hrest,List.drop_of_length_le (by rw[HL.out];omega)];rfl);clear hrest;go_wp2;obtain⟨WE,hWE⟩:=eX ((((((Z.setCell ⟨w.heap.size,0,none⟩ (.string ⟨#[]⟩)).setCell ⟨w.heap.size,1,none⟩ (.slice none 0 0)).setCell ⟨w.heap.size,2,none⟩ (.slice none 0 0)).setCell ⟨w.heap.size,3,none⟩ (.slice none 0 0)).setCell ⟨w.heap.size,4,none⟩ (.bool false)))
      rw[hWE] at P0 ⊢;clear hWE y0 y1 y2 y3 y4 x0 x1 x2 x3 x4;obtain⟨⟨e0,e1,e2,e3,e4⟩,hsz,hbl,hkp⟩:=P0.out;refine bodyPost_ret (by simp[results,Tryz.results63,go_sem,e0,e1,e2,e3,e4];try rfl) rfl ?_;rw[HF.out];exact⟨_,rfl,(qN 0 _).toR,hkp _ _ (Nat.le_refl _) Vc.out⟩
theorem jju {v:Value} {l:List Nod} {x:ByteArray} {w:World} (h:JB w v l) :
 Calls Tryz.prog 63 #[v,.string x] w fun e w'=>∃v,e=.returned (.tuple #[v,.bool (jl l x).isSome])∧jae w' v ((jl l x).getD Nod.zero)∧Kept w w':=by
 obtain⟨a,cap,rfl,_,_,hr⟩:=h;exact jkC a _ cap l x w hr
end Go.Proofs.YtibepooajeakfaaGreat
namespace Go.Proofs.YtibepooajeakfaaGreat.Vec
open Go.RowKit
def j8:Nat→V→V→List ByteArray
 | 0,_,_=>[]
 | fuel+1,la,lb =>
  if la.length+lb.length=0 then []
  else jm la lb::j8 fuel (jr la (jm la lb)).2 (jr lb (jm la lb)).2
def Zc (f:Int→Int→Int×Int) (la lb:V):List ByteArray→V→Int×V
 | [],acc=>(0,acc)
 | n::t,acc=>if (f (jh la n) (jh lb n)).2≠0 then ((f (jh la n) (jh lb n)).2,[]) else Zc f la lb t (Yw acc n (f (jh la n) (jh lb n)).1)
theorem X6 {l:V} {s:ByteArray}:∀y ∈ (jr l s).2,y ∈ l:=by
 cases l with
 | nil=>intro y hy;exact hy
 | cons x t =>
  rw[zN];split
  · exact fun y hy=>List.mem_cons_of_mem _ hy
  · exact fun y hy=>hy
theorem ja2 {la lb:V} (h:0<la.length+lb.length):(∃y ∈ la,y.1=jm la lb)∨(∃y ∈ lb,y.1=jm la lb):=by
 cases la with
 | nil =>
  cases lb with
  | nil=>simp at h
  | cons y t=>exact .inr ⟨y,by simp,rfl⟩
 | cons x s =>
  cases lb with
  | nil=>exact .inl ⟨x,by simp,rfl⟩
  | cons y t =>
   rw[Zb];split
   · exact .inr ⟨y,by simp,rfl⟩
   · exact .inl ⟨x,by simp,rfl⟩
theorem jcU (f:Int→Int→Int×Int) (la0 lb0:V):∀(fuel:Nat) (la lb acc:V),Gd la→Gd lb →
 (∀n,((∃y ∈ la,y.1=n)∨(∃y ∈ lb,y.1=n))→jh la0 n=jh la n∧jh lb0 n=jh lb n) →
 Zc f la0 lb0 (j8 fuel la lb) acc=j5 f fuel la lb acc
 | 0,_,_,_,_,_,_=>rfl
 | fuel+1,la,lb,acc,ha,hb,h=>by
  unfold j8 j5;by_cases h0:la.length+lb.length=0
  · rw[if_pos h0,if_pos h0];rfl
  · rw[if_neg h0,if_neg h0];obtain⟨hs,hsa,hsb,_⟩:=jaB ha hb (by omega);have hm:=h _ (ja2 (la:=la) (lb:=lb) (by omega));obtain⟨s,es⟩:=eX (jm la lb)
    rw[es] at hs hsa hsb hm ⊢;obtain⟨a1,a2,a3,a4,_⟩:=qd ha hsa;obtain⟨b1,b2,b3,b4,_⟩:=qd hb hsb;rw[Zc];dsimp only;rw[hm.1,hm.2,a1,b1];split
    · rfl
    · refine jcU f la0 lb0 fuel _ _ _ a2 b2 fun n hn=>?_;have hne:n≠s:=by
       rcases hn with ⟨y,hy,rfl⟩ | ⟨y,hy,rfl⟩
       · exact(Yc (a3 y hy)).symm
       · exact(Yc (b3 y hy)).symm
      rw[a4 n hne,b4 n hne];refine h n (hn.imp ?_ ?_)
      · rintro ⟨y,hy,e⟩;exact⟨y,X6 y hy,e⟩
      · rintro ⟨y,hy,e⟩;exact⟨y,X6 y hy,e⟩
theorem jgX (f:Int→Int→Int×Int) {l l':V} (h:jv l=0) (h':jv l'=0) (hf:Js l) (hf':Js l') :
 jj f l l'=(let r:=Zc f l l' (j8 (l.length+l'.length) l l') [];if r.1≠0 then (r.1,[]) else if 8<r.2.length then (4,[]) else (0,r.2)):=by
 rw[jj,if_neg (by rw[h];decide),if_neg (by rw[h'];decide),jcU f l l' _ l l' [] (YZ h hf) (YZ h' hf') (fun n _=>⟨rfl,rfl⟩)]
theorem jjO {fuel:Nat} {la lb:V} (h:la.length+lb.length=0):j8 fuel la lb=[]:=by
 cases fuel with
 | zero=>rfl
 | succ n=>rw[j8,if_pos h]
theorem jcH {fuel:Nat} {l l':V} {i k:Nat} (hi:i<l.length) (h:¬k<l'.length∨(k<l'.length∧ltS (nm l i) (nm l' k)=true)) :
 j8 (fuel+1) (l.drop i) (l'.drop k)=nm l i::j8 fuel (l.drop (i+1)) (l'.drop k):=by
 rw[j8,if_neg (by simp only[List.length_drop];omega),drop_cons hi];rcases h with h | ⟨h,e⟩
 · rw[List.drop_of_length_le (l:=l') (by omega)];have e1:jm ((nm l i,qn l i)::l.drop (i+1)) []=nm l i:=rfl;rw[e1,zN,if_pos (jR.2 rfl)];rfl
 · rw[drop_cons h];have e2:ltS (nm l' k) (nm l i)=false:=by
    cases e3:ltS (nm l' k) (nm l i) with
    | false=>rfl
    | true=>exact(jaN e e3).elim
   rw[Zb,if_neg (by rw[e2];decide),zN,if_pos (jR.2 rfl),zN,if_neg (fun c=>Yc e (jR.1 c).symm)]
theorem jbQ {fuel:Nat} {l l':V} {i k:Nat} (hk:k<l'.length) (h:¬i<l.length∨(i<l.length∧ltS (nm l' k) (nm l i)=true)) :
 j8 (fuel+1) (l.drop i) (l'.drop k)=nm l' k::j8 fuel (l.drop i) (l'.drop (k+1)):=by
 rw[j8,if_neg (by simp only[List.length_drop];omega),drop_cons hk];rcases h with h | ⟨h,e⟩
 · rw[List.drop_of_length_le (l:=l) (by omega)];have e1:jm [] ((nm l' k,qn l' k)::l'.drop (k+1))=nm l' k:=rfl;rw[e1,zN,if_pos (jR.2 rfl)];rfl
 · rw[drop_cons h];rw[Zb,if_pos e,zN (nm l' k,qn l' k),if_pos (jR.2 rfl),zN,if_neg (fun c=>Yc e (jR.1 c).symm)]
theorem jkR {fuel:Nat} {l l':V} {i k:Nat} (hi:i<l.length) (hk:k<l'.length) (h1:ltS (nm l i) (nm l' k)=false) (h2:ltS (nm l' k) (nm l i)=false) :
 j8 (fuel+1) (l.drop i) (l'.drop k)=nm l i::j8 fuel (l.drop (i+1)) (l'.drop (k+1)):=by
 have e:=Xa h1 h2;rw[j8,if_neg (by simp only[List.length_drop];omega),drop_cons hi,drop_cons hk];rw[Zb,if_neg (by rw[h2];decide),zN,if_pos (jR.2 rfl),zN,if_pos (jR.2 e.symm)]
end Go.Proofs.YtibepooajeakfaaGreat.Vec
