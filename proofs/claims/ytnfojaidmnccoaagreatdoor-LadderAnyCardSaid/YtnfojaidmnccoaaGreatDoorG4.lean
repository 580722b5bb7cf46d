/- C. -/
import Derived.Test.YtnfojaidmnccoaaGreatDoorG1
import Derived.Test.YtnfojaidmnccoaaGreatDoorG2
import Derived.Test.YtnfojaidmnccoaaGreatDoorG3
import Derived.Deep.AppendSrc
import Derived.Deep.DeepAppendWide
set_option linter.unusedVariables false
set_option maxRecDepth 100000
set_option maxHeartbeats 25600000
namespace Go.Proofs.YtnfojaidmnccoaaGreatDoor
open Go.RowKit
theorem jct (b len:Nat) (l:List Int) (w:World) (hl:l.length=len) (hm:len≤1000) (hc:∀(i:Nat) (x:Int),l[i]?=some x→w.cell? ⟨b,i,none⟩=some (.int .i64 x)) :
 Calls Tryz.prog 35 #[.slice (some ⟨b,0,none⟩) len len] w fun e w'=>e=.returned (.int .i64 (orL l))∧w=w':=by
 have HC:=lH hc;have HL:=lH hl;clear hc hl;go_enter Tryz.func35,Tryz.ntmps35;go_wp2;go_loopw [8] (fun i wr=>∃k:Nat,k≤len∧i=.int .i64 k∧orL (l.drop k)=orL l∧w=wr) (fun i _=>len-(intOf i).toNat)
 case atStart=>exact⟨0,Nat.zero_le _,rfl,rfl,rfl⟩
 case round =>
  obtain⟨k,hk,rfl,hrest,rfl⟩:=hrel;have HS:=lH hrest;by_cases hlt:k<len
  · have hkl:k<l.length:=by rw[HL.out];exact hlt
    obtain⟨x,hx⟩:=eX (l[k])
    have hx':l[k]?=some x:=by rw[List.getElem?_eq_getElem hkl,hx]
    have c0:=HC.out k x hx';have HD:=lH (show l.drop k=x::l.drop (k+1) by rw[List.drop_eq_getElem_cons hkl,hx]);clear hrest hx hx' hkl;by_cases z:x=0
    · subst z;have HE:=lH (show orL (l.drop k)=orL (l.drop (k+1)) by rw[HD.out];rfl);go_wp2;go_roundw
      case rel=>exact⟨k+1,by omega,by go_num,HE.out.symm.trans HS.out,trivial⟩
      case measure=>simp[intOf];omega
    · have HE:=lH (show orL l=x by rw[←HS.out,HD.out];show (if x≠0 then x else _)=x;rw[if_pos z]);have z':(x != 0)=true:=by simpa using z
      clear z;go_wp2;go_ret;exact⟨jd HE.out.symm,rfl⟩
  · have HE:=lH (show orL l=0 by rw[←hrest,List.drop_of_length_le (by rw[HL.out];omega)];rfl);clear hrest;go_wp2;go_ret;exact⟨jd HE.out.symm,rfl⟩
theorem Y4 (x:ByteArray) (w:World) (hx:x.size≤maxLen) :
 Calls Tryz.prog 36 #[.string x] w fun e w'=>e=.returned (.int .i64 (zF x))∧w=w':=by
 obtain⟨q,hq⟩:=eX (isName x)
 have HN:=lH (fun W=>Vec.jdb (w:=W) hx hq);have HV:=lH (show zF x=if q=true then 0 else 3 by unfold zF;rw[hq]);clear hq hx
 cases q <;>
 (go_enter Tryz.func36,Tryz.ntmps36
  go_wp2_with (go_at_call 65;refine(HN.out _).mono ?_;rintro e w' ⟨rfl,rfl⟩)
  go_ret;exact⟨jd HV.out.symm,rfl⟩)
theorem X4 (a b:Int) (w:World) :
 Calls Tryz.prog 37 #[.int .i64 a,.int .i64 b] w fun e w'=>e=.returned (.int .i64 (jI a b))∧w=w':=by
 by_cases h1:a<0
 · have HV:=lH (show jI a b=1 by unfold jI;rw[if_pos (.inl h1)]);go_enter Tryz.func37,Tryz.ntmps37;go_wp2;go_ret;exact⟨jd HV.out.symm,rfl⟩
 · by_cases h2:b<a
   · have HV:=lH (show jI a b=1 by unfold jI;rw[if_pos (.inr (.inl h2))]);go_enter Tryz.func37,Tryz.ntmps37;go_wp2;go_ret;exact⟨jd HV.out.symm,rfl⟩
   · by_cases h3:128<b
     · have HV:=lH (show jI a b=1 by unfold jI;rw[if_pos (.inr (.inr h3))]);go_enter Tryz.func37,Tryz.ntmps37;go_wp2;go_ret;exact⟨jd HV.out.symm,rfl⟩
     · have HV:=lH (show jI a b=0 by unfold jI;rw[if_neg (by omega)]);go_enter Tryz.func37,Tryz.ntmps37;go_wp2;go_ret;exact⟨jd HV.out.symm,rfl⟩
theorem Xq (u c p:Int) (w:World):Calls Tryz.prog 39 #[.agg #[.int .i64 u,.int .i64 c,.int .i64 p]] w fun e w'=>e=.returned (.int .i64 u)∧Kept w w':=by
 go_enter Tryz.func39,Tryz.ntmps39;go_wp2;go_ret;exact⟨rfl,ja _ _⟩
theorem Y5 (u c p:Int) (w:World):Calls Tryz.prog 40 #[.agg #[.int .i64 u,.int .i64 c,.int .i64 p]] w fun e w'=>e=.returned (.int .i64 (ji u c p))∧Kept w w':=by
 by_cases h0:u<0
 · have HV:=lH (show ji u c p=1 by unfold ji;rw[if_pos (by omega)]);go_enter Tryz.func40,Tryz.ntmps40;go_wp2;go_ret;exact⟨jd HV.out.symm,ja _ _⟩
 · skip;by_cases h1:p<0
   · have HV:=lH (show ji u c p=1 by unfold ji;rw[if_pos (by omega)]);go_enter Tryz.func40,Tryz.ntmps40;go_wp2;go_ret;exact⟨jd HV.out.symm,ja _ _⟩
   · skip;by_cases h2:1000000<p
     · have HV:=lH (show ji u c p=1 by unfold ji;rw[if_pos (by omega)]);go_enter Tryz.func40,Tryz.ntmps40;go_wp2;go_ret;exact⟨jd HV.out.symm,ja _ _⟩
     · skip;by_cases h3:c<0
       · have HV:=lH (show ji u c p=1 by unfold ji;rw[if_pos (by omega)]);go_enter Tryz.func40,Tryz.ntmps40;go_wp2;go_ret;exact⟨jd HV.out.symm,ja _ _⟩
       · skip;by_cases h4:128<c
         · have HV:=lH (show ji u c p=1 by unfold ji;rw[if_pos (by omega)]);go_enter Tryz.func40,Tryz.ntmps40;go_wp2;go_ret;exact⟨jd HV.out.symm,ja _ _⟩
         · have HV:=lH (show ji u c p=0 by unfold ji;rw[if_neg (by omega)]);go_enter Tryz.func40,Tryz.ntmps40;go_wp2;go_ret;exact⟨jd HV.out.symm,ja _ _⟩
theorem YA (a:Option Addr) (len cap:Nat) (l:RL) (w:World) (hr:j3 jt w a len l) :
 Calls Tryz.prog 38 #[.slice a len cap,.int .i64 8,.func (.func 39) #[] #[],.func (.func 40) #[] #[]] w (Say (.int .i64 (jM l)) w):=by
 have hl:=hr.1;have hm:=hr.2.1;unfold maxLen at hm;by_cases h8:8<len
 · have HV:=lH (show jM l=4 by unfold jM;rw[if_pos (by omega)]);clear hr hl;go_enter Tryz.func38,Tryz.ntmps38;go_wp2;go_ret;exact⟨jd HV.out.symm,Kept.refl _⟩
 · have HV:=lH (show jM l=jh none l by unfold jM;rw[if_neg (by omega)]);have h8':len≤8:=by omega
   by_cases h0:len=0
   · subst h0;have HE:=lH (show jM l=0 by rw[HV.out,List.eq_nil_of_length_eq_zero hl];rfl);clear hr hl h8;go_enter Tryz.func38,Tryz.ntmps38;go_wp2;refine wp_loop_rounds 1 ?_;rw[rounds_succ];go_wp2;go_ret;exact⟨jd HE.out.symm,Kept.refl _⟩
   · obtain⟨b,off,rfl⟩:=hr.form.resolve_left h0;have HR:=lH hr;have HL:=lH hl;clear hr hl h0 h8;go_enter Tryz.func38,Tryz.ntmps38;go_wp2;go_loopw [18] (fun i wr=>∃k:Nat,k≤len∧i=.int .i64 k∧jh (j0 l k) (l.drop k)=jh none l∧Kept w wr) (fun i _=>len-(intOf i).toNat)
     case atStart=>exact⟨0,Nat.zero_le _,rfl,rfl,Kept.refl _⟩
     case round =>
      obtain⟨k,hk,rfl,hrest,hK⟩:=hrel;obtain⟨HS,HT,HK⟩:=lH3 (HV.out.trans hrest.symm) hrest hK;by_cases hlt:k<len
      · obtain⟨u,c,p,hn,hd,hb,hfine,p0,p1,p2⟩:=(HR.out.kept hK).rung hlt;obtain⟨HD,Uc,Vv,TX⟩:=lH4 hd (Yi hn) (fun W=>Y5 u c p W) (fun W=>Xq u c p W);obtain⟨ck,hck⟩:=eX (ji u c p)
        have Ud:=lH hck;rw[hck] at Vv;have hkk:(k:Int)<(len:Int):=by omega
        clear hrest hK hd hck hn hfine;by_cases z1:ck=0
        · subst z1;by_cases h0:k=0
          · have hd0:decide (0<k)=false:=by subst h0;decide
            have HP:=lH (Z6 (l:=l) (n:=(u,c,p)) (t:=l.drop (k+1)) h0 Ud.out);clear h0;go_wp2_with fail
            refine(Vv.out _).mono ?_;rintro e w1 ⟨rfl,kk⟩;have KW:=lH (Kept.trans (ja _ _) kk);have UM:=lH (fun W k=>jf wr (.int .i64 u) [.int .i64 c,.int .i64 p] 46 W (Kept.trans kk k));obtain⟨y0,y1,y2⟩:=(UM.out w1 (Kept.refl _)).at3;clear kk;go_wp2;go_quiet (fail)
            go_wp2;go_roundw
            case rel=>exact⟨k+1,by omega,by go_num,(show jh (j0 l (k+1)) (l.drop (k+1))=jh none l by rw[←HT.out,HD.out,HP.out,Uc.out]),HK.out.trans (KW.out.trans (Kept.drewN _ _))⟩
            case measure=>simp[intOf];omega
          · have hd0:decide (0<k)=true:=by simp;omega
            obtain⟨q,hqk⟩:∃q,k=q+1:=⟨k-1,by omega⟩
            have g1:(k:Int)-1=(q:Int):=by omega
            have gw:IntKind.i64.wrap (q:Int)=(q:Int):=by rw[IntKind.wrap_i64];omega
            have g2:(q:Int)<(len:Int):=by omega
            obtain⟨u9,c9,p9,hn9,-,hb9,-,q0,q1,q2⟩:=(HR.out.kept HK.out).rung (show q<len by omega);have Rs:=lH hqk;have hqk1:k-1=q:=by omega
            have HP:=lH (YZ (l:=l) (n:=(u,c,p)) (q:=(u9,c9,p9)) (t:=l.drop (k+1)) h0 (by rw[hqk1];exact hn9) Ud.out);dsimp only at HP;clear hqk hqk1;have TY:=lH (fun W=>Xq u9 c9 p9 W);clear h0 hn9;obtain⟨le,hle⟩:=eX (decide (u≤u9))
            have Tu:=lH hle;go_wp2_with fail
            refine(Vv.out _).mono ?_;rintro e w1 ⟨rfl,kk⟩;have KW:=lH (Kept.trans (ja _ _) kk);have UM:=lH (fun W k=>jf wr (.int .i64 u) [.int .i64 c,.int .i64 p] 46 W (Kept.trans kk k));obtain⟨y0,y1,y2⟩:=(UM.out w1 (Kept.refl _)).at3;have HO:=lH (show ∀W,Kept w1 W→(W.cell? ⟨wr.heap.size,0,none⟩=some (.int .i64 u)∧W.cell? ⟨wr.heap.size,1,none⟩=some (.int .i64 c)∧W.cell? ⟨wr.heap.size,2,none⟩=some (.int .i64 p))∧(W.cell? ⟨b,off+q*3,none⟩=some (.int .i64 u9)∧W.cell? ⟨b,off+q*3+1,none⟩=some (.int .i64 c9)∧W.cell? ⟨b,off+q*3+2,none⟩=some (.int .i64 p9)) from fun W k=>⟨(UM.out W k).at3,cell_later (KW.out.trans k) q0,cell_later (KW.out.trans k) q1,cell_later (KW.out.trans k) q2⟩);clear kk q0 q1 q2;go_wp2
            go_region_held3 (fun W=>(W.cell? ⟨wr.heap.size,0,none⟩=some (.int .i64 u)∧W.cell? ⟨wr.heap.size,1,none⟩=some (.int .i64 c)∧W.cell? ⟨wr.heap.size,2,none⟩=some (.int .i64 p))∧(W.cell? ⟨b,off+q*3,none⟩=some (.int .i64 u9)∧W.cell? ⟨b,off+q*3+1,none⟩=some (.int .i64 c9)∧W.cell? ⟨b,off+q*3+2,none⟩=some (.int .i64 p9)))
             (first | exact HO.out _ (Kept.drew _) | exact HO.out _ J1.out | exact HO.out _ J2.out)
             (first | (go_at_call 39;refine(TX.out _).mono ?_;rintro e1 w2 ⟨rfl,k1⟩;have J1:=lH ((Kept.drew _).trans k1);clear k1)
                    | (go_at_call 39;refine(TY.out _).mono ?_;rintro e2 w3 ⟨rfl,k1⟩;have J2:=lH (J1.out.trans k1);clear k1))
            cases le with
            | true =>
             have HLE':=lH (of_decide_eq_true Tu.out);go_wp2;go_ret;exact⟨jd (show (13:Int)=jM l by rw[HS.out,HD.out,HP.out,if_pos HLE'.out]),HK.out.trans (KW.out.trans J2.out)⟩
            | false =>
             have HLE':=lH (of_decide_eq_false Tu.out);go_wp2;go_roundw
             case rel=>exact⟨k+1,by omega,by go_num,(show jh (j0 l (k+1)) (l.drop (k+1))=jh none l by rw[←HT.out,HD.out,HP.out,if_neg HLE'.out,Uc.out]),HK.out.trans (KW.out.trans J2.out)⟩
             case measure=>simp[intOf];omega
        · have HB:=lH (show jh (j0 l k) (l.drop k)=ck by rw[HD.out,zZ (n:=(u,c,p)) (by dsimp only;rw[Ud.out];exact z1)];exact Ud.out);have z1':(ck != 0)=true:=by simpa using z1
          clear z1;go_wp2_with fail
          refine(Vv.out _).mono ?_;rintro e w1 ⟨rfl,kk⟩;have KW:=lH (Kept.trans (ja _ _) kk);clear kk;go_wp2;go_ret;exact⟨jd (HS.out.trans HB.out).symm,HK.out.trans KW.out⟩
      · have HE:=lH (show jh (j0 l k) (l.drop k)=0 by rw[List.drop_of_length_le (by rw[HL.out];omega)];rfl);have hkk:¬(k:Int)<(len:Int):=by omega
        clear hrest hK;go_wp2;go_ret;exact⟨jd (HS.out.trans HE.out).symm,HK.out⟩
theorem qv {v:Value} {l:RL} {c:Int} {w:World} (h:Reads jt w v l) (hc:jM l=c) :
 Calls Tryz.prog 38 #[v,.int .i64 8,.func (.func 39) #[] #[],.func (.func 40) #[] #[]] w (Say (.int .i64 c) w):=by
 subst hc;obtain⟨a,cap,rfl,_,_,hr⟩:=h;exact YA a _ cap l w hr
theorem jal (W:World) (x1 x2 x3 x4:Int) (T:TypeId) (i:Nat) (x:Int) (hi:([x1,x2,x3,x4]:List Int)[i]?=some x) :
 (W.alloc (.cells #[.int .i64 x1,.int .i64 x2,.int .i64 x3,.int .i64 x4] T)).cell? ⟨W.heap.size,i,none⟩=some (.int .i64 x):=by
 refine(jf W (.int .i64 x1) [.int .i64 x2,.int .i64 x3,.int .i64 x4] T _ (Kept.refl _)).at_ i _ ?_
 match i,hi with
 | 0,h=>simpa using h
 | 1,h=>simpa using h
 | 2,h=>simpa using h
 | 3,h=>simpa using h
 | j+4,h=>simp at h
theorem Jf (n:Lad) (v1 v2:Value) (w:World) (h:jL w v1 v2 n) :
 Calls Tryz.prog 18 #[zz n v1 v2] w (Say (.int .i64 (jP n)) w):=by
 obtain⟨W0,hW0⟩:=eX (w.alloc (.cells #[.string n.what,v1,v2,.int .i64 n.lo,.int .i64 n.hi] 26))
 have hk0:Kept w W0:=by rw[←hW0];exact ja _ _
 have HC:=lH (show ∀W,Kept W0 W→W.cell? ⟨w.heap.size,0,none⟩=some (.string n.what)∧W.cell? ⟨w.heap.size,1,none⟩=some (v1)∧W.cell? ⟨w.heap.size,2,none⟩=some (v2)∧W.cell? ⟨w.heap.size,3,none⟩=some (.int .i64 n.lo)∧W.cell? ⟨w.heap.size,4,none⟩=some (.int .i64 n.hi) from fun W k =>
  (jf w (.string n.what) [v1,v2,.int .i64 n.lo,.int .i64 n.hi] 26 W (by rw[hW0];exact k)).at5)
 obtain⟨H1,H2,H3,H4,Ux,HV⟩:=lH6 (fun W=>Y4 n.what W h.size) (fun W (k:Kept W0 W)=>Vec.jcS (h.unit.kept (hk0.trans k)) rfl) (fun W=>X4 n.lo n.hi W) (fun W (k:Kept W0 W)=>qv (h.rungs.kept (hk0.trans k)) rfl) hk0 (show jP n=orL [zF n.what,Vec.jc n.unit,jI n.lo n.hi,jM n.rungs] from rfl);obtain⟨x1,hx1⟩:=eX (zF n.what)
 obtain⟨x2,hx2⟩:=eX (Vec.jc n.unit)
 obtain⟨x3,hx3⟩:=eX (jI n.lo n.hi)
 obtain⟨x4,hx4⟩:=eX (jM n.rungs)
 rw[hx1,hx2,hx3,hx4] at HV;rw[hx1] at H1;rw[hx2] at H2;rw[hx3] at H3;rw[hx4] at H4;clear hx1 hx2 hx3 hx4 h hk0;unfold zz;go_enter Tryz.func18,Tryz.ntmps18;go_wp2_with fail
 try rw[hW0]
 clear hW0;have ORC:=lH (fun (W:World)=>jal W x1 x2 x3 x4 38)
 go_region_held3 (fun W=>W.cell? ⟨w.heap.size,0,none⟩=some (.string n.what)∧W.cell? ⟨w.heap.size,1,none⟩=some (v1)∧W.cell? ⟨w.heap.size,2,none⟩=some (v2)∧W.cell? ⟨w.heap.size,3,none⟩=some (.int .i64 n.lo)∧W.cell? ⟨w.heap.size,4,none⟩=some (.int .i64 n.hi))
  (first | exact HC.out _ (Kept.drew _) | exact HC.out _ K2.out | exact HC.out _ K4.out | exact HC.out _ (K4.out.trans (ja _ _)))
  (first | (go_at_call 36;refine(H1.out _).mono ?_;rintro e1 w1 ⟨rfl,rfl⟩)
         | (go_at_call 27;refine(H2.out _ (Kept.drew _)).mono ?_;rintro e2 w2 ⟨rfl,k2⟩;have K2:=lH ((Kept.drew _).trans k2);clear k2)
         | (go_at_call 37;refine(H3.out _).mono ?_;rintro e3 w3 ⟨rfl,rfl⟩)
         | (go_at_call 38;refine(H4.out _ K2.out).mono ?_;rintro e4 w4 ⟨rfl,k4⟩;have K4:=lH (K2.out.trans k4);clear k4)
         | (go_at_call 35;refine(jct _ 4 [x1,x2,x3,x4] _ rfl (by decide) (ORC.out _)).mono ?_;rintro e9 w9 ⟨rfl,rfl⟩))
 go_wp2;go_ret;exact⟨jd HV.out.symm,Ux.out.trans (K4.out.trans (ja _ _))⟩
theorem jcv {v:Value} {n:Lad} {c:Int} {w:World} (h:Jc w v n) (hc:jP n=c):Calls Tryz.prog 18 #[v] w (Say (.int .i64 c) w):=by
 subst hc;obtain⟨v1,v2,rfl,h⟩:=h;exact Jf n v1 v2 w h
def zM (l:RL) (g:Int):Option (Int×Int×Int):=match l.find? (fun r=>decide (g≤r.1)) with
 | some r=>some r
 | none=>l.getLast?
def atL (n:Lad) (t:Vec.V):Option (Int×Int×Int):=zM n.rungs (Vec.jT t n.what)
theorem Z4 {l:RL} {g:Int} {k:Nat} {r:Int×Int×Int} (h:l.find? (fun r=>decide (g≤r.1))=(l.drop k).find? (fun r=>decide (g≤r.1))) (hd:l.drop k=r::l.drop (k+1)) (hg:g≤r.1):zM l g=some r:=by
 unfold zM;rw[h,hd,List.find?_cons_of_pos (by simpa using hg)]
theorem ZJ {l:RL} {g:Int} {k:Nat} {r:Int×Int×Int} (h:l.find? (fun r=>decide (g≤r.1))=(l.drop k).find? (fun r=>decide (g≤r.1))) (hd:l.drop k=r::l.drop (k+1)) (hg:¬g≤r.1):l.find? (fun r=>decide (g≤r.1))=(l.drop (k+1)).find? (fun r=>decide (g≤r.1)):=by
 rw[h,hd,List.find?_cons_of_neg (by simpa using hg)]
theorem ZI {l:RL} {g:Int} {k:Nat} {r:Int×Int×Int} (h:l.find? (fun r=>decide (g≤r.1))=(l.drop k).find? (fun r=>decide (g≤r.1))) (hk:l.length≤k) (hr:l[l.length-1]?=some r):zM l g=some r:=by
 unfold zM;rw[h,List.drop_of_length_le hk];show l.getLast?=_;rw[List.getLast?_eq_getElem?,hr]
abbrev Xc (r:Int×Int×Int):Value:=.agg #[.int .i64 r.1,.int .i64 r.2.1,.int .i64 r.2.2]
def AtR (o:Option (Int×Int×Int)) (w:World) (e:Ending) (w':World):Prop:=e=.returned (.tuple #[Xc (o.getD (0,0,0)),.bool o.isSome])∧Kept w w'
theorem X6 (n:Lad) (a1 a2:Option Addr) (l1 c1 l2 c2:Nat) (tv:Value) (t:Vec.V) (w:World) (h:jL w (.slice a1 l1 c1) (.slice a2 l2 c2) n) (ht:Vec.Reads w tv t) :
 Calls Tryz.prog 20 #[.agg #[.string n.what,.slice a1 l1 c1,.slice a2 l2 c2,.int .i64 n.lo,.int .i64 n.hi],tv] w (AtR (atL n t) w):=by
 obtain⟨W1,hW1⟩:=eX (w.alloc (.cells #[.string n.what,.slice a1 l1 c1,.slice a2 l2 c2,.int .i64 n.lo,.int .i64 n.hi] 26))
 have k1:Kept w W1:=by rw[←hW1];exact ja _ _
 obtain⟨W2,hW2⟩:=eX (W1.alloc (.cells #[.int .i64 0,.int .i64 0,.int .i64 0] 46))
 have k2:Kept W1 W2:=by rw[←hW2];exact ja _ _
 obtain⟨HL,HZ,HK,U7⟩:=lH4 ((jf w (.string n.what) [.slice a1 l1 c1,.slice a2 l2 c2,.int .i64 n.lo,.int .i64 n.hi] 26 W1 (by rw[hW1];exact Kept.refl _)).kept k2) (jf W1 (.int .i64 0) [.int .i64 0,.int .i64 0] 46 W2 (by rw[hW2];exact Kept.refl _)) (k1.trans k2) k1.size;obtain⟨zb,hzb⟩:=eX (W1.heap.size)
 obtain⟨lb,hlb⟩:=eX (w.heap.size)
 rw[hzb] at HZ;rw[hlb] at HL;have V2:=lH (show lb<zb by have:=(jf w (.string n.what) [.slice a1 l1 c1,.slice a2 l2 c2,.int .i64 n.lo,.int .i64 n.hi] 26 W1 (by rw[hW1];exact Kept.refl _)).lt;omega);have Ue:=lH hlb;obtain⟨g,hg⟩:=eX (Vec.jT t n.what)
 obtain⟨HG,HV,TZ⟩:=lH3 (fun W (k:Kept w W)=>Vec.jdi (ht.kept k) hg) (show atL n t=zM n.rungs g by unfold atL;rw[hg]) hg;have hr:=h.rungs;obtain⟨a9,c9,e9,hcl,hcm,hrow⟩:=hr;obtain⟨rfl,rfl,rfl⟩:a2=a9∧l2=n.rungs.length∧c2=c9:=by cases e9;exact⟨rfl,rfl,rfl⟩
 obtain⟨len,hlen⟩:=eX (n.rungs.length)
 have Vd:=lH hlen;have HR:=lH hrow;have hm:=hrow.2.1;unfold maxLen at hm;rw[hlen] at HL HR hm;have hsz:=h.size;clear h ht hg e9 hcl hcm hrow k1 k2;by_cases h0:len=0
 · subst h0;have HN:=lH (show zM n.rungs g=none by rw[List.eq_nil_of_length_eq_zero Vd.out];rfl);obtain⟨y0,y1,y2,y3,y4⟩:=HL.out.at5;obtain⟨z0,z1,z2⟩:=HZ.out.at3;have f0:=HZ.out.free 0;have f1:=HZ.out.free 1;have f2:=HZ.out.free 2;go_enter Tryz.func20,Tryz.ntmps20;have T0:=lH (HV.out.trans HN.out);clear hlen;go_wp2;have P:=lH (zo (vs:=[.int .i64 0,.int .i64 0,.int .i64 0]) HZ.out rfl);obtain⟨WE,hWE⟩:=eX (W2.setCells zb 0 [.int .i64 0,.int .i64 0,.int .i64 0])
   have hWE2:(((W2.setCell ⟨zb,0,none⟩ (.int .i64 0)).setCell ⟨zb,1,none⟩ (.int .i64 0)).setCell ⟨zb,2,none⟩ (.int .i64 0))=WE:=hWE;rw[hWE] at P;try rw[hWE2]
   clear hWE hWE2;have PC:=P.out.cells;refine bodyPost_ret (by simp[results,Tryz.results20,go_sem,PC.at_ 0 _ rfl,PC.at_ 1 _ rfl,PC.at_ 2 _ rfl];try rfl) rfl ?_;exact⟨by rw[T0.out];rfl,P.out.below _ _ (by have:=V2.out;have:=Ue.out;omega) HK.out⟩
 · have U8:=V2.out;have hlp:0<len:=by omega
   have hne:((len:Int)==0)=false:=by simpa using h0
   clear U8 h0;rw[hlen] at hW1 ⊢;clear hlen;obtain⟨y0,y1,y2,y3,y4⟩:=HL.out.at5;obtain⟨z0,z1,z2⟩:=HZ.out.at3;have f0:=HZ.out.free 0;have f1:=HZ.out.free 1;have f2:=HZ.out.free 2;go_enter Tryz.func20,Tryz.ntmps20;go_wp2_with fail
   refine(HG.out _ HK.out).mono ?_;rintro e w3 ⟨rfl,kk⟩;obtain⟨HL,HZ,HK⟩:=lH3 (HL.out.kept kk) (HZ.out.kept kk) (HK.out.trans kk);have HR:=lH (HR.out.kept HK.out);clear kk HG y0 y1 y2 y3 y4 z0 z1 z2 f0 f1 f2 hW1 hW2 hzb hlb;obtain⟨y0,y1,y2,y3,y4⟩:=HL.out.at5;go_wp2;go_loopw [21] (fun iv wr=>∃k:Nat,k≤len∧iv=.int .i64 k∧n.rungs.find? (fun r=>decide (g≤r.1))=(n.rungs.drop k).find? (fun r=>decide (g≤r.1))∧Kept w3 wr) (fun iv _=>len-(intOf iv).toNat)
   case atStart=>exact⟨0,Nat.zero_le _,rfl,rfl,Kept.refl _⟩
   case round =>
    obtain⟨k,hk,rfl,hfd,hK3⟩:=hrel;have Uo:=lH hfd;have Vn:=lH hK3;clear hfd hK3 y0 y1 y2 y3 y4;obtain⟨b,off,rfl⟩:=HR.out.form.resolve_left (by omega);by_cases hlt:k<len
    · skip;obtain⟨u,c,p,hn,hd,hb,hfine,p0,p1,p2⟩:=(HR.out.kept Vn.out).rung hlt;have HD:=lH hd;have hkk:(k:Int)<(len:Int):=by omega
      obtain⟨w4,hw4⟩:=eX (wr.alloc (.cells #[.int .i64 u,.int .i64 c,.int .i64 p] 46))
      have k4:Kept wr w4:=by rw[←hw4];exact ja _ _
      obtain⟨r0,r1,r2⟩:=(jf wr (.int .i64 u) [.int .i64 c,.int .i64 p] 46 w4 (by rw[hw4];exact Kept.refl _)).at3;have HZ:=lH (HZ.out.kept (Vn.out.trans k4));have VU:=lH (HK.out.trans (Vn.out.trans k4));obtain⟨z0,z1,z2⟩:=HZ.out.at3;have f0:=HZ.out.free 0;have f1:=HZ.out.free 1;have f2:=HZ.out.free 2;obtain⟨rb,hrb⟩:=eX (wr.heap.size)
      rw[hrb] at r0 r1 r2;have UN:=lH (Vn.out.trans k4);clear hn hd hfine k4;by_cases hg:g≤u
      · skip;have HW:=lH (show atL n t=some (u,c,p) by rw[HV.out];exact Z4 Uo.out HD.out hg);go_wp2;have P:=lH (zo (vs:=[.int .i64 u,.int .i64 c,.int .i64 p]) HZ.out rfl);obtain⟨WE,hWE⟩:=eX (w4.setCells zb 0 [.int .i64 u,.int .i64 c,.int .i64 p])
        have hWE2:(((w4.setCell ⟨zb,0,none⟩ (.int .i64 u)).setCell ⟨zb,1,none⟩ (.int .i64 c)).setCell ⟨zb,2,none⟩ (.int .i64 p))=WE:=hWE;rw[hWE] at P;try rw[hWE2]
        clear hWE hWE2;have PC:=P.out.cells;refine bodyPost_ret (by simp[results,Tryz.results20,go_sem,PC.at_ 0 _ rfl,PC.at_ 1 _ rfl,PC.at_ 2 _ rfl];try rfl) rfl ?_;exact⟨by rw[HW.out];rfl,P.out.below _ _ (by have:=V2.out;have:=Ue.out;omega) VU.out⟩
      · skip;have HW:=lH (ZJ Uo.out HD.out hg);go_wp2;go_roundw
        case rel=>exact⟨k+1,by omega,by go_num,HW.out,UN.out⟩
        case measure=>simp[intOf];omega
    · skip;obtain⟨q,hq⟩:∃q,len=q+1:=⟨len-1,by omega⟩
      have g1:(len:Int)-1=(q:Int):=by omega
      have gw:IntKind.i64.wrap (q:Int)=(q:Int):=by rw[IntKind.wrap_i64];omega
      have g2:(q:Int)<(len:Int):=by omega
      obtain⟨u,c,p,hn,hd,hb,hfine,p0,p1,p2⟩:=(HR.out.kept Vn.out).rung (show q<len by omega);have hkk:¬(k:Int)<(len:Int):=by omega
      have HL:=lH (HL.out.kept Vn.out);have HZ:=lH (HZ.out.kept Vn.out);obtain⟨y0,y1,y2,y3,y4⟩:=HL.out.at5;obtain⟨z0,z1,z2⟩:=HZ.out.at3;have f0:=HZ.out.free 0;have f1:=HZ.out.free 1;have f2:=HZ.out.free 2;have HW:=lH (show atL n t=some (u,c,p) by rw[HV.out];exact ZI Uo.out (by rw[Vd.out];omega) (by rw[Vd.out,show len-1=q by omega];exact hn));have VU:=lH (HK.out.trans Vn.out);clear hq hn hd hfine;go_wp2;have P:=lH (zo (vs:=[.int .i64 u,.int .i64 c,.int .i64 p]) HZ.out rfl);obtain⟨WE,hWE⟩:=eX (wr.setCells zb 0 [.int .i64 u,.int .i64 c,.int .i64 p])
      have hWE2:(((wr.setCell ⟨zb,0,none⟩ (.int .i64 u)).setCell ⟨zb,1,none⟩ (.int .i64 c)).setCell ⟨zb,2,none⟩ (.int .i64 p))=WE:=hWE;rw[hWE] at P;try rw[hWE2]
      clear hWE hWE2;have PC:=P.out.cells;refine bodyPost_ret (by simp[results,Tryz.results20,go_sem,PC.at_ 0 _ rfl,PC.at_ 1 _ rfl,PC.at_ 2 _ rfl];try rfl) rfl ?_;exact⟨by rw[HW.out];rfl,P.out.below _ _ (by have:=V2.out;have:=Ue.out;omega) VU.out⟩
def Kind (t e:TypeId) (size bytes:Nat):Prop:=∃i z,Tryz.prog.underlying t=some (.slice e)∧Tryz.prog.info? e=some i∧i.zero=some z∧i.size=size∧i.bytes=bytes∧z.cells.size=size∧0<size
def Zn (w:World) (y:Value) (m:Nat) (news:List Value):Prop :=
 (∃ad c,y=.slice (some ad) m c∧∀j u,news[j]?=some u→w.cell? (ad.add j)=some u)∨(∃c,y=.slice none 0 c∧m=0)
theorem qj {t e:TypeId} {size bytes:Nat} (K:Kind t e size bytes) (w:World) (B:Nat) (hB:B≤w.heap.size) (g n cap:Nat) (xs:List Value) (hown:w.ownsRow B e size (.slice (some ⟨g,0,none⟩) n cap) n xs) (y:Value) (m:Nat) (news:List Value) (hl:news.length=m*size) (hone:∀u ∈ news,u.oneCell'=true) (hy:Zn w y m news)
 (h63:n+m≤maxLen) (hb:((n+m)+(n+m) / 4+192)*bytes≤281474976710656) (ty:TypeId) :
 ∃g' cap' w',(Builtin.append_ #[t,t] ty #[.slice (some ⟨g,0,none⟩) n cap,y]).run Tryz.prog w=.ok (.slice (some ⟨g',0,none⟩) (n+m) cap') w'∧w'.ownsRow B e size (.slice (some ⟨g',0,none⟩) (n+m) cap') (n+m) (xs++news)∧Below B w w'∧w.grownBy w' (some g):=by
 obtain⟨i,z,ht,hi,hz,h1,h8,hzs,hsz⟩:=K;have hbg:B≤g:=by
  rcases hown.2 with ⟨h0,_⟩ | ⟨g2,cap2,cur,h0,hbg,_⟩
  · cases h0
  · cases h0;exact hbg
 rcases hy with ⟨ad,c,rfl,hc⟩ | ⟨c,rfl,rfl⟩
 · obtain⟨v',w',hr,ho,hg,hnil⟩:=run_append_own_wide w B t ty e i z size bytes ht hi hz h1 h8 hzs hsz _ n xs hown ad m c news hl hc hone h63 hb hB;have hb:=(Below.refl B w).grown hg hB (by intro k hk;cases hk;exact hbg);rcases ho.2 with ⟨h0,_⟩ | ⟨g2,cap2,cur,rfl,_⟩
   · have:=(hnil.1 h0).1
     cases this
   · exact⟨g2,cap2,w',hr,ho,hb,hg⟩
 · have:news=[]:=List.eq_nil_of_length_eq_zero (by rw[hl,Nat.zero_mul]);subst this;rcases hown.2 with ⟨h0,_⟩ | ⟨g2,cap2,cur,h0,_,hg,hnc,_⟩
   · cases h0
   · cases h0
     have hr:=run_append_room_src w t t ty e i ht hi g 0 n cap (.slice none 0 c) 0 [] (Src.ofNil w ht c) (by omega) (by intro j hj;simp at hj) (by intro j hj;simp at hj);exact⟨_,_,_,hr,by simpa [World.setCells] using hown,Below.refl B w,World.grownBy.refl _ _⟩
theorem jat {t e:TypeId} {size bytes:Nat} (Kd:Kind t e size bytes) {o:Oper} {a:Act} {K:Act→World→Prop} {Q:Exit→Act→World→Prop} (s x:Operand) (w:World)
 (ho:o.op=.call { callee:=.builtin .append,args:=#[s,x],argTypes:=#[t,t] })
 (B:Nat) (hB:B≤w.heap.size) (g n cap:Nat) (xs:List Value) (hs:a.eval s=.slice (some ⟨g,0,none⟩) n cap) (hown:w.ownsRow B e size (.slice (some ⟨g,0,none⟩) n cap) n xs) (y:Value) (m:Nat) (news:List Value) (hx:a.eval x=y) (hl:news.length=m*size) (hone:∀u ∈ news,u.oneCell'=true) (hy:Zn w y m news)
 (h63:n+m≤maxLen) (hb:((n+m)+(n+m) / 4+192)*bytes≤281474976710656)
 (h:∀g' cap' w',w'.ownsRow B e size (.slice (some ⟨g',0,none⟩) (n+m) cap') (n+m) (xs++news)→Below B w w'→w.grownBy w' (some g)→K (a.put o.dst (.slice (some ⟨g',0,none⟩) (n+m) cap')) w'):o.wp Tryz.prog a w K Q:=by
 obtain⟨g',cap',w',hr,h2,h3,h4⟩:=qj Kd w B hB g n cap xs hown y m news hl hone hy h63 hb o.type;unfold Oper.wp execOp;simp only[ho,resolve,invoke,builtin,Sem.run_bind,Sem.run_pure,Result.andThen_ok,List.map_toArray,List.map_cons,List.map_nil,hs,hx,hr];exact h g' cap' w' h2 h3 h4
theorem JO {t e:TypeId} {size bytes:Nat} (Kd:Kind t e size bytes) {ops:Array Oper} {rest:List Oper} {o:Oper} {a:Act} {Q:Exit→Act→World→Prop} (w:World) (hgd:o.guard=none) (s x:Operand)
 (ho:o.op=.call { callee:=.builtin .append,args:=#[s,x],argTypes:=#[t,t] })
 (B:Nat) (hB:B≤w.heap.size) (g n cap:Nat) (xs:List Value) (hs:a.eval s=.slice (some ⟨g,0,none⟩) n cap) (hown:w.ownsRow B e size (.slice (some ⟨g,0,none⟩) n cap) n xs) (y:Value) (m:Nat) (news:List Value) (hx:a.eval x=y) (hl:news.length=m*size) (hone:∀u ∈ news,u.oneCell'=true) (hy:Zn w y m news)
 (h63:n+m≤maxLen) (hb:((n+m)+(n+m) / 4+192)*bytes≤281474976710656)
 (h:∀g' cap' w',w'.ownsRow B e size (.slice (some ⟨g',0,none⟩) (n+m) cap') (n+m) (xs++news)→Below B w w'→w.grownBy w' (some g)→wpList Tryz.prog ops Q rest (a.put o.dst (.slice (some ⟨g',0,none⟩) (n+m) cap')) w'):wpList Tryz.prog ops Q (o::rest) a w :=
 wpList_plain hgd fun _ hK=>jat Kd s x w ho B hB g n cap xs hs hown y m news hx hl hone hy h63 hb fun g' cap' w' h2 h3 h4=>hK _ _ (h g' cap' w' h2 h3 h4)
theorem jbI (w:World) (B size:Nat) (e:TypeId) (hB:B≤w.heap.size):(w.alloc (.cells #[] e)).ownsRow B e size (.slice (some ⟨w.heap.size,0,none⟩) 0 0) 0 [] :=
 ⟨by simp,.inr ⟨w.heap.size,0,#[],rfl,hB,World.alloc_heap_new w _,by omega,by unfold maxLen;omega,by simp,by simp⟩⟩
theorem jbu {w:World} {B g n cap size:Nat} {e:TypeId} {xs:List Value} (h:w.ownsRow B e size (.slice (some ⟨g,0,none⟩) n cap) n xs) (o:Obj):(w.alloc o).ownsRow B e size (.slice (some ⟨g,0,none⟩) n cap) n xs:=by
 refine⟨h.1,?_⟩;rcases h.2 with ⟨h0,_⟩ | ⟨g2,cap2,cur,h0,hb,hg,hr⟩
 · cases h0
 · cases h0
   exact .inr ⟨g,cap,cur,rfl,hb,(Below.heap_alloc w o g (Array.getElem?_eq_some_iff.1 hg).1).trans hg,hr⟩
theorem jck {W:World} {B:Nat} {e:TypeId} {cs:Array Value} {vals:List Value} (hv:cs=vals.toArray) (h:W.heap[B]?=some (.cells cs e (0,0))):Zn W (.slice (some ⟨B,0,none⟩) 1 1) 1 vals:=by
 subst hv;exact .inl ⟨_,1,rfl,by have:=World.news_of_block (cs:=vals.toArray) (t:=e) (fr:=(0,0)) h;simpa using this⟩
theorem jc8:Kind 23 63 2 24:=by
 obtain⟨i,hi,hz,h1,h2⟩:=info_parts (show (Tryz.prog.info? 63).map (fun i=>(i.zero,i.size,i.bytes))=some (some (.agg #[.string ByteArray.empty,.int .i64 0]),2,24) by kernel_rfl);exact⟨i,_,Tryz.underlying23,hi,hz,h1,h2,rfl,by decide⟩
theorem Yz:∀(l:Vec.V) (j:Nat) (u:Value),(Vec.cellsOf l)[j]?=some u→∃i,i<l.length∧((j=i*2∧u=.string (Vec.nm l i))∨(j=i*2+1∧u=.int .i64 (Vec.qn l i))):=by
 intro l j u h;have hlt:j<l.length*2:=by have:=(List.getElem?_eq_some_iff.1 h).1;rw[Vec.zV] at this;exact this
 have hi:j / 2<l.length:=by omega
 obtain⟨h1,h2⟩:=Vec.Jj l (j / 2) hi;refine⟨j / 2,hi,?_⟩;by_cases he:j % 2=0
 · have e:j=j / 2*2:=by omega
   rw[←e] at h1;rw[h1] at h;exact .inl ⟨e,by cases h;rfl⟩
 · have e:j=j / 2*2+1:=by omega
   rw[←e] at h2;rw[h2] at h;exact .inr ⟨e,by cases h;rfl⟩
theorem jcC {w:World} {a:Option Addr} {len cap:Nat} {l:Vec.V} (h:Vec.jw w a len l):Zn w (.slice a len cap) len (Vec.cellsOf l):=by
 obtain⟨h0,h1,h2,h3⟩:=h;rcases h3 with h3 | ⟨b,off,rfl,hb,hc⟩
 · have hl:l=[]:=List.eq_nil_of_length_eq_zero (by omega);subst hl;subst h3
   cases a with
   | none=>exact .inr ⟨cap,rfl,rfl⟩
   | some ad=>exact .inl ⟨ad,cap,rfl,fun j u hu=>by simp[Vec.cellsOf] at hu⟩
 · refine .inl ⟨_,cap,rfl,fun j u hu=>?_⟩;obtain⟨i,hi,hj⟩:=Yz l j u hu;obtain⟨c1,c2⟩:=hc i (by omega);have e:(⟨b,off,none⟩:Addr).add j=⟨b,off+j,none⟩:=by
    unfold Addr.add;split<;>simp_all
   rw[e];rcases hj with ⟨rfl,rfl⟩ | ⟨rfl,rfl⟩
   · exact c1
   · rw[←Nat.add_assoc];exact c2
theorem jah (a:Option Addr) (len cap:Nat) (l:Vec.V) (w:World) (hr:Vec.jw w a len l) (hc:len≤cap) (hm:cap≤maxLen) (hn:len≤1000000) :
 Calls Tryz.prog 33 #[.slice a len cap] w fun e w'=>∃a' m' c',e=.returned (.slice a' m' c')∧Vec.Reads w' (.slice a' m' c') l∧(∀b off sp,a'=some ⟨b,off,sp⟩→w.heap.size≤b)∧Kept w w':=by
 have hl:=hr.1;have q22:∀(w:World) (a:Option Addr) (n c n' c':Nat),(binOp .eql 23 (.slice a n c) (.slice none n' c')).run Tryz.prog w=.ok (.bool a.isNone) w:=fun w a n c n' c'=>Lib.run_eql_slice_nil w _ _ a n c n' c' Tryz.underlying23
 cases a with
 | none =>
  have h0:len=0:=by
   rcases hr.form with h | ⟨b,off,h⟩
   · exact h
   · cases h
  subst h0;have hl0:l=[]:=List.eq_nil_of_length_eq_zero hl;subst hl0;clear hr hl;go_enter Tryz.func33,Tryz.ntmps33;go_wp2;go_ret;exact⟨none,0,0,rfl,Vec.Reads.nil _,(fun b o s e=>by cases e),Kept.refl _⟩
 | some ad =>
  have HR:=lH hr;have HL:=lH hl;have hrl:(Vec.cellsOf l).length=len*2:=by rw[Vec.zV,hl]
  have hb1:0+len≤maxLen:=by unfold maxLen;omega
  have hb2:((0+len)+(0+len) / 4+192)*24≤281474976710656:=by omega
  clear hr hl;go_enter Tryz.func33,Tryz.ntmps33;go_wp2_with (at_builtin;refine JO jc8 _ rfl (.tmp 5) (.tmp 6) rfl w.heap.size (by simp) w.heap.size 0 0 [] rfl (jbI w w.heap.size 2 _ (Nat.le_refl _)) _ len (Vec.cellsOf l) rfl hrl (Vec.zl _) (jcC (HR.out.kept (ja _ _))) hb1 hb2 ?_;intro g1 k1 W1 ho hd hg;have HO:=lH ho;have HD:=lH hd;clear ho hd hg;refine Hid.out ?_)
  refine lH ?_;simp only[Nat.zero_add,List.nil_append] at HO ⊢;go_wp2;go_ret;exact⟨_,_,_,rfl,Vec.jq.reads (⟨by rw[HL.out];exact HO.out,HR.out.2.2.1⟩:Vec.jq 63 W1 w.heap.size (.slice (some ⟨g1,0,none⟩) len k1) l),(fun b o s e=>by cases e;exact(HO.out.lt g1 rfl).1),Below.trans (ja w _) HD.out⟩
def zq (c lo hi:Int):Int:=min (max c lo) hi
def jW (n:Lad) (t:Vec.V):Int×Vec.V×Int :=
 if jP n≠0 then (0,[],jP n) else match atL n t with
 | none=>(n.lo,n.unit,0)
 | some r=>if (Vec.jA Vec.jj r.2.2 n.unit).1≠0 then (0,[],(Vec.jA Vec.jj r.2.2 n.unit).1) else (zq r.2.1 n.lo n.hi,(Vec.jA Vec.jj r.2.2 n.unit).2,0)
def Xd (x:Int×Vec.V×Int) (w:World) (e:Ending) (w':World):Prop:=∃v,e=.returned (.tuple #[.int .i64 x.1,v,.int .i64 x.2.2])∧Vec.Reads w' v x.2.1∧Kept w w'
theorem Xx {n:Lad} {t:Vec.V} {r:Int×Int×Int} (hf:∀x ∈ n.rungs,I64 x.1∧I64 x.2.1∧I64 x.2.2) (h:atL n t=some r):I64 r.1∧I64 r.2.1∧I64 r.2.2:=by
 refine hf r ?_;unfold atL zM at h;split at h
 · rename_i r' hr;obtain rfl:=Option.some.inj h;exact List.mem_of_find?_eq_some hr
 · exact List.mem_of_getLast? h
theorem Xz {a b c d:Int} (h:orL [a,b,c,d]=0):a=0∧b=0∧c=0∧d=0:=by
 simp only[orL] at h;split at h
 · rename_i h1;exact absurd h h1
 · split at h
   · rename_i h1;exact absurd h h1
   · split at h
     · rename_i h1;exact absurd h h1
     · split at h
       · rename_i h1;exact absurd h h1
       · omega
theorem jbP {n:Lad} (h:jP n=0):n.unit.length≤8:=by
 have:=(Xz h).2.1;unfold Vec.jc at this;split at this
 · cases this
 · omega
theorem X8 (n:Lad) (a1 a2:Option Addr) (l1 c1 l2 c2:Nat) (tv:Value) (t:Vec.V) (w:World) (h:jL w (.slice a1 l1 c1) (.slice a2 l2 c2) n) (ht:Vec.Reads w tv t) :
 Calls Tryz.prog 16 #[.agg #[.string n.what,.slice a1 l1 c1,.slice a2 l2 c2,.int .i64 n.lo,.int .i64 n.hi],tv] w (Xd (jW n t) w):=by
 obtain⟨W1,hW1⟩:=eX (w.alloc (.cells #[.string n.what,.slice a1 l1 c1,.slice a2 l2 c2,.int .i64 n.lo,.int .i64 n.hi] 26))
 have k1:Kept w W1:=by rw[←hW1];exact ja _ _
 have HL:=lH (jf w (.string n.what) [.slice a1 l1 c1,.slice a2 l2 c2,.int .i64 n.lo,.int .i64 n.hi] 26 W1 (by rw[hW1];exact Kept.refl _));obtain⟨lb,hlb⟩:=eX (w.heap.size)
 rw[hlb] at HL;obtain⟨HK,HA,HT,HF⟩:=lH4 k1 h ht (h.rungs.fine);clear h ht k1;obtain⟨e1,he1⟩:=eX (jP n)
 have VI:=lH he1;have HC:=lH (fun W (k:Kept w W)=>Jf n (.slice a1 l1 c1) (.slice a2 l2 c2) W (HA.out.kept k));unfold zz at HC;rw[he1] at HC;clear he1;obtain⟨y0,y1,y2,y3,y4⟩:=HL.out.at5;go_enter Tryz.func16,Tryz.ntmps16;go_wp2_with fail
 try rw[hW1]
 try rw[hlb]
 clear hW1 hlb;refine(HC.out _ HK.out).mono ?_;rintro e w2 ⟨rfl,kk⟩;have HL:=lH (HL.out.kept kk);have HK:=lH (HK.out.trans kk);clear kk HC y0 y1 y2 y3 y4;by_cases hz:e1=0
 · subst hz;obtain⟨o,ho⟩:=eX (atL n t)
   have HO:=lH ho;have Va:=lH (fun W (k:Kept w W)=>X6 n a1 a2 l1 c1 l2 c2 tv t W (HA.out.kept k) (HT.out.kept k));rw[ho] at Va;unfold AtR Xc at Va;obtain⟨⟨u,c,p⟩,hr⟩:∃r,o.getD (0,0,0)=r:=⟨_,rfl⟩
   rw[hr] at Va;have VD:=lH hr;obtain⟨ok,hok⟩:=eX (o.isSome)
   rw[hok] at Va;have Vy:=lH hok;dsimp only at Va;clear ho hr hok;obtain⟨y0,y1,y2,y3,y4⟩:=HL.out.at5;go_wp2_with fail
   refine(Va.out _ HK.out).mono ?_;rintro e w3 ⟨rfl,kk⟩;have HL:=lH (HL.out.kept kk);have HK:=lH (HK.out.trans kk);clear kk Va y0 y1 y2 y3 y4;obtain⟨w4,hw4⟩:=eX (w3.alloc (.cells #[.int .i64 u,.int .i64 c,.int .i64 p] 46))
   have k4:Kept w3 w4:=by rw[←hw4];exact ja _ _
   have HB:=lH (jf w3 (.int .i64 u) [.int .i64 c,.int .i64 p] 46 w4 (by rw[hw4];exact Kept.refl _));obtain⟨rb,hrb⟩:=eX (w3.heap.size)
   rw[hrb] at HB;have HL:=lH (HL.out.kept k4);have HK:=lH (HK.out.trans k4);clear k4;obtain⟨y0,y1,y2,y3,y4⟩:=HL.out.at5;obtain⟨r0,r1,r2⟩:=HB.out.at3
   cases ok with
   | false =>
    have HW:=lH (show jW n t=(n.lo,n.unit,0) by
     have e:o=none:=by cases o with
      | none=>rfl
      | some x=>exact absurd Vy.out (by simp)
     unfold jW;rw[if_neg (by rw[VI.out];decide),HO.out,e])
    clear r0 r1 r2;go_upto_region 6 with fail
    try rw[hw4]
    try rw[hrb]
    clear hw4 hrb y0 y1 y2 y3 y4;have HS:=lH (show ∀W,Kept w4 W→W.cell? ⟨lb,0,none⟩=some (.string n.what)∧W.cell? ⟨lb,1,none⟩=some (.slice a1 l1 c1)∧W.cell? ⟨lb,2,none⟩=some (.slice a2 l2 c2)∧W.cell? ⟨lb,3,none⟩=some (.int .i64 n.lo)∧W.cell? ⟨lb,4,none⟩=some (.int .i64 n.hi) from fun W k=>(HL.out.kept k).at5);have J:=lH (Kept.drew w4);refine wp_region_held_drew (S:=fun W=>W.cell? ⟨lb,0,none⟩=some (.string n.what)∧W.cell? ⟨lb,1,none⟩=some (.slice a1 l1 c1)∧W.cell? ⟨lb,2,none⟩=some (.slice a2 l2 c2)∧W.cell? ⟨lb,3,none⟩=some (.int .i64 n.lo)∧W.cell? ⟨lb,4,none⟩=some (.int .i64 n.hi)) (by kernel_rfl) (HS.out _ J.out) (fun hHeld=>?_);obtain⟨wd,hwd⟩:=eX (w4.drew)
    rw[hwd] at J hHeld;try rw[hwd]
    clear hwd;refine tR 0 rfl (by kernel_rfl) (fun _ _ _=>id) (Or.inl ⟨by rfl,by rintro W ⟨o0,o1,o2,o3,o4⟩;go_simp<;>with_reducible rfl⟩) ‹_› ?_;try simp only[nA,nB,nC,nD,nE]
    refine tR 1 rfl (by kernel_rfl) (fun _ _ _=>id) (Or.inl ⟨by rfl,by rintro W ⟨o0,o1,o2,o3,o4⟩;go_simp<;>with_reducible rfl⟩) ‹_› ?_;try simp only[nA,nB,nC,nD,nE]
    refine tR 2 rfl (by kernel_rfl) (fun _ _ _=>id) (Or.inl ⟨by rfl,by rintro W ⟨o0,o1,o2,o3,o4⟩;go_simp<;>with_reducible rfl⟩) ‹_› ?_;try simp only[nA,nB,nC,nD,nE]
    refine tR 3 rfl (by kernel_rfl) (fun _ _ _=>id) (Or.inl ⟨by rfl,by rintro W ⟨o0,o1,o2,o3,o4⟩;go_simp<;>with_reducible rfl⟩) ‹_› ?_;try simp only[nA,nB,nC,nD,nE]
    refine rd1 4 fun K9 Ky=>?_;go_simp;obtain⟨a9,c9,e9,q1,q2,q3⟩:=(HA.out.kept (HK.out.trans J.out)).unit;obtain⟨rfl,rfl,rfl⟩:a1=a9∧l1=n.unit.length∧c1=c9:=by cases e9;exact⟨rfl,rfl,rfl⟩
    refine(jah a1 _ c1 n.unit wd q3 q1 q2 (by have:=jbP VI.out;omega)).mono ?_;rintro e w5 ⟨a5,m5,c5,rfl,hrd,-,kk⟩;have J:=lH (J.out.trans kk);have VN:=lH hrd;clear kk hrd e9 q1 q2 q3;refine Ky.out _ _ (HS.out _ J.out) (fun _=>?_);clear Ky K9;try simp only[nA,nB,nC,nD,nE]
    refine tR 5 rfl (by kernel_rfl) (fun _ _ _=>id) (Or.inl ⟨by rfl,by rintro W ⟨o0,o1,o2,o3,o4⟩;go_simp<;>with_reducible rfl⟩) ‹_› ?_;try simp only[nA,nB,nC,nD,nE]
    refine tR 6 rfl (by kernel_rfl) (fun _ _ _=>id) (Or.inl ⟨by rfl,by rintro W ⟨o0,o1,o2,o3,o4⟩;go_simp<;>with_reducible rfl⟩) ‹_› ?_;try simp only[nA,nB,nC,nD,nE]
    refine tR 7 rfl (by kernel_rfl) (fun _ _ _=>id) (Or.inl ⟨by rfl,by rintro W ⟨o0,o1,o2,o3,o4⟩;go_simp<;>with_reducible rfl⟩) ‹_› ?_;try simp only[nA,nB,nC,nD,nE]
    refine wpAnyH_done (by kernel_rfl) ?_ _;go_wp2;go_ret3
    exact⟨.slice a5 m5 c5,by rw[HW.out];rfl,by rw[HW.out];exact VN.out,HK.out.trans J.out⟩
   | true =>
    have Uy:=lH (show o=some (u,c,p) by
     cases o with
     | none=>exact absurd Vy.out (by simp)
     | some x=>have:=VD.out;simp at this;rw[this])
    have VK:=lH (Xx HF.out (HO.out.trans Uy.out));obtain⟨⟨e2,m2⟩,hem⟩:∃x,Vec.jA Vec.jj p n.unit=x:=⟨_,rfl⟩
    have HW:=lH (show jW n t=if e2≠0 then (0,[],e2) else (zq c n.lo n.hi,m2,0) by
     unfold jW;rw[if_neg (by rw[VI.out];decide),HO.out,Uy.out];dsimp only;rw[hem])
    have HP:=lH (fun W (k:Kept w W)=>Vec.jdf (n:=p) (HA.out.unit.kept k) VK.out.2.2.1 VK.out.2.2.2 hem);clear hem;go_wp2_with fail
    try rw[hw4]
    try rw[hrb]
    clear hw4 hrb;refine(HP.out _ HK.out).mono ?_;rintro e w5 ⟨x,rfl,hrd,kk⟩;obtain⟨VN,HL,HB,HK⟩:=lH4 hrd (HL.out.kept kk) (HB.out.kept kk) (HK.out.trans kk);clear hrd kk HP y0 y1 y2 y3 y4 r0 r1 r2;by_cases hz2:e2=0
    · subst hz2;obtain⟨y0,y1,y2,y3,y4⟩:=HL.out.at5;obtain⟨r0,r1,r2⟩:=HB.out.at3;go_wp2;go_ret3
      exact⟨x,by rw[HW.out];rfl,by rw[HW.out];exact VN.out,HK.out⟩
    · have hz3:(e2 != 0)=true:=by simpa using hz2
      have HN:=lH hz2;clear hz2;go_wp2;go_ret3
      exact⟨.slice none 0 0,by rw[HW.out,if_pos HN.out];rfl,by rw[HW.out,if_pos HN.out];exact Vec.Reads.nil _,HK.out⟩
 · have hz3:(e1 != 0)=true:=by simpa using hz
   have HW:=lH (show jW n t=(0,[],e1) by unfold jW;rw[VI.out,if_pos hz]);clear hz;go_wp2;go_ret3
   exact⟨.slice none 0 0,by rw[HW.out];rfl,by rw[HW.out];exact Vec.Reads.nil _,HK.out⟩
theorem qh {n:Lad} {v tv:Value} {t:Vec.V} {w:World} {x:Int×Vec.V×Int} (h:Jc w v n) (ht:Vec.Reads w tv t) (e:jW n t=x):Calls Tryz.prog 16 #[v,tv] w (Xd x w):=by
 subst e;obtain⟨v1,v2,rfl,h⟩:=h;obtain⟨a1,c1,rfl,-⟩:=id h.unit;obtain⟨a2,c2,rfl,-⟩:=id h.rungs;exact X8 n a1 a2 _ c1 _ c2 tv t w h ht
theorem jcX {n:Lad} {v tv:Value} {t:Vec.V} {w:World} {o:Option (Int×Int×Int)} (h:Jc w v n) (ht:Vec.Reads w tv t) (e:atL n t=o):Calls Tryz.prog 20 #[v,tv] w (AtR o w):=by
 subst e;obtain⟨v1,v2,rfl,h⟩:=h;obtain⟨a1,c1,rfl,-⟩:=id h.unit;obtain⟨a2,c2,rfl,-⟩:=id h.rungs;exact X6 n a1 a2 _ c1 _ c2 tv t w h ht
def w3L (s:List UInt8) (i:Nat):List UInt8:=(jb 32 s).getD i []
def j7 (s:List UInt8) (i:Nat):List UInt8:=(jb 47 (w3L s 2)).getD i []
def JM (s:List UInt8):Lad:=⟨bytes (w3L s 0),(Vec.zh (w3L s 1)).2,(((jb 32 s).drop 3).map jF).take 9,(Vec.valL (j7 s 0):Int),(Vec.valL (j7 s 1):Int)⟩
def JN (s:List UInt8):Bool:=decide (3≤(jb 32 s).length)&&(jK 47 2 (w3L s 2)&&j9 ((jb 32 s).drop 3))
def JT (s:List UInt8):Bool:=inQ (j7 s 0)&&(inQ (j7 s 1)&&za ((jb 32 s).drop 3))
def je (s:List UInt8):Int×Lad :=
 if JN s=false then (2,Lad.zero) else if JT s=false then (5,Lad.zero) else if (Vec.zh (w3L s 1)).1≠0 then ((Vec.zh (w3L s 1)).1,Lad.zero)
 else if jP (JM s)≠0 then (jP (JM s),Lad.zero) else (0,JM s)
def zy (B:Nat) (w:World) (v:Value) (n:Lad):Prop:=∃a1 m1 c1 a2 m2 c2,v=.agg #[.string n.what,.slice a1 m1 c1,.slice a2 m2 c2,.int .i64 n.lo,.int .i64 n.hi]∧jL w (.slice a1 m1 c1) (.slice a2 m2 c2) n∧(∀b off sp,a1=some ⟨b,off,sp⟩→B≤b)∧(∀b off sp,a2=some ⟨b,off,sp⟩→B≤b)
theorem zy.toR {B:Nat} {w:World} {v:Value} {n:Lad} (h:zy B w v n):Jc w v n:=by
 obtain⟨a1,m1,c1,a2,m2,c2,e,h0,_⟩:=h;exact⟨_,_,e,h0⟩
def jJ (r:Int×Lad) (w:World) (e:Ending) (w':World):Prop:=(r.1=0→∃v,e=.returned v∧zy w.heap.size w' v r.2)∧(r.1≠0→e=.panicked [jC r.1])∧Kept w w'
theorem jJ.bad {r:Int×Lad} {w w':World} {c:Int} (h:r.1=c) (hc:c≠0) (hb:Kept w w'):jJ r w (.panicked [jC c]) w':=⟨fun g=>absurd (h.symm.trans g) hc,fun _=>by rw[h],hb⟩
theorem ZC {s:List UInt8} (h:3≤(jb 32 s).length) (i:Nat) (hi:i<3):(jb 32 s)[i]?=some (w3L s i):=by
 unfold w3L;rw[List.getElem?_eq_getElem (by omega)];simp[List.getD,show i<(jb 32 s).length by omega]
theorem jcU {s:List UInt8} (h:(jb 47 (w3L s 2)).length=2) (i:Nat) (hi:i<2):(jb 47 (w3L s 2))[i]?=some (j7 s i):=by
 unfold j7;rw[List.getElem?_eq_getElem (by omega)];simp[List.getD,show i<(jb 47 (w3L s 2)).length by omega]
theorem jas (x:ByteArray) (a1 a2:Option Addr) (l1 c1 l2 c2:Nat) (lo hi:Int) (w:World):Calls Tryz.prog 77 #[.agg #[.string x,.slice a1 l1 c1,.slice a2 l2 c2,.int .i64 lo,.int .i64 hi],.int .i64 0] w fun e w'=>e=.returned (.agg #[.string x,.slice a1 l1 c1,.slice a2 l2 c2,.int .i64 lo,.int .i64 hi])∧Kept w w':=by
 go_enter Tryz.func77,Tryz.ntmps77;go_wp2;go_returns
 exact⟨rfl,jN _ _ _⟩
theorem qu (x:ByteArray) (a1 a2:Option Addr) (l1 c1 l2 c2:Nat) (lo hi:Int) (c:Int) (w:World) (h:c≠0):Calls Tryz.prog 77 #[.agg #[.string x,.slice a1 l1 c1,.slice a2 l2 c2,.int .i64 lo,.int .i64 hi],.int .i64 c] w fun e w'=>e=.panicked [jC c]∧Kept w w':=by
 have h3:(c != 0)=true:=by simpa using h
 clear h;go_enter Tryz.func77,Tryz.ntmps77;go_wp2;exact⟨rfl,rfl,jN _ _ _⟩
theorem XU (s:List UInt8) (w:World) (hE:Vec.j5 w) (hs:s.length≤900000) :
 Calls Tryz.prog 50 #[.string (bytes s)] w (jJ (je s) w):=by
 obtain⟨Z,hZ⟩:=eX (w.alloc (.cells #[.string ⟨#[]⟩,.slice none 0 0,.slice none 0 0,.int .i64 0,.int .i64 0] 26))
 have hkz:Kept w Z:=by rw[←hZ];exact ja _ _
 have V3:=lH (jf w (.string ⟨#[]⟩) [.slice none 0 0,.slice none 0 0,.int .i64 0,.int .i64 0] 26 Z (by rw[hZ];exact Kept.refl _));obtain⟨q0,hq0⟩:=eX (w.heap.size)
 rw[hq0] at V3;obtain⟨U9,T1,K,HE,Ta⟩:=lH5 hq0 (show Z.heap.size=q0+1 by rw[←hZ,World.size_alloc,hq0]) hkz hE (jbN s Z (hE.kept hkz).toEnv.base (by omega));unfold XF at Ta;have Uf:=lH (show ∀p ∈ jb 32 s,p.length≤1000000 from fun p h=>by have:=jO 32 s p h;omega);clear hE hkz;go_enter Tryz.func50,Tryz.ntmps50;go_wp2_with fail
 try rw[hZ]
 try rw[hq0]
 clear hZ hq0;refine Ta.out.mono ?_;rintro e w1 ⟨hbad,hok,kk⟩;obtain⟨V3,K,U7⟩:=lH3 (V3.out.kept kk) (K.out.trans kk) (show q0+1≤w1.heap.size by have:=kk.size;rw[T1.out] at this;exact this);clear kk Ta;by_cases h3:(jb 32 s).length<3
 · obtain rfl:=hbad h3;have HV:=lH (show (je s).1=2 by unfold je JN;rw[decide_eq_false (by omega:¬3≤(jb 32 s).length)];rfl);clear hbad hok h3;go_wp2;exact⟨rfl,jJ.bad HV.out (by decide) K.out⟩
 · obtain⟨g,cap,bw,bc,r,rfl,hcells,hrest,hrp,hrs⟩:=hok (by omega);have h3':3≤(jb 32 s).length:=by omega
   obtain⟨H3,Un,VG,Ub,HC,VB,V1,UL⟩:=lH8 h3' (Uf.out _ (List.mem_of_getElem? (ZC h3' 0 (by decide)))) (Uf.out _ (List.mem_of_getElem? (ZC h3' 1 (by decide)))) (Uf.out _ (List.mem_of_getElem? (ZC h3' 2 (by decide)))) (show ∀W,Kept w1 W→W.cell? ⟨g,0,none⟩=some (.string (bytes (w3L s 0)))∧W.cell? ⟨g,1,none⟩=some (.string (bytes (w3L s 1)))∧W.cell? ⟨g,2,none⟩=some (.string (bytes (w3L s 2))) from fun W k=>⟨cell_later k (hcells 0 _ (by decide) (ZC h3' 0 (by decide))),cell_later k (hcells 1 _ (by decide) (ZC h3' 1 (by decide))),cell_later k (hcells 2 _ (by decide) (ZC h3' 2 (by decide)))⟩) hrest hrp (show ∀q,r=some q→q.length≤1000000 from fun q h=>by have:=hrs q h;omega);have UO:=lH (fun W (k:Kept w W)=>X3 (w3L s 2) W (HE.out.kept k).toEnv.base Ub.out);unfold ZT at UO;obtain⟨c0,c1,c2⟩:=HC.out _ (Kept.refl _);clear hbad hok h3 h3' hcells hrest hrp hrs;obtain⟨VO,VW,VP,V4⟩:=lH4 (show JM s=⟨bytes (w3L s 0),(Vec.zh (w3L s 1)).2,(((jb 32 s).drop 3).map jF).take 9,(Vec.valL (j7 s 0):Int),(Vec.valL (j7 s 1):Int)⟩ from rfl) (show JN s=(jK 47 2 (w3L s 2)&&j9 ((jb 32 s).drop 3)) by unfold JN;rw[decide_eq_true H3.out];rfl) (show JT s=(inQ (j7 s 0)&&(inQ (j7 s 1)&&za ((jb 32 s).drop 3))) from rfl) (fun h i hi=>jcU (s:=s) h i hi);obtain⟨a,ha⟩:=eX (w3L s 0)
   obtain⟨b,hb⟩:=eX (w3L s 1)
   obtain⟨c,hc⟩:=eX (w3L s 2)
   have VS:=lH (show w3L s 1=b from hb);rw[ha] at HC Un VO c0;rw[hb] at HC VG VO c1;rw[hc] at HC Ub UO VW V4 c2;obtain⟨rs,hrs⟩:=eX ((jb 32 s).drop 3)
   rw[hrs] at V1 VO VW VP;clear ha hb hc hrs;obtain⟨f1,hf1⟩:=eX (jK 47 2 c)
   have Uz:=lH hf1;rw[hf1] at VW;clear hf1;go_wp2_with fail
   refine(UO.out _ K.out).mono ?_;rintro e w2 ⟨hok,hbad,kk⟩;obtain⟨V3,VB,HC,T2,K⟩:=lH5 (V3.out.kept kk) (VB.out.kept kk) (fun W (k:Kept w2 W)=>HC.out W (kk.trans k)) (Nat.le_trans U7.out kk.size) (K.out.trans kk);clear kk UO c0 c1 c2
   cases f1 with
   | false =>
    obtain rfl:=hbad Uz.out;have HV:=lH (show (je s).1=2 by unfold je;rw[VW.out];rfl);clear hbad hok;go_wp2;exact⟨rfl,jJ.bad HV.out (by decide) K.out⟩
   | true =>
    obtain⟨g2,cap2,rfl,hc2⟩:=hok Uz.out;obtain⟨hl2,hall2⟩:=Xr Uz.out;obtain⟨Tb,Tc,Vi⟩:=lH3 (show Vec.jm (j7 s 0)=true∧(j7 s 0).length≤1000000 from⟨hall2 _ (List.mem_of_getElem? (V4.out hl2 0 (by decide))),Nat.le_trans (jO 47 c _ (List.mem_of_getElem? (V4.out hl2 0 (by decide)))) Ub.out⟩) (show Vec.jm (j7 s 1)=true∧(j7 s 1).length≤1000000 from⟨hall2 _ (List.mem_of_getElem? (V4.out hl2 1 (by decide))),Nat.le_trans (jO 47 c _ (List.mem_of_getElem? (V4.out hl2 1 (by decide)))) Ub.out⟩) (show ∀W,Kept w2 W→W.cell? ⟨g2,0,none⟩=some (.string (bytes (j7 s 0)))∧W.cell? ⟨g2,1,none⟩=some (.string (bytes (j7 s 1))) from fun W k=>⟨cell_later k (hc2 0 _ (V4.out hl2 0 (by decide))),cell_later k (hc2 1 _ (V4.out hl2 1 (by decide)))⟩);clear hbad hok hc2 hl2 hall2 V4;obtain⟨n0,hn0⟩:=eX (j7 s 0)
    obtain⟨n1,hn1⟩:=eX (j7 s 1)
    rw[hn0] at Tb Vi VO VP;rw[hn1] at Tc Vi VO VP;clear hn0 hn1;have UP:=lH (fun W (k:Kept w W) (h:zK W bw bc r)=>Ym bw bc r W (HE.out.kept k).toEnv.base h UL.out);unfold jbF at UP;rw[V1.out] at UP;obtain⟨f2,hf2⟩:=eX (j9 rs)
    have UA:=lH hf2;rw[hf2] at VW;clear hf2;go_wp2_with fail
    refine(UP.out _ K.out VB.out).mono ?_;rintro e w3 ⟨hok,hbad,kk⟩;obtain⟨V3,VB,HC,Vi,V5,K⟩:=lH6 (V3.out.kept kk) (VB.out.kept kk) (fun W (k:Kept w3 W)=>HC.out W (kk.trans k)) (fun W (k:Kept w3 W)=>Vi.out W (kk.trans k)) (Nat.le_trans T2.out kk.size) (K.out.trans kk);clear kk UP
    cases f2 with
    | false =>
     obtain rfl:=hbad UA.out;have HV:=lH (show (je s).1=2 by unfold je;rw[VW.out];rfl);clear hbad hok;go_wp2;exact⟨rfl,jJ.bad HV.out (by decide) K.out⟩
    | true =>
     obtain⟨v9,rfl⟩:=hok UA.out;clear hbad hok;have VC:=lH (fun W (k:Kept w W)=>JH n0 W (HE.out.kept k).toEnv Tb.out.2 Tb.out.1);have Vw:=lH (fun W (k:Kept w W)=>JH n1 W (HE.out.kept k).toEnv Tc.out.2 Tc.out.1);unfold Z2 at VC Vw;have Vo:=lH (fun W (k:Kept w3 W)=>qp bw bc r W (HE.out.kept (K.out.trans k)).toEnv (VB.out.kept k) UL.out (by rw[V1.out];exact UA.out));unfold jbC at Vo;rw[V1.out] at Vo;obtain⟨p0,hp0⟩:=eX (inQ n0)
     rw[hp0] at VP VC;have UB:=lH (show p0=true→(Vec.valL n0:Int)≤9223372036854775807 from fun h=>by rw[←hp0] at h;unfold inQ at h;have:=of_decide_eq_true h;omega);clear hp0;obtain⟨p1,hp1⟩:=eX (inQ n1)
     rw[hp1] at VP Vw;have UC:=lH (show p1=true→(Vec.valL n1:Int)≤9223372036854775807 from fun h=>by rw[←hp1] at h;unfold inQ at h;have:=of_decide_eq_true h;omega);clear hp1;obtain⟨p2,hp2⟩:=eX (za rs)
     rw[hp2] at VP Vo;clear hp2;obtain⟨u0,hu0⟩:=eX (Vec.valL n0)
     rw[hu0] at VO VC UB;clear hu0;obtain⟨u1,hu1⟩:=eX (Vec.valL n1)
     rw[hu1] at VO Vw UC;clear hu1;obtain⟨rl,hrl⟩:=eX ((rs.map jF).take 9)
     rw[hrl] at VO Vo;clear hrl;go_upto_region 4 with fail
     by_cases hnum:JT s=true
     · skip;obtain⟨rfl,rfl,rfl⟩:p0=true∧p1=true∧p2=true:=by
        have h:=hnum;rw[VP.out] at h;simpa using h
       have Ug:=lH (show ∀W,Kept w W→Calls Tryz.prog 72 #[.string (bytes n0)] W (fun e w'=>e=.returned (.int .i64 (u0:Int))∧Kept W w') from fun W k=>(VC.out W k).mono fun e w' h=>⟨by simpa using h.1,h.2⟩);have VX:=lH (show ∀W,Kept w W→Calls Tryz.prog 72 #[.string (bytes n1)] W (fun e w'=>e=.returned (.int .i64 (u1:Int))∧Kept W w') from fun W k=>(Vw.out W k).mono fun e w' h=>⟨by simpa using h.1,h.2⟩);have VQ:=lH (fun W (k:Kept w3 W)=>(Vo.out W k).mono fun e w' h=>(show ∃av n9 cv,e=.returned (.slice av n9 cv)∧Reads jt w' (.slice av n9 cv) rl∧(∀b off sp,av=some ⟨b,off,sp⟩→W.heap.size≤b∧b<w'.heap.size)∧Kept W w' by
        obtain⟨v,e1,ho⟩:=h.1 rfl;obtain⟨a,cap,rfl,h1,h2,h3⟩:=ho.at_;exact⟨a,_,cap,e1,⟨a,cap,rfl,h1,h2,h3⟩,fun b off sp e=>ho.1.lt b (by subst e;rfl),h.2.2⟩))
       clear VC Vw Vo;have UD:=lH hnum;clear hnum;have U0:=lH (UB.out rfl);have U1:=lH (UC.out rfl);go_cut [6] from 18 to 28 (fun s6 wx=>∃q av n9 cv,s6=.pointer (some ⟨q,0,none⟩)∧Hid (ju q [.string ⟨#[]⟩,.slice none 0 0,.slice av n9 cv,.int .i64 (u0:Int),.int .i64 (u1:Int)] wx∧Reads jt wx (.slice av n9 cv) rl∧(∀b off sp,av=some ⟨b,off,sp⟩→b≠q∧w3.heap.size≤b)∧Kept w3 wx∧w3.heap.size≤q))
       case first =>
        have J:=lH (Kept.drew w3);refine wp_region_held_drew (S:=fun W=>Kept w3 W) (by kernel_rfl) (J.out) (fun hHeld=>?_);obtain⟨wd,hwd⟩:=eX (w3.drew)
        rw[hwd] at J hHeld;try rw[hwd]
        clear hwd;refine tR 0 rfl (by kernel_rfl) (fun _ _ _=>id) (Or.inl ⟨by rfl,(by intro W hSw;obtain⟨o0,o1⟩:=Vi.out _ hSw;go_simp<;>with_reducible rfl)⟩) ‹_› ?_;try simp only[nA,nB,nC,nD,nE]
        refine tR 1 rfl (by kernel_rfl) (fun _ _ _=>id) (Or.inl ⟨by rfl,(by intro W hSw;obtain⟨o0,o1⟩:=Vi.out _ hSw;go_simp<;>with_reducible rfl)⟩) ‹_› ?_;try simp only[nA,nB,nC,nD,nE]
        refine tR 2 rfl (by kernel_rfl) (fun _ _ _=>id) (Or.inl ⟨by rfl,(by intro W hSw;obtain⟨o0,o1⟩:=Vi.out _ hSw;go_simp<;>with_reducible rfl)⟩) ‹_› ?_;try simp only[nA,nB,nC,nD,nE]
        refine tR 4 rfl (by kernel_rfl) (fun _ _ _=>id) (Or.inl ⟨by rfl,(by intro W hSw;obtain⟨o0,o1⟩:=Vi.out _ hSw;go_simp<;>with_reducible rfl)⟩) ‹_› ?_;try simp only[nA,nB,nC,nD,nE]
        refine tR 5 rfl (by kernel_rfl) (fun _ _ _=>id) (Or.inl ⟨by rfl,(by intro W hSw;obtain⟨o0,o1⟩:=Vi.out _ hSw;go_simp<;>with_reducible rfl)⟩) ‹_› ?_;try simp only[nA,nB,nC,nD,nE]
        refine tR 6 rfl (by kernel_rfl) (fun _ _ _=>id) (Or.inl ⟨by rfl,(by intro W hSw;obtain⟨o0,o1⟩:=Vi.out _ hSw;go_simp<;>with_reducible rfl)⟩) ‹_› ?_;try simp only[nA,nB,nC,nD,nE]
        refine tR 8 rfl (by kernel_rfl) (fun _ _ _=>id) (Or.inl ⟨by rfl,(by intro W hSw;obtain⟨o0,o1⟩:=Vi.out _ hSw;go_simp<;>with_reducible rfl)⟩) ‹_› ?_;try simp only[nA,nB,nC,nD,nE]
        refine wpAnyH_ready  (rs:=[3,11]) (by kernel_rfl) (by simp) (AllReadyH.cons  (by rw[List.getElem?_toArray];exact rfl) (fun K9 Ky=>?_) (AllReadyH.cons  (by rw[List.getElem?_toArray];exact rfl) (fun K9 Ky=>?_) AllReadyH.nil))
        · skip;go_simp;refine(Ug.out _ (K.out.trans J.out)).mono ?_;rintro e9 ww1 ⟨rfl,kk⟩;have J:=lH (J.out.trans kk);clear kk;refine Ky.out _ _ (J.out) (fun _=>?_);clear Ky K9;try simp only[nA,nB,nC,nD,nE]
          refine wpAnyH_ready  (rs:=[7,11]) (by kernel_rfl) (by simp) (AllReadyH.cons  (by rw[List.getElem?_toArray];exact rfl) (fun K9 Ky=>?_) (AllReadyH.cons  (by rw[List.getElem?_toArray];exact rfl) (fun K9 Ky=>?_) AllReadyH.nil))
          · skip;go_simp;refine(VX.out _ (K.out.trans J.out)).mono ?_;rintro e9 ww3 ⟨rfl,kk⟩;have J:=lH (J.out.trans kk);clear kk;refine Ky.out _ _ (J.out) (fun _=>?_);clear Ky K9;try simp only[nA,nB,nC,nD,nE]
            refine wpAnyH_ready  (rs:=[9,11]) (by kernel_rfl) (by simp) (AllReadyH.cons  (by rw[List.getElem?_toArray];exact rfl) (fun K9 Ky=>?_) (AllReadyH.cons  (by rw[List.getElem?_toArray];exact rfl) (fun K9 Ky=>?_) AllReadyH.nil))
            · skip;go_simp;refine(VQ.out _ J.out).mono ?_;rintro e9 ww5 ⟨av,n9,cv,rfl,rd,rb,kk⟩;obtain⟨RB,RL,RD,J⟩:=lH4 (show ∀b off sp,av=some ⟨b,off,sp⟩→True∧w3.heap.size≤b from fun b off sp e=>⟨trivial,Nat.le_trans J.out.size (rb b off sp e).1⟩) (fun b off sp e=>(rb b off sp e).2) rd (J.out.trans kk);clear rd rb;clear kk;refine Ky.out _ _ (J.out) (fun _=>?_);clear Ky K9;try simp only[nA,nB,nC,nD,nE]
              refine tR 10 rfl (by kernel_rfl) (fun _ _ _=>id) (Or.inl ⟨by rfl,(by intro W hSw;obtain⟨o0,o1⟩:=Vi.out _ hSw;go_simp<;>with_reducible rfl)⟩) ‹_› ?_;try simp only[nA,nB,nC,nD,nE]
              refine rd1 11 fun K9 Ky=>?_;go_simp;have kk:=ja ww5 (.cells #[.string ⟨#[]⟩,.slice none 0 0,.slice none 0 0,.int .i64 0,.int .i64 0] 26);have hn:=jf ww5 (.string ⟨#[]⟩) [.slice none 0 0,.slice none 0 0,.int .i64 0,.int .i64 0] 26 _ (Kept.refl _);have hp9:w3.heap.size≤ww5.heap.size:=J.out.size;have RB:=lH (show ∀b off sp,av=some ⟨b,off,sp⟩→b≠ww5.heap.size∧w3.heap.size≤b from fun b off sp e=>⟨by have:=RL.out b off sp e;omega,(RB.out b off sp e).2⟩);obtain⟨q,hqe⟩:=eX (ww5.heap.size)
              rw[hqe] at hn hp9 RB ⊢;obtain⟨ww7,hnw⟩:=eX (ww5.alloc (.cells #[.string ⟨#[]⟩,.slice none 0 0,.slice none 0 0,.int .i64 0,.int .i64 0] 26))
              rw[hnw] at hn kk ⊢;clear hnw hqe;obtain⟨J,QA,Vf,RD⟩:=lH4 (J.out.trans kk) hn hp9 (RD.out.kept kk);clear hn kk hp9;refine Ky.out _ _ (J.out) (fun _=>?_);clear Ky K9;try simp only[nA,nB,nC,nD,nE]
              refine rd1 12 fun K9 Ky=>?_;obtain⟨z0,z1,z2,z3,z4⟩:=QA.out.at5;have y0:=QA.out.free 0;have y1:=QA.out.free 1;have y2:=QA.out.free 2;have y3:=QA.out.free 3;have y4:=QA.out.free 4;go_simp;have PP:=lH (zo (vs:=[.string ⟨#[]⟩,.slice none 0 0,.slice av n9 cv,.int .i64 (u0:Int),.int .i64 (u1:Int)]) QA.out rfl);obtain⟨ww9,hnw⟩:=eX (ww7.setCells q 0 [.string ⟨#[]⟩,.slice none 0 0,.slice av n9 cv,.int .i64 (u0:Int),.int .i64 (u1:Int)])
              have hnw2:(((((ww7.setCell ⟨q,0,none⟩ (.string ⟨#[]⟩)).setCell ⟨q,1,none⟩ (.slice none 0 0)).setCell ⟨q,2,none⟩ (.slice av n9 cv)).setCell ⟨q,3,none⟩ (.int .i64 (u0:Int))).setCell ⟨q,4,none⟩ (.int .i64 (u1:Int)))=ww9:=hnw;rw[hnw] at PP;rw[hnw2];clear hnw hnw2 z0 y0 z1 y1 z2 y2 z3 y3 z4 y4;obtain⟨J,QA,RD⟩:=lH3 (show Kept w3 ww9 from PP.out.below _ _ Vf.out J.out) PP.out.cells (RD.out.far PP.out.size (fun b o sp e=>PP.out.far b (RB.out b o sp e).1));clear PP;refine Ky.out _ _ (J.out) (fun _=>?_);clear Ky K9;try simp only[nA,nB,nC,nD,nE]
              refine wpAnyH_done (by kernel_rfl) ?_ _;go_wp2;go_meet
              case rel=>exact⟨q,av,n9,cv,rfl,lH ⟨QA.out,RD.out,RB.out,J.out,Vf.out⟩⟩
            · skip;go_simp;have kk:=ja ww3 (.cells #[.string ⟨#[]⟩,.slice none 0 0,.slice none 0 0,.int .i64 0,.int .i64 0] 26);have hn:=jf ww3 (.string ⟨#[]⟩) [.slice none 0 0,.slice none 0 0,.int .i64 0,.int .i64 0] 26 _ (Kept.refl _);have hp9:w3.heap.size≤ww3.heap.size:=J.out.size;obtain⟨q,hqe⟩:=eX (ww3.heap.size)
              rw[hqe] at hn hp9 ⊢;obtain⟨ww11,hnw⟩:=eX (ww3.alloc (.cells #[.string ⟨#[]⟩,.slice none 0 0,.slice none 0 0,.int .i64 0,.int .i64 0] 26))
              rw[hnw] at hn kk ⊢;clear hnw hqe;obtain⟨J,QA,Vf⟩:=lH3 (J.out.trans kk) hn hp9;clear hn kk hp9;refine Ky.out _ _ (J.out) (fun _=>?_);clear Ky K9;try simp only[nA,nB,nC,nD,nE]
              refine rd1 9 fun K9 Ky=>?_;go_simp;refine(VQ.out _ J.out).mono ?_;rintro e9 ww13 ⟨av,n9,cv,rfl,rd,rb,kk⟩;obtain⟨RB,RL,RD,J⟩:=lH4 (show ∀b off sp,av=some ⟨b,off,sp⟩→b≠q∧w3.heap.size≤b from fun b off sp e=>⟨by have:=(rb b off sp e).1;have:=QA.out.lt;omega,Nat.le_trans J.out.size (rb b off sp e).1⟩) (fun b off sp e=>(rb b off sp e).2) rd (J.out.trans kk);clear rd rb;have QA:=lH (QA.out.kept kk);clear kk;refine Ky.out _ _ (J.out) (fun _=>?_);clear Ky K9;try simp only[nA,nB,nC,nD,nE]
              refine tR 10 rfl (by kernel_rfl) (fun _ _ _=>id) (Or.inl ⟨by rfl,(by intro W hSw;obtain⟨o0,o1⟩:=Vi.out _ hSw;go_simp<;>with_reducible rfl)⟩) ‹_› ?_;try simp only[nA,nB,nC,nD,nE]
              refine rd1 12 fun K9 Ky=>?_;obtain⟨z0,z1,z2,z3,z4⟩:=QA.out.at5;have y0:=QA.out.free 0;have y1:=QA.out.free 1;have y2:=QA.out.free 2;have y3:=QA.out.free 3;have y4:=QA.out.free 4;go_simp;have PP:=lH (zo (vs:=[.string ⟨#[]⟩,.slice none 0 0,.slice av n9 cv,.int .i64 (u0:Int),.int .i64 (u1:Int)]) QA.out rfl);obtain⟨ww15,hnw⟩:=eX (ww13.setCells q 0 [.string ⟨#[]⟩,.slice none 0 0,.slice av n9 cv,.int .i64 (u0:Int),.int .i64 (u1:Int)])
              have hnw2:(((((ww13.setCell ⟨q,0,none⟩ (.string ⟨#[]⟩)).setCell ⟨q,1,none⟩ (.slice none 0 0)).setCell ⟨q,2,none⟩ (.slice av n9 cv)).setCell ⟨q,3,none⟩ (.int .i64 (u0:Int))).setCell ⟨q,4,none⟩ (.int .i64 (u1:Int)))=ww15:=hnw;rw[hnw] at PP;rw[hnw2];clear hnw hnw2 z0 y0 z1 y1 z2 y2 z3 y3 z4 y4;obtain⟨J,QA,RD⟩:=lH3 (show Kept w3 ww15 from PP.out.below _ _ Vf.out J.out) PP.out.cells (RD.out.far PP.out.size (fun b o sp e=>PP.out.far b (RB.out b o sp e).1));clear PP;refine Ky.out _ _ (J.out) (fun _=>?_);clear Ky K9;try simp only[nA,nB,nC,nD,nE]
              refine wpAnyH_done (by kernel_rfl) ?_ _;go_wp2;go_meet
              case rel=>exact⟨q,av,n9,cv,rfl,lH ⟨QA.out,RD.out,RB.out,J.out,Vf.out⟩⟩
          · skip;go_simp;have kk:=ja ww1 (.cells #[.string ⟨#[]⟩,.slice none 0 0,.slice none 0 0,.int .i64 0,.int .i64 0] 26);have hn:=jf ww1 (.string ⟨#[]⟩) [.slice none 0 0,.slice none 0 0,.int .i64 0,.int .i64 0] 26 _ (Kept.refl _);have hp9:w3.heap.size≤ww1.heap.size:=J.out.size;obtain⟨q,hqe⟩:=eX (ww1.heap.size)
            rw[hqe] at hn hp9 ⊢;obtain⟨ww17,hnw⟩:=eX (ww1.alloc (.cells #[.string ⟨#[]⟩,.slice none 0 0,.slice none 0 0,.int .i64 0,.int .i64 0] 26))
            rw[hnw] at hn kk ⊢;clear hnw hqe;obtain⟨J,QA,Vf⟩:=lH3 (J.out.trans kk) hn hp9;clear hn kk hp9;refine Ky.out _ _ (J.out) (fun _=>?_);clear Ky K9;try simp only[nA,nB,nC,nD,nE]
            refine rd1 7 fun K9 Ky=>?_;go_simp;refine(VX.out _ (K.out.trans J.out)).mono ?_;rintro e9 ww19 ⟨rfl,kk⟩;have J:=lH (J.out.trans kk);have QA:=lH (QA.out.kept kk);clear kk;refine Ky.out _ _ (J.out) (fun _=>?_);clear Ky K9;try simp only[nA,nB,nC,nD,nE]
            refine rd1 9 fun K9 Ky=>?_;go_simp;refine(VQ.out _ J.out).mono ?_;rintro e9 ww21 ⟨av,n9,cv,rfl,rd,rb,kk⟩;obtain⟨RB,RL,RD,J⟩:=lH4 (show ∀b off sp,av=some ⟨b,off,sp⟩→b≠q∧w3.heap.size≤b from fun b off sp e=>⟨by have:=(rb b off sp e).1;have:=QA.out.lt;omega,Nat.le_trans J.out.size (rb b off sp e).1⟩) (fun b off sp e=>(rb b off sp e).2) rd (J.out.trans kk);clear rd rb;have QA:=lH (QA.out.kept kk);clear kk;refine Ky.out _ _ (J.out) (fun _=>?_);clear Ky K9;try simp only[nA,nB,nC,nD,nE]
            refine tR 10 rfl (by kernel_rfl) (fun _ _ _=>id) (Or.inl ⟨by rfl,(by intro W hSw;obtain⟨o0,o1⟩:=Vi.out _ hSw;go_simp<;>with_reducible rfl)⟩) ‹_› ?_;try simp only[nA,nB,nC,nD,nE]
            refine rd1 12 fun K9 Ky=>?_;obtain⟨z0,z1,z2,z3,z4⟩:=QA.out.at5;have y0:=QA.out.free 0;have y1:=QA.out.free 1;have y2:=QA.out.free 2;have y3:=QA.out.free 3;have y4:=QA.out.free 4;go_simp;have PP:=lH (zo (vs:=[.string ⟨#[]⟩,.slice none 0 0,.slice av n9 cv,.int .i64 (u0:Int),.int .i64 (u1:Int)]) QA.out rfl);obtain⟨ww23,hnw⟩:=eX (ww21.setCells q 0 [.string ⟨#[]⟩,.slice none 0 0,.slice av n9 cv,.int .i64 (u0:Int),.int .i64 (u1:Int)])
            have hnw2:(((((ww21.setCell ⟨q,0,none⟩ (.string ⟨#[]⟩)).setCell ⟨q,1,none⟩ (.slice none 0 0)).setCell ⟨q,2,none⟩ (.slice av n9 cv)).setCell ⟨q,3,none⟩ (.int .i64 (u0:Int))).setCell ⟨q,4,none⟩ (.int .i64 (u1:Int)))=ww23:=hnw;rw[hnw] at PP;rw[hnw2];clear hnw hnw2 z0 y0 z1 y1 z2 y2 z3 y3 z4 y4;obtain⟨J,QA,RD⟩:=lH3 (show Kept w3 ww23 from PP.out.below _ _ Vf.out J.out) PP.out.cells (RD.out.far PP.out.size (fun b o sp e=>PP.out.far b (RB.out b o sp e).1));clear PP;refine Ky.out _ _ (J.out) (fun _=>?_);clear Ky K9;try simp only[nA,nB,nC,nD,nE]
            refine wpAnyH_done (by kernel_rfl) ?_ _;go_wp2;go_meet
            case rel=>exact⟨q,av,n9,cv,rfl,lH ⟨QA.out,RD.out,RB.out,J.out,Vf.out⟩⟩
        · skip;go_simp;have kk:=ja wd (.cells #[.string ⟨#[]⟩,.slice none 0 0,.slice none 0 0,.int .i64 0,.int .i64 0] 26);have hn:=jf wd (.string ⟨#[]⟩) [.slice none 0 0,.slice none 0 0,.int .i64 0,.int .i64 0] 26 _ (Kept.refl _);have hp9:w3.heap.size≤wd.heap.size:=J.out.size;obtain⟨q,hqe⟩:=eX (wd.heap.size)
          rw[hqe] at hn hp9 ⊢;obtain⟨ww25,hnw⟩:=eX (wd.alloc (.cells #[.string ⟨#[]⟩,.slice none 0 0,.slice none 0 0,.int .i64 0,.int .i64 0] 26))
          rw[hnw] at hn kk ⊢;clear hnw hqe;obtain⟨J,QA,Vf⟩:=lH3 (J.out.trans kk) hn hp9;clear hn kk hp9;refine Ky.out _ _ (J.out) (fun _=>?_);clear Ky K9;try simp only[nA,nB,nC,nD,nE]
          refine rd1 3 fun K9 Ky=>?_;go_simp;refine(Ug.out _ (K.out.trans J.out)).mono ?_;rintro e9 ww27 ⟨rfl,kk⟩;have J:=lH (J.out.trans kk);have QA:=lH (QA.out.kept kk);clear kk;refine Ky.out _ _ (J.out) (fun _=>?_);clear Ky K9;try simp only[nA,nB,nC,nD,nE]
          refine rd1 7 fun K9 Ky=>?_;go_simp;refine(VX.out _ (K.out.trans J.out)).mono ?_;rintro e9 ww29 ⟨rfl,kk⟩;have J:=lH (J.out.trans kk);have QA:=lH (QA.out.kept kk);clear kk;refine Ky.out _ _ (J.out) (fun _=>?_);clear Ky K9;try simp only[nA,nB,nC,nD,nE]
          refine rd1 9 fun K9 Ky=>?_;go_simp;refine(VQ.out _ J.out).mono ?_;rintro e9 ww31 ⟨av,n9,cv,rfl,rd,rb,kk⟩;obtain⟨RB,RL,RD,J⟩:=lH4 (show ∀b off sp,av=some ⟨b,off,sp⟩→b≠q∧w3.heap.size≤b from fun b off sp e=>⟨by have:=(rb b off sp e).1;have:=QA.out.lt;omega,Nat.le_trans J.out.size (rb b off sp e).1⟩) (fun b off sp e=>(rb b off sp e).2) rd (J.out.trans kk);clear rd rb;have QA:=lH (QA.out.kept kk);clear kk;refine Ky.out _ _ (J.out) (fun _=>?_);clear Ky K9;try simp only[nA,nB,nC,nD,nE]
          refine tR 10 rfl (by kernel_rfl) (fun _ _ _=>id) (Or.inl ⟨by rfl,(by intro W hSw;obtain⟨o0,o1⟩:=Vi.out _ hSw;go_simp<;>with_reducible rfl)⟩) ‹_› ?_;try simp only[nA,nB,nC,nD,nE]
          refine rd1 12 fun K9 Ky=>?_;obtain⟨z0,z1,z2,z3,z4⟩:=QA.out.at5;have y0:=QA.out.free 0;have y1:=QA.out.free 1;have y2:=QA.out.free 2;have y3:=QA.out.free 3;have y4:=QA.out.free 4;go_simp;have PP:=lH (zo (vs:=[.string ⟨#[]⟩,.slice none 0 0,.slice av n9 cv,.int .i64 (u0:Int),.int .i64 (u1:Int)]) QA.out rfl);obtain⟨ww33,hnw⟩:=eX (ww31.setCells q 0 [.string ⟨#[]⟩,.slice none 0 0,.slice av n9 cv,.int .i64 (u0:Int),.int .i64 (u1:Int)])
          have hnw2:(((((ww31.setCell ⟨q,0,none⟩ (.string ⟨#[]⟩)).setCell ⟨q,1,none⟩ (.slice none 0 0)).setCell ⟨q,2,none⟩ (.slice av n9 cv)).setCell ⟨q,3,none⟩ (.int .i64 (u0:Int))).setCell ⟨q,4,none⟩ (.int .i64 (u1:Int)))=ww33:=hnw;rw[hnw] at PP;rw[hnw2];clear hnw hnw2 z0 y0 z1 y1 z2 y2 z3 y3 z4 y4;obtain⟨J,QA,RD⟩:=lH3 (show Kept w3 ww33 from PP.out.below _ _ Vf.out J.out) PP.out.cells (RD.out.far PP.out.size (fun b o sp e=>PP.out.far b (RB.out b o sp e).1));clear PP;refine Ky.out _ _ (J.out) (fun _=>?_);clear Ky K9;try simp only[nA,nB,nC,nD,nE]
          refine wpAnyH_done (by kernel_rfl) ?_ _;go_wp2;go_meet
          case rel=>exact⟨q,av,n9,cv,rfl,lH ⟨QA.out,RD.out,RB.out,J.out,Vf.out⟩⟩
       case rest =>
        obtain⟨q,av,n9,cv,rfl,hx⟩:=hcut;obtain⟨w4,hw4⟩:∃W,W=wc:=⟨_,rfl⟩
        subst hw4;obtain⟨hqa,hrd,hrb,hj,hqp⟩:=hx.out;obtain⟨QA,RD,RB,J,Vf⟩:=lH5 hqa hrd hrb hj hqp;clear hx hqa hrd hrb hj hqp Ug VX VQ;obtain⟨c0,c1,c2⟩:=HC.out _ J.out;have VT:=lH (fun W=>YJ (bytes a) W (by rw[jn];have:=Un.out;omega));go_wp2_with fail
        refine(VT.out _).mono ?_;rintro e w5 ⟨rfl,kk⟩;obtain⟨J,QA,RD⟩:=lH3 (J.out.trans kk) (QA.out.kept kk) (RD.out.kept kk);clear kk c0 c1 c2 VT;have x0:=QA.out.at_ 0 _ rfl;have f0:=QA.out.free 0;obtain⟨QA,J,RD⟩:=lH3 (show ju q [.string (bytes a),.slice none 0 0,.slice av n9 cv,.int .i64 (u0:Int),.int .i64 (u1:Int)] (w5.setCell ⟨q,0,none⟩ (.string (bytes a))) from QA.out.set (j:=0) (by simp)) (show Kept w3 (w5.setCell ⟨q,0,none⟩ (.string (bytes a))) from J.out.setCell (p:=⟨q,0,none⟩) Vf.out _) (RD.out.far (w':=(w5.setCell ⟨q,0,none⟩ (.string (bytes a)))) (by simp[World.setCell]) (fun b o sp e=>Below.heap_setCell w5 ⟨q,0,none⟩ _ b (show b≠q from(RB.out b o sp e).1)));obtain⟨c0,c1,c2⟩:=HC.out _ J.out;obtain⟨⟨e1,m1⟩,hpv⟩:∃x,Vec.zh b=x:=⟨_,rfl⟩
        have Tv:=lH hpv;have VE:=lH (fun W (k:Kept w3 W)=>(Vec.jbd b W (HE.out.kept (K.out.trans k)).toEnv VG.out).mono fun _ _=>Vec.JE.spelt);rw[hpv] at VE VO;clear hpv;dsimp only at VE VO;go_wp2_with fail
        obtain⟨w6,hw6⟩:=eX ((w5.setCell ⟨q,0,none⟩ (.string (bytes a))))
        rw[hw6] at QA J RD c0 c1 c2 ⊢;clear hw6 x0 f0 c0 c1 c2;refine(VE.out _ J.out).mono ?_;rintro e w7 ⟨a1,m9,d1,rfl,hru,hgu,kk⟩;obtain⟨RU,RUB,QA,RD,J⟩:=lH5 hru (show ∀b off sp,a1=some ⟨b,off,sp⟩→b≠q∧w3.heap.size≤b from fun b off sp e=>⟨by have:=(hgu b off sp e).1;have:=QA.out.lt;omega,Nat.le_trans J.out.size (hgu b off sp e).1⟩) (QA.out.kept kk) (RD.out.kept kk) (J.out.trans kk);clear hru hgu kk VE;go_wp2_with fail
        by_cases z1:e1=0
        · subst z1;refine(jbx _ _).mono ?_;rintro e w9 ⟨rfl,rfl⟩;have x0:=QA.out.at_ 1 _ rfl;have f0:=QA.out.free 1;obtain⟨QA,J,RD,RU⟩:=lH4 (show ju q [.string (bytes a),.slice a1 m9 d1,.slice av n9 cv,.int .i64 (u0:Int),.int .i64 (u1:Int)] (w7.setCell ⟨q,1,none⟩ (.slice a1 m9 d1)) from QA.out.set (j:=1) (by simp)) (show Kept w3 (w7.setCell ⟨q,1,none⟩ (.slice a1 m9 d1)) from J.out.setCell (p:=⟨q,1,none⟩) Vf.out _) (RD.out.far (w':=(w7.setCell ⟨q,1,none⟩ (.slice a1 m9 d1))) (by simp[World.setCell]) (fun b o sp e=>Below.heap_setCell w7 ⟨q,1,none⟩ _ b (show b≠q from(RB.out b o sp e).1))) (RU.out.far (w':=(w7.setCell ⟨q,1,none⟩ (.slice a1 m9 d1))) (by simp[World.setCell]) (fun b o sp e=>Below.heap_setCell w7 ⟨q,1,none⟩ _ b (show b≠q from(RUB.out b o sp e).1)));go_upto_region 7 with fail
          obtain⟨w8,hw8⟩:=eX ((w7.setCell ⟨q,1,none⟩ (.slice a1 m9 d1)))
          rw[hw8] at QA J RD RU ⊢;clear hw8 x0 f0;have Va:=lH (show jL w8 (.slice a1 m9 d1) (.slice av n9 cv) ⟨bytes a,m1,rl,(u0:Int),(u1:Int)⟩ from⟨by rw[jn];have:=Un.out;unfold maxLen;omega,RU.out,RD.out,⟨by dsimp only;omega,U0.out⟩,⟨by dsimp only;omega,U1.out⟩⟩);have Td:=lH (show je s=if jP ⟨bytes a,m1,rl,(u0:Int),(u1:Int)⟩≠0 then (jP ⟨bytes a,m1,rl,(u0:Int),(u1:Int)⟩,Lad.zero) else (0,⟨bytes a,m1,rl,(u0:Int),(u1:Int)⟩) by
           unfold je;rw[VW.out,UD.out,VS.out,Tv.out,VO.out];simp)
          obtain⟨ck,hck⟩:=eX (jP ⟨bytes a,m1,rl,(u0:Int),(u1:Int)⟩)
          have Vv:=lH (fun W (k:Kept w8 W)=>Jf ⟨bytes a,m1,rl,(u0:Int),(u1:Int)⟩ (.slice a1 m9 d1) (.slice av n9 cv) W (Va.out.kept k));rw[hck] at Vv Td;unfold zz at Vv;dsimp only at Vv;clear hck;have UQ:=lH (show ∀W,Kept w8 W→W.cell? ⟨q,0,none⟩=some (.string (bytes a))∧W.cell? ⟨q,1,none⟩=some (.slice a1 m9 d1)∧W.cell? ⟨q,2,none⟩=some (.slice av n9 cv)∧W.cell? ⟨q,3,none⟩=some (.int .i64 (u0:Int))∧W.cell? ⟨q,4,none⟩=some (.int .i64 (u1:Int)) from fun W k=>(ju.kept QA.out k).at5);have T3:=lH (fun W (k:Kept w8 W)=>ju.kept V3.out (J.out.trans k));have hq0q:q≠q0:=by have:=Vf.out;have:=V5.out;omega
          have Te:=lH hq0q;clear hq0q;have J7:=lH (Kept.drew w8);refine wp_region_held_drew (S:=fun W=>W.cell? ⟨q,0,none⟩=some (.string (bytes a))∧W.cell? ⟨q,1,none⟩=some (.slice a1 m9 d1)∧W.cell? ⟨q,2,none⟩=some (.slice av n9 cv)∧W.cell? ⟨q,3,none⟩=some (.int .i64 (u0:Int))∧W.cell? ⟨q,4,none⟩=some (.int .i64 (u1:Int))) (by kernel_rfl) (UQ.out _ J7.out) (fun hHeld=>?_);obtain⟨wd,hwd⟩:=eX (w8.drew)
          rw[hwd] at J7 hHeld;try rw[hwd]
          clear hwd;refine tR 0 rfl (by kernel_rfl) (fun _ _ _=>id) (Or.inl ⟨by rfl,by rintro W ⟨o0,o1,o2,o3,o4⟩;go_simp<;>with_reducible rfl⟩) ‹_› ?_;try simp only[nA,nB,nC,nD,nE]
          refine tR 1 rfl (by kernel_rfl) (fun _ _ _=>id) (Or.inl ⟨by rfl,by rintro W ⟨o0,o1,o2,o3,o4⟩;go_simp<;>with_reducible rfl⟩) ‹_› ?_;try simp only[nA,nB,nC,nD,nE]
          refine rd1 2 fun K9 Ky=>?_;go_simp;refine(Vv.out _ J7.out).mono ?_;rintro e y1 ⟨rfl,kk⟩;have J7:=lH (J7.out.trans kk);clear kk;refine Ky.out _ _ (UQ.out _ J7.out) (fun _=>?_);clear Ky K9;try simp only[nA,nB,nC,nD,nE]
          by_cases z2:ck=0
          · subst z2;refine rd1 3 fun K9 Ky=>?_;go_simp;refine(jas _ _ _ _ _ _ _ _ _ _).mono ?_;rintro e y2 ⟨rfl,kk⟩;have J7:=lH (J7.out.trans kk);clear kk;refine Ky.out _ _ (UQ.out _ J7.out) (fun _=>?_);clear Ky K9;try simp only[nA,nB,nC,nD,nE]
            have Uh:=lH (T3.out _ J7.out);obtain⟨z0,z1,z2,z3,z4⟩:=Uh.out.at5;have g0_:=Uh.out.free 0;have g1_:=Uh.out.free 1;have g2_:=Uh.out.free 2;have g3_:=Uh.out.free 3;have g4_:=Uh.out.free 4;have P:=lH (zo (vs:=[.string (bytes a),.slice a1 m9 d1,.slice av n9 cv,.int .i64 (u0:Int),.int .i64 (u1:Int)]) Uh.out rfl);refine rd1 4 fun K9 Ky=>?_;go_simp;obtain⟨WE,hWE⟩:=eX (y2.setCells q0 0 [.string (bytes a),.slice a1 m9 d1,.slice av n9 cv,.int .i64 (u0:Int),.int .i64 (u1:Int)])
            have hWE2:(((((y2.setCell ⟨q0,0,none⟩ (.string (bytes a))).setCell ⟨q0,1,none⟩ (.slice a1 m9 d1)).setCell ⟨q0,2,none⟩ (.slice av n9 cv)).setCell ⟨q0,3,none⟩ (.int .i64 (u0:Int))).setCell ⟨q0,4,none⟩ (.int .i64 (u1:Int)))=WE:=hWE;rw[hWE] at P;try rw[hWE2]
            have T4:=lH (show WE.cell? ⟨q,0,none⟩=some (.string (bytes a))∧WE.cell? ⟨q,1,none⟩=some (.slice a1 m9 d1)∧WE.cell? ⟨q,2,none⟩=some (.slice av n9 cv)∧WE.cell? ⟨q,3,none⟩=some (.int .i64 (u0:Int))∧WE.cell? ⟨q,4,none⟩=some (.int .i64 (u1:Int)) by
             have e:∀j,WE.cell? ⟨q,j,none⟩=y2.cell? ⟨q,j,none⟩:=fun j=>World.cell?_of_block (a:=⟨q,j,none⟩) (P.out.far q Te.out);simp only[e];exact UQ.out _ J7.out)
            clear hWE hWE2 z0 z1 z2 z3 z4 g0_ g1_ g2_ g3_ g4_;refine Ky.out _ _ (T4.out) (fun _=>?_);clear Ky K9;try simp only[nA,nB,nC,nD,nE]
            refine wpAnyH_done (by kernel_rfl) ?_ _;go_wp2;have PC:=P.out.cells;refine bodyPost_ret (by simp[results,Tryz.results50,go_sem,PC.at_ 0 _ rfl,PC.at_ 1 _ rfl,PC.at_ 2 _ rfl,PC.at_ 3 _ rfl,PC.at_ 4 _ rfl];try rfl) rfl ?_;have hr2:je s=(0,⟨bytes a,m1,rl,(u0:Int),(u1:Int)⟩):=by rw[Td.out];simp
            refine⟨fun _=>⟨_,rfl,?_⟩,fun h=>(by rw[hr2] at h;exact absurd rfl h),P.out.below _ _ (by have:=U9.out;omega) (K.out.trans (J.out.trans J7.out))⟩;rw[hr2];have hat:=Va.out.kept J7.out;refine⟨a1,m9,d1,av,n9,cv,rfl,⟨hat.size,hat.unit.far P.out.size (fun b o sp e=>P.out.far b (by have:=(RUB.out b o sp e).2;have:=V5.out;omega)),hat.rungs.far P.out.size (fun b o sp e=>P.out.far b (by have:=(RB.out b o sp e).2;have:=V5.out;omega)),hat.lo,hat.hi⟩,fun b o sp e=>?_,fun b o sp e=>?_⟩
            · have:=(RUB.out b o sp e).2;have:=V5.out;have:=U9.out;omega
            · have:=(RB.out b o sp e).2;have:=V5.out;have:=U9.out;omega
          · skip;refine rd1 3 fun K9 Ky=>?_;go_simp;refine(qu _ _ _ _ _ _ _ _ _ _ _ z2).mono ?_;rintro e y2 ⟨rfl,kk⟩;have hr2:(je s).1=ck:=by rw[Td.out];simp[z2]
            exact⟨rfl,jJ.bad hr2 z2 (K.out.trans (J.out.trans (J7.out.trans kk)))⟩
        · skip;have HV:=lH (show (je s).1=e1 by unfold je;rw[VW.out,UD.out,VS.out,Tv.out];simp[z1]);refine(jaC _ _ _ z1).mono ?_;rintro e w9 ⟨rfl,rfl⟩;go_wp2;exact⟨rfl,jJ.bad HV.out z1 (K.out.trans J.out)⟩
     · have hnum:JT s=false:=by simpa using hnum
       have HV:=lH (show (je s).1=5 by unfold je;rw[VW.out,hnum];rfl);have J:=lH (Kept.drew w3);refine wp_region_held_drew (S:=fun W=>Kept w3 W) (by kernel_rfl) (J.out) (fun hHeld=>?_);obtain⟨wd,hwd⟩:=eX (w3.drew)
       rw[hwd] at J hHeld;try rw[hwd]
       clear hwd;refine tR 0 rfl (by kernel_rfl) (fun _ _ _=>id) (Or.inl ⟨by rfl,(by intro W hSw;obtain⟨o0,o1⟩:=Vi.out _ hSw;go_simp<;>with_reducible rfl)⟩) ‹_› ?_;try simp only[nA,nB,nC,nD,nE]
       refine tR 1 rfl (by kernel_rfl) (fun _ _ _=>id) (Or.inl ⟨by rfl,(by intro W hSw;obtain⟨o0,o1⟩:=Vi.out _ hSw;go_simp<;>with_reducible rfl)⟩) ‹_› ?_;try simp only[nA,nB,nC,nD,nE]
       refine tR 2 rfl (by kernel_rfl) (fun _ _ _=>id) (Or.inl ⟨by rfl,(by intro W hSw;obtain⟨o0,o1⟩:=Vi.out _ hSw;go_simp<;>with_reducible rfl)⟩) ‹_› ?_;try simp only[nA,nB,nC,nD,nE]
       refine tR 4 rfl (by kernel_rfl) (fun _ _ _=>id) (Or.inl ⟨by rfl,(by intro W hSw;obtain⟨o0,o1⟩:=Vi.out _ hSw;go_simp<;>with_reducible rfl)⟩) ‹_› ?_;try simp only[nA,nB,nC,nD,nE]
       refine tR 5 rfl (by kernel_rfl) (fun _ _ _=>id) (Or.inl ⟨by rfl,(by intro W hSw;obtain⟨o0,o1⟩:=Vi.out _ hSw;go_simp<;>with_reducible rfl)⟩) ‹_› ?_;try simp only[nA,nB,nC,nD,nE]
       refine tR 6 rfl (by kernel_rfl) (fun _ _ _=>id) (Or.inl ⟨by rfl,(by intro W hSw;obtain⟨o0,o1⟩:=Vi.out _ hSw;go_simp<;>with_reducible rfl)⟩) ‹_› ?_;try simp only[nA,nB,nC,nD,nE]
       refine tR 8 rfl (by kernel_rfl) (fun _ _ _=>id) (Or.inl ⟨by rfl,(by intro W hSw;obtain⟨o0,o1⟩:=Vi.out _ hSw;go_simp<;>with_reducible rfl)⟩) ‹_› ?_;try simp only[nA,nB,nC,nD,nE]
       refine wpAnyH_ready  (rs:=[3,11]) (by kernel_rfl) (by simp) (AllReadyH.cons  (by rw[List.getElem?_toArray];exact rfl) (fun K9 Ky=>?_) (AllReadyH.cons  (by rw[List.getElem?_toArray];exact rfl) (fun K9 Ky=>?_) AllReadyH.nil))
       · skip;go_simp;refine(VC.out _ (K.out.trans J.out)).mono ?_;rintro e9 ww35 ⟨he,kk⟩
         cases p0 with
         | false =>
          obtain rfl:e9=.panicked [jC 5]:=he;exact⟨rfl,jJ.bad HV.out (by decide) (K.out.trans (J.out.trans kk))⟩
         | true =>
          obtain rfl:e9=.returned (.int .i64 (u0:Int)):=he;have J:=lH (J.out.trans kk);clear kk;refine Ky.out _ _ (J.out) (fun _=>?_);clear Ky K9;try simp only[nA,nB,nC,nD,nE]
          refine wpAnyH_ready  (rs:=[7,11]) (by kernel_rfl) (by simp) (AllReadyH.cons  (by rw[List.getElem?_toArray];exact rfl) (fun K9 Ky=>?_) (AllReadyH.cons  (by rw[List.getElem?_toArray];exact rfl) (fun K9 Ky=>?_) AllReadyH.nil))
          · skip;go_simp;refine(Vw.out _ (K.out.trans J.out)).mono ?_;rintro e9 ww37 ⟨he,kk⟩
            cases p1 with
            | false =>
             obtain rfl:e9=.panicked [jC 5]:=he;exact⟨rfl,jJ.bad HV.out (by decide) (K.out.trans (J.out.trans kk))⟩
            | true =>
             obtain rfl:e9=.returned (.int .i64 (u1:Int)):=he;have J:=lH (J.out.trans kk);clear kk;refine Ky.out _ _ (J.out) (fun _=>?_);clear Ky K9;try simp only[nA,nB,nC,nD,nE]
             refine wpAnyH_ready  (rs:=[9,11]) (by kernel_rfl) (by simp) (AllReadyH.cons  (by rw[List.getElem?_toArray];exact rfl) (fun K9 Ky=>?_) (AllReadyH.cons  (by rw[List.getElem?_toArray];exact rfl) (fun K9 Ky=>?_) AllReadyH.nil))
             · skip;go_simp;refine(Vo.out _ J.out).mono ?_;rintro e9 ww39 ⟨-,hbad,kk⟩;obtain rfl:=hbad (by have h:=hnum;rw[VP.out] at h;simpa using h);exact⟨rfl,jJ.bad HV.out (by decide) (K.out.trans (J.out.trans kk))⟩
             · skip;go_simp;have kk:=ja ww37 (.cells #[.string ⟨#[]⟩,.slice none 0 0,.slice none 0 0,.int .i64 0,.int .i64 0] 26);have hn:=jf ww37 (.string ⟨#[]⟩) [.slice none 0 0,.slice none 0 0,.int .i64 0,.int .i64 0] 26 _ (Kept.refl _);have hp9:w3.heap.size≤ww37.heap.size:=J.out.size;obtain⟨q,hqe⟩:=eX (ww37.heap.size)
               rw[hqe] at hn hp9 ⊢;obtain⟨ww40,hnw⟩:=eX (ww37.alloc (.cells #[.string ⟨#[]⟩,.slice none 0 0,.slice none 0 0,.int .i64 0,.int .i64 0] 26))
               rw[hnw] at hn kk ⊢;clear hnw hqe;obtain⟨J,QA,Vf⟩:=lH3 (J.out.trans kk) hn hp9;clear hn kk hp9;refine Ky.out _ _ (J.out) (fun _=>?_);clear Ky K9;try simp only[nA,nB,nC,nD,nE]
               refine rd1 9 fun K9 Ky=>?_;go_simp;refine(Vo.out _ J.out).mono ?_;rintro e9 ww42 ⟨-,hbad,kk⟩;obtain rfl:=hbad (by have h:=hnum;rw[VP.out] at h;simpa using h);exact⟨rfl,jJ.bad HV.out (by decide) (K.out.trans (J.out.trans kk))⟩
          · skip;go_simp;have kk:=ja ww35 (.cells #[.string ⟨#[]⟩,.slice none 0 0,.slice none 0 0,.int .i64 0,.int .i64 0] 26);have hn:=jf ww35 (.string ⟨#[]⟩) [.slice none 0 0,.slice none 0 0,.int .i64 0,.int .i64 0] 26 _ (Kept.refl _);have hp9:w3.heap.size≤ww35.heap.size:=J.out.size;obtain⟨q,hqe⟩:=eX (ww35.heap.size)
            rw[hqe] at hn hp9 ⊢;obtain⟨ww43,hnw⟩:=eX (ww35.alloc (.cells #[.string ⟨#[]⟩,.slice none 0 0,.slice none 0 0,.int .i64 0,.int .i64 0] 26))
            rw[hnw] at hn kk ⊢;clear hnw hqe;obtain⟨J,QA,Vf⟩:=lH3 (J.out.trans kk) hn hp9;clear hn kk hp9;refine Ky.out _ _ (J.out) (fun _=>?_);clear Ky K9;try simp only[nA,nB,nC,nD,nE]
            refine rd1 7 fun K9 Ky=>?_;go_simp;refine(Vw.out _ (K.out.trans J.out)).mono ?_;rintro e9 ww45 ⟨he,kk⟩
            cases p1 with
            | false =>
             obtain rfl:e9=.panicked [jC 5]:=he;exact⟨rfl,jJ.bad HV.out (by decide) (K.out.trans (J.out.trans kk))⟩
            | true =>
             obtain rfl:e9=.returned (.int .i64 (u1:Int)):=he;have J:=lH (J.out.trans kk);clear kk;refine Ky.out _ _ (J.out) (fun _=>?_);clear Ky K9;try simp only[nA,nB,nC,nD,nE]
             refine rd1 9 fun K9 Ky=>?_;go_simp;refine(Vo.out _ J.out).mono ?_;rintro e9 ww47 ⟨-,hbad,kk⟩;obtain rfl:=hbad (by have h:=hnum;rw[VP.out] at h;simpa using h);exact⟨rfl,jJ.bad HV.out (by decide) (K.out.trans (J.out.trans kk))⟩
       · skip;go_simp;have kk:=ja wd (.cells #[.string ⟨#[]⟩,.slice none 0 0,.slice none 0 0,.int .i64 0,.int .i64 0] 26);have hn:=jf wd (.string ⟨#[]⟩) [.slice none 0 0,.slice none 0 0,.int .i64 0,.int .i64 0] 26 _ (Kept.refl _);have hp9:w3.heap.size≤wd.heap.size:=J.out.size;obtain⟨q,hqe⟩:=eX (wd.heap.size)
         rw[hqe] at hn hp9 ⊢;obtain⟨ww48,hnw⟩:=eX (wd.alloc (.cells #[.string ⟨#[]⟩,.slice none 0 0,.slice none 0 0,.int .i64 0,.int .i64 0] 26))
         rw[hnw] at hn kk ⊢;clear hnw hqe;obtain⟨J,QA,Vf⟩:=lH3 (J.out.trans kk) hn hp9;clear hn kk hp9;refine Ky.out _ _ (J.out) (fun _=>?_);clear Ky K9;try simp only[nA,nB,nC,nD,nE]
         refine rd1 3 fun K9 Ky=>?_;go_simp;refine(VC.out _ (K.out.trans J.out)).mono ?_;rintro e9 ww50 ⟨he,kk⟩
         cases p0 with
         | false =>
          obtain rfl:e9=.panicked [jC 5]:=he;exact⟨rfl,jJ.bad HV.out (by decide) (K.out.trans (J.out.trans kk))⟩
         | true =>
          obtain rfl:e9=.returned (.int .i64 (u0:Int)):=he;have J:=lH (J.out.trans kk);clear kk;refine Ky.out _ _ (J.out) (fun _=>?_);clear Ky K9;try simp only[nA,nB,nC,nD,nE]
          refine rd1 7 fun K9 Ky=>?_;go_simp;refine(Vw.out _ (K.out.trans J.out)).mono ?_;rintro e9 ww52 ⟨he,kk⟩
          cases p1 with
          | false =>
           obtain rfl:e9=.panicked [jC 5]:=he;exact⟨rfl,jJ.bad HV.out (by decide) (K.out.trans (J.out.trans kk))⟩
          | true =>
           obtain rfl:e9=.returned (.int .i64 (u1:Int)):=he;have J:=lH (J.out.trans kk);clear kk;refine Ky.out _ _ (J.out) (fun _=>?_);clear Ky K9;try simp only[nA,nB,nC,nD,nE]
           refine rd1 9 fun K9 Ky=>?_;go_simp;refine(Vo.out _ J.out).mono ?_;rintro e9 ww54 ⟨-,hbad,kk⟩;obtain rfl:=hbad (by have h:=hnum;rw[VP.out] at h;simpa using h);exact⟨rfl,jJ.bad HV.out (by decide) (K.out.trans (J.out.trans kk))⟩
theorem Zf (B:Nat) (q:Nat) (x y:Int) (w:World) (hq:w.cell? ⟨q,0,none⟩=some (.int .i64 y)) (hzq:w.frozen? ⟨q,0,none⟩=false) (hBq:B≤q) :
 CallsD Tryz.prog 68 #[.pointer (some ⟨q,0,none⟩)] (.panicking [jC x]) w fun e u' w' =>
  e=.returned (.tuple #[])∧u'=.panicking [{ jC x with recovered:=true }]∧w'=w.setCell ⟨q,0,none⟩ (.int .i64 x)∧w'.cell? ⟨q,0,none⟩=some (.int .i64 x)∧Below B w w':=by
 have hta:∀W,(Instr.typeAssert (.iface 38 (.int .i64 x)) 20 38 false).run Tryz.prog W=.ok (.int .i64 x) W:=fun _=>by kernel_rfl
 refine callsD_of_wpS Tryz.func68 rfl fun c₀ cs hu=>?_;apply wpS_seq;apply wpS_region;simp[wpOpsS,go_sem,recoverD,hu,Tryz.ntmps68,Exit.thenS];apply wpS_seq;apply wpS_region;simp[wpOpsS,go_sem,recoverD,Exit.thenS];refine wpS_cond (t:=true) (by simp[Act.eval,Array.replicate]) ?_;simp only[if_true];refine wpS_of_wp ?_;simp[Array.replicate];go_wp2;simp[bodyPostS,results,Tryz.results68];exact⟨World.cell?_setCell_same' _ _ _ (by rw[hq];rfl),(Below.refl B w).setCell (p:=⟨q,0,none⟩) hBq _⟩
theorem Y8 (q:Addr) (w:World) :
 CallsD Tryz.prog 68 #[.pointer (some q)] .returning w fun e u' w'=>e=.returned (.tuple #[])∧u'=.returning∧w'=w:=by
 refine callsD_of_wpS Tryz.func68 rfl fun c₀ cs hu=>?_;apply wpS_seq;apply wpS_region;simp[wpOpsS,go_sem,recoverD,hu,Tryz.ntmps68,Exit.thenS];apply wpS_seq;apply wpS_region;simp[wpOpsS,go_sem,recoverD,hu,Exit.thenS];refine wpS_cond (t:=false) (by simp[Act.eval,Array.replicate]) ?_;simp only[Bool.false_eq_true,if_false];refine wpS_of_wp (wp_skip ?_)
 cases c₀
 simp_all [bodyPostS,results,Tryz.results68]
def Xt (r:Int×Lad) (w:World) (e:Ending) (w':World):Prop:=∃v,e=.returned (.tuple #[v,.int .i64 r.1])∧zy w.heap.size w' v r.2∧Kept w w'
theorem Zm {s:List UInt8} (h:(je s).1≠0):(je s).2=Lad.zero:=by
 unfold je at h ⊢;split
 · rfl
 · rename_i h1;rw[if_neg h1] at h;split
   · rfl
   · rename_i h2;rw[if_neg h2] at h;split
     · rfl
     · rename_i h3;rw[if_neg h3] at h;split
       · rfl
       · rename_i h4;rw[if_neg h4] at h;exact absurd rfl h
theorem XM (B:Nat) (w:World):zy B w (.agg #[.string ⟨#[]⟩,.slice none 0 0,.slice none 0 0,.int .i64 0,.int .i64 0]) Lad.zero :=
 ⟨none,0,0,none,0,0,rfl,⟨(by decide:(0:Nat)≤maxLen),Vec.Reads.nil w,Reads.nil w,(by unfold I64;decide),(by unfold I64;decide)⟩,(fun _ _ _ e=>by cases e),(fun _ _ _ e=>by cases e)⟩
theorem zy.less {B B':Nat} {w:World} {v:Value} {n:Lad} (h:zy B w v n) (hb:B'≤B):zy B' w v n:=by
 obtain⟨a1,m1,c1,a2,m2,c2,e,h0,g1,g2⟩:=h;exact⟨a1,m1,c1,a2,m2,c2,e,h0,fun b o s e=>Nat.le_trans hb (g1 b o s e),fun b o s e=>Nat.le_trans hb (g2 b o s e)⟩
theorem zy.far {B:Nat} {w w':World} {v:Value} {n:Lad} (h:zy B w v n) (hs:w'.heap.size=w.heap.size) (hb:∀b,B≤b→w'.heap[b]?=w.heap[b]?):zy B w' v n:=by
 obtain⟨a1,m1,c1,a2,m2,c2,e,h0,g1,g2⟩:=h;exact⟨a1,m1,c1,a2,m2,c2,e,⟨h0.size,h0.unit.far hs (fun b o s e=>hb b (g1 b o s e)),h0.rungs.far hs (fun b o s e=>hb b (g2 b o s e)),h0.lo,h0.hi⟩,g1,g2⟩
theorem jJ.good {r:Int×Lad} {w w':World} {v:Value} (h:r.1=0) (ho:zy w.heap.size w' v r.2) (hb:Kept w w'):jJ r w (.returned v) w':=⟨fun _=>⟨v,rfl,ho⟩,fun g=>absurd h g,hb⟩
def jci (q:Nat) (x:ByteArray) (a1 a2:Option Addr) (m1 c1 m2 c2:Nat) (lo b:Int) (W W':World):Prop :=
 (W'.cell? ⟨q,0,none⟩=some (.string x)∧W'.cell? ⟨q,1,none⟩=some (.slice a1 m1 c1)∧W'.cell? ⟨q,2,none⟩=some (.slice a2 m2 c2)∧W'.cell? ⟨q,3,none⟩=some (.int .i64 lo)∧W'.cell? ⟨q,4,none⟩=some (.int .i64 b)) ∧
  W'.heap.size=W.heap.size∧(∀j,j≠q→W'.heap[j]?=W.heap[j]?)∧∀B w,B≤q→Below B w W→Below B w W'
theorem Z3 {W:World} {q:Nat} {v0 v1 v2 v3 v4:Value} (y:W.cell? ⟨q,0,none⟩=some v0∧W.cell? ⟨q,1,none⟩=some v1∧W.cell? ⟨q,2,none⟩=some v2∧W.cell? ⟨q,3,none⟩=some v3∧W.cell? ⟨q,4,none⟩=some v4) (x:ByteArray) (a1 a2:Option Addr) (m1 c1 m2 c2:Nat) (lo b:Int) :
 jci q x a1 a2 m1 c1 m2 c2 lo b W (((((W.setCell ⟨q,0,none⟩ (.string x)).setCell ⟨q,1,none⟩ (.slice a1 m1 c1)).setCell ⟨q,2,none⟩ (.slice a2 m2 c2)).setCell ⟨q,3,none⟩ (.int .i64 lo)).setCell ⟨q,4,none⟩ (.int .i64 b)) :=
 ⟨jau y.1 y.2.1 y.2.2.1 y.2.2.2.1 y.2.2.2.2 _ rfl,jbr _ _ _ _ _ _ _,fun j hj=>jax _ _ _ _ _ _ _ j hj,
  fun B w hB hk=>((((hk.setCell (p:=⟨q,0,none⟩) hB _).setCell (p:=⟨q,1,none⟩) hB _).setCell (p:=⟨q,2,none⟩) hB _).setCell (p:=⟨q,3,none⟩) hB _).setCell (p:=⟨q,4,none⟩) hB _⟩
theorem jbj (C:Addr) (s:List UInt8) (w:World) (h1:w.cell? C=some (.string (bytes s))) (hE:Vec.j5 w) (hs:s.length≤900000) :
 Calls Tryz.prog 49 #[.pointer (some C)] w (jJ (je s) w):=by
 obtain⟨Z,hZ⟩:=eX (w.alloc (.cells #[.string ⟨#[]⟩,.slice none 0 0,.slice none 0 0,.int .i64 0,.int .i64 0] 26))
 have hk:Kept w Z:=by rw[←hZ];exact ja _ _
 have hzs:Z.heap.size=w.heap.size+1:=by rw[←hZ,World.size_alloc]
 have hc:=cell_later hk h1;obtain⟨HP,HK,HZ⟩:=lH3 (XU s Z (hE.kept hk) hs) hk (fun W (kk:Kept Z W)=>XH w (.string ⟨#[]⟩) (.slice none 0 0) (.slice none 0 0) (.int .i64 0) (.int .i64 0) 26 W (by rw[hZ];exact kk));clear hE h1 hk hs;go_enter Tryz.func49,Tryz.ntmps49;go_wp2_with fail
 try rw[hZ]
 refine HP.out.mono ?_;rintro e w2 ⟨g0,g1,k⟩;have KK:=lH k;obtain⟨⟨y0,y1,y2,y3,y4⟩,x0,x1,x2,x3,x4⟩:=HZ.out _ k;have Y:=lH (And.intro y0 (And.intro y1 (And.intro y2 (And.intro y3 y4))));by_cases hx:(je s).1=0
 · obtain⟨v,rfl,hn⟩:=g0 hx;have HX:=lH hx;have HN:=lH hn;obtain⟨a1,m1,c1,a2,m2,c2,rfl,-⟩:=hn;have P:=lH (Z3 Y.out (je s).2.what a1 a2 m1 c1 m2 c2 (je s).2.lo (je s).2.hi);clear g0 g1 k hx Y hZ;obtain⟨x,hxx⟩:=eX ((je s).2.what)
   obtain⟨lo,hlo⟩:=eX ((je s).2.lo)
   obtain⟨cd,hcd⟩:=eX ((je s).2.hi)
   rw[hxx,hlo,hcd] at P HN;rw[hxx,hlo,hcd];clear hxx hlo hcd;go_wp2;obtain⟨WE,hWE⟩:=eX ((((((w2.setCell ⟨w.heap.size,0,none⟩ (.string x)).setCell ⟨w.heap.size,1,none⟩ (.slice a1 m1 c1)).setCell ⟨w.heap.size,2,none⟩ (.slice a2 m2 c2)).setCell ⟨w.heap.size,3,none⟩ (.int .i64 lo)).setCell ⟨w.heap.size,4,none⟩ (.int .i64 cd)))
   rw[hWE] at P ⊢;clear hWE y0 y1 y2 y3 y4 x0 x1 x2 x3 x4;obtain⟨⟨d0,d1,d2,d3,d4⟩,hsz,hbl,hkp⟩:=P.out;refine bodyPost_ret (by simp[results,Tryz.results49,go_sem,d0,d1,d2,d3,d4];try rfl) rfl ?_;exact jJ.good HX.out ((HN.out.far hsz (fun b hb=>hbl b (by omega))).less (by omega)) (hkp _ _ (Nat.le_refl _) (HK.out.trans KK.out))
 · obtain rfl:=g1 hx;have HX:=lH hx;clear g0 g1 k hx Y hZ;go_wp2;exact⟨rfl,jJ.bad rfl HX.out (HK.out.trans KK.out)⟩
theorem X0 (C:Addr) (r:Int×Lad) (w:World) (hr:r.1≠0→r.2=Lad.zero)
 (hk:∀W,Kept w W→Calls Tryz.prog 49 #[.pointer (some C)] W (jJ r W)) :
 Calls Tryz.prog 48 #[.func (.func 49) #[] #[.pointer (some C)]] w (Xt r w):=by
 have hmf:=hmfL (P:=Tryz.prog);have HR:=lH hr;obtain⟨Z,hZ⟩:=eX ((w.alloc (.cells #[.string ⟨#[]⟩,.slice none 0 0,.slice none 0 0,.int .i64 0,.int .i64 0] 26)).alloc (.cells #[.int .i64 0] 38))
 have hkz:Kept w Z:=by rw[←hZ];exact jN _ _ _
 have hzs:Z.heap.size=w.heap.size+2:=by rw[←hZ];simp
 have HK:=lH hkz;have HZ:=lH (fun W (kk:Kept Z W)=>XH w (.string ⟨#[]⟩) (.slice none 0 0) (.slice none 0 0) (.int .i64 0) (.int .i64 0) 26 W (by rw[←hZ] at kk;exact(ja _ _).trans kk));have T5:=lH (show ∀W,Kept Z W→W.cell? ⟨w.heap.size+1,0,none⟩=some (.int .i64 0)∧W.frozen? ⟨w.heap.size+1,0,none⟩=false from fun W kk=>by
  have hb:=Jm (w.alloc (.cells #[.string ⟨#[]⟩,.slice none 0 0,.slice none 0 0,.int .i64 0,.int .i64 0] 26)) (.int .i64 0) 38;rw[hZ,World.size_alloc] at hb;exact⟨cell_later kk hb.1,(kk.frozen (p:=⟨w.heap.size+1,0,none⟩) (by rw[hzs];exact Nat.lt_succ_self _)).trans hb.2⟩)
 have T6:=lH (hk Z hkz);clear hk hr hkz;obtain⟨r1,r2⟩:=r;go_enter_defers Tryz.func48,Tryz.ntmps48
 go_wp2_with fail
 try rw[hZ]
 refine T6.out.mono ?_;rintro e1 w1 ⟨h0,h1,hb⟩;have KK:=lH hb;obtain⟨⟨y0,y1,y2,y3,y4⟩,x0,x1,x2,x3,x4⟩:=HZ.out _ hb;obtain⟨z0,z1⟩:=T5.out _ hb;have Y:=lH (And.intro y0 (And.intro y1 (And.intro y2 (And.intro y3 y4))));have hws:w.heap.size+1<w1.heap.size:=by have:=hb.size;omega
 by_cases hx:r1=0
 · subst hx;obtain⟨v,rfl,hn⟩:=h0 rfl;have HN:=lH hn;obtain⟨a1,m1,c1,a2,m2,c2,rfl,-⟩:=hn;have P:=lH (Z3 Y.out r2.what a1 a2 m1 c1 m2 c2 r2.lo r2.hi);clear h0 h1 hb Y hZ;obtain⟨x,hxx⟩:=eX (r2.what)
   obtain⟨lo,hlo⟩:=eX (r2.lo)
   obtain⟨cd,hcd⟩:=eX (r2.hi)
   dsimp only at P HN ⊢;rw[hxx,hlo,hcd] at P HN;rw[hxx,hlo,hcd];clear hxx hlo hcd;go_wp2_with fail
   obtain⟨WE,hWE⟩:=eX ((((((w1.setCell ⟨w.heap.size,0,none⟩ (.string x)).setCell ⟨w.heap.size,1,none⟩ (.slice a1 m1 c1)).setCell ⟨w.heap.size,2,none⟩ (.slice a2 m2 c2)).setCell ⟨w.heap.size,3,none⟩ (.int .i64 lo)).setCell ⟨w.heap.size,4,none⟩ (.int .i64 cd)))
   rw[hWE] at P ⊢;obtain⟨⟨d0,d1,d2,d3,d4⟩,hsz,hbl,hkp⟩:=P.out;have ez:WE.cell? ⟨w.heap.size+1,0,none⟩=some (.int .i64 0):=(World.cell?_of_block (a:=⟨w.heap.size+1,0,none⟩) (hbl (w.heap.size+1) (by omega))).trans z0;have hb2:∀b,b≠w.heap.size+1→(WE.setCell ⟨w.heap.size+1,0,none⟩ (.int .i64 0)).heap[b]?=WE.heap[b]?:=fun b hb=>Below.heap_setCell WE ⟨w.heap.size+1,0,none⟩ _ b hb;have fe:=World.cell?_setCell_same' WE ⟨w.heap.size+1,0,none⟩ (.int .i64 0) (by rw[ez];rfl);have ff:∀j v,WE.cell? ⟨w.heap.size,j,none⟩=some v→(WE.setCell ⟨w.heap.size+1,0,none⟩ (.int .i64 0)).cell? ⟨w.heap.size,j,none⟩=some v:=fun j v h=>(World.cell?_of_block (a:=⟨w.heap.size,j,none⟩) (hb2 w.heap.size (by omega))).trans h;have f0:=ff 0 _ d0;have f1:=ff 1 _ d1;have f2:=ff 2 _ d2;have f3:=ff 3 _ d3;have f4:=ff 4 _ d4;have KF:=lH (show Kept w (WE.setCell ⟨w.heap.size+1,0,none⟩ (.int .i64 0)) from(hkp _ _ (Nat.le_refl _) (HK.out.trans KK.out)).setCell (p:=⟨w.heap.size+1,0,none⟩) (Nat.le_succ _) _);have NF:=lH ((HN.out.far (w':=WE.setCell ⟨w.heap.size+1,0,none⟩ (.int .i64 0)) (by simp[World.setCell,hsz]) (fun b hb=>(hb2 b (by omega)).trans (hbl b (by omega)))).less (B':=w.heap.size) (by omega));obtain⟨WF,hWF⟩:=eX (WE.setCell ⟨w.heap.size+1,0,none⟩ (.int .i64 0))
   rw[hWF] at fe f0 f1 f2 f3 f4 KF NF ⊢;clear hWE hWF ff hb2 ez P hbl hkp d0 d1 d2 d3 d4 y0 y1 y2 y3 y4 x0 x1 x2 x3 x4 z0 z1;refine leaves_cons (f:=68) (args:=#[.pointer (some ⟨w.heap.size+1,0,none⟩)]) (by simp) (by simp[go_sem]) ?_;refine(Y8 ⟨w.heap.size+1,0,none⟩ _).mono ?_;rintro e u' w'' ⟨rfl,rfl,rfl⟩;simp[Leaves,settle,results,Tryz.results48,go_sem,fe,f0,f1,f2,f3,f4];exact⟨_,rfl,NF.out,KF.out⟩
 · obtain rfl:=h1 hx;obtain rfl:=HR.out hx;have KW:=lH (HK.out.trans KK.out);clear h0 h1 hb hZ Y;go_wp2_with fail
   refine leaves_cons (f:=68) (args:=#[.pointer (some ⟨w.heap.size+1,0,none⟩)]) (by simp) (by simp[go_sem]) ?_;refine(Zf w.heap.size (w.heap.size+1) r1 0 _ z0 z1 (by omega)).mono ?_;rintro e u' w'' ⟨rfl,rfl,rfl,q2,q3⟩;have hb2:(w1.setCell ⟨w.heap.size+1,0,none⟩ (.int .i64 r1)).heap[w.heap.size]?=w1.heap[w.heap.size]?:=Below.heap_setCell w1 ⟨w.heap.size+1,0,none⟩ _ w.heap.size (by simp);have ff:∀j v,w1.cell? ⟨w.heap.size,j,none⟩=some v→(w1.setCell ⟨w.heap.size+1,0,none⟩ (.int .i64 r1)).cell? ⟨w.heap.size,j,none⟩=some v:=fun j v h=>(World.cell?_of_block (a:=⟨w.heap.size,j,none⟩) hb2).trans h;have f0:=ff 0 _ y0;have f1:=ff 1 _ y1;have f2:=ff 2 _ y2;have f3:=ff 3 _ y3;have f4:=ff 4 _ y4;have KF:=lH (show Kept w _ from Below.trans KW.out q3);obtain⟨WF,hWF⟩:=eX (w1.setCell ⟨w.heap.size+1,0,none⟩ (.int .i64 r1))
   rw[hWF] at q2 f0 f1 f2 f3 f4 KF ⊢;clear hWF ff hb2 q3 y0 y1 y2 y3 y4 x0 x1 x2 x3 x4 z0 z1;simp[Leaves,settle,results,Tryz.results48,go_sem,q2,f0,f1,f2,f3,f4];exact⟨_,rfl,XM _ _,KF.out⟩
theorem Jq (s:List UInt8) (w:World) (hE:Vec.j5 w) (hs:s.length≤900000) :
 Calls Tryz.prog 24 #[.string (bytes s)] w (Xt (je s) w):=by
 have hmf:=hmfL (P:=Tryz.prog);obtain⟨Z,hZ⟩:=eX ((w.alloc (.cells #[.string (bytes s)] 9)).alloc (.cells #[.string ⟨#[]⟩,.slice none 0 0,.slice none 0 0,.int .i64 0,.int .i64 0] 26))
 have hkz:Kept w Z:=by rw[←hZ];exact jN _ _ _
 have hzs:Z.heap.size=w.heap.size+2:=by rw[←hZ];simp
 have hzc:Z.cell? ⟨w.heap.size,0,none⟩=some (.string (bytes s)):=by
  rw[←hZ];exact cell_later (ja _ _) (by have hh:=w.alloc_heap_new (.cells #[.string (bytes s)] 9);rw[Lib.cell_of_heap hh];rfl)
 have HK:=lH hkz;have HZ:=lH (fun W (kk:Kept Z W)=>XH (w.alloc (.cells #[.string (bytes s)] 9)) (.string ⟨#[]⟩) (.slice none 0 0) (.slice none 0 0) (.int .i64 0) (.int .i64 0) 26 W (by rw[hZ];exact kk));rw[World.size_alloc] at HZ;have HC:=lH (X0 ⟨w.heap.size,0,none⟩ (je s) Z Zm (fun W k=>jbj ⟨w.heap.size,0,none⟩ s W (cell_later k hzc) (hE.kept (hkz.trans k)) hs));clear hE hs hzc;go_enter Tryz.func24,Tryz.ntmps24;go_wp2_with fail
 try rw[hZ]
 refine HC.out.mono ?_;rintro e w1 ⟨v,rfl,hn,k⟩;have KK:=lH k;have HN:=lH hn;obtain⟨⟨y0,y1,y2,y3,y4⟩,x0,x1,x2,x3,x4⟩:=HZ.out _ k;have Y:=lH (And.intro y0 (And.intro y1 (And.intro y2 (And.intro y3 y4))));obtain⟨a1,m1,c1,a2,m2,c2,rfl,-⟩:=hn;have P:=lH (Z3 Y.out (je s).2.what a1 a2 m1 c1 m2 c2 (je s).2.lo (je s).2.hi);obtain⟨x,hxx⟩:=eX ((je s).2.what)
 obtain⟨lo,hlo⟩:=eX ((je s).2.lo)
 obtain⟨cd,hcd⟩:=eX ((je s).2.hi)
 obtain⟨r1,hr1⟩:=eX ((je s).1)
 obtain⟨r2,hr2⟩:=eX ((je s).2)
 rw[hxx,hlo,hcd] at P HN;rw[hxx,hlo,hcd,hr1];rw[hr2] at HN;have HR:=lH (show je s=(r1,r2) by rw[←hr1,←hr2]);clear hxx hlo hcd hr1 hr2 k Y hZ;go_wp2;obtain⟨WE,hWE⟩:=eX ((((((w1.setCell ⟨w.heap.size+1,0,none⟩ (.string x)).setCell ⟨w.heap.size+1,1,none⟩ (.slice a1 m1 c1)).setCell ⟨w.heap.size+1,2,none⟩ (.slice a2 m2 c2)).setCell ⟨w.heap.size+1,3,none⟩ (.int .i64 lo)).setCell ⟨w.heap.size+1,4,none⟩ (.int .i64 cd)))
 rw[hWE] at P ⊢;clear hWE y0 y1 y2 y3 y4 x0 x1 x2 x3 x4;obtain⟨⟨d0,d1,d2,d3,d4⟩,hsz,hbl,hkp⟩:=P.out;refine bodyPost_ret (by simp[results,Tryz.results24,go_sem,d0,d1,d2,d3,d4];try rfl) rfl ?_;rw[HR.out];exact⟨_,rfl,(HN.out.far hsz (fun b hb=>hbl b (by omega))).less (by omega),hkp _ _ (Nat.le_succ _) (HK.out.trans KK.out)⟩
end Go.Proofs.YtnfojaidmnccoaaGreatDoor
