/- C. -/
import Derived.Test.YtokdjfoalkmhiaaGreatG0
import Derived.Test.YtokdjfoalkmhiaaGreatG1
import Derived.Test.YtokdjfoalkmhiaaGreatG2
import Derived.Test.YtokdjfoalkmhiaaGreatG3
import Derived.Test.YtokdjfoalkmhiaaGreatG4
import Derived.Test.YtokdjfoalkmhiaaGreatG6
import Derived.Test.YtokdjfoalkmhiaaGreatG7
set_option linter.unusedVariables false
set_option maxRecDepth 100000
set_option maxHeartbeats 25600000
namespace Go.Proofs.YtokdjfoalkmhiaaGreat
open Go.RowKit
def JZ (c:Int) (v:Value) (w:World) (e:Ending) (w':World):Prop:=(c=0→e=.returned v)∧(c≠0→e=.panicked [zx c])∧Kept w w'
theorem JZ.good {x c:Int} {v:Value} {w w':World} (h:x=c) (hc:c=0) (k:Kept w w'):JZ x v w (.returned v) w':=by
 subst h;exact⟨fun _=>rfl,fun h=>absurd hc h,k⟩
theorem JZ.bad {x c:Int} {v:Value} {w w':World} (h:x=c) (hc:c≠0) (k:Kept w w'):JZ x v w (.panicked [zx c]) w':=by
 subst h;exact⟨fun h=>absurd h hc,fun _=>rfl,k⟩
theorem qK {nl:List Nod} {pl:List Pd} {bl:List Bd} {c:Int} (h:or3 (jI nl) (jD pl) (jH bl)=c) (hc:c≠0):zN ⟨nl,pl,bl⟩=c:=by
 unfold zN;dsimp only;rw[h,if_pos hc]
theorem jaM {nl:List Nod} {pl:List Pd} {bl:List Bd} {c:Int} (h:or3 (jI nl) (jD pl) (jH bl)=0) (g:jA nl pl=c) (hc:c≠0):zN ⟨nl,pl,bl⟩=c:=by
 unfold zN;dsimp only;rw[h,if_neg (by simp),g,if_pos hc]
theorem XL {nl:List Nod} {pl:List Pd} {bl:List Bd} {c:Int} (h:or3 (jI nl) (jD pl) (jH bl)=0) (g:jA nl pl=0) (r:jM pl nl=c) (hc:c≠0):zN ⟨nl,pl,bl⟩=c:=by
 unfold zN;dsimp only;rw[h,if_neg (by simp),g,if_neg (by simp),r,if_pos hc]
theorem qM {nl:List Nod} {pl:List Pd} {bl:List Bd} (h:or3 (jI nl) (jD pl) (jH bl)=0) (g:jA nl pl=0) (r:jM pl nl=0):zN ⟨nl,pl,bl⟩=(Js nl []).1:=by
 unfold zN;dsimp only;rw[h,if_neg (by simp),g,if_neg (by simp),r,if_neg (by simp)]
theorem jeO (a b d:Option Addr) (len cap m c n e:Nat) (nl:List Nod) (pl:List Pd) (bl:List Bd) (w:World) (hn:jo w a len nl) (hp:jy w b m pl) (hb:j9 w d n bl) (hlow:∀n ∈ nl,zP n) :
 Calls Tryz.prog 40 #[.agg #[.slice a len cap,.slice b m c,.slice d n e]] w (JZ (zN ⟨nl,pl,bl⟩) (.agg #[.slice a len cap,.slice b m c,.slice d n e]) w):=by
 have hlN:=hn.1;have hlP:=hp.1;have hmN:=hn.2.1;have hmP:=hp.2.1;unfold maxLen at hmN hmP;obtain⟨Z,hZ⟩:=eX ((w.alloc (.cells #[.slice a len cap,.slice b m c,.slice d n e] 26)).alloc (.cells #[.slice none 0 0,.slice none 0 0,.slice none 0 0] 26))
 have hkz:Kept w Z:=by rw[←hZ];exact jn _ _ _
 have HS:=lH (show ∀W,Kept Z W→W.cell? ⟨w.heap.size,0,none⟩=some (.slice a len cap)∧W.cell? ⟨w.heap.size,1,none⟩=some (.slice b m c)∧W.cell? ⟨w.heap.size,2,none⟩=some (.slice d n e) from fun W k=>by
  have cc:=jc w (.slice a len cap) [.slice b m c,.slice d n e] 26 W (by have:=ja (w.alloc (.cells #[.slice a len cap,.slice b m c,.slice d n e] 26)) (.cells #[.slice none 0 0,.slice none 0 0,.slice none 0 0] 26);rw[hZ] at this;exact this.trans k);exact⟨cc.at_ 0 _ rfl,cc.at_ 1 _ rfl,cc.at_ 2 _ rfl⟩)
 have HQ:=lH (show ∀W,Kept Z W→jf (w.heap.size+1) [.slice none 0 0,.slice none 0 0,.slice none 0 0] W from fun W k=>by
  have dd:=jc (w.alloc (.cells #[.slice a len cap,.slice b m c,.slice d n e] 26)) (.slice none 0 0) [.slice none 0 0,.slice none 0 0] 26 W (by rw[hZ];exact k);rw[World.size_alloc] at dd;exact dd)
 obtain⟨HN,HP,HB,Vo,U7,Ud,Vc⟩:=lH7 (hn.kept hkz) (hp.kept hkz) (hb.kept hkz) hlow hlN hlP hkz;obtain⟨x1,hx1⟩:=eX (jI nl)
 obtain⟨x2,hx2⟩:=eX (jD pl)
 obtain⟨x3,hx3⟩:=eX (jH bl)
 obtain⟨x0,hx0⟩:=eX (or3 x1 x2 x3)
 obtain⟨RR,Ue,H1,H2,H3⟩:=lH5 hx0 (show or3 (jI nl) (jD pl) (jH bl)=x0 by rw[hx1,hx2,hx3,hx0]) (fun W (k:Kept Z W)=>jfd a len cap nl W (HN.out.kept k)) (fun W (k:Kept Z W)=>jex b m c pl W (HP.out.kept k)) (fun W (k:Kept Z W)=>jez d n e bl W (HB.out.kept k));rw[hx1] at H1;rw[hx2] at H2;rw[hx3] at H3;clear hn hp hb hlow hlN hlP hkz hx1 hx2 hx3 hx0;by_cases hc:x0=0
 · subst hc;go_enter Tryz.func40,Tryz.ntmps40;go_wp2;try rw[hZ]
   clear hZ;refine wp_region_held_drew (S:=fun W=>W.cell? ⟨w.heap.size,0,none⟩=some (.slice a len cap)∧W.cell? ⟨w.heap.size,1,none⟩=some (.slice b m c)∧W.cell? ⟨w.heap.size,2,none⟩=some (.slice d n e)) (by kernel_rfl) (HS.out _ (Kept.drew _)) (fun hHeld=>?_);refine tkI 0 ?_;refine tkI 1 ?_;refine tkI 3 ?_;refine tkI 4 ?_;refine tkI 6 ?_;refine tkI 7 ?_;try simp only[nP]
   refine rd1 2 fun K9 Ky=>?_;go_simp;refine(H1.out _ (Kept.drew _)).mono ?_;rintro e1 w1 ⟨rfl,kk⟩;have J1:=lH ((Kept.drew _).trans kk);clear kk;refine Ky.out _ _ (HS.out _ J1.out) (fun _=>?_);clear Ky K9;try simp only[nP]
   refine rd1 5 fun K9 Ky=>?_;go_simp;refine(H2.out _ J1.out).mono ?_;rintro e2 w2 ⟨rfl,kk⟩;have J2:=lH ((J1.out).trans kk);clear kk;refine Ky.out _ _ (HS.out _ J2.out) (fun _=>?_);clear Ky K9;try simp only[nP]
   refine rd1 8 fun K9 Ky=>?_;go_simp;refine(H3.out _ J2.out).mono ?_;rintro e3 w3 ⟨rfl,kk⟩;have J3:=lH ((J2.out).trans kk);clear kk;refine Ky.out _ _ (HS.out _ J3.out) (fun _=>?_);clear Ky K9;try simp only[nP]
   refine rd1 9 fun K9 Ky=>?_;go_simp;have J4:=lH (J3.out.trans (ja w3 (.cells #[.int .i64 x1,.int .i64 x2,.int .i64 x3] 45)));refine Ky.out _ _ (HS.out _ J4.out) (fun _=>?_);clear Ky K9;try simp only[nP]
   refine rd1 10 fun K9 Ky=>?_;go_simp;refine(jdl _ x1 x2 x3 _ (by go_simp) (by go_simp) (by go_simp)).mono ?_;rintro e4 w4 ⟨rfl,rfl⟩;rw[RR.out];refine Ky.out _ _ (HS.out _ J4.out) (fun _=>?_);clear Ky K9;try simp only[nP]
   refine rd1 11 fun K9 Ky=>?_;go_simp;refine(jkw _).mono ?_;rintro e5 w5 ⟨rfl,rfl⟩;refine Ky.out _ _ (HS.out _ J4.out) (fun _=>?_);clear Ky K9;try simp only[nP]
   refine wpAnyH_done (by kernel_rfl) ?_ _;obtain⟨W0,hW0⟩:=eX (w3.alloc (.cells #[.int .i64 x1,.int .i64 x2,.int .i64 x3] 45))
   rw[hW0] at J4 ⊢;obtain⟨o0,o1,o2⟩:=HS.out _ J4.out;clear hW0;go_wp2;clear o0 o1 o2;go_loopw [22] (fun i wr=>∃k:Nat,k≤m∧i=.int .i64 k∧jA nl (pl.drop k)=jA nl pl∧Kept Z wr) (fun i _=>m-(intOf i).toNat)
   case atStart=>exact⟨0,Nat.zero_le _,rfl,rfl,J4.out⟩
   case round =>
    obtain⟨k,hk,rfl,hrest,hK⟩:=hrel;have HT:=lH hrest;have HK:=lH hK;by_cases hlt:k<m
    · obtain⟨b0,off,rfl⟩:=HP.out.form.resolve_left (by omega);obtain⟨p,a1,m1,c1,a2,m2,c2,a3,m3,c3,a4,m4,c4,hn,hd,hb,y0,y1,y2,y3,y4,y5,y6,y7,y8,y9,y10,hat⟩:=(HP.out.kept hK).at_ hlt;have HD:=lH hd;obtain⟨t,ht⟩:=eX ((p.node.toList==([]:List UInt8)))
      have Ua:=lH (show zp p.node=t by rw[JV];exact ht);have hkk:(k:Int)<(m:Int):=by omega
      have KA:=lH (hK.trans (ja wr (.cells #[.string p.name,.string p.owner,.int .i64 p.prio,.slice a1 m1 c1,.slice a2 m2 c2,.slice a3 m3 c3,.slice a4 m4 c4,.string p.key,.int .i64 p.most,.string p.node,.bool p.hold] 44)));obtain⟨o0,o1,o2⟩:=HS.out _ KA.out;clear hrest hK hat hd hn
      cases t with
      | true =>
       have HX:=lH (show jA nl (pl.drop (k+1))=jA nl pl by rw[←HT.out,HD.out,jbD Ua.out]);go_wp2;go_roundw
       case rel=>exact⟨k+1,by omega,by go_num,HX.out,KA.out⟩
       case measure=>simp[intOf];omega
      | false =>
       cases hf:jl nl p.node with
       | none =>
        have HX:=lH (show jA nl pl=3 by rw[←HT.out,HD.out,jau Ua.out (by rw[hf];rfl)]);have HF:=lH hf;clear hf;go_wp2_with fail
        refine(qk a _ d len cap m c n e nl p.node _ (HN.out.kept KA.out) Vo.out HF.out).mono ?_;rintro e1 v1 ⟨rfl,kk⟩;go_wp2;exact⟨rfl,JZ.bad (jaM Ue.out HX.out (by decide)) (by decide) (Vc.out.trans (KA.out.trans kk))⟩
       | some n9 =>
        have HX:=lH (show jA nl (pl.drop (k+1))=jA nl pl by rw[←HT.out,HD.out,jbJ (by rw[hf];rfl)]);have HF:=lH hf;clear hf;go_wp2_with fail
        refine(ZH a _ d len cap m c n e nl p.node n9 _ (HN.out.kept KA.out) Vo.out HF.out).mono ?_;rintro e1 v1 ⟨b1,n1,d1,b2,n2,d2,b3,n3,d3,rfl,-,kk⟩;have KB:=lH (KA.out.trans kk);clear kk o0 o1 o2;go_wp2;go_roundw
        case rel=>exact⟨k+1,by omega,by go_num,HX.out,KB.out⟩
        case measure=>simp[intOf];omega
    · have V1:=lH (show jA nl pl=0 by rw[←hrest,List.drop_of_length_le (by rw[Ud.out];omega)];rfl);obtain⟨o0,o1,o2⟩:=HS.out _ hK;clear hrest hK;go_wp2;clear o0 o1 o2;go_loopw [37] (fun i wr=>∃k:Nat,k≤len∧i=.int .i64 k∧jM pl (nl.drop k)=jM pl nl∧Kept Z wr) (fun i _=>len-(intOf i).toNat)
      case atStart=>exact⟨0,Nat.zero_le _,rfl,rfl,HK.out⟩
      case round =>
       obtain⟨k,hk,rfl,hrest,hK⟩:=hrel;have HT:=lH hrest;have HK:=lH hK;by_cases hlt:k<len
       · obtain⟨b0,off,rfl⟩:=HN.out.form.resolve_left (by omega);obtain⟨p,a1,m1,c1,a2,m2,c2,a3,m3,c3,hn,hd,hb,y0,y1,y2,y3,y4,hat⟩:=(HN.out.kept hK).at_ hlt;have HD:=lH hd;have HA:=lH hat;have hkk:(k:Int)<(len:Int):=by omega
         obtain⟨c9,m9,hu⟩:∃c m,jJ p.name pl []=(c,m):=⟨_,_,rfl⟩
         have HU:=lH hu;obtain⟨z0,hz0⟩:=eX (p.name)
         obtain⟨z4,hz4⟩:=eX (p.cordon)
         have To:=lH hz0;rw[hz0] at y0;rw[hz4] at y4;have Um:=lH (show ∀W,Kept (wr.alloc (.cells #[.string z0,.slice a1 m1 c1,.slice a2 m2 c2,.slice a3 m3 c3,.bool z4] 57)) W→W.cell? ⟨w.heap.size,0,none⟩=some (.slice (some ⟨b0,off,none⟩) len cap)∧W.cell? ⟨w.heap.size,1,none⟩=some (.slice b m c)∧W.cell? ⟨w.heap.size,2,none⟩=some (.slice d n e)∧W.cell? ⟨wr.heap.size,0,none⟩=some (.string z0)∧W.cell? ⟨wr.heap.size,1,none⟩=some (.slice a1 m1 c1)∧W.cell? ⟨wr.heap.size,2,none⟩=some (.slice a2 m2 c2)∧W.cell? ⟨wr.heap.size,3,none⟩=some (.slice a3 m3 c3)∧W.cell? ⟨wr.heap.size,4,none⟩=some (.bool z4) from fun W k=>by
          obtain⟨o0,o1,o2⟩:=HS.out W (hK.trans ((ja _ _).trans k));have cc:=jc wr (.string z0) [.slice a1 m1 c1,.slice a2 m2 c2,.slice a3 m3 c3,.bool z4] 57 W k;exact⟨o0,o1,o2,cc.at_ 0 _ rfl,cc.at_ 1 _ rfl,cc.at_ 2 _ rfl,cc.at_ 3 _ rfl,cc.at_ 4 _ rfl⟩)
         have TM:=lH (fun W (k:Kept wr W)=>Y9 b (some ⟨b0,off,none⟩) d a1 a2 a3 m c len cap n e m1 c1 m2 c2 m3 c3 z0 z4 pl W (HP.out.kept (HK.out.trans k)));clear hrest hK hat hd hn hu;by_cases hc:c9=0
         · subst hc;obtain⟨t,ht⟩:=eX (Vec.jB p.cap m9)
           have UH:=lH ht;clear ht
           cases t with
           | true =>
            have HX:=lH (show jM pl (nl.drop (k+1))=jM pl nl by rw[←HT.out,HD.out,XC HU.out UH.out]);obtain⟨o0,o1,o2,-⟩:=Um.out _ (Kept.refl _);go_wp2;clear o0 o1 o2;refine wp_region_held_drew (S:=fun W=>W.cell? ⟨w.heap.size,0,none⟩=some (.slice (some ⟨b0,off,none⟩) len cap)∧W.cell? ⟨w.heap.size,1,none⟩=some (.slice b m c)∧W.cell? ⟨w.heap.size,2,none⟩=some (.slice d n e)∧W.cell? ⟨wr.heap.size,0,none⟩=some (.string z0)∧W.cell? ⟨wr.heap.size,1,none⟩=some (.slice a1 m1 c1)∧W.cell? ⟨wr.heap.size,2,none⟩=some (.slice a2 m2 c2)∧W.cell? ⟨wr.heap.size,3,none⟩=some (.slice a3 m3 c3)∧W.cell? ⟨wr.heap.size,4,none⟩=some (.bool z4)) (by kernel_rfl) (Um.out _ (Kept.drew _)) (fun hHeld=>?_);refine tkI 0 ?_;refine tkI 1 ?_;refine tkI 3 ?_;refine tkI 4 ?_;try simp only[nP]
            refine rd1 2 fun K9 Ky=>?_;go_simp;refine(((TM.out _ ((ja wr (.cells #[.string z0,.slice a1 m1 c1,.slice a2 m2 c2,.slice a3 m3 c3,.bool z4] 57)).trans (Kept.drew _))).mono fun _ _ h=>h.ok (by rw[←To.out];exact HU.out))).mono ?_;rintro e1 v1 ⟨v,rfl,ho,kk⟩;have J1:=lH ((Kept.drew _).trans kk);have HO:=lH ho;clear kk ho;refine Ky.out _ _ (Um.out _ J1.out) (fun _=>?_);clear Ky K9;try simp only[nP]
            refine rd1 5 fun K9 Ky=>?_;go_simp;refine(Vec.jis HO.out.reads (HA.out.kept ((ja wr (.cells #[.string z0,.slice a1 m1 c1,.slice a2 m2 c2,.slice a3 m3 c3,.bool z4] 57)).trans J1.out)).cap UH.out).mono ?_;rintro e2 v2 ⟨rfl,kk⟩;have J2:=lH (J1.out.trans kk);clear kk;refine Ky.out _ _ (Um.out _ J2.out) (fun _=>?_);clear Ky K9;try simp only[nP]
            refine tkI 6 ?_;try simp only[nP]
            refine wpAnyH_done (by kernel_rfl) ?_ _;have KB:=lH (HK.out.trans ((ja wr (.cells #[.string z0,.slice a1 m1 c1,.slice a2 m2 c2,.slice a3 m3 c3,.bool z4] 57)).trans J2.out));go_wp2;go_roundw
            case rel=>exact⟨k+1,by omega,by go_num,HX.out,KB.out⟩
            case measure=>simp[intOf];omega
           | false =>
            have HX:=lH (show jM pl nl=7 by rw[←HT.out,HD.out,qR HU.out UH.out]);obtain⟨o0,o1,o2,-⟩:=Um.out _ (Kept.refl _);go_wp2;clear o0 o1 o2;refine wp_region_held_drew (S:=fun W=>W.cell? ⟨w.heap.size,0,none⟩=some (.slice (some ⟨b0,off,none⟩) len cap)∧W.cell? ⟨w.heap.size,1,none⟩=some (.slice b m c)∧W.cell? ⟨w.heap.size,2,none⟩=some (.slice d n e)∧W.cell? ⟨wr.heap.size,0,none⟩=some (.string z0)∧W.cell? ⟨wr.heap.size,1,none⟩=some (.slice a1 m1 c1)∧W.cell? ⟨wr.heap.size,2,none⟩=some (.slice a2 m2 c2)∧W.cell? ⟨wr.heap.size,3,none⟩=some (.slice a3 m3 c3)∧W.cell? ⟨wr.heap.size,4,none⟩=some (.bool z4)) (by kernel_rfl) (Um.out _ (Kept.drew _)) (fun hHeld=>?_);refine tkI 0 ?_;refine tkI 1 ?_;refine tkI 3 ?_;refine tkI 4 ?_;try simp only[nP]
            refine rd1 2 fun K9 Ky=>?_;go_simp;refine(((TM.out _ ((ja wr (.cells #[.string z0,.slice a1 m1 c1,.slice a2 m2 c2,.slice a3 m3 c3,.bool z4] 57)).trans (Kept.drew _))).mono fun _ _ h=>h.ok (by rw[←To.out];exact HU.out))).mono ?_;rintro e1 v1 ⟨v,rfl,ho,kk⟩;have J1:=lH ((Kept.drew _).trans kk);have HO:=lH ho;clear kk ho;refine Ky.out _ _ (Um.out _ J1.out) (fun _=>?_);clear Ky K9;try simp only[nP]
            refine rd1 5 fun K9 Ky=>?_;go_simp;refine(Vec.jis HO.out.reads (HA.out.kept ((ja wr (.cells #[.string z0,.slice a1 m1 c1,.slice a2 m2 c2,.slice a3 m3 c3,.bool z4] 57)).trans J1.out)).cap UH.out).mono ?_;rintro e2 v2 ⟨rfl,kk⟩;have J2:=lH (J1.out.trans kk);clear kk;refine Ky.out _ _ (Um.out _ J2.out) (fun _=>?_);clear Ky K9;try simp only[nP]
            refine tkI 6 ?_;try simp only[nP]
            refine wpAnyH_done (by kernel_rfl) ?_ _;have KB:=lH (HK.out.trans ((ja wr (.cells #[.string z0,.slice a1 m1 c1,.slice a2 m2 c2,.slice a3 m3 c3,.bool z4] 57)).trans J2.out));go_wp2;exact⟨rfl,JZ.bad (XL Ue.out V1.out HX.out (by decide)) (by decide) (Vc.out.trans KB.out)⟩
         · have HX:=lH (show jM pl nl=c9 by rw[←HT.out,HD.out,ja3 HU.out hc]);have HC:=lH hc;clear hc;obtain⟨o0,o1,o2,-⟩:=Um.out _ (Kept.refl _);go_wp2;clear o0 o1 o2;refine wp_region_held_drew (S:=fun W=>W.cell? ⟨w.heap.size,0,none⟩=some (.slice (some ⟨b0,off,none⟩) len cap)∧W.cell? ⟨w.heap.size,1,none⟩=some (.slice b m c)∧W.cell? ⟨w.heap.size,2,none⟩=some (.slice d n e)∧W.cell? ⟨wr.heap.size,0,none⟩=some (.string z0)∧W.cell? ⟨wr.heap.size,1,none⟩=some (.slice a1 m1 c1)∧W.cell? ⟨wr.heap.size,2,none⟩=some (.slice a2 m2 c2)∧W.cell? ⟨wr.heap.size,3,none⟩=some (.slice a3 m3 c3)∧W.cell? ⟨wr.heap.size,4,none⟩=some (.bool z4)) (by kernel_rfl) (Um.out _ (Kept.drew _)) (fun hHeld=>?_);refine tkI 0 ?_;refine tkI 1 ?_;refine tkI 3 ?_;refine tkI 4 ?_;try simp only[nP]
           refine rd1 2 fun K9 Ky=>?_;go_simp;refine(((TM.out _ ((ja wr (.cells #[.string z0,.slice a1 m1 c1,.slice a2 m2 c2,.slice a3 m3 c3,.bool z4] 57)).trans (Kept.drew _))).mono fun _ _ h=>h.not (by rw[←To.out];exact HU.out) HC.out)).mono ?_;rintro e1 v1 ⟨rfl,kk⟩;exact⟨rfl,JZ.bad (XL Ue.out V1.out HX.out HC.out) HC.out (Vc.out.trans (HK.out.trans ((ja wr (.cells #[.string z0,.slice a1 m1 c1,.slice a2 m2 c2,.slice a3 m3 c3,.bool z4] 57)).trans ((Kept.drew _).trans kk))))⟩
       · have Rj:=lH (show jM pl nl=0 by rw[←hrest,List.drop_of_length_le (by rw[U7.out];omega)];rfl);obtain⟨o0,o1,o2⟩:=HS.out _ hK;have RS:=lH (jj9 a b d len cap m c n e nl wr (HN.out.kept hK));have Nx:=lH (qM Ue.out V1.out Rj.out);obtain⟨c9,m9,hu⟩:∃c m,Js nl []=(c,m):=⟨_,_,rfl⟩
         have HU:=lH hu;have HV:=lH (show zN ⟨nl,pl,bl⟩=c9 by rw[Nx.out,hu]);clear hrest hK hu;by_cases hc:c9=0
         · subst hc;go_wp2_with fail
           refine(RS.out.mono fun _ _ h=>h.ok HU.out).mono ?_;rintro e1 v1 ⟨v,rfl,ho,kk⟩;have KB:=lH (HK.out.trans kk);clear kk ho o0 o1 o2;obtain⟨o0,o1,o2⟩:=HS.out _ KB.out;have y0:=(HQ.out _ KB.out).at_ 0 _ rfl;have y1:=(HQ.out _ KB.out).at_ 1 _ rfl;have y2:=(HQ.out _ KB.out).at_ 2 _ rfl;have f0:=(HQ.out _ KB.out).free 0;have f1:=(HQ.out _ KB.out).free 1;have f2:=(HQ.out _ KB.out).free 2;have PP:=lH (j5 (vs:=[.slice a len cap,.slice b m c,.slice d n e]) (HQ.out _ KB.out) rfl);go_wp2;obtain⟨WE,hWE⟩:=eX (v1.setCells (w.heap.size+1) 0 [.slice a len cap,.slice b m c,.slice d n e])
           have hWE2:(((v1.setCell ⟨(w.heap.size+1),0,none⟩ (.slice a len cap)).setCell ⟨(w.heap.size+1),1,none⟩ (.slice b m c)).setCell ⟨(w.heap.size+1),2,none⟩ (.slice d n e))=WE:=hWE;rw[hWE] at PP;try rw[hWE2]
           clear hWE hWE2;obtain⟨PC,hsz,hbl,hkp⟩:=PP.out;refine bodyPost_ret (by simp[results,Tryz.results40,go_sem,PC.at_ 0 _ rfl,PC.at_ 1 _ rfl,PC.at_ 2 _ rfl];try rfl) rfl ?_;exact JZ.good HV.out rfl (hkp _ _ (by omega) (Vc.out.trans KB.out))
         · have HC:=lH hc;clear hc;go_wp2_with fail
           refine(RS.out.mono fun _ _ h=>h.not HU.out HC.out).mono ?_;rintro e1 v1 ⟨rfl,kk⟩;go_wp2;exact⟨rfl,JZ.bad HV.out HC.out (Vc.out.trans (HK.out.trans kk))⟩
 · have HC:=lH hc;clear hc;go_enter Tryz.func40,Tryz.ntmps40;go_wp2;try rw[hZ]
   clear hZ;refine wp_region_held_drew (S:=fun W=>W.cell? ⟨w.heap.size,0,none⟩=some (.slice a len cap)∧W.cell? ⟨w.heap.size,1,none⟩=some (.slice b m c)∧W.cell? ⟨w.heap.size,2,none⟩=some (.slice d n e)) (by kernel_rfl) (HS.out _ (Kept.drew _)) (fun hHeld=>?_);refine tkI 0 ?_;refine tkI 1 ?_;refine tkI 3 ?_;refine tkI 4 ?_;refine tkI 6 ?_;refine tkI 7 ?_;try simp only[nP]
   refine rd1 2 fun K9 Ky=>?_;go_simp;refine(H1.out _ (Kept.drew _)).mono ?_;rintro e1 w1 ⟨rfl,kk⟩;have J1:=lH ((Kept.drew _).trans kk);clear kk;refine Ky.out _ _ (HS.out _ J1.out) (fun _=>?_);clear Ky K9;try simp only[nP]
   refine rd1 5 fun K9 Ky=>?_;go_simp;refine(H2.out _ J1.out).mono ?_;rintro e2 w2 ⟨rfl,kk⟩;have J2:=lH ((J1.out).trans kk);clear kk;refine Ky.out _ _ (HS.out _ J2.out) (fun _=>?_);clear Ky K9;try simp only[nP]
   refine rd1 8 fun K9 Ky=>?_;go_simp;refine(H3.out _ J2.out).mono ?_;rintro e3 w3 ⟨rfl,kk⟩;have J3:=lH ((J2.out).trans kk);clear kk;refine Ky.out _ _ (HS.out _ J3.out) (fun _=>?_);clear Ky K9;try simp only[nP]
   refine rd1 9 fun K9 Ky=>?_;go_simp;have J4:=lH (J3.out.trans (ja w3 (.cells #[.int .i64 x1,.int .i64 x2,.int .i64 x3] 45)));refine Ky.out _ _ (HS.out _ J4.out) (fun _=>?_);clear Ky K9;try simp only[nP]
   refine rd1 10 fun K9 Ky=>?_;go_simp;refine(jdl _ x1 x2 x3 _ (by go_simp) (by go_simp) (by go_simp)).mono ?_;rintro e4 w4 ⟨rfl,rfl⟩;rw[RR.out];refine Ky.out _ _ (HS.out _ J4.out) (fun _=>?_);clear Ky K9;try simp only[nP]
   refine rd1 11 fun K9 Ky=>?_;go_simp;refine(ji7 _ _ HC.out).mono ?_;rintro e5 w5 ⟨rfl,rfl⟩;exact⟨rfl,JZ.bad (qK Ue.out HC.out) HC.out (Vc.out.trans J4.out)⟩
theorem jg0 (a b d:Option Addr) (len cap m c n e p:Nat) (nl:List Nod) (pl:List Pd) (bl:List Bd) (w:World) (hn:jo w a len nl) (hp:jy w b m pl) (hb:j9 w d n bl) (hlow:∀n ∈ nl,zP n) (hs:w.cell? ⟨p,0,none⟩=some (.slice a len cap)∧w.cell? ⟨p,1,none⟩=some (.slice b m c)∧w.cell? ⟨p,2,none⟩=some (.slice d n e)) :
 Calls Tryz.prog 39 #[.pointer (some ⟨p,0,none⟩)] w (JZ (zN ⟨nl,pl,bl⟩) (.agg #[.slice a len cap,.slice b m c,.slice d n e]) w):=by
 obtain⟨Z,hZ⟩:=eX (w.alloc (.cells #[.slice none 0 0,.slice none 0 0,.slice none 0 0] 26))
 have hkz:Kept w Z:=by rw[←hZ];exact ja _ _
 obtain⟨HQ,HS,HC,Vc⟩:=lH4 (show ∀W,Kept Z W→jf w.heap.size [.slice none 0 0,.slice none 0 0,.slice none 0 0] W from fun W k=>jc w (.slice none 0 0) [.slice none 0 0,.slice none 0 0] 26 W (by rw[hZ];exact k)) (show Z.cell? ⟨p,0,none⟩=some (.slice a len cap)∧Z.cell? ⟨p,1,none⟩=some (.slice b m c)∧Z.cell? ⟨p,2,none⟩=some (.slice d n e) from⟨cell_later hkz hs.1,cell_later hkz hs.2.1,cell_later hkz hs.2.2⟩) (jeO a b d len cap m c n e nl pl bl Z (hn.kept hkz) (hp.kept hkz) (hb.kept hkz) hlow) hkz;obtain⟨c9,hc9⟩:=eX (zN ⟨nl,pl,bl⟩)
 rw[hc9] at HC ⊢;obtain⟨o0,o1,o2⟩:=HS.out;clear hn hp hb hlow hs hkz hc9;go_enter Tryz.func39,Tryz.ntmps39;go_wp2_with fail
 try rw[hZ]
 go_wp2_with fail
 try rw[hZ]
 clear hZ;refine HC.out.mono ?_;rintro e1 w1 ⟨h0,h1,k⟩;have KB:=lH k;by_cases hc:c9=0
 · subst hc;obtain rfl:=h0 rfl;clear h0 h1 k;have y0:=(HQ.out _ KB.out).at_ 0 _ rfl;have y1:=(HQ.out _ KB.out).at_ 1 _ rfl;have y2:=(HQ.out _ KB.out).at_ 2 _ rfl;have f0:=(HQ.out _ KB.out).free 0;have f1:=(HQ.out _ KB.out).free 1;have f2:=(HQ.out _ KB.out).free 2;have PP:=lH (j5 (vs:=[.slice a len cap,.slice b m c,.slice d n e]) (HQ.out _ KB.out) rfl);go_wp2;obtain⟨WE,hWE⟩:=eX (w1.setCells w.heap.size 0 [.slice a len cap,.slice b m c,.slice d n e])
   have hWE2:(((w1.setCell ⟨w.heap.size,0,none⟩ (.slice a len cap)).setCell ⟨w.heap.size,1,none⟩ (.slice b m c)).setCell ⟨w.heap.size,2,none⟩ (.slice d n e))=WE:=hWE;rw[hWE] at PP;try rw[hWE2]
   clear hWE hWE2;obtain⟨PC,hsz,hbl,hkp⟩:=PP.out;refine bodyPost_ret (by simp[results,Tryz.results39,go_sem,PC.at_ 0 _ rfl,PC.at_ 1 _ rfl,PC.at_ 2 _ rfl];try rfl) rfl ?_;exact JZ.good rfl rfl (hkp _ _ (Nat.le_refl _) (Vc.out.trans KB.out))
 · obtain rfl:=h1 hc;have HX:=lH hc;clear h0 h1 k hc;go_wp2;exact⟨rfl,JZ.bad rfl HX.out (Vc.out.trans KB.out)⟩
theorem jbb (B:Nat) (q:Nat) (x y:Int) (w:World) (hq:w.cell? ⟨q,0,none⟩=some (.int .i64 y)) (hzq:w.frozen? ⟨q,0,none⟩=false) (hBq:B≤q) :
 CallsD Tryz.prog 87 #[.pointer (some ⟨q,0,none⟩)] (.panicking [zx x]) w fun e u' w' =>
  e=.returned (.tuple #[])∧u'=.panicking [{ zx x with recovered:=true }]∧w'=w.setCell ⟨q,0,none⟩ (.int .i64 x)∧w'.cell? ⟨q,0,none⟩=some (.int .i64 x)∧Below B w w':=by
 have hta:∀W,(Instr.typeAssert (.iface 45 (.int .i64 x)) 20 45 false).run Tryz.prog W=.ok (.int .i64 x) W:=fun _=>by kernel_rfl
 refine callsD_of_wpS Tryz.func87 rfl fun c₀ cs hu=>?_;apply wpS_seq;apply wpS_region;simp[wpOpsS,go_sem,recoverD,hu,Tryz.ntmps87,Exit.thenS];apply wpS_seq;apply wpS_region;simp[wpOpsS,go_sem,recoverD,Exit.thenS];refine wpS_cond (t:=true) (by simp[Act.eval,Array.replicate]) ?_;simp only[if_true];refine wpS_of_wp ?_;simp[Array.replicate];go_wp2;simp[bodyPostS,results,Tryz.results87];exact⟨World.cell?_setCell_same' _ _ _ (by rw[hq];rfl),(Below.refl B w).setCell (p:=⟨q,0,none⟩) hBq _⟩
theorem jeK (q:Addr) (w:World) :
 CallsD Tryz.prog 87 #[.pointer (some q)] .returning w fun e u' w'=>e=.returned (.tuple #[])∧u'=.returning∧w'=w:=by
 refine callsD_of_wpS Tryz.func87 rfl fun c₀ cs hu=>?_;apply wpS_seq;apply wpS_region;simp[wpOpsS,go_sem,recoverD,hu,Tryz.ntmps87,Exit.thenS];apply wpS_seq;apply wpS_region;simp[wpOpsS,go_sem,recoverD,hu,Exit.thenS];refine wpS_cond (t:=false) (by simp[Act.eval,Array.replicate]) ?_;simp only[Bool.false_eq_true,if_false];refine wpS_of_wp (wp_skip ?_)
 cases c₀
 simp_all [bodyPostS,results,Tryz.results87]
theorem jfc (C:Addr) (r:Int) (a b d:Option Addr) (len cap m c n e:Nat) (w:World)
 (hk:∀W,Kept w W→Calls Tryz.prog 39 #[.pointer (some C)] W (JZ r (.agg #[.slice a len cap,.slice b m c,.slice d n e]) W)) :
 Calls Tryz.prog 38 #[.func (.func 39) #[] #[.pointer (some C)]] w fun e w'=>∃a b d len cap m c n f,e=.returned (.tuple #[.agg #[.slice a len cap,.slice b m c,.slice d n f],.int .i64 r])∧Kept w w':=by
 have hmf:=hmfL (P:=Tryz.prog);obtain⟨Z,hZ⟩:=eX ((w.alloc (.cells #[.slice none 0 0,.slice none 0 0,.slice none 0 0] 26)).alloc (.cells #[.int .i64 0] 45))
 have hkz:Kept w Z:=by rw[←hZ];exact jn _ _ _
 have hzs:Z.heap.size=w.heap.size+2:=by rw[←hZ];simp
 have HK:=lH hkz;have HZ:=lH (fun W (kk:Kept Z W)=>jc w (.slice none 0 0) [.slice none 0 0,.slice none 0 0] 26 W (by rw[←hZ] at kk;exact(ja _ _).trans kk));have Re:=lH (show ∀W,Kept Z W→W.cell? ⟨w.heap.size+1,0,none⟩=some (.int .i64 0)∧W.frozen? ⟨w.heap.size+1,0,none⟩=false from fun W kk=>by
  have hb:=jc (w.alloc (.cells #[.slice none 0 0,.slice none 0 0,.slice none 0 0] 26)) (.int .i64 0) [] 45 W (by rw[hZ];exact kk);rw[World.size_alloc] at hb;exact⟨hb.at_ 0 _ rfl,hb.free 0⟩)
 have Tp:=lH (hk Z hkz);clear hk hkz;go_enter_defers Tryz.func38,Tryz.ntmps38
 go_wp2_with fail
 try rw[hZ]
 refine Tp.out.mono ?_;rintro e1 w1 ⟨h0,h1,hb⟩;have KK:=lH hb;have QQ:=HZ.out _ hb;obtain⟨z0,z1⟩:=Re.out _ hb;have y0:=QQ.at_ 0 _ rfl;have y1:=QQ.at_ 1 _ rfl;have y2:=QQ.at_ 2 _ rfl;have x0:=QQ.free 0;have x1:=QQ.free 1;have x2:=QQ.free 2;have PP:=lH (j5 (vs:=[.slice a len cap,.slice b m c,.slice d n e]) QQ rfl);clear QQ;have hws:w.heap.size+1<w1.heap.size:=by have:=hb.size;omega
 by_cases hx:r=0
 · subst hx;obtain rfl:=h0 rfl;clear h0 h1 hb hZ;go_wp2_with fail
   obtain⟨WE,hWE⟩:=eX ((((w1.setCell ⟨w.heap.size,0,none⟩ (.slice a len cap)).setCell ⟨w.heap.size,1,none⟩ (.slice b m c)).setCell ⟨w.heap.size,2,none⟩ (.slice d n e)))
   have hWE2:w1.setCells w.heap.size 0 [.slice a len cap,.slice b m c,.slice d n e]=WE:=hWE;rw[hWE2] at PP;rw[hWE];obtain⟨PC,hsz,hbl,hkp⟩:=PP.out;have ez:WE.cell? ⟨w.heap.size+1,0,none⟩=some (.int .i64 0):=(World.cell?_of_block (a:=⟨w.heap.size+1,0,none⟩) (hbl (w.heap.size+1) (by omega))).trans z0;have hb2:∀b,b≠w.heap.size+1→(WE.setCell ⟨w.heap.size+1,0,none⟩ (.int .i64 0)).heap[b]?=WE.heap[b]?:=fun b hb=>Below.heap_setCell WE ⟨w.heap.size+1,0,none⟩ _ b hb;have fe:=World.cell?_setCell_same' WE ⟨w.heap.size+1,0,none⟩ (.int .i64 0) (by rw[ez];rfl);have ff:∀j v,WE.cell? ⟨w.heap.size,j,none⟩=some v→(WE.setCell ⟨w.heap.size+1,0,none⟩ (.int .i64 0)).cell? ⟨w.heap.size,j,none⟩=some v:=fun j v h=>(World.cell?_of_block (a:=⟨w.heap.size,j,none⟩) (hb2 w.heap.size (by omega))).trans h;have f0:=ff 0 _ (PC.at_ 0 _ rfl);have f1:=ff 1 _ (PC.at_ 1 _ rfl);have f2:=ff 2 _ (PC.at_ 2 _ rfl);have KF:=lH (show Kept w (WE.setCell ⟨w.heap.size+1,0,none⟩ (.int .i64 0)) from(hkp _ _ (Nat.le_refl _) (HK.out.trans KK.out)).setCell (p:=⟨w.heap.size+1,0,none⟩) (Nat.le_succ _) _);obtain⟨WF,hWF⟩:=eX (WE.setCell ⟨w.heap.size+1,0,none⟩ (.int .i64 0))
   rw[hWF] at fe f0 f1 f2 KF ⊢;clear hWE hWE2 hWF ff hb2 ez PP hbl hkp PC y0 y1 y2 x0 x1 x2 z0 z1;refine leaves_cons (f:=87) (args:=#[.pointer (some ⟨w.heap.size+1,0,none⟩)]) (by simp) (by simp[go_sem]) ?_;refine(jeK ⟨w.heap.size+1,0,none⟩ _).mono ?_;rintro e u' w'' ⟨rfl,rfl,rfl⟩;simp[Leaves,settle,results,Tryz.results38,go_sem,fe,f0,f1,f2];exact KF.out
 · obtain rfl:=h1 hx;have KW:=lH (HK.out.trans KK.out);clear h0 h1 hb hZ PP;go_wp2_with fail
   refine leaves_cons (f:=87) (args:=#[.pointer (some ⟨w.heap.size+1,0,none⟩)]) (by simp) (by simp[go_sem]) ?_;refine(jbb w.heap.size (w.heap.size+1) r 0 _ z0 z1 (by omega)).mono ?_;rintro e u' w'' ⟨rfl,rfl,rfl,q2,q3⟩;have hb2:(w1.setCell ⟨w.heap.size+1,0,none⟩ (.int .i64 r)).heap[w.heap.size]?=w1.heap[w.heap.size]?:=Below.heap_setCell w1 ⟨w.heap.size+1,0,none⟩ _ w.heap.size (by simp);have ff:∀j v,w1.cell? ⟨w.heap.size,j,none⟩=some v→(w1.setCell ⟨w.heap.size+1,0,none⟩ (.int .i64 r)).cell? ⟨w.heap.size,j,none⟩=some v:=fun j v h=>(World.cell?_of_block (a:=⟨w.heap.size,j,none⟩) hb2).trans h;have f0:=ff 0 _ y0;have f1:=ff 1 _ y1;have f2:=ff 2 _ y2;simp[Leaves,settle,results,Tryz.results38,go_sem,q2,f0,f1,f2];exact Below.trans KW.out q3
theorem jgy (a b d:Option Addr) (len cap m c n e:Nat) (nl:List Nod) (pl:List Pd) (bl:List Bd) (w:World) (hn:jo w a len nl) (hp:jy w b m pl) (hb:j9 w d n bl) (hlow:∀n ∈ nl,zP n) :
 Calls Tryz.prog 14 #[.agg #[.slice a len cap,.slice b m c,.slice d n e]] w (Say (.int .i64 (zN ⟨nl,pl,bl⟩)) w):=by
 have hmf:=hmfL (P:=Tryz.prog);obtain⟨Z,hZ⟩:=eX (w.alloc (.cells #[.slice a len cap,.slice b m c,.slice d n e] 26))
 have hkz:Kept w Z:=by rw[←hZ];exact ja _ _
 have HC:=lH (jfc ⟨w.heap.size,0,none⟩ (zN ⟨nl,pl,bl⟩) a b d len cap m c n e Z fun W k=>by
  have cc:=jc w (.slice a len cap) [.slice b m c,.slice d n e] 26 W (by rw[hZ];exact k);exact jg0 a b d len cap m c n e w.heap.size nl pl bl W (hn.kept (hkz.trans k)) (hp.kept (hkz.trans k)) (hb.kept (hkz.trans k)) hlow ⟨cc.at_ 0 _ rfl,cc.at_ 1 _ rfl,cc.at_ 2 _ rfl⟩)
 have Vc:=lH hkz;clear hn hp hb hlow hkz;obtain⟨c9,hc9⟩:=eX (zN ⟨nl,pl,bl⟩)
 rw[hc9] at HC ⊢;clear hc9;go_enter Tryz.func14,Tryz.ntmps14;go_wp2_with fail
 try rw[hZ]
 clear hZ;refine HC.out.mono ?_;rintro e1 w1 ⟨a',b',d',len',cap',m',c',n',f',rfl,k⟩;have KB:=lH (Vc.out.trans k);clear k;go_wp2;go_ret;exact⟨rfl,KB.out.trans (ja _ _)⟩
theorem jl6 {v:Value} {s:Clu} {c:Int} {w:World} (h:jC w v s) (hl:∀n ∈ s.nodes,zP n) (hc:zN s=c):Calls Tryz.prog 14 #[v] w (Say (.int .i64 c) w):=by
 subst hc;obtain⟨v1,v2,v3,rfl,⟨a,cap,rfl,_,_,hn⟩,⟨b,cp,rfl,_,_,hp⟩,⟨d,cb,rfl,_,_,hb⟩⟩:=h;exact jgy a b d _ cap _ cp _ cb s.nodes s.pods s.buds w hn hp hb hl
theorem jV {x:Int} {t:List Int} (h:x=0):orL (x::t)=orL t:=by subst h;rfl
theorem jL {x v:Int} {t:List Int} (h:x=v) (hv:v≠0):orL (x::t)=v:=by
 subst h;show (if x≠0 then x else orL t)=x;rw[if_pos hv]
theorem YG {x:Int}:orL [x]=x:=by
 show (if x≠0 then x else 0)=x;by_cases h:x=0
 · rw[if_neg (fun g=>g h),h]
 · rw[if_pos h]
theorem eor {x:ByteArray} {q r:Bool} (h:(x.toList==([]:List UInt8))=q) (g:isName x=r):ZE x=(q||r):=by unfold ZE;rw[JV,h,g]
theorem jgL (n:Pd) (v1 v2 v3 v4:Value) (w:World) (h:ji w v1 v2 v3 v4 n) :
 Calls Tryz.prog 125 #[jx n v1 v2 v3 v4] w (Say (.int .i64 (zC n)) w):=by
 obtain⟨x0,x1,x2,l1,l2,l3,l4,x3,x4,x5,x6⟩:=n;have s0:x0.size≤maxLen:=h.name;have s1:x1.size≤maxLen:=h.owner;have s3:x3.size≤maxLen:=h.key;have s5:x5.size≤maxLen:=h.node;obtain⟨W0,hW0⟩:=eX (w.alloc (.cells #[.string x0,.string x1,.int .i64 x2,v1,v2,v3,v4,.string x3,.int .i64 x4,.string x5,.bool x6] 118))
 have hk0:Kept w W0:=by rw[←hW0];exact ja _ _
 have HC:=lH (show ∀W,Kept W0 W→W.cell? ⟨w.heap.size,0,none⟩=some (.string x0)∧W.cell? ⟨w.heap.size,1,none⟩=some (.string x1)∧W.cell? ⟨w.heap.size,2,none⟩=some (.int .i64 x2)∧W.cell? ⟨w.heap.size,3,none⟩=some (v1)∧W.cell? ⟨w.heap.size,4,none⟩=some (v2)∧W.cell? ⟨w.heap.size,5,none⟩=some (v3)∧W.cell? ⟨w.heap.size,6,none⟩=some (v4)∧W.cell? ⟨w.heap.size,7,none⟩=some (.string x3)∧W.cell? ⟨w.heap.size,8,none⟩=some (.int .i64 x4)∧W.cell? ⟨w.heap.size,9,none⟩=some (.string x5)∧W.cell? ⟨w.heap.size,10,none⟩=some (.bool x6) from fun W k=>by
  have:=jc w (.string x0) [.string x1,.int .i64 x2,v1,v2,v3,v4,.string x3,.int .i64 x4,.string x5,.bool x6] 118 W (by rw[hW0];exact k);exact⟨this.at_ 0 _ rfl,this.at_ 1 _ rfl,this.at_ 2 _ rfl,this.at_ 3 _ rfl,this.at_ 4 _ rfl,this.at_ 5 _ rfl,this.at_ 6 _ rfl,this.at_ 7 _ rfl,this.at_ 8 _ rfl,this.at_ 9 _ rfl,this.at_ 10 _ rfl⟩)
 obtain⟨y1,hy1⟩:=eX (Vec.jv l1)
 obtain⟨y2,hy2⟩:=eX (J9 l2)
 obtain⟨y3,hy3⟩:=eX (Zr l3)
 obtain⟨y4,hy4⟩:=eX (JI l4)
 obtain⟨E1,E2,E3,E4,HV⟩:=lH5 (fun W (k:Kept W0 W)=>Vec.Zv (h.need.kept (hk0.trans k)) hy1) (fun W (k:Kept W0 W)=>Zv (h.labels.kept (hk0.trans k)) hy2) (fun W (k:Kept W0 W)=>ja7 (h.sel.kept (hk0.trans k)) hy3) (fun W (k:Kept W0 W)=>jig (h.tols.kept (hk0.trans k)) hy4) (show zC ⟨x0,x1,x2,l1,l2,l3,l4,x3,x4,x5,x6⟩=orL [Z4 x0 x1,YF x2 x6,y1,y2,y3,y4,Jm x3 x4,Yf x5] by rw[←hy1,←hy2,←hy3,←hy4];rfl);obtain⟨r0,hr0⟩:=eX (isName x0)
 obtain⟨r1,hr1⟩:=eX (isName x1)
 obtain⟨r3,hr3⟩:=eX (isName x3)
 obtain⟨r5,hr5⟩:=eX (isName x5)
 obtain⟨q1,hq1⟩:=eX ((x1.toList==([]:List UInt8)))
 obtain⟨q3,hq3⟩:=eX ((x3.toList==([]:List UInt8)))
 obtain⟨q5,hq5⟩:=eX ((x5.toList==([]:List UInt8)))
 obtain⟨N0,N1,N3,N5,HN,HS,HD⟩:=lH7 (fun W=>Vec.YS (w:=W) s0 hr0) (fun W=>Vec.YS (w:=W) s1 hr1) (fun W=>Vec.YS (w:=W) s3 hr3) (fun W=>Vec.YS (w:=W) s5 hr5) (show Z4 x0 x1=if r0=true∧(q1||r1)=true then 0 else 3 by unfold Z4;rw[eor hq1 hr1,hr0]) (show Jm x3 x4=if (q3||r3)=false then 3 else if (if q3=true then decide (x4≠0) else decide (x4<1)||decide (128<x4))=true then 1 else 0 by unfold Jm jbm;rw[eor hq3 hr3,JV,hq3]) (show Yf x5=if (q5||r5)=true then 0 else 3 by unfold Yf;rw[eor hq5 hr5]);obtain⟨zz,hzz⟩:=eX ((x2==-1))
 have HP:=lH (show YF x2 x6=if (decide (x2 < -1)||(decide (1000000<x2)||(zz != x6)))=true then 1 else 0 by unfold YF jdC;rw[show decide (x2=-1)=zz from hzz]);have Va:=lH hk0;obtain⟨c0,c1,c2,c3,c4,c5,c6,c7,c8,c9,c10⟩:=HC.out _ (Kept.refl _);clear h hk0 hy1 hy2 hy3 hy4 hr0 hr1 hr3 hr5 s0 s1 s3 s5;unfold jx;dsimp only;go_enter Tryz.func125,Tryz.ntmps125;go_wp2_with fail
 try rw[hW0]
 clear hW0;refine(N0.out _).mono ?_;rintro e w9 ⟨rfl,rfl⟩
 cases r0 with
 | false =>
  have HV:=lH (HV.out.trans (jL (v:=3) (HN.out.trans (by simp)) (by decide)));go_wp2;go_ret;exact⟨jb HV.out.symm,Va.out.trans (Kept.refl _)⟩
 | true =>
  cases q1 with
  | true =>
   have HV:=lH (HV.out.trans (jV (HN.out.trans (by simp))));by_cases p1:x2 < -1
   · have HV:=lH (HV.out.trans (jL (v:=1) (HP.out.trans (by simp[p1])) (by decide)));clear hzz;go_wp2;go_ret;exact⟨jb HV.out.symm,Va.out.trans (Kept.refl _)⟩
   · have p1:-1≤x2:=by omega
     by_cases p2:1000000<x2
     · have HV:=lH (HV.out.trans (jL (v:=1) (HP.out.trans (by simp[p2])) (by decide)));clear hzz;go_wp2;go_ret;exact⟨jb HV.out.symm,Va.out.trans (Kept.refl _)⟩
     · have p2:x2≤1000000:=by omega
       have HP:=lH (HP.out.trans (show (if (decide (x2 < -1)||(decide (1000000<x2)||(zz != x6)))=true then 1 else 0)=(if (zz != x6)=true then 1 else 0) by rw[show decide (x2 < -1)=false by simp;omega,show decide (1000000<x2)=false by simp;omega];rfl))
       cases zz<;>cases x6
       ·
        have HV:=lH (HV.out.trans (jV HP.out));go_wp2_with fail
        refine(E1.out _ (Kept.refl _)).mono ?_;rintro e w1 ⟨rfl,k⟩;have K1:=lH (Kept.trans (Kept.refl _) k);clear k c0 c1 c2 c3 c4 c5 c6 c7 c8 c9 c10;obtain⟨c0,c1,c2,c3,c4,c5,c6,c7,c8,c9,c10⟩:=HC.out _ K1.out;by_cases z1:y1=0;rotate_left
        · have z9:(y1 != 0)=true:=by simpa using z1
          have HV:=lH (HV.out.trans (jL rfl z1));clear z1;go_wp2;go_ret;exact⟨jb HV.out.symm,Va.out.trans K1.out⟩
        subst z1;have HV:=lH (HV.out.trans (jV rfl));go_wp2_with fail
        refine(E2.out _ K1.out).mono ?_;rintro e w2 ⟨rfl,k⟩;have K2:=lH (Kept.trans K1.out k);clear k c0 c1 c2 c3 c4 c5 c6 c7 c8 c9 c10;obtain⟨c0,c1,c2,c3,c4,c5,c6,c7,c8,c9,c10⟩:=HC.out _ K2.out;by_cases z2:y2=0;rotate_left
        · have z9:(y2 != 0)=true:=by simpa using z2
          have HV:=lH (HV.out.trans (jL rfl z2));clear z2;go_wp2;go_ret;exact⟨jb HV.out.symm,Va.out.trans K2.out⟩
        subst z2;have HV:=lH (HV.out.trans (jV rfl));go_wp2_with fail
        refine(E3.out _ K2.out).mono ?_;rintro e w3 ⟨rfl,k⟩;have K3:=lH (Kept.trans K2.out k);clear k c0 c1 c2 c3 c4 c5 c6 c7 c8 c9 c10;obtain⟨c0,c1,c2,c3,c4,c5,c6,c7,c8,c9,c10⟩:=HC.out _ K3.out;by_cases z3:y3=0;rotate_left
        · have z9:(y3 != 0)=true:=by simpa using z3
          have HV:=lH (HV.out.trans (jL rfl z3));clear z3;go_wp2;go_ret;exact⟨jb HV.out.symm,Va.out.trans K3.out⟩
        subst z3;have HV:=lH (HV.out.trans (jV rfl));go_wp2_with fail
        refine(E4.out _ K3.out).mono ?_;rintro e w4 ⟨rfl,k⟩;have K4:=lH (Kept.trans K3.out k);clear k c0 c1 c2 c3 c4 c5 c6 c7 c8 c9 c10;obtain⟨c0,c1,c2,c3,c4,c5,c6,c7,c8,c9,c10⟩:=HC.out _ K4.out;by_cases z4:y4=0;rotate_left
        · have z9:(y4 != 0)=true:=by simpa using z4
          have HV:=lH (HV.out.trans (jL rfl z4));clear z4;go_wp2;go_ret;exact⟨jb HV.out.symm,Va.out.trans K4.out⟩
        subst z4;have HV:=lH (HV.out.trans (jV rfl))
        cases q3 with
        | true =>
         by_cases m1:x4=0
         · subst m1;have HV:=lH (HV.out.trans (jV HS.out));have HV:=lH (HV.out.trans (YG.trans HD.out))
           cases q5 with
           | true =>
            go_wp2;go_ret;exact⟨jb HV.out.symm,Va.out.trans K4.out⟩
           | false =>
            go_wp2_with fail
            refine(N5.out _).mono ?_;rintro e w9 ⟨rfl,rfl⟩
            cases r5 with
            | false =>
             go_wp2;go_ret;exact⟨jb HV.out.symm,Va.out.trans K4.out⟩
            | true =>
             go_wp2;go_ret;exact⟨jb HV.out.symm,Va.out.trans K4.out⟩
         · have HV:=lH (HV.out.trans (jL (v:=1) (HS.out.trans (by simp[m1])) (by decide)));have m1:(x4 != 0)=true:=by simpa using m1
           go_wp2;go_ret;exact⟨jb HV.out.symm,Va.out.trans K4.out⟩
        | false =>
         go_wp2_with fail
         refine(N3.out _).mono ?_;rintro e w9 ⟨rfl,rfl⟩
         cases r3 with
         | false =>
          have HV:=lH (HV.out.trans (jL (v:=3) HS.out (by decide)));go_wp2;go_ret;exact⟨jb HV.out.symm,Va.out.trans K4.out⟩
         | true =>
          by_cases m1:x4<1
          · have HV:=lH (HV.out.trans (jL (v:=1) (HS.out.trans (by simp[m1])) (by decide)));go_wp2;go_ret;exact⟨jb HV.out.symm,Va.out.trans K4.out⟩
          · have m1:1≤x4:=by omega
            by_cases m2:128<x4
            · have HV:=lH (HV.out.trans (jL (v:=1) (HS.out.trans (by simp[m2])) (by decide)));go_wp2;go_ret;exact⟨jb HV.out.symm,Va.out.trans K4.out⟩
            · have m2:x4≤128:=by omega
              have HV:=lH (HV.out.trans (jV (HS.out.trans (by rw[show decide (x4<1)=false by simp;omega,show decide (128<x4)=false by simp;omega];rfl))));have HV:=lH (HV.out.trans (YG.trans HD.out))
              cases q5 with
              | true =>
               go_wp2;go_ret;exact⟨jb HV.out.symm,Va.out.trans K4.out⟩
              | false =>
               go_wp2_with fail
               refine(N5.out _).mono ?_;rintro e w9 ⟨rfl,rfl⟩
               cases r5 with
               | false =>
                go_wp2;go_ret;exact⟨jb HV.out.symm,Va.out.trans K4.out⟩
               | true =>
                go_wp2;go_ret;exact⟨jb HV.out.symm,Va.out.trans K4.out⟩
       ·
        have HV:=lH (HV.out.trans (jL (v:=1) HP.out (by decide)));go_wp2;go_ret;exact⟨jb HV.out.symm,Va.out.trans (Kept.refl _)⟩
       ·
        have HV:=lH (HV.out.trans (jL (v:=1) HP.out (by decide)));go_wp2;go_ret;exact⟨jb HV.out.symm,Va.out.trans (Kept.refl _)⟩
       ·
        have HV:=lH (HV.out.trans (jV HP.out));go_wp2_with fail
        refine(E1.out _ (Kept.refl _)).mono ?_;rintro e w1 ⟨rfl,k⟩;have K1:=lH (Kept.trans (Kept.refl _) k);clear k c0 c1 c2 c3 c4 c5 c6 c7 c8 c9 c10;obtain⟨c0,c1,c2,c3,c4,c5,c6,c7,c8,c9,c10⟩:=HC.out _ K1.out;by_cases z1:y1=0;rotate_left
        · have z9:(y1 != 0)=true:=by simpa using z1
          have HV:=lH (HV.out.trans (jL rfl z1));clear z1;go_wp2;go_ret;exact⟨jb HV.out.symm,Va.out.trans K1.out⟩
        subst z1;have HV:=lH (HV.out.trans (jV rfl));go_wp2_with fail
        refine(E2.out _ K1.out).mono ?_;rintro e w2 ⟨rfl,k⟩;have K2:=lH (Kept.trans K1.out k);clear k c0 c1 c2 c3 c4 c5 c6 c7 c8 c9 c10;obtain⟨c0,c1,c2,c3,c4,c5,c6,c7,c8,c9,c10⟩:=HC.out _ K2.out;by_cases z2:y2=0;rotate_left
        · have z9:(y2 != 0)=true:=by simpa using z2
          have HV:=lH (HV.out.trans (jL rfl z2));clear z2;go_wp2;go_ret;exact⟨jb HV.out.symm,Va.out.trans K2.out⟩
        subst z2;have HV:=lH (HV.out.trans (jV rfl));go_wp2_with fail
        refine(E3.out _ K2.out).mono ?_;rintro e w3 ⟨rfl,k⟩;have K3:=lH (Kept.trans K2.out k);clear k c0 c1 c2 c3 c4 c5 c6 c7 c8 c9 c10;obtain⟨c0,c1,c2,c3,c4,c5,c6,c7,c8,c9,c10⟩:=HC.out _ K3.out;by_cases z3:y3=0;rotate_left
        · have z9:(y3 != 0)=true:=by simpa using z3
          have HV:=lH (HV.out.trans (jL rfl z3));clear z3;go_wp2;go_ret;exact⟨jb HV.out.symm,Va.out.trans K3.out⟩
        subst z3;have HV:=lH (HV.out.trans (jV rfl));go_wp2_with fail
        refine(E4.out _ K3.out).mono ?_;rintro e w4 ⟨rfl,k⟩;have K4:=lH (Kept.trans K3.out k);clear k c0 c1 c2 c3 c4 c5 c6 c7 c8 c9 c10;obtain⟨c0,c1,c2,c3,c4,c5,c6,c7,c8,c9,c10⟩:=HC.out _ K4.out;by_cases z4:y4=0;rotate_left
        · have z9:(y4 != 0)=true:=by simpa using z4
          have HV:=lH (HV.out.trans (jL rfl z4));clear z4;go_wp2;go_ret;exact⟨jb HV.out.symm,Va.out.trans K4.out⟩
        subst z4;have HV:=lH (HV.out.trans (jV rfl))
        cases q3 with
        | true =>
         by_cases m1:x4=0
         · subst m1;have HV:=lH (HV.out.trans (jV HS.out));have HV:=lH (HV.out.trans (YG.trans HD.out))
           cases q5 with
           | true =>
            go_wp2;go_ret;exact⟨jb HV.out.symm,Va.out.trans K4.out⟩
           | false =>
            go_wp2_with fail
            refine(N5.out _).mono ?_;rintro e w9 ⟨rfl,rfl⟩
            cases r5 with
            | false =>
             go_wp2;go_ret;exact⟨jb HV.out.symm,Va.out.trans K4.out⟩
            | true =>
             go_wp2;go_ret;exact⟨jb HV.out.symm,Va.out.trans K4.out⟩
         · have HV:=lH (HV.out.trans (jL (v:=1) (HS.out.trans (by simp[m1])) (by decide)));have m1:(x4 != 0)=true:=by simpa using m1
           go_wp2;go_ret;exact⟨jb HV.out.symm,Va.out.trans K4.out⟩
        | false =>
         go_wp2_with fail
         refine(N3.out _).mono ?_;rintro e w9 ⟨rfl,rfl⟩
         cases r3 with
         | false =>
          have HV:=lH (HV.out.trans (jL (v:=3) HS.out (by decide)));go_wp2;go_ret;exact⟨jb HV.out.symm,Va.out.trans K4.out⟩
         | true =>
          by_cases m1:x4<1
          · have HV:=lH (HV.out.trans (jL (v:=1) (HS.out.trans (by simp[m1])) (by decide)));go_wp2;go_ret;exact⟨jb HV.out.symm,Va.out.trans K4.out⟩
          · have m1:1≤x4:=by omega
            by_cases m2:128<x4
            · have HV:=lH (HV.out.trans (jL (v:=1) (HS.out.trans (by simp[m2])) (by decide)));go_wp2;go_ret;exact⟨jb HV.out.symm,Va.out.trans K4.out⟩
            · have m2:x4≤128:=by omega
              have HV:=lH (HV.out.trans (jV (HS.out.trans (by rw[show decide (x4<1)=false by simp;omega,show decide (128<x4)=false by simp;omega];rfl))));have HV:=lH (HV.out.trans (YG.trans HD.out))
              cases q5 with
              | true =>
               go_wp2;go_ret;exact⟨jb HV.out.symm,Va.out.trans K4.out⟩
              | false =>
               go_wp2_with fail
               refine(N5.out _).mono ?_;rintro e w9 ⟨rfl,rfl⟩
               cases r5 with
               | false =>
                go_wp2;go_ret;exact⟨jb HV.out.symm,Va.out.trans K4.out⟩
               | true =>
                go_wp2;go_ret;exact⟨jb HV.out.symm,Va.out.trans K4.out⟩
  | false =>
   go_wp2_with fail
   refine(N1.out _).mono ?_;rintro e w9 ⟨rfl,rfl⟩
   cases r1 with
   | false =>
    have HV:=lH (HV.out.trans (jL (v:=3) (HN.out.trans (by simp)) (by decide)));go_wp2;go_ret;exact⟨jb HV.out.symm,Va.out.trans (Kept.refl _)⟩
   | true =>
    have HV:=lH (HV.out.trans (jV (HN.out.trans (by simp))));by_cases p1:x2 < -1
    · have HV:=lH (HV.out.trans (jL (v:=1) (HP.out.trans (by simp[p1])) (by decide)));clear hzz;go_wp2;go_ret;exact⟨jb HV.out.symm,Va.out.trans (Kept.refl _)⟩
    · have p1:-1≤x2:=by omega
      by_cases p2:1000000<x2
      · have HV:=lH (HV.out.trans (jL (v:=1) (HP.out.trans (by simp[p2])) (by decide)));clear hzz;go_wp2;go_ret;exact⟨jb HV.out.symm,Va.out.trans (Kept.refl _)⟩
      · have p2:x2≤1000000:=by omega
        have HP:=lH (HP.out.trans (show (if (decide (x2 < -1)||(decide (1000000<x2)||(zz != x6)))=true then 1 else 0)=(if (zz != x6)=true then 1 else 0) by rw[show decide (x2 < -1)=false by simp;omega,show decide (1000000<x2)=false by simp;omega];rfl))
        cases zz<;>cases x6
        ·
         have HV:=lH (HV.out.trans (jV HP.out));go_wp2_with fail
         refine(E1.out _ (Kept.refl _)).mono ?_;rintro e w1 ⟨rfl,k⟩;have K1:=lH (Kept.trans (Kept.refl _) k);clear k c0 c1 c2 c3 c4 c5 c6 c7 c8 c9 c10;obtain⟨c0,c1,c2,c3,c4,c5,c6,c7,c8,c9,c10⟩:=HC.out _ K1.out;by_cases z1:y1=0;rotate_left
         · have z9:(y1 != 0)=true:=by simpa using z1
           have HV:=lH (HV.out.trans (jL rfl z1));clear z1;go_wp2;go_ret;exact⟨jb HV.out.symm,Va.out.trans K1.out⟩
         subst z1;have HV:=lH (HV.out.trans (jV rfl));go_wp2_with fail
         refine(E2.out _ K1.out).mono ?_;rintro e w2 ⟨rfl,k⟩;have K2:=lH (Kept.trans K1.out k);clear k c0 c1 c2 c3 c4 c5 c6 c7 c8 c9 c10;obtain⟨c0,c1,c2,c3,c4,c5,c6,c7,c8,c9,c10⟩:=HC.out _ K2.out;by_cases z2:y2=0;rotate_left
         · have z9:(y2 != 0)=true:=by simpa using z2
           have HV:=lH (HV.out.trans (jL rfl z2));clear z2;go_wp2;go_ret;exact⟨jb HV.out.symm,Va.out.trans K2.out⟩
         subst z2;have HV:=lH (HV.out.trans (jV rfl));go_wp2_with fail
         refine(E3.out _ K2.out).mono ?_;rintro e w3 ⟨rfl,k⟩;have K3:=lH (Kept.trans K2.out k);clear k c0 c1 c2 c3 c4 c5 c6 c7 c8 c9 c10;obtain⟨c0,c1,c2,c3,c4,c5,c6,c7,c8,c9,c10⟩:=HC.out _ K3.out;by_cases z3:y3=0;rotate_left
         · have z9:(y3 != 0)=true:=by simpa using z3
           have HV:=lH (HV.out.trans (jL rfl z3));clear z3;go_wp2;go_ret;exact⟨jb HV.out.symm,Va.out.trans K3.out⟩
         subst z3;have HV:=lH (HV.out.trans (jV rfl));go_wp2_with fail
         refine(E4.out _ K3.out).mono ?_;rintro e w4 ⟨rfl,k⟩;have K4:=lH (Kept.trans K3.out k);clear k c0 c1 c2 c3 c4 c5 c6 c7 c8 c9 c10;obtain⟨c0,c1,c2,c3,c4,c5,c6,c7,c8,c9,c10⟩:=HC.out _ K4.out;by_cases z4:y4=0;rotate_left
         · have z9:(y4 != 0)=true:=by simpa using z4
           have HV:=lH (HV.out.trans (jL rfl z4));clear z4;go_wp2;go_ret;exact⟨jb HV.out.symm,Va.out.trans K4.out⟩
         subst z4;have HV:=lH (HV.out.trans (jV rfl))
         cases q3 with
         | true =>
          by_cases m1:x4=0
          · subst m1;have HV:=lH (HV.out.trans (jV HS.out));have HV:=lH (HV.out.trans (YG.trans HD.out))
            cases q5 with
            | true =>
             go_wp2;go_ret;exact⟨jb HV.out.symm,Va.out.trans K4.out⟩
            | false =>
             go_wp2_with fail
             refine(N5.out _).mono ?_;rintro e w9 ⟨rfl,rfl⟩
             cases r5 with
             | false =>
              go_wp2;go_ret;exact⟨jb HV.out.symm,Va.out.trans K4.out⟩
             | true =>
              go_wp2;go_ret;exact⟨jb HV.out.symm,Va.out.trans K4.out⟩
          · have HV:=lH (HV.out.trans (jL (v:=1) (HS.out.trans (by simp[m1])) (by decide)));have m1:(x4 != 0)=true:=by simpa using m1
            go_wp2;go_ret;exact⟨jb HV.out.symm,Va.out.trans K4.out⟩
         | false =>
          go_wp2_with fail
          refine(N3.out _).mono ?_;rintro e w9 ⟨rfl,rfl⟩
          cases r3 with
          | false =>
           have HV:=lH (HV.out.trans (jL (v:=3) HS.out (by decide)));go_wp2;go_ret;exact⟨jb HV.out.symm,Va.out.trans K4.out⟩
          | true =>
           by_cases m1:x4<1
           · have HV:=lH (HV.out.trans (jL (v:=1) (HS.out.trans (by simp[m1])) (by decide)));go_wp2;go_ret;exact⟨jb HV.out.symm,Va.out.trans K4.out⟩
           · have m1:1≤x4:=by omega
             by_cases m2:128<x4
             · have HV:=lH (HV.out.trans (jL (v:=1) (HS.out.trans (by simp[m2])) (by decide)));go_wp2;go_ret;exact⟨jb HV.out.symm,Va.out.trans K4.out⟩
             · have m2:x4≤128:=by omega
               have HV:=lH (HV.out.trans (jV (HS.out.trans (by rw[show decide (x4<1)=false by simp;omega,show decide (128<x4)=false by simp;omega];rfl))));have HV:=lH (HV.out.trans (YG.trans HD.out))
               cases q5 with
               | true =>
                go_wp2;go_ret;exact⟨jb HV.out.symm,Va.out.trans K4.out⟩
               | false =>
                go_wp2_with fail
                refine(N5.out _).mono ?_;rintro e w9 ⟨rfl,rfl⟩
                cases r5 with
                | false =>
                 go_wp2;go_ret;exact⟨jb HV.out.symm,Va.out.trans K4.out⟩
                | true =>
                 go_wp2;go_ret;exact⟨jb HV.out.symm,Va.out.trans K4.out⟩
        ·
         have HV:=lH (HV.out.trans (jL (v:=1) HP.out (by decide)));go_wp2;go_ret;exact⟨jb HV.out.symm,Va.out.trans (Kept.refl _)⟩
        ·
         have HV:=lH (HV.out.trans (jL (v:=1) HP.out (by decide)));go_wp2;go_ret;exact⟨jb HV.out.symm,Va.out.trans (Kept.refl _)⟩
        ·
         have HV:=lH (HV.out.trans (jV HP.out));go_wp2_with fail
         refine(E1.out _ (Kept.refl _)).mono ?_;rintro e w1 ⟨rfl,k⟩;have K1:=lH (Kept.trans (Kept.refl _) k);clear k c0 c1 c2 c3 c4 c5 c6 c7 c8 c9 c10;obtain⟨c0,c1,c2,c3,c4,c5,c6,c7,c8,c9,c10⟩:=HC.out _ K1.out;by_cases z1:y1=0;rotate_left
         · have z9:(y1 != 0)=true:=by simpa using z1
           have HV:=lH (HV.out.trans (jL rfl z1));clear z1;go_wp2;go_ret;exact⟨jb HV.out.symm,Va.out.trans K1.out⟩
         subst z1;have HV:=lH (HV.out.trans (jV rfl));go_wp2_with fail
         refine(E2.out _ K1.out).mono ?_;rintro e w2 ⟨rfl,k⟩;have K2:=lH (Kept.trans K1.out k);clear k c0 c1 c2 c3 c4 c5 c6 c7 c8 c9 c10;obtain⟨c0,c1,c2,c3,c4,c5,c6,c7,c8,c9,c10⟩:=HC.out _ K2.out;by_cases z2:y2=0;rotate_left
         · have z9:(y2 != 0)=true:=by simpa using z2
           have HV:=lH (HV.out.trans (jL rfl z2));clear z2;go_wp2;go_ret;exact⟨jb HV.out.symm,Va.out.trans K2.out⟩
         subst z2;have HV:=lH (HV.out.trans (jV rfl));go_wp2_with fail
         refine(E3.out _ K2.out).mono ?_;rintro e w3 ⟨rfl,k⟩;have K3:=lH (Kept.trans K2.out k);clear k c0 c1 c2 c3 c4 c5 c6 c7 c8 c9 c10;obtain⟨c0,c1,c2,c3,c4,c5,c6,c7,c8,c9,c10⟩:=HC.out _ K3.out;by_cases z3:y3=0;rotate_left
         · have z9:(y3 != 0)=true:=by simpa using z3
           have HV:=lH (HV.out.trans (jL rfl z3));clear z3;go_wp2;go_ret;exact⟨jb HV.out.symm,Va.out.trans K3.out⟩
         subst z3;have HV:=lH (HV.out.trans (jV rfl));go_wp2_with fail
         refine(E4.out _ K3.out).mono ?_;rintro e w4 ⟨rfl,k⟩;have K4:=lH (Kept.trans K3.out k);clear k c0 c1 c2 c3 c4 c5 c6 c7 c8 c9 c10;obtain⟨c0,c1,c2,c3,c4,c5,c6,c7,c8,c9,c10⟩:=HC.out _ K4.out;by_cases z4:y4=0;rotate_left
         · have z9:(y4 != 0)=true:=by simpa using z4
           have HV:=lH (HV.out.trans (jL rfl z4));clear z4;go_wp2;go_ret;exact⟨jb HV.out.symm,Va.out.trans K4.out⟩
         subst z4;have HV:=lH (HV.out.trans (jV rfl))
         cases q3 with
         | true =>
          by_cases m1:x4=0
          · subst m1;have HV:=lH (HV.out.trans (jV HS.out));have HV:=lH (HV.out.trans (YG.trans HD.out))
            cases q5 with
            | true =>
             go_wp2;go_ret;exact⟨jb HV.out.symm,Va.out.trans K4.out⟩
            | false =>
             go_wp2_with fail
             refine(N5.out _).mono ?_;rintro e w9 ⟨rfl,rfl⟩
             cases r5 with
             | false =>
              go_wp2;go_ret;exact⟨jb HV.out.symm,Va.out.trans K4.out⟩
             | true =>
              go_wp2;go_ret;exact⟨jb HV.out.symm,Va.out.trans K4.out⟩
          · have HV:=lH (HV.out.trans (jL (v:=1) (HS.out.trans (by simp[m1])) (by decide)));have m1:(x4 != 0)=true:=by simpa using m1
            go_wp2;go_ret;exact⟨jb HV.out.symm,Va.out.trans K4.out⟩
         | false =>
          go_wp2_with fail
          refine(N3.out _).mono ?_;rintro e w9 ⟨rfl,rfl⟩
          cases r3 with
          | false =>
           have HV:=lH (HV.out.trans (jL (v:=3) HS.out (by decide)));go_wp2;go_ret;exact⟨jb HV.out.symm,Va.out.trans K4.out⟩
          | true =>
           by_cases m1:x4<1
           · have HV:=lH (HV.out.trans (jL (v:=1) (HS.out.trans (by simp[m1])) (by decide)));go_wp2;go_ret;exact⟨jb HV.out.symm,Va.out.trans K4.out⟩
           · have m1:1≤x4:=by omega
             by_cases m2:128<x4
             · have HV:=lH (HV.out.trans (jL (v:=1) (HS.out.trans (by simp[m2])) (by decide)));go_wp2;go_ret;exact⟨jb HV.out.symm,Va.out.trans K4.out⟩
             · have m2:x4≤128:=by omega
               have HV:=lH (HV.out.trans (jV (HS.out.trans (by rw[show decide (x4<1)=false by simp;omega,show decide (128<x4)=false by simp;omega];rfl))));have HV:=lH (HV.out.trans (YG.trans HD.out))
               cases q5 with
               | true =>
                go_wp2;go_ret;exact⟨jb HV.out.symm,Va.out.trans K4.out⟩
               | false =>
                go_wp2_with fail
                refine(N5.out _).mono ?_;rintro e w9 ⟨rfl,rfl⟩
                cases r5 with
                | false =>
                 go_wp2;go_ret;exact⟨jb HV.out.symm,Va.out.trans K4.out⟩
                | true =>
                 go_wp2;go_ret;exact⟨jb HV.out.symm,Va.out.trans K4.out⟩
theorem jds (a:Option Addr) (len cap:Nat) (l:List Pd) (w:World) (hr:jy w a len l) :
 Calls Tryz.prog 63 #[.slice a len cap] w (Say (.int .i64 (jD l)) w):=by
 have hl:=hr.1;have hm:=hr.2.1;unfold maxLen at hm;by_cases h32:128<len
 · have HV:=lH (show jD l=4 by unfold jD;rw[if_pos (by omega)]);clear hr hl;go_enter Tryz.func63,Tryz.ntmps63;go_wp2;go_ret;exact⟨jb HV.out.symm,Kept.refl _⟩
 · have HV:=lH (show jD l=jX none l by unfold jD;rw[if_neg (by omega)]);have h32':len≤128:=by omega
   by_cases h0:len=0
   · subst h0;have HE:=lH (show jD l=0 by rw[HV.out,List.eq_nil_of_length_eq_zero hl];rfl);clear hr hl h32;go_enter Tryz.func63,Tryz.ntmps63;go_wp2;refine wp_loop_rounds 1 ?_;rw[rounds_succ];go_wp2;go_ret;exact⟨jb HE.out.symm,Kept.refl _⟩
   · obtain⟨b,off,rfl⟩:=hr.form.resolve_left h0;have HR:=lH hr;have HL:=lH hl;clear hr hl h0 h32;go_enter Tryz.func63,Tryz.ntmps63;go_wp2;go_loopw [3] (fun i wr=>∃k:Nat,k≤len∧i=.int .i64 k∧jX (ZB l k) (l.drop k)=jX none l∧Kept w wr) (fun i _=>len-(intOf i).toNat)
     case atStart=>exact⟨0,Nat.zero_le _,rfl,rfl,Kept.refl _⟩
     case round =>
      obtain⟨k,hk,rfl,hrest,hK⟩:=hrel;obtain⟨HS,HT,HK⟩:=lH3 (HV.out.trans hrest.symm) hrest hK;by_cases hlt:k<len
      · obtain⟨n,a1,m1,c1,a2,m2,c2,a3,m3,c3,a4,m4,c4,hn,hd,hb,p0,p1,p2,p3,p4,p5,p6,p7,p8,p9,p10,hat⟩:=(HR.out.kept hK).at_ hlt;obtain⟨VH,HD,VD⟩:=lH3 hat hd (jbO hn);have VE:=lH (fun W (kk:Kept wr W)=>jgL n (.slice a1 m1 c1) (.slice a2 m2 c2) (.slice a3 m3 c3) (.slice a4 m4 c4) W (VH.out.kept kk));unfold jx at VE;obtain⟨ck,hck⟩:=eX (zC n)
        have VG:=lH hck;rw[hck] at VE;have hkk:(k:Int)<(len:Int):=by omega
        clear hrest hK hat hd hck;by_cases z1:ck=0
        · subst z1;by_cases h0:k=0
          · have hd0:decide (0<k)=false:=by subst h0;decide
            have HP:=lH (jbP (l:=l) h0 n.name);clear h0;go_wp2_with fail
            refine(VE.out _ (Kept.refl _)).mono ?_;rintro e w1 ⟨rfl,kk⟩;have KW:=lH kk;clear kk;go_wp2;go_quiet (fail)
            go_wp2;go_roundw
            case rel=>exact⟨k+1,by omega,by go_num,(show jX (ZB l (k+1)) (l.drop (k+1))=jX none l by rw[←HT.out,HD.out,ZQ VG.out HP.out,VD.out]),HK.out.trans (KW.out.trans (Kept.drewN _ _))⟩
            case measure=>simp[intOf];omega
          · have hd0:decide (0<k)=true:=by simp;omega
            have g1:0≤(k:Int)-1:=by omega
            have g2:(k:Int)-1<(len:Int):=by omega
            have g3:((k:Int)-1).toNat=k-1:=by omega
            obtain⟨n9,_,_,_,_,_,_,_,_,_,_,_,_,hn9,-,hb9,o0,-⟩:=(HR.out.kept HK.out).at_ (show k-1<len by omega);have HP:=lH (jbY (l:=l) h0 hn9 n.name);clear h0 hn9;by_cases n3:leS n.name n9.name=true
            · have n3':(Op.bytesLess n.name.toList n9.name.toList||n.name.toList==n9.name.toList)=true:=n3;have N3:=lH n3;clear n3;go_wp2_with fail
              refine(VE.out _ (Kept.refl _)).mono ?_;rintro e w1 ⟨rfl,kk⟩;have KW:=lH kk;have o1:=cell_later kk o0;have p99:=cell_later kk p0;clear kk;go_wp2;go_quiet (fail)
              go_wp2;go_ret;exact⟨jb (show (13:Int)=jD l by rw[HS.out,HD.out,Xy VG.out (HP.out.trans N3.out)]),HK.out.trans (KW.out.trans (Kept.drewN _ _))⟩
            · have n3:leS n.name n9.name=false:=by simpa using n3
              have n3':(Op.bytesLess n.name.toList n9.name.toList||n.name.toList==n9.name.toList)=false:=n3;have N3:=lH n3;clear n3;go_wp2_with fail
              refine(VE.out _ (Kept.refl _)).mono ?_;rintro e w1 ⟨rfl,kk⟩;have KW:=lH kk;have o1:=cell_later kk o0;have p99:=cell_later kk p0;clear kk;go_wp2;go_quiet (fail)
              go_wp2;go_roundw
              case rel=>exact⟨k+1,by omega,by go_num,(show jX (ZB l (k+1)) (l.drop (k+1))=jX none l by rw[←HT.out,HD.out,ZQ VG.out (HP.out.trans N3.out),VD.out]),HK.out.trans (KW.out.trans (Kept.drewN _ _))⟩
              case measure=>simp[intOf];omega
        · have z1':(ck != 0)=true:=by simpa using z1
          have HB:=lH (show jD l=ck by rw[HS.out,HD.out,qO (by rw[VG.out];exact z1),VG.out]);clear z1;go_wp2_with fail
          refine(VE.out _ (Kept.refl _)).mono ?_;rintro e w1 ⟨rfl,kk⟩;have KW:=lH kk;clear kk;go_wp2;go_ret;exact⟨jb HB.out.symm,HK.out.trans KW.out⟩
      · have HE:=lH (show jD l=0 by rw[HS.out,List.drop_of_length_le (by rw[HL.out];omega)];rfl);clear hrest hK;go_wp2;go_ret;exact⟨jb HE.out.symm,HK.out⟩
theorem jg9 {v:Value} {l:List Pd} {c:Int} {w:World} (h:Jo w v l) (hc:jD l=c):Calls Tryz.prog 63 #[v] w (Say (.int .i64 c) w):=by
 subst hc;obtain⟨a,cap,rfl,_,_,hr⟩:=h;exact jds a _ cap l w hr
theorem jgP (n:Bd) (v1:Value) (w:World) (h:zt w v1 n) :
 Calls Tryz.prog 126 #[JY n v1] w (Say (.int .i64 (Jq n)) w):=by
 obtain⟨x0,l3,m⟩:=n;obtain⟨W0,hW0⟩:=eX (w.alloc (.cells #[.string x0,v1,.int .i64 m] 194))
 have hk0:Kept w W0:=by rw[←hW0];exact ja _ _
 have HC:=lH (show ∀W,Kept W0 W→W.cell? ⟨w.heap.size,0,none⟩=some (.string x0)∧W.cell? ⟨w.heap.size,1,none⟩=some (v1)∧W.cell? ⟨w.heap.size,2,none⟩=some (.int .i64 m) from fun W k=>by
  have:=jc w (.string x0) [v1,.int .i64 m] 194 W (by rw[hW0];exact k);exact⟨this.at_ 0 _ rfl,this.at_ 1 _ rfl,this.at_ 2 _ rfl⟩)
 obtain⟨y3,hy3⟩:=eX (Zr l3)
 obtain⟨r0,hr0⟩:=eX (isName x0)
 obtain⟨E3,N0,HV,Va⟩:=lH4 (ja7 (h.sel.kept hk0) hy3) (fun W=>Vec.YS (w:=W) h.name hr0) (show Jq ⟨x0,l3,m⟩=orL [if r0=true then 0 else 3,y3,zR m] by rw[←hy3,←hr0];rfl) hk0;clear h hk0 hy3 hr0;obtain⟨c0,c1,c2⟩:=HC.out _ (Kept.refl _);unfold JY;dsimp only
 cases r0 with
 | false =>
  have HW:=lH (show Jq ⟨x0,l3,m⟩=3 by rw[HV.out];rfl);go_enter Tryz.func126,Tryz.ntmps126;go_wp2_with fail
  try rw[hW0]
  refine(N0.out _).mono ?_;rintro e w1 ⟨rfl,rfl⟩;go_wp2;go_ret;exact⟨jb HW.out.symm,Va.out⟩
 | true =>
  by_cases z:y3=0
  · subst z;by_cases z1:m<0
    · have HW:=lH (show Jq ⟨x0,l3,m⟩=1 by rw[HV.out,show zR m=1 by unfold zR;rw[if_pos (.inl z1)]];rfl);go_enter Tryz.func126,Tryz.ntmps126;go_wp2_with fail
      try rw[hW0]
      refine(N0.out _).mono ?_;rintro e w1 ⟨rfl,rfl⟩;go_wp2_with fail
      refine E3.out.mono ?_;rintro e w2 ⟨rfl,k⟩;obtain⟨d0,d1,d2⟩:=HC.out _ k;go_wp2;go_ret;exact⟨jb HW.out.symm,Va.out.trans k⟩
    · by_cases z2:128<m
      · have HW:=lH (show Jq ⟨x0,l3,m⟩=1 by rw[HV.out,show zR m=1 by unfold zR;rw[if_pos (.inr z2)]];rfl);have z1':0≤m:=by omega
        clear z1;go_enter Tryz.func126,Tryz.ntmps126;go_wp2_with fail
        try rw[hW0]
        refine(N0.out _).mono ?_;rintro e w1 ⟨rfl,rfl⟩;go_wp2_with fail
        refine E3.out.mono ?_;rintro e w2 ⟨rfl,k⟩;obtain⟨d0,d1,d2⟩:=HC.out _ k;go_wp2;go_ret;exact⟨jb HW.out.symm,Va.out.trans k⟩
      · have HW:=lH (show Jq ⟨x0,l3,m⟩=0 by rw[HV.out,show zR m=0 by unfold zR;rw[if_neg (by omega)]];rfl);have z1':0≤m:=by omega
        have z2':m≤128:=by omega
        clear z1 z2;go_enter Tryz.func126,Tryz.ntmps126;go_wp2_with fail
        try rw[hW0]
        refine(N0.out _).mono ?_;rintro e w1 ⟨rfl,rfl⟩;go_wp2_with fail
        refine E3.out.mono ?_;rintro e w2 ⟨rfl,k⟩;obtain⟨d0,d1,d2⟩:=HC.out _ k;go_wp2;go_ret;exact⟨jb HW.out.symm,Va.out.trans k⟩
  · have HW:=lH (show Jq ⟨x0,l3,m⟩=y3 by
     rw[HV.out];show (if (0:Int)≠0 then 0 else if y3≠0 then y3 else _)=y3;rw[if_neg (by decide),if_pos z])
    have z':(y3 != 0)=true:=by simpa using z
    clear z;go_enter Tryz.func126,Tryz.ntmps126;go_wp2_with fail
    try rw[hW0]
    refine(N0.out _).mono ?_;rintro e w1 ⟨rfl,rfl⟩;go_wp2_with fail
    refine E3.out.mono ?_;rintro e w2 ⟨rfl,k⟩;go_wp2;go_ret;exact⟨jb HW.out.symm,Va.out.trans k⟩
theorem jdz (a:Option Addr) (len cap:Nat) (l:List Bd) (w:World) (hr:j9 w a len l) :
 Calls Tryz.prog 64 #[.slice a len cap] w (Say (.int .i64 (jH l)) w):=by
 have hl:=hr.1;have hm:=hr.2.1;unfold maxLen at hm;by_cases h32:8<len
 · have HV:=lH (show jH l=4 by unfold jH;rw[if_pos (by omega)]);clear hr hl;go_enter Tryz.func64,Tryz.ntmps64;go_wp2;go_ret;exact⟨jb HV.out.symm,Kept.refl _⟩
 · have HV:=lH (show jH l=jY none l by unfold jH;rw[if_neg (by omega)]);have h32':len≤8:=by omega
   by_cases h0:len=0
   · subst h0;have HE:=lH (show jH l=0 by rw[HV.out,List.eq_nil_of_length_eq_zero hl];rfl);clear hr hl h32;go_enter Tryz.func64,Tryz.ntmps64;go_wp2;refine wp_loop_rounds 1 ?_;rw[rounds_succ];go_wp2;go_ret;exact⟨jb HE.out.symm,Kept.refl _⟩
   · obtain⟨b,off,rfl⟩:=hr.form.resolve_left h0;have HR:=lH hr;have HL:=lH hl;clear hr hl h0 h32;go_enter Tryz.func64,Tryz.ntmps64;go_wp2;go_loopw [3] (fun i wr=>∃k:Nat,k≤len∧i=.int .i64 k∧jY (ZD l k) (l.drop k)=jY none l∧Kept w wr) (fun i _=>len-(intOf i).toNat)
     case atStart=>exact⟨0,Nat.zero_le _,rfl,rfl,Kept.refl _⟩
     case round =>
      obtain⟨k,hk,rfl,hrest,hK⟩:=hrel;obtain⟨HS,HT,HK⟩:=lH3 (HV.out.trans hrest.symm) hrest hK;by_cases hlt:k<len
      · obtain⟨n,a1,m1,c1,hn,hd,hb,p0,p1,p2,hat⟩:=(HR.out.kept hK).at_ hlt;obtain⟨VH,HD,VD⟩:=lH3 hat hd (jbV hn);have VE:=lH (fun W (kk:Kept wr W)=>jgP n (.slice a1 m1 c1) W (VH.out.kept kk));unfold JY at VE;obtain⟨ck,hck⟩:=eX (Jq n)
        have VG:=lH hck;rw[hck] at VE;have hkk:(k:Int)<(len:Int):=by omega
        clear hrest hK hat hd hck;by_cases z1:ck=0
        · subst z1;by_cases h0:k=0
          · have hd0:decide (0<k)=false:=by subst h0;decide
            have HP:=lH (jbG (l:=l) h0 n.name);clear h0;go_wp2_with fail
            refine(VE.out _ (Kept.refl _)).mono ?_;rintro e w1 ⟨rfl,kk⟩;have KW:=lH kk;clear kk;go_wp2;go_quiet (fail)
            go_wp2;go_roundw
            case rel=>exact⟨k+1,by omega,by go_num,(show jY (ZD l (k+1)) (l.drop (k+1))=jY none l by rw[←HT.out,HD.out,Xw VG.out HP.out,VD.out]),HK.out.trans (KW.out.trans (Kept.drewN _ _))⟩
            case measure=>simp[intOf];omega
          · have hd0:decide (0<k)=true:=by simp;omega
            have g1:0≤(k:Int)-1:=by omega
            have g2:(k:Int)-1<(len:Int):=by omega
            have g3:((k:Int)-1).toNat=k-1:=by omega
            obtain⟨n9,_,_,_,hn9,-,hb9,o0,-⟩:=(HR.out.kept HK.out).at_ (show k-1<len by omega);have HP:=lH (jb0 (l:=l) h0 hn9 n.name);clear h0 hn9;by_cases n3:leS n.name n9.name=true
            · have n3':(Op.bytesLess n.name.toList n9.name.toList||n.name.toList==n9.name.toList)=true:=n3;have N3:=lH n3;clear n3;go_wp2_with fail
              refine(VE.out _ (Kept.refl _)).mono ?_;rintro e w1 ⟨rfl,kk⟩;have KW:=lH kk;have o1:=cell_later kk o0;have p99:=cell_later kk p0;clear kk;go_wp2;go_quiet (fail)
              go_wp2;go_ret;exact⟨jb (show (13:Int)=jH l by rw[HS.out,HD.out,jbT VG.out (HP.out.trans N3.out)]),HK.out.trans (KW.out.trans (Kept.drewN _ _))⟩
            · have n3:leS n.name n9.name=false:=by simpa using n3
              have n3':(Op.bytesLess n.name.toList n9.name.toList||n.name.toList==n9.name.toList)=false:=n3;have N3:=lH n3;clear n3;go_wp2_with fail
              refine(VE.out _ (Kept.refl _)).mono ?_;rintro e w1 ⟨rfl,kk⟩;have KW:=lH kk;have o1:=cell_later kk o0;have p99:=cell_later kk p0;clear kk;go_wp2;go_quiet (fail)
              go_wp2;go_roundw
              case rel=>exact⟨k+1,by omega,by go_num,(show jY (ZD l (k+1)) (l.drop (k+1))=jY none l by rw[←HT.out,HD.out,Xw VG.out (HP.out.trans N3.out),VD.out]),HK.out.trans (KW.out.trans (Kept.drewN _ _))⟩
              case measure=>simp[intOf];omega
        · have z1':(ck != 0)=true:=by simpa using z1
          have HB:=lH (show jH l=ck by rw[HS.out,HD.out,jdT (by rw[VG.out];exact z1),VG.out]);clear z1;go_wp2_with fail
          refine(VE.out _ (Kept.refl _)).mono ?_;rintro e w1 ⟨rfl,kk⟩;have KW:=lH kk;clear kk;go_wp2;go_ret;exact⟨jb HB.out.symm,HK.out.trans KW.out⟩
      · have HE:=lH (show jH l=0 by rw[HS.out,List.drop_of_length_le (by rw[HL.out];omega)];rfl);clear hrest hK;go_wp2;go_ret;exact⟨jb HE.out.symm,HK.out⟩
theorem jgJ {v:Value} {l:List Bd} {c:Int} {w:World} (h:Zf w v l) (hc:jH l=c):Calls Tryz.prog 64 #[v] w (Say (.int .i64 c) w):=by
 subst hc;obtain⟨a,cap,rfl,_,_,hr⟩:=h;exact jdz a _ cap l w hr
theorem jnM {v v':Value} {l l':Vec.V} {c:Bool} {w:World} (h:Vec.Reads w v l) (h':Vec.Reads w v' l') (e:Vec.jB l' l=c) :
 Calls Tryz.prog 67 #[v,v'] w (Say (.bool c) w):=by
 subst e;obtain⟨a,cap,rfl,_,_,h3⟩:=h;obtain⟨a',cap',rfl,_,_,h3'⟩:=h';exact Vec.jkV a a' _ cap _ cap' l l' w h3 h3'
theorem jlB {s:Clu} {n:Nod} (h:n ∈ s.nodes):JW s n.name=jJ n.name s.pods []:=by
 cases hf:jl s.nodes n.name with
 | some n'=>exact jaP hf
 | none =>
  unfold jl at hf;have:=List.find?_eq_none.1 hf n h;exact absurd (zh n.name) (by simpa using this)
theorem jjp {v:Value} {s:Clu} {c:Int} {w:World} (h:jC w v s) (hcc:zN s=c):Calls Tryz.prog 23 #[v] w (Say (.int .i64 c) w):=by
 subst hcc;have h0:=h;obtain⟨v1,v2,v3,rfl,⟨a,cap,rfl,l1,m1,h1⟩,⟨b,cp,rfl,l2,m2,h2⟩,⟨d,cb,rfl,l3,m3,h3⟩⟩:=h;obtain⟨nl,pl,bl⟩:=s;dsimp only at *;obtain⟨len,hlen⟩:=eX (nl.length)
 obtain⟨m,hm⟩:=eX (pl.length)
 obtain⟨n,hn⟩:=eX (bl.length)
 rw[hlen] at h1 l1;rw[hm] at h2 l2;rw[hn] at h3 l3;try rw[hlen]
 try rw[hm]
 try rw[hn]
 clear hn;rw[hlen,hm] at h0;have hn3:bl.length=n:=h3.1;rw[hn3] at h0;obtain⟨Z,hZ⟩:=eX (w.alloc (.cells #[.slice a len cap,.slice b m cp,.slice d n cb] 70))
 have hkz:Kept w Z:=by rw[←hZ];exact ja _ _
 obtain⟨HQ,HN,HP,Tr,V2,VY,Ny,Vc⟩:=lH8 (show jf w.heap.size [.slice a len cap,.slice b m cp,.slice d n cb] Z from jc w (.slice a len cap) [.slice b m cp,.slice d n cb] 70 Z (by rw[hZ];exact Kept.refl _)) (h1.kept hkz) (h2.kept hkz) (h0.kept hkz) (qT l1 m1 (h1.kept hkz)) (jhF l2 m2 (h2.kept hkz)) (jdA l3 m3 (h3.kept hkz)) hkz;have UG:=lH hlen;have Tq:=lH hm;have hml1:=Nat.le_trans l1 m1;have hml2:=Nat.le_trans l2 m2;unfold maxLen at hml1 hml2;clear h1 h2 h3 h0 l1 l2 l3 m1 m2 m3 hkz hn3;obtain⟨x1,hx1⟩:=eX (jI nl)
 have Hx1:=lH hx1;obtain⟨x2,hx2⟩:=eX (jD pl)
 have Hx2:=lH hx2;obtain⟨x3,hx3⟩:=eX (jH bl)
 have Hx3:=lH hx3;have cq0:=(HQ.out.kept (Kept.refl _)).at_ 0 _ rfl;have cq1:=(HQ.out.kept (Kept.refl _)).at_ 1 _ rfl;have cq2:=(HQ.out.kept (Kept.refl _)).at_ 2 _ rfl;go_enter Tryz.func23,Tryz.ntmps23;go_wp2_with fail
 try rw[hZ]
 clear hZ;refine(jin V2.out hx1).mono ?_;rintro e w1 ⟨rfl,kk⟩;have K:=lH kk;clear kk hx1 cq0 cq1 cq2;have cq0:=(HQ.out.kept K.out).at_ 0 _ rfl;have cq1:=(HQ.out.kept K.out).at_ 1 _ rfl;have cq2:=(HQ.out.kept K.out).at_ 2 _ rfl;by_cases hc:¬x1=0
 · have HX:=lH (qK (nl:=nl) (pl:=pl) (bl:=bl) (c:=x1) (by unfold or3;rw[Hx1.out,if_pos hc]) hc);have hcn:(x1 != 0)=true:=by simpa using hc
   clear hc;go_wp2;go_ret;exact⟨jb HX.out.symm,Vc.out.trans K.out⟩
 obtain rfl:x1=0:=Decidable.of_not_not hc;clear hc;go_wp2_with fail
 refine(jg9 (VY.out.kept K.out) hx2).mono ?_;rintro e w2 ⟨rfl,kk⟩;have K:=lH (K.out.trans kk);clear kk hx2 cq0 cq1 cq2;have cq0:=(HQ.out.kept K.out).at_ 0 _ rfl;have cq1:=(HQ.out.kept K.out).at_ 1 _ rfl;have cq2:=(HQ.out.kept K.out).at_ 2 _ rfl;by_cases hc:¬x2=0
 · have HX:=lH (qK (nl:=nl) (pl:=pl) (bl:=bl) (c:=x2) (by unfold or3;rw[Hx1.out,Hx2.out,if_neg (by decide),if_pos hc]) hc);have hcn:(x2 != 0)=true:=by simpa using hc
   clear hc;go_wp2;go_ret;exact⟨jb HX.out.symm,Vc.out.trans K.out⟩
 obtain rfl:x2=0:=Decidable.of_not_not hc;clear hc;go_wp2_with fail
 refine(jgJ (Ny.out.kept K.out) hx3).mono ?_;rintro e w3 ⟨rfl,kk⟩;have K:=lH (K.out.trans kk);clear kk hx3 cq0 cq1 cq2;have cq0:=(HQ.out.kept K.out).at_ 0 _ rfl;have cq1:=(HQ.out.kept K.out).at_ 1 _ rfl;have cq2:=(HQ.out.kept K.out).at_ 2 _ rfl;by_cases hc:¬x3=0
 · have HX:=lH (qK (nl:=nl) (pl:=pl) (bl:=bl) (c:=x3) (by unfold or3;rw[Hx1.out,Hx2.out,Hx3.out,if_neg (by decide),if_neg (by decide)]) hc);have hcn:(x3 != 0)=true:=by simpa using hc
   clear hc;go_wp2;go_ret;exact⟨jb HX.out.symm,Vc.out.trans K.out⟩
 obtain rfl:x3=0:=Decidable.of_not_not hc;clear hc;have Ue:=lH (show or3 (jI nl) (jD pl) (jH bl)=0 by unfold or3;rw[Hx1.out,Hx2.out,Hx3.out];rfl);clear Hx1 Hx2 Hx3;go_wp2;clear cq0 cq1 cq2;go_loopw [4] (fun i wr=>∃k:Nat,k≤m∧i=.int .i64 k∧jA nl (pl.drop k)=jA nl pl∧Kept Z wr) (fun i _=>m-(intOf i).toNat)
 case atStart=>exact⟨0,Nat.zero_le _,rfl,rfl,K.out⟩
 case round =>
  obtain⟨k,hk,rfl,hrest,hK⟩:=hrel;have HS:=lH hrest;have HK:=lH hK;have cq0:=(HQ.out.kept hK).at_ 0 _ rfl;have cq1:=(HQ.out.kept hK).at_ 1 _ rfl;have cq2:=(HQ.out.kept hK).at_ 2 _ rfl;by_cases hlt:k<m
  · obtain⟨b9,off,rfl⟩:=HP.out.form.resolve_left (by omega);obtain⟨pd,x1,y1,z1,x2,y2,z2,x3,y3,z3,x4,y4,z4,hn,hd,hb,p0,p1,p2,p3,p4,p5,p6,p7,p8,p9,p10,hat⟩:=(HP.out.kept hK).at_ hlt;have HD:=lH hd;have hkk:(k:Int)<(m:Int):=by omega
    have hk0:¬(k:Int)<0:=by omega
    obtain⟨t,ht⟩:=eX ((pd.node.toList==([]:List UInt8)))
    have Ua:=lH (show zp pd.node=t by rw[JV];exact ht);clear hrest hat hn hd
    cases t with
     | true =>
      have HX:=lH (show jA nl (pl.drop (k+1))=jA nl pl by rw[←HS.out,HD.out,jbD Ua.out]);clear hK;go_wp2;go_roundw
      case rel=>exact⟨k+1,by omega,by go_num,HX.out,HK.out⟩
      case measure=>simp[intOf];omega
     | false =>
      have HF:=lH (show ∀W,Kept wr W→W.cell? ⟨w.heap.size,0,none⟩=some (.slice a len cap)∧W.cell? ⟨w.heap.size,1,none⟩=some (.slice (some ⟨b9,off,none⟩) m cp)∧W.cell? ⟨b9,off+k*11,none⟩=some (.string pd.name)∧W.cell? ⟨b9,off+k*11+1,none⟩=some (.string pd.owner)∧W.cell? ⟨b9,off+k*11+2,none⟩=some (.int .i64 pd.prio)∧W.cell? ⟨b9,off+k*11+3,none⟩=some (.slice x1 y1 z1)∧W.cell? ⟨b9,off+k*11+4,none⟩=some (.slice x2 y2 z2)∧W.cell? ⟨b9,off+k*11+5,none⟩=some (.slice x3 y3 z3)∧W.cell? ⟨b9,off+k*11+6,none⟩=some (.slice x4 y4 z4)∧W.cell? ⟨b9,off+k*11+7,none⟩=some (.string pd.key)∧W.cell? ⟨b9,off+k*11+8,none⟩=some (.int .i64 pd.most)∧W.cell? ⟨b9,off+k*11+9,none⟩=some (.string pd.node)∧W.cell? ⟨b9,off+k*11+10,none⟩=some (.bool pd.hold) from fun W kk=>⟨cell_later kk cq0,cell_later kk cq1,cell_later kk p0,cell_later kk p1,cell_later kk p2,cell_later kk p3,cell_later kk p4,cell_later kk p5,cell_later kk p6,cell_later kk p7,cell_later kk p8,cell_later kk p9,cell_later kk p10⟩);obtain⟨o,ho⟩:=eX (jl nl pd.node)
      have RT:=lH ho;have Ul:=lH (fun W (kk:Kept wr W)=>jjn (x:=pd.node) (V2.out.kept (HK.out.trans kk)));rw[ho] at Ul;clear hK ho;go_upto_region 14 with fail
      go_cut [5,6] from 42 to 54 (fun s5 s6 wx=>s6=.bool o.isSome∧Kept wr wx)
      case first =>
       refine wp_region_held_drew (S:=fun W=>W.cell? ⟨w.heap.size,0,none⟩=some (.slice a len cap)∧W.cell? ⟨w.heap.size,1,none⟩=some (.slice (some ⟨b9,off,none⟩) m cp)∧W.cell? ⟨b9,off+k*11,none⟩=some (.string pd.name)∧W.cell? ⟨b9,off+k*11+1,none⟩=some (.string pd.owner)∧W.cell? ⟨b9,off+k*11+2,none⟩=some (.int .i64 pd.prio)∧W.cell? ⟨b9,off+k*11+3,none⟩=some (.slice x1 y1 z1)∧W.cell? ⟨b9,off+k*11+4,none⟩=some (.slice x2 y2 z2)∧W.cell? ⟨b9,off+k*11+5,none⟩=some (.slice x3 y3 z3)∧W.cell? ⟨b9,off+k*11+6,none⟩=some (.slice x4 y4 z4)∧W.cell? ⟨b9,off+k*11+7,none⟩=some (.string pd.key)∧W.cell? ⟨b9,off+k*11+8,none⟩=some (.int .i64 pd.most)∧W.cell? ⟨b9,off+k*11+9,none⟩=some (.string pd.node)∧W.cell? ⟨b9,off+k*11+10,none⟩=some (.bool pd.hold)) (by kernel_rfl) (HF.out _ (Kept.drew _)) (fun hHeld=>?_);refine tkI 0 ?_;refine tkI 1 ?_;refine tkI 2 ?_;refine tkI 3 ?_;refine tkI 4 ?_;refine tkI 5 ?_;refine tkI 6 ?_;refine tkI 7 ?_;try simp only[nP]
       have J0:=lH (Kept.drew wr);refine rdH (rs:=[8,12]) (h:=coH (fun K9 Ky=>?_) (coH (fun K9 Ky=>?_) AllReadyH.nil))
       · go_simp;refine(Ul.out _ J0.out).mono ?_;rintro e w5 ⟨v9,rfl,hr,kk⟩;have J0:=lH (J0.out.trans kk);obtain⟨nn,hnn⟩:=eX (o.getD Nod.zero)
         rw[hnn] at hr;obtain⟨y1,y2,y3,rfl,hat⟩:=hr;have g1:=hat.cap;have g2:=hat.labels;have g3:=hat.taints;obtain⟨b1,d1,rfl,-,-,-⟩:=g1;obtain⟨b2,d2,rfl,-,-,-⟩:=g2;obtain⟨b3,d3,rfl,-,-,-⟩:=g3;unfold zj;obtain⟨n1,hn1⟩:=eX (nn.cap.length)
         obtain⟨n2,hn2⟩:=eX (nn.labels.length)
         obtain⟨n3,hn3⟩:=eX (nn.taints.length)
         rw[hn1,hn2,hn3];clear hat kk hn1 hn2 hn3 hnn;refine Ky.out _ _ (HF.out _ J0.out) (fun _=>?_);clear Ky K9;try simp only[nP]
         refine tkI 9 ?_;refine tkI 10 ?_;refine tkI 11 ?_;try simp only[nP]
         refine rd1 12 fun K9 Ky=>?_;go_simp;obtain⟨Vb,Vt,J0⟩:=lH3 (jc w5 (.string ⟨#[]⟩) [.slice none 0 0,.slice none 0 0,.slice none 0 0,.bool false] 121 _ (Kept.refl _)) J0.out.size (J0.out.trans (ja w5 (.cells #[.string ⟨#[]⟩,.slice none 0 0,.slice none 0 0,.slice none 0 0,.bool false] 121)));refine Ky.out _ _ (HF.out _ J0.out) (fun _=>?_);clear Ky K9;try simp only[nP]
         obtain⟨wa,hwa⟩:=eX (w5.alloc (.cells #[.string ⟨#[]⟩,.slice none 0 0,.slice none 0 0,.slice none 0 0,.bool false] 121))
         rw[hwa] at J0 Vb ⊢;obtain⟨qa,hqa⟩:=eX (w5.heap.size)
         rw[hqa] at Vt;rw[hqa] at Vb ⊢;clear hwa hqa;obtain⟨z0,z1,z2,z3,z4⟩:=Vb.out.at5;have f0:=Vb.out.free 0;have f1:=Vb.out.free 1;have f2:=Vb.out.free 2;have f3:=Vb.out.free 3;have f4:=Vb.out.free 4;refine rd1 13 fun K9 Ky=>?_;go_simp;obtain⟨WE,hWE⟩:=eX (wa.setCells qa 0 [.string nn.name,.slice b1 n1 d1,.slice b2 n2 d2,.slice b3 n3 d3,.bool nn.cordon])
         have hWE2:(((((wa.setCell ⟨qa,0,none⟩ (.string nn.name)).setCell ⟨qa,1,none⟩ (.slice b1 n1 d1)).setCell ⟨qa,2,none⟩ (.slice b2 n2 d2)).setCell ⟨qa,3,none⟩ (.slice b3 n3 d3)).setCell ⟨qa,4,none⟩ (.bool nn.cordon))=WE:=hWE;try rw[hWE2]
         have JE:=lH (show Kept wr WE by rw[←hWE];exact jt qa _ _ _ _ _ Vt.out J0.out);clear hWE hWE2 z0 f0 z1 f1 z2 f2 z3 f3 z4 f4;refine Ky.out _ _ (HF.out _ JE.out) (fun _=>?_);clear Ky K9;try simp only[nP]
         refine tkI 14 ?_;try simp only[nP]
         refine wpAnyH_done (by kernel_rfl) ?_ _;go_wp2;go_meet
         case rel=>exact⟨rfl,JE.out⟩
       · go_simp;have Vb:=lH (jc wr (.string ⟨#[]⟩) [.slice none 0 0,.slice none 0 0,.slice none 0 0,.bool false] 121 _ (Kept.drew (wr.alloc (.cells #[.string ⟨#[]⟩,.slice none 0 0,.slice none 0 0,.slice none 0 0,.bool false] 121))));have J0:=lH ((ja wr (.cells #[.string ⟨#[]⟩,.slice none 0 0,.slice none 0 0,.slice none 0 0,.bool false] 121)).trans (Kept.drew _));skip;refine Ky.out _ _ (HF.out _ J0.out) (fun _=>?_);clear Ky K9;try simp only[nP]
         obtain⟨wa,hwa⟩:=eX ((wr.alloc (.cells #[.string ⟨#[]⟩,.slice none 0 0,.slice none 0 0,.slice none 0 0,.bool false] 121)).drew)
         rw[hwa] at J0 Vb ⊢;obtain⟨qa,hqa⟩:=eX (wr.heap.size)
         have Vt:=lH (Nat.le_of_eq hqa);rw[hqa] at Vb ⊢;clear hwa hqa;refine rd1 8 fun K9 Ky=>?_;go_simp;refine(Ul.out _ J0.out).mono ?_;rintro e w5 ⟨v9,rfl,hr,kk⟩;have J0:=lH (J0.out.trans kk);obtain⟨nn,hnn⟩:=eX (o.getD Nod.zero)
         rw[hnn] at hr;obtain⟨y1,y2,y3,rfl,hat⟩:=hr;have g1:=hat.cap;have g2:=hat.labels;have g3:=hat.taints;obtain⟨b1,d1,rfl,-,-,-⟩:=g1;obtain⟨b2,d2,rfl,-,-,-⟩:=g2;obtain⟨b3,d3,rfl,-,-,-⟩:=g3;unfold zj;obtain⟨n1,hn1⟩:=eX (nn.cap.length)
         obtain⟨n2,hn2⟩:=eX (nn.labels.length)
         obtain⟨n3,hn3⟩:=eX (nn.taints.length)
         rw[hn1,hn2,hn3];have Vb:=lH (Vb.out.kept kk);clear hat kk hn1 hn2 hn3 hnn;refine Ky.out _ _ (HF.out _ J0.out) (fun _=>?_);clear Ky K9;try simp only[nP]
         refine tkI 9 ?_;refine tkI 10 ?_;refine tkI 11 ?_;try simp only[nP]
         obtain⟨z0,z1,z2,z3,z4⟩:=Vb.out.at5;have f0:=Vb.out.free 0;have f1:=Vb.out.free 1;have f2:=Vb.out.free 2;have f3:=Vb.out.free 3;have f4:=Vb.out.free 4;refine rd1 13 fun K9 Ky=>?_;go_simp;obtain⟨WE,hWE⟩:=eX (w5.setCells qa 0 [.string nn.name,.slice b1 n1 d1,.slice b2 n2 d2,.slice b3 n3 d3,.bool nn.cordon])
         have hWE2:(((((w5.setCell ⟨qa,0,none⟩ (.string nn.name)).setCell ⟨qa,1,none⟩ (.slice b1 n1 d1)).setCell ⟨qa,2,none⟩ (.slice b2 n2 d2)).setCell ⟨qa,3,none⟩ (.slice b3 n3 d3)).setCell ⟨qa,4,none⟩ (.bool nn.cordon))=WE:=hWE;try rw[hWE2]
         have JE:=lH (show Kept wr WE by rw[←hWE];exact jt qa _ _ _ _ _ Vt.out J0.out);clear hWE hWE2 z0 f0 z1 f1 z2 f2 z3 f3 z4 f4;refine Ky.out _ _ (HF.out _ JE.out) (fun _=>?_);clear Ky K9;try simp only[nP]
         refine tkI 14 ?_;try simp only[nP]
         refine wpAnyH_done (by kernel_rfl) ?_ _;go_wp2;go_meet
         case rel=>exact⟨rfl,JE.out⟩
      case rest =>
       obtain⟨rfl,hkx⟩:=hcut;have KX:=lH (HK.out.trans hkx);clear hkx cq0 cq1 cq2 p0 p1 p2 p3 p4 p5 p6 p7 p8 p9 p10
       cases o with
       | none =>
        have HX:=lH (jaM Ue.out (show jA nl pl=3 by rw[←HS.out,HD.out,jau Ua.out (by rw[RT.out];rfl)]) (by decide));go_wp2;go_ret;exact⟨jb HX.out.symm,Vc.out.trans KX.out⟩
       | some nod =>
        have HX:=lH (show jA nl (pl.drop (k+1))=jA nl pl by rw[←HS.out,HD.out,jbJ (by rw[RT.out];rfl)]);go_wp2;go_roundw
        case rel=>exact⟨k+1,by omega,by go_num,HX.out,KX.out⟩
        case measure=>simp[intOf];omega
  · have V1:=lH (show jA nl pl=0 by rw[←hrest,List.drop_of_length_le (by rw[Tq.out];omega)];rfl);have hkk:¬(k:Int)<(m:Int):=by omega
    clear hrest hK;go_wp2;clear cq0 cq1 cq2;go_loopw [7] (fun i wr=>∃k:Nat,k≤len∧i=.int .i64 k∧jM pl (nl.drop k)=jM pl nl∧Kept Z wr) (fun i _=>len-(intOf i).toNat)
    case atStart=>exact⟨0,Nat.zero_le _,rfl,rfl,HK.out⟩
    case round =>
     obtain⟨k,hk,rfl,hrest,hK⟩:=hrel;have HS:=lH hrest;have HK:=lH hK;have cq0:=(HQ.out.kept hK).at_ 0 _ rfl;have cq1:=(HQ.out.kept hK).at_ 1 _ rfl;have cq2:=(HQ.out.kept hK).at_ 2 _ rfl;by_cases hlt:k<len
     · obtain⟨b9,off,rfl⟩:=HN.out.form.resolve_left (by omega);obtain⟨n9,x1,y1,z1,x2,y2,z2,x3,y3,z3,hn,hd,hb,p0,p1,p2,p3,p4,hat⟩:=(HN.out.kept hK).at_ hlt;have HD:=lH hd;have hkk:(k:Int)<(len:Int):=by omega
       have hk0:¬(k:Int)<0:=by omega
       obtain⟨c,uu,hcu⟩:∃c uu,jJ n9.name pl []=(c,uu):=⟨_,_,rfl⟩
       have Rl:=lH hcu;have hus:JW ⟨nl,pl,bl⟩ n9.name=(c,uu):=(jlB (s:=⟨nl,pl,bl⟩) (List.mem_of_getElem? hn)).trans hcu;have RU:=lH (fun W (kk:Kept wr W)=>jlG (Tr.out.kept (HK.out.trans kk)) n9.name);rw[hus] at RU;have Rm:=lH hat.cap;have HF:=lH (show ∀W,Kept wr W→W.cell? ⟨w.heap.size,0,none⟩=some (.slice (some ⟨b9,off,none⟩) len cap)∧W.cell? ⟨w.heap.size,1,none⟩=some (.slice b m cp)∧W.cell? ⟨w.heap.size,2,none⟩=some (.slice d n cb)∧W.cell? ⟨b9,off+k*5,none⟩=some (.string n9.name)∧W.cell? ⟨b9,off+k*5+1,none⟩=some (.slice x1 y1 z1)∧W.cell? ⟨b9,off+k*5+2,none⟩=some (.slice x2 y2 z2)∧W.cell? ⟨b9,off+k*5+3,none⟩=some (.slice x3 y3 z3)∧W.cell? ⟨b9,off+k*5+4,none⟩=some (.bool n9.cordon) from fun W kk=>⟨cell_later kk cq0,cell_later kk cq1,cell_later kk cq2,cell_later kk p0,cell_later kk p1,cell_later kk p2,cell_later kk p3,cell_later kk p4⟩);clear hrest hK hat hn hd hcu hus;go_upto_region 20 with fail
       refine wp_region_held_drew (S:=fun W=>W.cell? ⟨w.heap.size,0,none⟩=some (.slice (some ⟨b9,off,none⟩) len cap)∧W.cell? ⟨w.heap.size,1,none⟩=some (.slice b m cp)∧W.cell? ⟨w.heap.size,2,none⟩=some (.slice d n cb)∧W.cell? ⟨b9,off+k*5,none⟩=some (.string n9.name)∧W.cell? ⟨b9,off+k*5+1,none⟩=some (.slice x1 y1 z1)∧W.cell? ⟨b9,off+k*5+2,none⟩=some (.slice x2 y2 z2)∧W.cell? ⟨b9,off+k*5+3,none⟩=some (.slice x3 y3 z3)∧W.cell? ⟨b9,off+k*5+4,none⟩=some (.bool n9.cordon)) (by kernel_rfl) (HF.out _ (Kept.drew _)) (fun hHeld=>?_);refine tkI 0 ?_;refine tkI 1 ?_;refine tkI 2 ?_;refine tkI 3 ?_;refine tkI 4 ?_;refine tkI 5 ?_;refine tkI 6 ?_;try simp only[nP]
       refine rd1 7 fun K9 Ky=>?_;go_simp;refine(RU.out _ (Kept.drew _)).mono ?_;rintro e w6 ⟨y9,rfl,hy,kk⟩;have J:=lH ((Kept.drew wr).trans kk);have HY:=lH hy;clear hy kk;refine Ky.out _ _ (HF.out _ J.out) (fun _=>?_);clear Ky K9;try simp only[nP]
       refine tkI 8 ?_;refine tkI 9 ?_;refine tkI 10 ?_;refine tkI 11 ?_;refine tkI 12 ?_;try simp only[nP]
       refine wpAnyH_done (by kernel_rfl) ?_ _;clear cq0 cq1 cq2 p0 p1 p2 p3 p4;obtain⟨cq0,cq1,cq2,p0,p1,p2,p3,p4⟩:=HF.out _ J.out;by_cases hc:¬c=0
       · have HX:=lH (XL (bl:=bl) Ue.out V1.out (show jM pl nl=c by rw[←HS.out,HD.out,ja3 Rl.out hc]) hc);have hcn:(c != 0)=true:=by simpa using hc
         clear hc;go_wp2;go_ret;exact⟨jb HX.out.symm,Vc.out.trans (HK.out.trans J.out)⟩
       obtain rfl:c=0:=Decidable.of_not_not hc;clear hc;obtain⟨t,ht⟩:=eX (Vec.jB n9.cap uu)
       have HT:=lH ht;have UH:=lH (jnM HY.out (Rm.out.kept J.out) ht);clear ht;go_wp2_with fail
       refine UH.out.mono ?_;rintro e w7 ⟨rfl,kk⟩;have KW:=lH (HK.out.trans (J.out.trans kk));clear kk cq0 cq1 cq2 p0 p1 p2 p3 p4
       cases t with
       | false =>
        have HX:=lH (XL (bl:=bl) Ue.out V1.out (show jM pl nl=7 by rw[←HS.out,HD.out,qR Rl.out HT.out]) (by decide));go_wp2;go_ret;exact⟨jb HX.out.symm,Vc.out.trans KW.out⟩
       | true =>
        have HX:=lH (show jM pl (nl.drop (k+1))=jM pl nl by rw[←HS.out,HD.out,XC Rl.out HT.out]);go_wp2;go_roundw
        case rel=>exact⟨k+1,by omega,by go_num,HX.out,KW.out⟩
        case measure=>simp[intOf];omega
     · have Rj:=lH (show jM pl nl=0 by rw[←hrest,List.drop_of_length_le (by rw[UG.out];omega)];rfl);have hkk:¬(k:Int)<(len:Int):=by omega
       clear hrest hK;have HX:=lH (qM (bl:=bl) Ue.out V1.out Rj.out);go_wp2_with fail
       refine(jk4 (Tr.out.kept HK.out)).mono ?_;rintro e w8 ⟨y9,rfl,hy,kk⟩;have KW:=lH (HK.out.trans kk);clear hy kk cq0 cq1 cq2;go_wp2;go_ret;exact⟨jb HX.out.symm,Vc.out.trans KW.out⟩
end Go.Proofs.YtokdjfoalkmhiaaGreat
