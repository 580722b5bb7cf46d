/- What serves all packages,and package by package the contracts of the functions that the law calls. -/
import Derived.Test.YtgfoenfaohhjcaaGreatG1
import Derived.Test.YtgfoenfaohhjcaaGreatG5
import Derived.Test.YtgfoenfaohhjcaaGreatG6
import Derived.Test.YtgfoenfaohhjcaaGreatG8
import Derived.Test.YtgfoenfaohhjcaaGreatG10
set_option linter.unusedVariables false
set_option maxRecDepth 100000
set_option maxHeartbeats 25600000
namespace Go.Proofs.YtgfoenfaohhjcaaGreat.Vec
open Go.RowKit Go.Proofs.YtgfoenfaohhjcaaGreat
theorem jeJ (a a':Option Addr) (len cap len' cap':Nat) (l l':V) (w:World) (hr:jo w a len l) (hr':jo w a' len' l') :
 Calls Tryz.prog 94 #[.slice a len cap,.slice a' len' cap'] w (Told (ji jR l l').1 (ji jR l l').2 w):=by
 have HA:=lH hr;have HB:=lH hr';have HL:=lH hr.1;have HL':=lH hr'.1;by_cases hc:JV l l'=0
 · obtain⟨ha,hb⟩:=jaP hc;have HC:=lH hc;have HG:=lH (JO ha hr.2.2.1);have HG':=lH (JO hb hr'.2.2.1);have h8:len≤8:=by have:=JA ha;rw[HL.out] at this;exact this
   have h8':len'≤8:=by have:=JA hb;rw[HL'.out] at this;exact this
   have HM:=lH (qf jR ha hb hr.2.2.1 hr'.2.2.1);have HP:=lH (show ∀n ∈ jU (l.length+l'.length) l l',0<jA l n+jA l' n from fun n hn=>jaZ HG.out HG'.out hn);obtain⟨NS,hNS⟩:∃NS,jU (l.length+l'.length) l l'=NS:=⟨_,rfl⟩
   have hlen:=XK (l.length+l'.length) l l';have hn16:NS.length≤16:=by rw[hNS,HL.out,HL'.out] at hlen;omega
   rw[hNS] at HM HP;have HNS:=lH hNS;obtain⟨R,hR⟩:∃R,zP jR l l' NS []=R:=⟨_,rfl⟩
   rw[hR] at HM;have HRR:=lH hR;have HH8:=lH h8;have HH8':=lH h8';obtain⟨i0,hi,hz0,hz1,hz2⟩:=info_parts jaG;clear hr hr' hc ha hb hNS hR hlen h8 h8';go_enter Tryz.func94,Tryz.ntmps94;go_wp2_with fail
   refine(YE _ _ _ _ _ _ l l' _ HA.out HB.out).mono ?_;rw[HC.out];rintro e1 w1 ⟨rfl,k1⟩;have K1:=lH k1;clear k1;go_wp2_with fail
   refine(YO _ _ _ _ _ _ l l' _ (HA.out.kept K1.out) (HB.out.kept K1.out) HH8.out HH8'.out).mono ?_;rw[HNS.out];rintro e2 w2 ⟨x2,rfl,ho,k2⟩;have HN2:=lH ho.2;obtain⟨s,scap,rfl,hs1,hs2,hrow⟩:=ho.reads;have HROW:=lH hrow;have HSC:=lH hs1;have K2:=lH (K1.out.trans k2);obtain⟨n,hn⟩:∃n,NS.length=n:=⟨_,rfl⟩
   have HNL:=lH hn;rw[hn] at hn16 HROW ⊢;clear k2 ho hrow hn hs1 hs2;go_wp2;go_loopw [8,9] (fun v i wr=>∃(k:Nat) (acc:V),k≤n∧i=.int .i64 k∧zP jR l l' (NS.drop k) acc=R∧jP 152 wr w2.heap.size v acc∧Below w2.heap.size w2 wr∧acc.length≤k)
    (fun _ i _=>n-(intOf i).toNat)
   case atStart=>exact⟨0,[],Nat.zero_le _,rfl,HRR.out,jP.nil _ _ _,Below.refl _ _,Nat.le_refl _⟩
   case round =>
    obtain⟨k,acc,hk,rfl,hres,ho,hB,hacc⟩:=hrel;have HQ:=lH hres;have HO:=lH ho;have HB2:=lH hB;clear hres ho;by_cases hlt:k<n
    · obtain⟨b,off,rfl⟩:∃b off,s=some ⟨b,off,none⟩:=HROW.out.form.resolve_left (by omega);obtain⟨x,hx,hdrop,hbx,hsz,c1⟩:=(HROW.out.kept hB).str hlt;have HD:=lH hdrop;have HSZ:=lH hsz;have HS:=lH (show ∀W,Kept wr W→W.cell? ⟨b,off+k,none⟩=some (.string x) from fun W kk=>cell_later kk c1);have HX:=lH (show 0<jA l x+jA l' x from HP.out x (List.mem_of_getElem? hx));have HKA:=lH (show ∀W,Kept wr W→jo W a len l from fun W kk=>HA.out.kept (K2.out.trans (Kept.trans hB kk)));have HKB:=lH (show ∀W,Kept wr W→jo W a' len' l' from fun W kk=>HB.out.kept (K2.out.trans (Kept.trans hB kk)));obtain⟨g1,hg1⟩:∃g,jA l x=g:=⟨_,rfl⟩
      obtain⟨g2,hg2⟩:∃g,jA l' x=g:=⟨_,rfl⟩
      have HG1:=lH hg1;have HG2:=lH hg2;have B1:=lH (show 0≤g1∧g1≤9223372036854775807 by rw[←hg1];exact YC x HG.out);have B2:=lH (show 0≤g2∧g2≤9223372036854775807 by rw[←hg2];exact YC x HG'.out);rw[hg1,hg2] at HX;obtain⟨r1,r2,hr⟩:∃r1 r2,jR g1 g2=(r1,r2):=⟨_,_,rfl⟩
      have QF:=lH (show ∀W,Calls Tryz.prog 124 #[.int .i64 g1,.int .i64 g2] W (Ans r1 r2 W) from fun W=>by
       have:=jhu g1 g2 W B1.out B2.out;rw[hr] at this;exact this)
      have RB:=lH (show 0≤r1∧r1≤9223372036854775807 by have:=jdG B1.out B2.out;rw[hr] at this;exact this);have HF:=lH (show jR (jA l x) (jA l' x)=(r1,r2) by rw[hg1,hg2];exact hr);have HFR:=lH hr;have hk1:(k:Int)<(n:Int):=by omega
      clear hB hx hdrop hsz hg1 hg2 hr;by_cases hz:r2=0
      · subst hz;by_cases hy:r1=0
        · subst hy;have HN:=lH (show zP jR l l' (NS.drop (k+1)) acc=R by
           have:=XH (t:=NS.drop (k+1)) (acc:=acc) HF.out;unfold Yd at this;rw[if_pos rfl] at this;rw[←this,←HD.out];exact HQ.out)
          go_wp2;clear c1;refine wp_region_held_drew (S:=fun W=>W.cell? ⟨b,off+k,none⟩=some (.string x)) (by kernel_rfl) (HS.out _ (Kept.drew _)) (fun hHeld=>?_);refine wpAnyH_take  (i:=0) (v:=?_) (by rw[List.getElem?_toArray];exact rfl) (by kernel_rfl) (by kernel_rfl) (by kernel_rfl) (by exact fun _ _ _ h=>h) (Or.inl ⟨by rfl,(by intro W hSw;go_simp<;>with_reducible rfl)⟩) (by assumption) ?_;try simp only  [Act.put,List.setIfInBounds_toArray,List.set_cons_zero,List.set_cons_succ]
          refine wpAnyH_take  (i:=1) (v:=?_) (by rw[List.getElem?_toArray];exact rfl) (by kernel_rfl) (by kernel_rfl) (by kernel_rfl) (by exact fun _ _ _ h=>h) (Or.inl ⟨by rfl,(by intro W hSw;go_simp<;>with_reducible rfl)⟩) (by assumption) ?_;try simp only  [Act.put,List.setIfInBounds_toArray,List.set_cons_zero,List.set_cons_succ]
          refine wpAnyH_take  (i:=2) (v:=?_) (by rw[List.getElem?_toArray];exact rfl) (by kernel_rfl) (by kernel_rfl) (by kernel_rfl) (by exact fun _ _ _ h=>h) (Or.inl ⟨by rfl,(by intro W hSw;go_simp<;>with_reducible rfl)⟩) (by assumption) ?_;try simp only  [Act.put,List.setIfInBounds_toArray,List.set_cons_zero,List.set_cons_succ]
          refine wpAnyH_take  (i:=3) (v:=?_) (by rw[List.getElem?_toArray];exact rfl) (by kernel_rfl) (by kernel_rfl) (by kernel_rfl) (by exact fun _ _ _ h=>h) (Or.inl ⟨by rfl,(by intro W hSw;go_simp<;>with_reducible rfl)⟩) (by assumption) ?_;try simp only  [Act.put,List.setIfInBounds_toArray,List.set_cons_zero,List.set_cons_succ]
          refine wpAnyH_take  (i:=4) (v:=?_) (by rw[List.getElem?_toArray];exact rfl) (by kernel_rfl) (by kernel_rfl) (by kernel_rfl) (by exact fun _ _ _ h=>h) (Or.inl ⟨by rfl,(by intro W hSw;go_simp<;>with_reducible rfl)⟩) (by assumption) ?_;try simp only  [Act.put,List.setIfInBounds_toArray,List.set_cons_zero,List.set_cons_succ]
          refine wpAnyH_take  (i:=6) (v:=?_) (by rw[List.getElem?_toArray];exact rfl) (by kernel_rfl) (by kernel_rfl) (by kernel_rfl) (by exact fun _ _ _ h=>h) (Or.inl ⟨by rfl,(by intro W hSw;go_simp<;>with_reducible rfl)⟩) (by assumption) ?_;try simp only  [Act.put,List.setIfInBounds_toArray,List.set_cons_zero,List.set_cons_succ]
          refine wpAnyH_take  (i:=7) (v:=?_) (by rw[List.getElem?_toArray];exact rfl) (by kernel_rfl) (by kernel_rfl) (by kernel_rfl) (by exact fun _ _ _ h=>h) (Or.inl ⟨by rfl,(by intro W hSw;go_simp<;>with_reducible rfl)⟩) (by assumption) ?_;try simp only  [Act.put,List.setIfInBounds_toArray,List.set_cons_zero,List.set_cons_succ]
          refine wpAnyH_take  (i:=8) (v:=?_) (by rw[List.getElem?_toArray];exact rfl) (by kernel_rfl) (by kernel_rfl) (by kernel_rfl) (by exact fun _ _ _ h=>h) (Or.inl ⟨by rfl,(by intro W hSw;go_simp<;>with_reducible rfl)⟩) (by assumption) ?_;try simp only  [Act.put,List.setIfInBounds_toArray,List.set_cons_zero,List.set_cons_succ]
          refine wpAnyH_take  (i:=9) (v:=?_) (by rw[List.getElem?_toArray];exact rfl) (by kernel_rfl) (by kernel_rfl) (by kernel_rfl) (by exact fun _ _ _ h=>h) (Or.inl ⟨by rfl,(by intro W hSw;go_simp<;>with_reducible rfl)⟩) (by assumption) ?_;try simp only  [Act.put,List.setIfInBounds_toArray,List.set_cons_zero,List.set_cons_succ]
          refine wpAnyH_take  (i:=10) (v:=?_) (by rw[List.getElem?_toArray];exact rfl) (by kernel_rfl) (by kernel_rfl) (by kernel_rfl) (by exact fun _ _ _ h=>h) (Or.inl ⟨by rfl,(by intro W hSw;go_simp<;>with_reducible rfl)⟩) (by assumption) ?_;try simp only  [Act.put,List.setIfInBounds_toArray,List.set_cons_zero,List.set_cons_succ]
          refine wpAnyH_ready  (rs:=[5]) (by kernel_rfl) (by simp) (AllReadyH.cons  (by rw[List.getElem?_toArray];exact rfl) (fun K9 hK9=>?_) AllReadyH.nil);go_simp;refine(Jb _ _ _ l x _ (HKA.out _ (Kept.drew _))).mono ?_;rintro e3 w3 ⟨rfl,kk⟩;have J1:=lH ((Kept.drew _).trans kk);clear kk;refine hK9.out _ _ (HS.out _ J1.out) (fun hHeld1=>?_);clear hK9 K9;try simp only  [Act.put,List.setIfInBounds_toArray,List.set_cons_zero,List.set_cons_succ]
          refine wpAnyH_ready  (rs:=[11]) (by kernel_rfl) (by simp) (AllReadyH.cons  (by rw[List.getElem?_toArray];exact rfl) (fun K9 hK9=>?_) AllReadyH.nil);go_simp;refine(Jb _ _ _ l' x _ (HKB.out _ J1.out)).mono ?_;rintro e4 w4 ⟨rfl,kk⟩;have J2:=lH ((J1.out).trans kk);clear kk;refine hK9.out _ _ (HS.out _ J2.out) (fun hHeld2=>?_);clear hK9 K9;try simp only  [Act.put,List.setIfInBounds_toArray,List.set_cons_zero,List.set_cons_succ]
          rw[HG1.out,HG2.out];refine wpAnyH_ready  (rs:=[12]) (by kernel_rfl) (by simp) (AllReadyH.cons  (by rw[List.getElem?_toArray];exact rfl) (fun K9 hK9=>?_) AllReadyH.nil);go_simp;refine(QF.out _).mono ?_;rintro e5 w5 ⟨rfl,kk⟩;have J3:=lH ((J2.out).trans kk);clear kk;refine hK9.out _ _ (HS.out _ J3.out) (fun hHeld3=>?_);clear hK9 K9;try simp only  [Act.put,List.setIfInBounds_toArray,List.set_cons_zero,List.set_cons_succ]
          refine wpAnyH_take  (i:=13) (v:=?_) (by rw[List.getElem?_toArray];exact rfl) (by kernel_rfl) (by kernel_rfl) (by kernel_rfl) (by exact fun _ _ _ h=>h) (Or.inl ⟨by rfl,(by intro W hSw;go_simp<;>with_reducible rfl)⟩) (by assumption) ?_;try simp only  [Act.put,List.setIfInBounds_toArray,List.set_cons_zero,List.set_cons_succ]
          refine wpAnyH_take  (i:=14) (v:=?_) (by rw[List.getElem?_toArray];exact rfl) (by kernel_rfl) (by kernel_rfl) (by kernel_rfl) (by exact fun _ _ _ h=>h) (Or.inl ⟨by rfl,(by intro W hSw;go_simp<;>with_reducible rfl)⟩) (by assumption) ?_;try simp only  [Act.put,List.setIfInBounds_toArray,List.set_cons_zero,List.set_cons_succ]
          refine wpAnyH_take  (i:=15) (v:=?_) (by rw[List.getElem?_toArray];exact rfl) (by kernel_rfl) (by kernel_rfl) (by kernel_rfl) (by exact fun _ _ _ h=>h) (Or.inl ⟨by rfl,(by intro W hSw;go_simp<;>with_reducible rfl)⟩) (by assumption) ?_;try simp only  [Act.put,List.setIfInBounds_toArray,List.set_cons_zero,List.set_cons_succ]
          refine wpAnyH_take  (i:=16) (v:=?_) (by rw[List.getElem?_toArray];exact rfl) (by kernel_rfl) (by kernel_rfl) (by kernel_rfl) (by exact fun _ _ _ h=>h) (Or.inl ⟨by rfl,(by intro W hSw;go_simp<;>with_reducible rfl)⟩) (by assumption) ?_;try simp only  [Act.put,List.setIfInBounds_toArray,List.set_cons_zero,List.set_cons_succ]
          refine wpAnyH_take  (i:=17) (v:=?_) (by rw[List.getElem?_toArray];exact rfl) (by kernel_rfl) (by kernel_rfl) (by kernel_rfl) (by exact fun _ _ _ h=>h) (Or.inl ⟨by rfl,(by intro W hSw;go_simp<;>with_reducible rfl)⟩) (by assumption) ?_;try simp only  [Act.put,List.setIfInBounds_toArray,List.set_cons_zero,List.set_cons_succ]
          refine wpAnyH_done (by kernel_rfl) ?_ _;have c1:=HS.out _ J3.out;have B6:=lH (HB2.out.trans (Below.mono J3.out HB2.out.size));have O6:=lH (HO.out.kept J3.out);go_wp2;go_roundw
          case rel=>exact⟨k+1,acc,by omega,by go_num,HN.out,O6.out,B6.out,by omega⟩
          case measure=>simp[intOf];omega
        · have hy1:0<r1:=by have:=RB.out;omega
          have HN:=lH (show zP jR l l' (NS.drop (k+1)) (acc++[(x,r1)])=R by
           have:=XH (t:=NS.drop (k+1)) (acc:=acc) HF.out;unfold Yd at this;rw[if_neg hy] at this;rw[←this,←HD.out];exact HQ.out)
          clear hy;go_wp2;clear c1;refine wp_region_held_drew (S:=fun W=>W.cell? ⟨b,off+k,none⟩=some (.string x)) (by kernel_rfl) (HS.out _ (Kept.drew _)) (fun hHeld=>?_);refine wpAnyH_take  (i:=0) (v:=?_) (by rw[List.getElem?_toArray];exact rfl) (by kernel_rfl) (by kernel_rfl) (by kernel_rfl) (by exact fun _ _ _ h=>h) (Or.inl ⟨by rfl,(by intro W hSw;go_simp<;>with_reducible rfl)⟩) (by assumption) ?_;try simp only  [Act.put,List.setIfInBounds_toArray,List.set_cons_zero,List.set_cons_succ]
          refine wpAnyH_take  (i:=1) (v:=?_) (by rw[List.getElem?_toArray];exact rfl) (by kernel_rfl) (by kernel_rfl) (by kernel_rfl) (by exact fun _ _ _ h=>h) (Or.inl ⟨by rfl,(by intro W hSw;go_simp<;>with_reducible rfl)⟩) (by assumption) ?_;try simp only  [Act.put,List.setIfInBounds_toArray,List.set_cons_zero,List.set_cons_succ]
          refine wpAnyH_take  (i:=2) (v:=?_) (by rw[List.getElem?_toArray];exact rfl) (by kernel_rfl) (by kernel_rfl) (by kernel_rfl) (by exact fun _ _ _ h=>h) (Or.inl ⟨by rfl,(by intro W hSw;go_simp<;>with_reducible rfl)⟩) (by assumption) ?_;try simp only  [Act.put,List.setIfInBounds_toArray,List.set_cons_zero,List.set_cons_succ]
          refine wpAnyH_take  (i:=3) (v:=?_) (by rw[List.getElem?_toArray];exact rfl) (by kernel_rfl) (by kernel_rfl) (by kernel_rfl) (by exact fun _ _ _ h=>h) (Or.inl ⟨by rfl,(by intro W hSw;go_simp<;>with_reducible rfl)⟩) (by assumption) ?_;try simp only  [Act.put,List.setIfInBounds_toArray,List.set_cons_zero,List.set_cons_succ]
          refine wpAnyH_take  (i:=4) (v:=?_) (by rw[List.getElem?_toArray];exact rfl) (by kernel_rfl) (by kernel_rfl) (by kernel_rfl) (by exact fun _ _ _ h=>h) (Or.inl ⟨by rfl,(by intro W hSw;go_simp<;>with_reducible rfl)⟩) (by assumption) ?_;try simp only  [Act.put,List.setIfInBounds_toArray,List.set_cons_zero,List.set_cons_succ]
          refine wpAnyH_take  (i:=6) (v:=?_) (by rw[List.getElem?_toArray];exact rfl) (by kernel_rfl) (by kernel_rfl) (by kernel_rfl) (by exact fun _ _ _ h=>h) (Or.inl ⟨by rfl,(by intro W hSw;go_simp<;>with_reducible rfl)⟩) (by assumption) ?_;try simp only  [Act.put,List.setIfInBounds_toArray,List.set_cons_zero,List.set_cons_succ]
          refine wpAnyH_take  (i:=7) (v:=?_) (by rw[List.getElem?_toArray];exact rfl) (by kernel_rfl) (by kernel_rfl) (by kernel_rfl) (by exact fun _ _ _ h=>h) (Or.inl ⟨by rfl,(by intro W hSw;go_simp<;>with_reducible rfl)⟩) (by assumption) ?_;try simp only  [Act.put,List.setIfInBounds_toArray,List.set_cons_zero,List.set_cons_succ]
          refine wpAnyH_take  (i:=8) (v:=?_) (by rw[List.getElem?_toArray];exact rfl) (by kernel_rfl) (by kernel_rfl) (by kernel_rfl) (by exact fun _ _ _ h=>h) (Or.inl ⟨by rfl,(by intro W hSw;go_simp<;>with_reducible rfl)⟩) (by assumption) ?_;try simp only  [Act.put,List.setIfInBounds_toArray,List.set_cons_zero,List.set_cons_succ]
          refine wpAnyH_take  (i:=9) (v:=?_) (by rw[List.getElem?_toArray];exact rfl) (by kernel_rfl) (by kernel_rfl) (by kernel_rfl) (by exact fun _ _ _ h=>h) (Or.inl ⟨by rfl,(by intro W hSw;go_simp<;>with_reducible rfl)⟩) (by assumption) ?_;try simp only  [Act.put,List.setIfInBounds_toArray,List.set_cons_zero,List.set_cons_succ]
          refine wpAnyH_take  (i:=10) (v:=?_) (by rw[List.getElem?_toArray];exact rfl) (by kernel_rfl) (by kernel_rfl) (by kernel_rfl) (by exact fun _ _ _ h=>h) (Or.inl ⟨by rfl,(by intro W hSw;go_simp<;>with_reducible rfl)⟩) (by assumption) ?_;try simp only  [Act.put,List.setIfInBounds_toArray,List.set_cons_zero,List.set_cons_succ]
          refine wpAnyH_ready  (rs:=[5]) (by kernel_rfl) (by simp) (AllReadyH.cons  (by rw[List.getElem?_toArray];exact rfl) (fun K9 hK9=>?_) AllReadyH.nil);go_simp;refine(Jb _ _ _ l x _ (HKA.out _ (Kept.drew _))).mono ?_;rintro e3 w3 ⟨rfl,kk⟩;have J1:=lH ((Kept.drew _).trans kk);clear kk;refine hK9.out _ _ (HS.out _ J1.out) (fun hHeld1=>?_);clear hK9 K9;try simp only  [Act.put,List.setIfInBounds_toArray,List.set_cons_zero,List.set_cons_succ]
          refine wpAnyH_ready  (rs:=[11]) (by kernel_rfl) (by simp) (AllReadyH.cons  (by rw[List.getElem?_toArray];exact rfl) (fun K9 hK9=>?_) AllReadyH.nil);go_simp;refine(Jb _ _ _ l' x _ (HKB.out _ J1.out)).mono ?_;rintro e4 w4 ⟨rfl,kk⟩;have J2:=lH ((J1.out).trans kk);clear kk;refine hK9.out _ _ (HS.out _ J2.out) (fun hHeld2=>?_);clear hK9 K9;try simp only  [Act.put,List.setIfInBounds_toArray,List.set_cons_zero,List.set_cons_succ]
          rw[HG1.out,HG2.out];refine wpAnyH_ready  (rs:=[12]) (by kernel_rfl) (by simp) (AllReadyH.cons  (by rw[List.getElem?_toArray];exact rfl) (fun K9 hK9=>?_) AllReadyH.nil);go_simp;refine(QF.out _).mono ?_;rintro e5 w5 ⟨rfl,kk⟩;have J3:=lH ((J2.out).trans kk);clear kk;refine hK9.out _ _ (HS.out _ J3.out) (fun hHeld3=>?_);clear hK9 K9;try simp only  [Act.put,List.setIfInBounds_toArray,List.set_cons_zero,List.set_cons_succ]
          refine wpAnyH_take  (i:=13) (v:=?_) (by rw[List.getElem?_toArray];exact rfl) (by kernel_rfl) (by kernel_rfl) (by kernel_rfl) (by exact fun _ _ _ h=>h) (Or.inl ⟨by rfl,(by intro W hSw;go_simp<;>with_reducible rfl)⟩) (by assumption) ?_;try simp only  [Act.put,List.setIfInBounds_toArray,List.set_cons_zero,List.set_cons_succ]
          refine wpAnyH_take  (i:=14) (v:=?_) (by rw[List.getElem?_toArray];exact rfl) (by kernel_rfl) (by kernel_rfl) (by kernel_rfl) (by exact fun _ _ _ h=>h) (Or.inl ⟨by rfl,(by intro W hSw;go_simp<;>with_reducible rfl)⟩) (by assumption) ?_;try simp only  [Act.put,List.setIfInBounds_toArray,List.set_cons_zero,List.set_cons_succ]
          refine wpAnyH_take  (i:=15) (v:=?_) (by rw[List.getElem?_toArray];exact rfl) (by kernel_rfl) (by kernel_rfl) (by kernel_rfl) (by exact fun _ _ _ h=>h) (Or.inl ⟨by rfl,(by intro W hSw;go_simp<;>with_reducible rfl)⟩) (by assumption) ?_;try simp only  [Act.put,List.setIfInBounds_toArray,List.set_cons_zero,List.set_cons_succ]
          refine wpAnyH_take  (i:=16) (v:=?_) (by rw[List.getElem?_toArray];exact rfl) (by kernel_rfl) (by kernel_rfl) (by kernel_rfl) (by exact fun _ _ _ h=>h) (Or.inl ⟨by rfl,(by intro W hSw;go_simp<;>with_reducible rfl)⟩) (by assumption) ?_;try simp only  [Act.put,List.setIfInBounds_toArray,List.set_cons_zero,List.set_cons_succ]
          refine wpAnyH_take  (i:=17) (v:=?_) (by rw[List.getElem?_toArray];exact rfl) (by kernel_rfl) (by kernel_rfl) (by kernel_rfl) (by exact fun _ _ _ h=>h) (Or.inl ⟨by rfl,(by intro W hSw;go_simp<;>with_reducible rfl)⟩) (by assumption) ?_;try simp only  [Act.put,List.setIfInBounds_toArray,List.set_cons_zero,List.set_cons_succ]
          refine wpAnyH_done (by kernel_rfl) ?_ _;have c1:=HS.out _ J3.out;have B6:=lH (HB2.out.trans (Below.mono J3.out HB2.out.size));have O6:=lH (HO.out.kept J3.out);have HOL:=lH (show (w5.alloc (.cells #[.string x,.int .i64 r1] 152)).ownsRow w2.heap.size 152 2 u8 acc.length (cellsOf acc) from(O6.out.1.alloc _));have HBS:=lH (show w2.heap.size≤w5.heap.size from B6.out.size);go_wp2_with (at_builtin;refine wpList_append_lies _ rfl _ _ _ rfl w2.heap.size 152 i0 _ 2 24 Tryz.underlying45 hi hz0 hz1 hz2 rfl (by decide) u8 acc.length (cellsOf acc) rfl HOL.out ⟨w5.heap.size,0,none⟩ 1 1 [.string x,.int .i64 r1] rfl rfl (qp _ _ _ _) (JT [(x,r1)]) (by decide) (by unfold maxLen;omega) (by omega) (by rw[World.size_alloc];have:=HBS.out;omega) (w5.heap.size+1) (World.size_alloc _ _) ?_;intro g cap1 w7 hown1 hgrow hg hlt7;refine Hid.out ?_)
          refine lH ?_;go_wp2;go_roundw
          case rel =>
           refine⟨k+1,acc++[(x,r1)],by omega,by go_num,HN.out,⟨?_,O6.out.2.snoc HSZ.out (by have:=RB.out;omega) (by have:=RB.out;omega)⟩,(B6.out.alloc HBS.out _).grown hgrow (by rw[World.size_alloc];have:=HBS.out;omega) (fun j hj=>(HOL.out.lt j hj).1),by rw[List.length_append];simp only[List.length_cons,List.length_nil];omega⟩;rw[List.length_append,JI];exact hown1
          case measure=>simp[intOf];omega
      · have hz':(r2==0)=false:=by simpa using hz
        have HE:=lH (show ji jR l l'=(r2,[]) by
         have:R=(r2,[]):=by rw[←HQ.out,HD.out];exact jbO HF.out hz
         rw[HM.out,this];simp only;rw[if_pos hz])
        clear hz;go_wp2;clear c1;refine wp_region_held_drew (S:=fun W=>W.cell? ⟨b,off+k,none⟩=some (.string x)) (by kernel_rfl) (HS.out _ (Kept.drew _)) (fun hHeld=>?_);refine wpAnyH_take  (i:=0) (v:=?_) (by rw[List.getElem?_toArray];exact rfl) (by kernel_rfl) (by kernel_rfl) (by kernel_rfl) (by exact fun _ _ _ h=>h) (Or.inl ⟨by rfl,(by intro W hSw;go_simp<;>with_reducible rfl)⟩) (by assumption) ?_;try simp only  [Act.put,List.setIfInBounds_toArray,List.set_cons_zero,List.set_cons_succ]
        refine wpAnyH_take  (i:=1) (v:=?_) (by rw[List.getElem?_toArray];exact rfl) (by kernel_rfl) (by kernel_rfl) (by kernel_rfl) (by exact fun _ _ _ h=>h) (Or.inl ⟨by rfl,(by intro W hSw;go_simp<;>with_reducible rfl)⟩) (by assumption) ?_;try simp only  [Act.put,List.setIfInBounds_toArray,List.set_cons_zero,List.set_cons_succ]
        refine wpAnyH_take  (i:=2) (v:=?_) (by rw[List.getElem?_toArray];exact rfl) (by kernel_rfl) (by kernel_rfl) (by kernel_rfl) (by exact fun _ _ _ h=>h) (Or.inl ⟨by rfl,(by intro W hSw;go_simp<;>with_reducible rfl)⟩) (by assumption) ?_;try simp only  [Act.put,List.setIfInBounds_toArray,List.set_cons_zero,List.set_cons_succ]
        refine wpAnyH_take  (i:=3) (v:=?_) (by rw[List.getElem?_toArray];exact rfl) (by kernel_rfl) (by kernel_rfl) (by kernel_rfl) (by exact fun _ _ _ h=>h) (Or.inl ⟨by rfl,(by intro W hSw;go_simp<;>with_reducible rfl)⟩) (by assumption) ?_;try simp only  [Act.put,List.setIfInBounds_toArray,List.set_cons_zero,List.set_cons_succ]
        refine wpAnyH_take  (i:=4) (v:=?_) (by rw[List.getElem?_toArray];exact rfl) (by kernel_rfl) (by kernel_rfl) (by kernel_rfl) (by exact fun _ _ _ h=>h) (Or.inl ⟨by rfl,(by intro W hSw;go_simp<;>with_reducible rfl)⟩) (by assumption) ?_;try simp only  [Act.put,List.setIfInBounds_toArray,List.set_cons_zero,List.set_cons_succ]
        refine wpAnyH_take  (i:=6) (v:=?_) (by rw[List.getElem?_toArray];exact rfl) (by kernel_rfl) (by kernel_rfl) (by kernel_rfl) (by exact fun _ _ _ h=>h) (Or.inl ⟨by rfl,(by intro W hSw;go_simp<;>with_reducible rfl)⟩) (by assumption) ?_;try simp only  [Act.put,List.setIfInBounds_toArray,List.set_cons_zero,List.set_cons_succ]
        refine wpAnyH_take  (i:=7) (v:=?_) (by rw[List.getElem?_toArray];exact rfl) (by kernel_rfl) (by kernel_rfl) (by kernel_rfl) (by exact fun _ _ _ h=>h) (Or.inl ⟨by rfl,(by intro W hSw;go_simp<;>with_reducible rfl)⟩) (by assumption) ?_;try simp only  [Act.put,List.setIfInBounds_toArray,List.set_cons_zero,List.set_cons_succ]
        refine wpAnyH_take  (i:=8) (v:=?_) (by rw[List.getElem?_toArray];exact rfl) (by kernel_rfl) (by kernel_rfl) (by kernel_rfl) (by exact fun _ _ _ h=>h) (Or.inl ⟨by rfl,(by intro W hSw;go_simp<;>with_reducible rfl)⟩) (by assumption) ?_;try simp only  [Act.put,List.setIfInBounds_toArray,List.set_cons_zero,List.set_cons_succ]
        refine wpAnyH_take  (i:=9) (v:=?_) (by rw[List.getElem?_toArray];exact rfl) (by kernel_rfl) (by kernel_rfl) (by kernel_rfl) (by exact fun _ _ _ h=>h) (Or.inl ⟨by rfl,(by intro W hSw;go_simp<;>with_reducible rfl)⟩) (by assumption) ?_;try simp only  [Act.put,List.setIfInBounds_toArray,List.set_cons_zero,List.set_cons_succ]
        refine wpAnyH_take  (i:=10) (v:=?_) (by rw[List.getElem?_toArray];exact rfl) (by kernel_rfl) (by kernel_rfl) (by kernel_rfl) (by exact fun _ _ _ h=>h) (Or.inl ⟨by rfl,(by intro W hSw;go_simp<;>with_reducible rfl)⟩) (by assumption) ?_;try simp only  [Act.put,List.setIfInBounds_toArray,List.set_cons_zero,List.set_cons_succ]
        refine wpAnyH_ready  (rs:=[5]) (by kernel_rfl) (by simp) (AllReadyH.cons  (by rw[List.getElem?_toArray];exact rfl) (fun K9 hK9=>?_) AllReadyH.nil);go_simp;refine(Jb _ _ _ l x _ (HKA.out _ (Kept.drew _))).mono ?_;rintro e3 w3 ⟨rfl,kk⟩;have J1:=lH ((Kept.drew _).trans kk);clear kk;refine hK9.out _ _ (HS.out _ J1.out) (fun hHeld1=>?_);clear hK9 K9;try simp only  [Act.put,List.setIfInBounds_toArray,List.set_cons_zero,List.set_cons_succ]
        refine wpAnyH_ready  (rs:=[11]) (by kernel_rfl) (by simp) (AllReadyH.cons  (by rw[List.getElem?_toArray];exact rfl) (fun K9 hK9=>?_) AllReadyH.nil);go_simp;refine(Jb _ _ _ l' x _ (HKB.out _ J1.out)).mono ?_;rintro e4 w4 ⟨rfl,kk⟩;have J2:=lH ((J1.out).trans kk);clear kk;refine hK9.out _ _ (HS.out _ J2.out) (fun hHeld2=>?_);clear hK9 K9;try simp only  [Act.put,List.setIfInBounds_toArray,List.set_cons_zero,List.set_cons_succ]
        rw[HG1.out,HG2.out];refine wpAnyH_ready  (rs:=[12]) (by kernel_rfl) (by simp) (AllReadyH.cons  (by rw[List.getElem?_toArray];exact rfl) (fun K9 hK9=>?_) AllReadyH.nil);go_simp;refine(QF.out _).mono ?_;rintro e5 w5 ⟨rfl,kk⟩;have J3:=lH ((J2.out).trans kk);clear kk;refine hK9.out _ _ (HS.out _ J3.out) (fun hHeld3=>?_);clear hK9 K9;try simp only  [Act.put,List.setIfInBounds_toArray,List.set_cons_zero,List.set_cons_succ]
        refine wpAnyH_take  (i:=13) (v:=?_) (by rw[List.getElem?_toArray];exact rfl) (by kernel_rfl) (by kernel_rfl) (by kernel_rfl) (by exact fun _ _ _ h=>h) (Or.inl ⟨by rfl,(by intro W hSw;go_simp<;>with_reducible rfl)⟩) (by assumption) ?_;try simp only  [Act.put,List.setIfInBounds_toArray,List.set_cons_zero,List.set_cons_succ]
        refine wpAnyH_take  (i:=14) (v:=?_) (by rw[List.getElem?_toArray];exact rfl) (by kernel_rfl) (by kernel_rfl) (by kernel_rfl) (by exact fun _ _ _ h=>h) (Or.inl ⟨by rfl,(by intro W hSw;go_simp<;>with_reducible rfl)⟩) (by assumption) ?_;try simp only  [Act.put,List.setIfInBounds_toArray,List.set_cons_zero,List.set_cons_succ]
        refine wpAnyH_take  (i:=15) (v:=?_) (by rw[List.getElem?_toArray];exact rfl) (by kernel_rfl) (by kernel_rfl) (by kernel_rfl) (by exact fun _ _ _ h=>h) (Or.inl ⟨by rfl,(by intro W hSw;go_simp<;>with_reducible rfl)⟩) (by assumption) ?_;try simp only  [Act.put,List.setIfInBounds_toArray,List.set_cons_zero,List.set_cons_succ]
        refine wpAnyH_take  (i:=16) (v:=?_) (by rw[List.getElem?_toArray];exact rfl) (by kernel_rfl) (by kernel_rfl) (by kernel_rfl) (by exact fun _ _ _ h=>h) (Or.inl ⟨by rfl,(by intro W hSw;go_simp<;>with_reducible rfl)⟩) (by assumption) ?_;try simp only  [Act.put,List.setIfInBounds_toArray,List.set_cons_zero,List.set_cons_succ]
        refine wpAnyH_take  (i:=17) (v:=?_) (by rw[List.getElem?_toArray];exact rfl) (by kernel_rfl) (by kernel_rfl) (by kernel_rfl) (by exact fun _ _ _ h=>h) (Or.inl ⟨by rfl,(by intro W hSw;go_simp<;>with_reducible rfl)⟩) (by assumption) ?_;try simp only  [Act.put,List.setIfInBounds_toArray,List.set_cons_zero,List.set_cons_succ]
        refine wpAnyH_done (by kernel_rfl) ?_ _;have c1:=HS.out _ J3.out;have B6:=lH (HB2.out.trans (Below.mono J3.out HB2.out.size));have O6:=lH (HO.out.kept J3.out);go_wp2;go_ret2
        rw[HE.out];exact Told.none (K2.out.trans B6.out)
    · have HE:=lH (show R=(0,acc) by
       have e:NS.drop k=[]:=List.drop_of_length_le (by rw[HNL.out];omega);rw[←HQ.out,e];rfl)
      have HKK:=lH (K2.out.trans (show Kept w2 wr from hB));obtain⟨av,cv,rfl,hv1,hv2,-⟩:=HO.out.at_;have HBL:=lH (jP.base_le HO.out K2.out.size);clear hB hv1 hv2;by_cases h9:acc.length≤8
      · have HW:=lH (show ji jR l l'=(0,acc) by
         rw[HM.out,HE.out];simp only;rw[if_neg (by decide),if_neg (by omega)])
        have QW:=lH (fun W=>jaQ av acc.length cv W h9);clear h9;go_wp2_with fail
        refine(QW.out _).mono ?_;rintro e9 w9 ⟨rfl,rfl⟩;go_wp2;go_ret2
        rw[HW.out];exact⟨_,rfl,HBL.out,HKK.out⟩
      · have HW:=lH (show ji jR l l'=(4,[]) by
         rw[HM.out,HE.out];simp only;rw[if_neg (by decide),if_pos (by omega)])
        have QW:=lH (fun W=>qh av acc.length cv W (by omega));clear h9;go_wp2_with fail
        refine(QW.out _).mono ?_;rintro e9 w9 ⟨rfl,rfl⟩;go_wp2;go_ret2
        rw[HW.out];exact Told.none HKK.out
 · have HE:=lH (qc (f:=jR) hc);obtain⟨c,hc2⟩:∃c,JV l l'=c:=⟨_,rfl⟩
   rw[hc2] at HE hc;have hc':(c==0)=false:=by simpa using hc
   have HC:=lH hc2;clear hr hr' hc hc2;go_enter Tryz.func94,Tryz.ntmps94;go_wp2_with fail
   refine(YE _ _ _ _ _ _ l l' _ HA.out HB.out).mono ?_;rw[HC.out];rintro e1 w1 ⟨rfl,k1⟩;have K1:=lH k1;clear k1;go_wp2;go_ret2
   rw[HE.out];exact Told.none K1.out
theorem jhr {v v':Value} {l l' m:V} {c:Int} {w:World} (h:Reads w v l) (h':Reads w v' l') (e:ji jR l l'=(c,m)) :
 Calls Tryz.prog 94 #[v,v'] w fun e w'=>∃x,e=.returned (.tuple #[x,.int .i64 c])∧Reads w' x m∧Kept w w':=by
 obtain⟨a,cap,rfl,_,_,hb⟩:=h;obtain⟨a9,cap9,rfl,_,_,hr⟩:=h';refine(jeJ a a9 _ cap _ cap9 l l' w hb hr).mono ?_;rw[e];rintro e w' ⟨x,rfl,ho,k⟩;exact⟨x,rfl,ho.at_,k⟩
end Go.Proofs.YtgfoenfaohhjcaaGreat.Vec
namespace Go.Proofs.YtgfoenfaohhjcaaGreat
open Go.RowKit
theorem jgi {s:Clu} {x:ByteArray} {c:Int} {u:Vec.V} (h:JH s x=(c,u)) (hc:c≠0):Jz s x=(c,[]):=by
 unfold JH at h;unfold Jz
 cases hf:jm s.nodes x with
 | none =>
  rw[hf] at h;dsimp only at h ⊢;rw[(Prod.mk.inj h).1]
 | some n =>
  rw[hf] at h;dsimp only at h ⊢;rw[h,if_neg hc]
theorem jhh {s:Clu} {x:ByteArray} {u:Vec.V} (h:JH s x=(0,u)):∃n,jm s.nodes x=some n∧Jz s x=Vec.ji Vec.jR n.cap u:=by
 unfold JH at h;unfold Jz
 cases hf:jm s.nodes x with
 | none =>
  rw[hf] at h
  cases (Prod.mk.inj h).1
 | some n =>
  rw[hf] at h;dsimp only at h ⊢;exact⟨n,rfl,by rw[h,if_pos rfl]⟩
theorem jx.nodesR {w:World} {v1 v2 v3:Value} {s:Clu} (h:jx w (Jm v1 v2 v3) s):zI w v1 s.nodes:=by
 obtain⟨_,_,_,e,g0⟩:=h
 cases e
 exact g0.nodes
theorem qt {v:Value} {s:Clu} {w:World} (h:jx w v s) (x:ByteArray):Calls Tryz.prog 58 #[v,.string x] w (Zs (Jz s x) w):=by
 have h0:=h;obtain⟨v1,v2,v3,rfl,⟨a,cap,rfl,-,-,-⟩,⟨b,cp,rfl,-,-,-⟩,⟨d,cb,rfl,-,-,-⟩⟩:=h0;obtain⟨len,hl1⟩:∃q,s.nodes.length=q:=⟨_,rfl⟩
 obtain⟨m,hl2⟩:∃q,s.pods.length=q:=⟨_,rfl⟩
 obtain⟨n,hl3⟩:∃q,s.buds.length=q:=⟨_,rfl⟩
 rw[hl1,hl2,hl3] at h ⊢;clear hl1 hl2 hl3;obtain⟨Z,hZ⟩:∃Z,w.alloc (.cells #[.slice a len cap,.slice b m cp,.slice d n cb] 56)=Z:=⟨_,rfl⟩
 have hkz:Kept w Z:=by rw[←hZ];exact ja _ _
 have HQ:=lH (show je w.heap.size [.slice a len cap,.slice b m cp,.slice d n cb] Z from jc w (.slice a len cap) [.slice b m cp,.slice d n cb] 56 Z (by rw[hZ];exact Kept.refl _));have HV:=lH (h.kept hkz);have HKZ:=lH hkz;clear h hkz;obtain⟨c,u,hcu⟩:∃c u,JH s x=(c,u):=⟨_,_,rfl⟩
 have HCU:=lH hcu;have cq0:=(HQ.out.kept (Kept.refl _)).at_ 0 _ rfl;have cq1:=(HQ.out.kept (Kept.refl _)).at_ 1 _ rfl;have cq2:=(HQ.out.kept (Kept.refl _)).at_ 2 _ rfl;go_enter Tryz.func58,Tryz.ntmps58;go_upto_region 1 with fail
 try rw[hZ]
 clear hZ;go_wp2_with fail
 refine(jcd HV.out x).mono ?_;rw[hcu];rintro e w1 ⟨y1,rfl,hy,kk⟩;have HY:=lH hy;have K:=lH kk;clear hy kk hcu cq0 cq1 cq2;have cq0:=(HQ.out.kept K.out).at_ 0 _ rfl;have cq1:=(HQ.out.kept K.out).at_ 1 _ rfl;have cq2:=(HQ.out.kept K.out).at_ 2 _ rfl;dsimp only at HY;by_cases hc:¬c=0
 · have hcn:(c != 0)=true:=by simpa using hc
   have HX:=lH (jgi HCU.out hc);clear hc;go_wp2;go_ret2
   exact Zs.mk' HX.out (Yh _) (HKZ.out.trans K.out)
 obtain rfl:c=0:=Decidable.of_not_not hc;obtain⟨n9,hf,hfr⟩:=jhh HCU.out;have HFN:=lH hf;have HFR:=lH hfr;clear hc hf hfr;go_wp2_with fail
 refine(jbQ (HV.out.kept K.out).nodesR).mono ?_;rw[HFN.out];rintro e w2 ⟨y2,rfl,hr,kk⟩;obtain⟨q1,q2,q3,rfl,hat⟩:=hr;have g1:=hat.cap;have g2:=hat.labels;have g3:=hat.taints;have HCP:=lH hat.cap;obtain⟨b1,d1,rfl,-,-,-⟩:=g1;obtain⟨b2,d2,rfl,-,-,-⟩:=g2;obtain⟨b3,d3,rfl,-,-,-⟩:=g3;try unfold zJ
 dsimp only[Option.getD] at *;obtain⟨n1,hn1⟩:∃q,n9.cap.length=q:=⟨_,rfl⟩
 obtain⟨n2,hn2⟩:∃q,n9.labels.length=q:=⟨_,rfl⟩
 obtain⟨n3,hn3⟩:∃q,n9.taints.length=q:=⟨_,rfl⟩
 try rw[hn1] at HCP
 try rw[hn1,hn2,hn3]
 have K:=lH (K.out.trans kk);have HY:=lH (HY.out.kept kk);clear hat kk hn1 hn2 hn3 cq0 cq1 cq2;obtain⟨W3,hW3⟩:∃W,w2.alloc (.cells #[.string n9.name,.slice b1 n1 d1,.slice b2 n2 d2,.slice b3 n3 d3,.bool n9.cordon] 107)=W:=⟨_,rfl⟩
 have hk3:Kept w2 W3:=by rw[←hW3];exact ja _ _
 have HQX:=lH (show je w2.heap.size [.string n9.name,.slice b1 n1 d1,.slice b2 n2 d2,.slice b3 n3 d3,.bool n9.cordon] W3 from jc w2 (.string n9.name) [.slice b1 n1 d1,.slice b2 n2 d2,.slice b3 n3 d3,.bool n9.cordon] 107 W3 (by rw[hW3];exact Kept.refl _));obtain⟨xq,hxq⟩:∃q,w2.heap.size=q:=⟨_,rfl⟩
 rw[hxq] at HQX;have HW3:=lH hW3;clear hW3;go_upto_region 5 with fail
 try rw[HW3.out]
 try rw[hxq]
 have K:=lH (K.out.trans hk3);have HY:=lH (HY.out.kept hk3);have HCP:=lH (HCP.out.kept hk3);clear hk3 HW3 hxq;have xq0:=HQX.out.at_ 0 _ rfl;have xq1:=HQX.out.at_ 1 _ rfl;have xq2:=HQX.out.at_ 2 _ rfl;have xq3:=HQX.out.at_ 3 _ rfl;have xq4:=HQX.out.at_ 4 _ rfl;obtain⟨c3,m3,hcm⟩:∃c m,Vec.ji Vec.jR n9.cap u=(c,m):=⟨_,_,rfl⟩
 have HX:=lH (HFR.out.trans hcm);have HCC:=lH (Vec.jhr HCP.out HY.out hcm);clear hcm;go_wp2_with fail
 refine HCC.out.mono ?_;rintro e w4 ⟨y4,rfl,hy,kk⟩;have HY4:=lH hy;have K:=lH (K.out.trans kk);clear hy kk;go_wp2;go_ret2
 exact Zs.mk' HX.out HY4.out (HKZ.out.trans K.out)
open Go.RowKit Go.Sort
theorem jbM (a:Option Addr) (len cap:Nat) (l:NL) (t1 t2:ByteArray) (t3:Bool) (w:World) (hr:jh jr w a len l) :
 Calls Tryz.prog 91 #[.slice a len cap,NV t1 t2 t3] w fun e w'=>e=.returned (.bool (JS l (t1,t2,t3)))∧Grw w w':=by
 have hl:=hr.1;have hm:=hr.2.1;unfold maxLen at hm;rcases hr.form with h0 | ⟨b,off,rfl⟩
 · subst h0;have HE:=lH (show JS l (t1,t2,t3)=false by rw[List.eq_nil_of_length_eq_zero hl];rfl);clear hr hl;go_enter Tryz.func91,Tryz.ntmps91;go_wp2;refine wp_loop_rounds 1 ?_;rw[rounds_succ];go_wp2;go_ret;exact⟨jf HE.out.symm,Grw.alloc _ _⟩
 · have HR:=lH hr;have HL:=lH hl;clear hr hl;go_enter Tryz.func91,Tryz.ntmps91;go_wp2;go_loopw [5] (fun i wr=>∃k:Nat,k≤len∧i=.int .i64 k∧JS (l.drop k) (t1,t2,t3)=JS l (t1,t2,t3)∧Grw (w.alloc (.cells #[.string t1,.string t2,.bool t3] 111)) wr) (fun i _=>len-(intOf i).toNat)
   case atStart=>exact⟨0,Nat.zero_le _,rfl,rfl,Grw.refl _⟩
   case round =>
    obtain⟨k,hk,rfl,hrest,hG⟩:=hrel;have hK:=hG.kept;have HGG:=lH hG;have HGW:=lH ((Grw.alloc w _).trans hG);have hKw:Kept w wr:=(ja w _).trans hK;have tn:=(Zj.new w t1 t2 t3 111).kept hK;have g1:=tn.1;have g2:=tn.2.1;dsimp only at g1 g2;by_cases hlt:k<len
    · obtain⟨x,y,m,hx,hd,hb,hz,hz2,c1,c2,c3⟩:=(HR.out.kept hKw).tri hlt;have HK:=lH hKw;have HKK:=lH hK;obtain⟨q,hq⟩:∃q,Jw (t1,t2,t3) (x,y,m)=q:=⟨_,rfl⟩
      have HS:=lH (hrest.symm.trans ((congrArg (fun z=>JS z (t1,t2,t3)) hd).trans (show JS ((x,y,m)::l.drop (k+1)) (t1,t2,t3)=(q||JS (l.drop (k+1)) (t1,t2,t3)) by rw[←hq];rfl)));obtain⟨q0,hq0⟩:∃q,(x.toList==([]:List UInt8))=q:=⟨_,rfl⟩
      obtain⟨q1,hq1⟩:∃q,(x.toList==t1.toList)=q:=⟨_,rfl⟩
      obtain⟨q2,hq2⟩:∃q,(y.toList==t2.toList)=q:=⟨_,rfl⟩
      have HQ:=lH (show q=((q0||q1)&&(m||q2)) by rw[←hq];unfold Jw;rw[Jk,hq0];unfold eqS;rw[hq1,hq2]);have hlt':(k:Int)<(len:Int):=by omega
      clear tn hK hKw hrest hx hd hq hG
      cases q0 with
      | true =>
       cases m with
       | true =>
        go_wp2_with fail
        go_quiet (fail)
        go_wp2;go_ret;exact⟨jf (HS.out.trans (by rw[HQ.out];rfl)).symm,HGW.out.trans (Grw.drewN _ _)⟩
       | false =>
        cases q2 with
        | true =>
         go_wp2_with fail
         go_quiet (fail)
         go_wp2;go_ret;exact⟨jf (HS.out.trans (by rw[HQ.out];rfl)).symm,HGW.out.trans (Grw.drewN _ _)⟩
        | false =>
         go_wp2_with fail
         go_quiet (fail)
         go_wp2;go_roundw
         case rel=>exact⟨k+1,by omega,by go_num,(HS.out.trans (by rw[HQ.out];rfl)).symm,HGG.out.trans (Grw.drewN _ _)⟩
         case measure=>simp[intOf];omega
      | false =>
       cases q1 with
       | true =>
        cases m with
        | true =>
         go_wp2_with fail
         go_quiet (fail)
         go_wp2;go_ret;exact⟨jf (HS.out.trans (by rw[HQ.out];rfl)).symm,HGW.out.trans (Grw.drewN _ _)⟩
        | false =>
         cases q2 with
         | true =>
          go_wp2_with fail
          go_quiet (fail)
          go_wp2;go_ret;exact⟨jf (HS.out.trans (by rw[HQ.out];rfl)).symm,HGW.out.trans (Grw.drewN _ _)⟩
         | false =>
          go_wp2_with fail
          go_quiet (fail)
          go_wp2;go_roundw
          case rel=>exact⟨k+1,by omega,by go_num,(HS.out.trans (by rw[HQ.out];rfl)).symm,HGG.out.trans (Grw.drewN _ _)⟩
          case measure=>simp[intOf];omega
       | false =>
        go_wp2_with fail
        go_quiet (fail)
        go_wp2;go_roundw
        case rel=>exact⟨k+1,by omega,by go_num,(HS.out.trans (by rw[HQ.out];rfl)).symm,HGG.out.trans (Grw.drewN _ _)⟩
        case measure=>simp[intOf];omega
    · have HKK:=lH hKw;have HS:=lH (hrest.symm.trans (congrArg (fun z=>JS z (t1,t2,t3)) (zC (by rw[HL.out];exact hlt))));clear tn hK hKw hrest hG;go_wp2;go_ret;exact⟨jf (HS.out.trans rfl).symm,HGW.out⟩
theorem jbY (a a':Option Addr) (len cap len' cap':Nat) (l t:NL) (w:World) (hr:jh jr w a len l) (hr':jh jr w a' len' t) :
 Calls Tryz.prog 56 #[.slice a len cap,.slice a' len' cap'] w fun e w'=>e=.returned (.tuple #[NV (wT (jT l t)).1 (wT (jT l t)).2.1 (wT (jT l t)).2.2,.bool (jT l t).isSome])∧Kept w w':=by
 have hl:=hr'.1;have hm:=hr'.2.1;unfold maxLen at hm;rcases hr'.form with h0 | ⟨b,off,rfl⟩
 · subst h0;have HE:=lH (show jT l t=none by rw[List.eq_nil_of_length_eq_zero hl];rfl);rw[HE.out];clear hr hr' hl;go_enter Tryz.func56,Tryz.ntmps56;go_wp2;refine wp_loop_rounds 1 ?_;rw[rounds_succ];go_wp2;(try simp only[Exit.inBlock,Exit.then])
   refine bodyPost_ret (v:=.tuple #[NV ⟨#[]⟩ ⟨#[]⟩ false,.bool false]) (by simp[results,Tryz.results56,go_sem]) rfl ?_;exact⟨rfl,ja _ _⟩
 · have HR:=lH hr;have HR':=lH hr';have HL:=lH hl;clear hr hr' hl;go_enter Tryz.func56,Tryz.ntmps56;go_wp2;go_loopw [6] (fun i wr=>∃k:Nat,k≤len'∧i=.int .i64 k∧jT l (t.drop k)=jT l t∧Kept (w.alloc (.cells #[.string ⟨#[]⟩,.string ⟨#[]⟩,.bool false] 111)) wr) (fun i _=>len'-(intOf i).toNat)
   case atStart=>exact⟨0,Nat.zero_le _,rfl,rfl,Kept.refl _⟩
   case round =>
    obtain⟨k,hk,rfl,hrest,hK⟩:=hrel;have hKw:Kept w wr:=(ja w _).trans hK;have tn:=(Zj.new w ⟨#[]⟩ ⟨#[]⟩ false 111).kept hK;have d1:=tn.1;have d2:=tn.2.1;have d3:=tn.2.2;dsimp only at d1 d2 d3;have hbs:w.heap.size<wr.heap.size:=by have:=hK.size;simp at this;omega
    have fr:=jb0 w ⟨#[]⟩ ⟨#[]⟩ false 111;have z1:=zF hK (by simp) fr.1;have z2:=zF hK (by simp) fr.2.1;have z3:=zF hK (by simp) fr.2.2;clear tn fr;by_cases hlt:k<len'
    · obtain⟨x,y,m,hx,hd,hb,hz,hz2,c1,c2,c3⟩:=(HR'.out.kept hKw).tri hlt;have HK:=lH hKw;obtain⟨q,hq⟩:∃q,JS l (x,y,m)=q:=⟨_,rfl⟩
      have HS:=lH (hrest.symm.trans ((congrArg (jT l) hd).trans (qP.trans (by rw[hq]))));have HC:=lH (fun W (h:Kept w W)=>jbM a len cap l x y m W (HR.out.kept h));rw[hq] at HC;have HKK:=lH hK;clear hK hrest hx hd hq hKw
      cases m with
      | false =>
       go_wp2_with fail
       go_roundw
       case rel=>exact⟨k+1,by omega,by go_num,HS.out.symm,HKK.out⟩
       case measure=>simp[intOf];omega
      | true =>
       cases q with
       | true =>
        go_wp2_with (go_at_call 91;refine(HC.out _ HK.out).mono ?_;rintro e w1 ⟨rfl,k1⟩;have K1:=lH k1.kept;clear k1)
        go_roundw
        case rel=>exact⟨k+1,by omega,by go_num,HS.out.symm,HKK.out.trans K1.out⟩
        case measure=>simp[intOf];omega
       | false =>
        have HW:=lH (show jT l t=some (x,y,true) from HS.out);go_wp2_with (go_at_call 91;refine(HC.out _ HK.out).mono ?_;rintro e w1 ⟨rfl,k1⟩;have K1:=lH k1.kept;have y1:=zF K1.out hbs z1;have y2:=zF K1.out hbs z2;have y3:=zF K1.out hbs z3;have f1:=cell_later K1.out d1;have f2:=cell_later K1.out d2;have f3:=cell_later K1.out d3;have g1:=cell_later K1.out c1;have g2:=cell_later K1.out c2;have g3:=cell_later K1.out c3;clear k1)
        (try simp only[Exit.inBlock,Exit.then])
        have s3:=YJ w1 w.heap.size (.string x) (.string y) (.bool true) f1 f2 f3;refine bodyPost_ret (v:=.tuple #[NV x y true,.bool true]) (by simp[results,Tryz.results56,go_sem,s3.1,s3.2.1,s3.2.2]) rfl ?_;exact⟨by rw[HW.out];rfl,zR (zR (zR (HK.out.trans K1.out) (Nat.le_refl _) _) (Nat.le_refl _) _) (Nat.le_refl _) _⟩
    · have HKK:=lH hKw;have HS:=lH (show jT l t=none from(hrest.symm.trans (congrArg (jT l) (zC (by rw[HL.out];exact hlt)))));clear hK hrest hKw;go_wp2;(try simp only[Exit.inBlock,Exit.then])
      have s3:=YJ wr w.heap.size (.string ⟨#[]⟩) (.string ⟨#[]⟩) (.bool false) d1 d2 d3;refine bodyPost_ret (v:=.tuple #[NV ⟨#[]⟩ ⟨#[]⟩ false,.bool false]) (by simp[results,Tryz.results56,go_sem,s3.1,s3.2.1,s3.2.2]) rfl ?_;exact⟨by rw[HS.out];rfl,zR (zR (zR HKK.out (Nat.le_refl _) _) (Nat.le_refl _) _) (Nat.le_refl _) _⟩
theorem je2 {v v':Value} {l t:NL} {x y:ByteArray} {m b:Bool} {w:World} (h:Reads jr w v l) (h':Reads jr w v' t) (hx:wT (jT l t)=(x,y,m)) (hb:(jT l t).isSome=b) :
 Calls Tryz.prog 56 #[v,v'] w (Say (.tuple #[NV x y m,.bool b]) w):=by
 obtain⟨a,cap,rfl,_,_,hr⟩:=h;obtain⟨a',cap',rfl,_,_,hr'⟩:=h';exact(jbY a a' _ cap _ cap' l t w hr hr').mono fun e w' ⟨he,k⟩=>⟨by rw[he,hx,hb],k⟩
theorem qE (s1 s2 s3:Option Addr) (n1 e1 n2 e2 n3 e3:Nat) (a1 a2 a3 a4:Option Addr) (m1 c1 m2 c2 m3 c3 m4 c4:Nat) (p:Pd) (s:Clu) (name:ByteArray) (w:World) (hs:jx w (Jm (.slice s1 n1 e1) (.slice s2 n2 e2) (.slice s3 n3 e3)) s) (hl:zw s) (hA:Asc s.pods) (ha:Z7 s.nodes) (hk:∀n ∈ s.nodes,jY n=0) (hp:jz w (.slice a1 m1 c1) (.slice a2 m2 c2) (.slice a3 m3 c3) (.slice a4 m4 c4) p):Calls Tryz.prog 16 #[.agg #[.slice s1 n1 e1,.slice s2 n2 e2,.slice s3 n3 e3],jv p (.slice a1 m1 c1) (.slice a2 m2 c2) (.slice a3 m3 c3) (.slice a4 m4 c4),.string name] w (Say (.int .i64 (Js s p name)) w):=by
 obtain⟨Z,hZ⟩:∃Z,(w.alloc (.cells #[.slice s1 n1 e1,.slice s2 n2 e2,.slice s3 n3 e3] 56)).alloc (.cells #[.string p.name,.string p.owner,.int .i64 p.prio,.slice a1 m1 c1,.slice a2 m2 c2,.slice a3 m3 c3,.slice a4 m4 c4,.string p.key,.int .i64 p.most,.string p.node,.bool p.hold] 50)=Z:=⟨_,rfl⟩
 have hkz:Kept w Z:=by rw[←hZ];exact jn _ _ _
 have HB1:=lH (jc w (.slice s1 n1 e1) [.slice s2 n2 e2,.slice s3 n3 e3] 56 Z (by rw[←hZ];exact ja _ _));have HB2:=lH (show je (w.heap.size+1) [.string p.name,.string p.owner,.int .i64 p.prio,.slice a1 m1 c1,.slice a2 m2 c2,.slice a3 m3 c3,.slice a4 m4 c4,.string p.key,.int .i64 p.most,.string p.node,.bool p.hold] Z by
  have dd:=jc (w.alloc (.cells #[.slice s1 n1 e1,.slice s2 n2 e2,.slice s3 n3 e3] 56)) (.string p.name) [.string p.owner,.int .i64 p.prio,.slice a1 m1 c1,.slice a2 m2 c2,.slice a3 m3 c3,.slice a4 m4 c4,.string p.key,.int .i64 p.most,.string p.node,.bool p.hold] 50 Z (by rw[hZ];exact Kept.refl _);rw[World.size_alloc] at dd;exact dd)
 have HKZ:=lH hkz;have HHB:=lH (show Z.heap[w.heap.size]?=some (.cells #[.slice s1 n1 e1,.slice s2 n2 e2,.slice s3 n3 e3] 56) by
  have h1:=World.alloc_heap_new w (.cells #[.slice s1 n1 e1,.slice s2 n2 e2,.slice s3 n3 e3] 56);have k2:=ja (w.alloc (.cells #[.slice s1 n1 e1,.slice s2 n2 e2,.slice s3 n3 e3] 56)) (.cells #[.string p.name,.string p.owner,.int .i64 p.prio,.slice a1 m1 c1,.slice a2 m2 c2,.slice a3 m3 c3,.slice a4 m4 c4,.string p.key,.int .i64 p.most,.string p.node,.bool p.hold] 50);rw[hZ] at k2;exact(k2.block _ (by simp)).trans h1)
 have HS:=lH (hs.kept hkz);have HP0:=lH hp;have HL:=lH hl;have HA:=lH hA;have HAS:=lH ha;have HCK:=lH hk;clear hs hkz hp hA ha hk hl;obtain⟨sd,hsd⟩:∃z,zM s p.name=z:=⟨_,rfl⟩
 have HSD:=lH hsd;have HLD:=lH (show zw sd by rw[←hsd];exact Xk HL.out p.name);have HNE:=lH (show sd.nodes=s.nodes by rw[←hsd];rfl);have HDR:=jgD HS.out p.name HL.out.podsN;rw[jcR HA.out,hsd] at HDR;try unfold Jm at HDR
 have HDR:=lH HDR;clear hsd;have y0:=HB1.out.at_ 0 _ rfl;have y1:=HB1.out.at_ 1 _ rfl;have y2:=HB1.out.at_ 2 _ rfl;have r0:=HB2.out.at_ 0 _ rfl;unfold jv;go_enter Tryz.func16,Tryz.ntmps16;go_wp2_with fail
 try rw[hZ]
 clear hZ;refine HDR.out.mono ?_;rintro e w1 ⟨yv,rfl,hy,kk⟩;obtain⟨t1,f1,l1,t2,f2,l2,t3,f3,l3,rfl⟩:=hy.spelt;have HY:=lH hy;have HHB:=lH ((kk.block w.heap.size HB1.out.lt).trans HHB.out);have HB1:=lH (HB1.out.kept kk);have HB2:=lH (HB2.out.kept kk);have K:=lH (HKZ.out.trans kk);clear kk hy HDR y0 y1 y2 r0;have y0:=HB1.out.at_ 0 _ rfl;have y1:=HB1.out.at_ 1 _ rfl;have y2:=HB1.out.at_ 2 _ rfl;have q0:=HB1.out.free 0;have q1:=HB1.out.free 1;have q2:=HB1.out.free 2;have PP:=lH (jL (vs:=[.slice t1 f1 l1,.slice t2 f2 l2,.slice t3 f3 l3]) HB1.out rfl);obtain⟨WE,hWE⟩:∃W,w1.setCells w.heap.size 0 [.slice t1 f1 l1,.slice t2 f2 l2,.slice t3 f3 l3]=W:=⟨_,rfl⟩
 have hWE2:(((w1.setCell ⟨w.heap.size,0,none⟩ (.slice t1 f1 l1)).setCell ⟨w.heap.size,1,none⟩ (.slice t2 f2 l2)).setCell ⟨w.heap.size,2,none⟩ (.slice t3 f3 l3))=WE:=hWE;rw[hWE] at PP;have HY:=lH (show jx WE (.agg #[.slice t1 f1 l1,.slice t2 f2 l2,.slice t3 f3 l3]) sd from jF (w:=w1) (N:=w.heap.size) PP.out.size PP.out.far (jG HHB.out) HY.out);have K:=lH (show Kept w WE from PP.out.below _ _ (Nat.le_refl _) K.out);have HB2:=lH (HB2.out.block (PP.out.far _ (by omega)));have HWE:=lH hWE2;clear hWE hWE2;have HB1:=lH PP.out.cells;have HP:=lH (HP0.out.kept K.out);clear PP;go_upto_region 2 with fail
 rw[HWE.out];clear HWE y0 y1 y2 q0 q1 q2;have y0:=HB1.out.at_ 0 _ rfl;have y1:=HB1.out.at_ 1 _ rfl;have y2:=HB1.out.at_ 2 _ rfl;go_wp2_with fail
 refine(YG t1 f1 l1 sd.nodes name WE HY.out.nAt.1).mono ?_;rintro e wy ⟨v,rfl,hv,kk⟩;obtain⟨b1,k1,d1,b2,k2,d2,b3,k3,d3,rfl,hat⟩:=hv.spelt;have HB1:=lH (HB1.out.kept kk);have HB2:=lH (HB2.out.kept kk);have HY:=lH (HY.out.kept kk);have HP:=lH (HP.out.kept kk);have K:=lH (K.out.trans kk);clear kk hv y0 y1 y2
 cases hfo:jm sd.nodes name with
 | none =>
  have HV:=lH (show Js s p name=3 by unfold Js;rw[HSD.out];exact qk hfo);clear hfo hat;go_wp2;go_ret;exact⟨jb HV.out.symm,K.out.trans (ja _ _)⟩
 | some n =>
  rw[hfo] at hat;have hat:zl wy (.slice b1 k1 d1) (.slice b2 k2 d2) (.slice b3 k3 d3) n:=hat;have HE:=lH (show Js s p name=zH sd p n name by unfold Js;rw[HSD.out];exact qg hfo);clear hfo;obtain⟨cd,hcd⟩:∃c,n.cordon=c:=⟨_,rfl⟩
  obtain⟨wz,hwz⟩:∃W,wy.alloc (.cells #[.string n.name,.slice b1 k1 d1,.slice b2 k2 d2,.slice b3 k3 d3,.bool cd] 107)=W:=⟨_,rfl⟩
  have kk:Kept wy wz:=by rw[←hwz];exact ja _ _
  have HNB:=lH (jc wy (.string n.name) [.slice b1 k1 d1,.slice b2 k2 d2,.slice b3 k3 d3,.bool cd] 107 wz (by rw[hwz];exact Kept.refl _));have HAT:=lH (hat.kept kk);have HWZ:=lH hwz;obtain⟨bn,hbn⟩:∃z,wy.heap.size=z:=⟨_,rfl⟩
  rw[hbn] at HNB;have HBN:=lH hbn;have HB1:=lH (HB1.out.kept kk);have HB2:=lH (HB2.out.kept kk);have HY:=lH (HY.out.kept kk);have HP:=lH (HP.out.kept kk);have K:=lH (K.out.trans kk);clear kk hat hwz hbn;try simp only[Option.getD_some]
  rw[hcd];have HCD:=lH hcd;clear hcd;go_upto_region 3 with fail
  rw[HWZ.out];try rw[HBN.out]
  clear HWZ HBN;obtain⟨mt,hmt⟩:∃t,zL p.sel n.labels=t:=⟨_,rfl⟩
  have HW:=lH (show Ju p n=(!cd&&mt) by unfold Ju;rw[hmt,HCD.out]);have HMT:=lH (jfC HP.out.sel HAT.out.labels hmt);clear hmt;have r0:=HB2.out.at_ 0 _ rfl;have r1:=HB2.out.at_ 1 _ rfl;have r2:=HB2.out.at_ 2 _ rfl;have r3:=HB2.out.at_ 3 _ rfl;have r4:=HB2.out.at_ 4 _ rfl;have r5:=HB2.out.at_ 5 _ rfl;have r6:=HB2.out.at_ 6 _ rfl;have r7:=HB2.out.at_ 7 _ rfl;have r8:=HB2.out.at_ 8 _ rfl;have r9:=HB2.out.at_ 9 _ rfl;have r10:=HB2.out.at_ 10 _ rfl;have z0:=HNB.out.at_ 0 _ rfl;have z1:=HNB.out.at_ 1 _ rfl;have z2:=HNB.out.at_ 2 _ rfl;have z3:=HNB.out.at_ 3 _ rfl;have z4:=HNB.out.at_ 4 _ rfl;have y0:=HB1.out.at_ 0 _ rfl;have y1:=HB1.out.at_ 1 _ rfl;have y2:=HB1.out.at_ 2 _ rfl
  cases cd with
  | true =>
   go_wp2;go_ret;exact⟨jb (HE.out.trans (Y1 HW.out)).symm,K.out⟩
  | false =>
   go_wp2_with fail
   refine HMT.out.mono ?_;rintro e w3 ⟨rfl,kk⟩;have HB1:=lH (HB1.out.kept kk);have HB2:=lH (HB2.out.kept kk);have HY:=lH (HY.out.kept kk);have HP:=lH (HP.out.kept kk);have HNB:=lH (HNB.out.kept kk);have HAT:=lH (HAT.out.kept kk);have K:=lH (K.out.trans kk);clear kk HMT r0 r1 r2 r3 r4 r5 r6 r7 r8 r9 r10 z0 z1 z2 z3 z4 y0 y1 y2
   cases mt with
   | false =>
    go_wp2;go_ret;exact⟨jb (HE.out.trans (Y1 HW.out)).symm,K.out⟩
   | true =>
    have r0:=HB2.out.at_ 0 _ rfl;have r1:=HB2.out.at_ 1 _ rfl;have r2:=HB2.out.at_ 2 _ rfl;have r3:=HB2.out.at_ 3 _ rfl;have r4:=HB2.out.at_ 4 _ rfl;have r5:=HB2.out.at_ 5 _ rfl;have r6:=HB2.out.at_ 6 _ rfl;have r7:=HB2.out.at_ 7 _ rfl;have r8:=HB2.out.at_ 8 _ rfl;have r9:=HB2.out.at_ 9 _ rfl;have r10:=HB2.out.at_ 10 _ rfl;have z0:=HNB.out.at_ 0 _ rfl;have z1:=HNB.out.at_ 1 _ rfl;have z2:=HNB.out.at_ 2 _ rfl;have z3:=HNB.out.at_ 3 _ rfl;have z4:=HNB.out.at_ 4 _ rfl;have y0:=HB1.out.at_ 0 _ rfl;have y1:=HB1.out.at_ 1 _ rfl;have y2:=HB1.out.at_ 2 _ rfl;obtain⟨t,ht⟩:∃t,(jT p.tols n.taints).isSome=t:=⟨_,rfl⟩
    obtain⟨⟨x,y,mm⟩,hx⟩:∃x,wT (jT p.tols n.taints)=x:=⟨_,rfl⟩
    have HBO:=lH (show J6 p n=(!t) by unfold J6;rw[ht]);go_wp2_with fail
    refine(je2 HP.out.tols HAT.out.taints hx ht).mono ?_;rintro e w4 ⟨rfl,kk⟩;have HB1:=lH (HB1.out.kept kk);have HB2:=lH (HB2.out.kept kk);have HY:=lH (HY.out.kept kk);have HP:=lH (HP.out.kept kk);have HNB:=lH (HNB.out.kept kk);have HAT:=lH (HAT.out.kept kk);have K:=lH (K.out.trans kk);clear kk ht hx r0 r1 r2 r3 r4 r5 r6 r7 r8 r9 r10 z0 z1 z2 z3 z4 y0 y1 y2;obtain⟨w5,hw5⟩:∃W,w4.alloc (.cells #[.string x,.string y,.bool mm] 111)=W:=⟨_,rfl⟩
    have kk:Kept w4 w5:=by rw[←hw5];exact ja _ _
    have HB1:=lH (HB1.out.kept kk);have HB2:=lH (HB2.out.kept kk);have HY:=lH (HY.out.kept kk);have HP:=lH (HP.out.kept kk);have HNB:=lH (HNB.out.kept kk);have HAT:=lH (HAT.out.kept kk);have K:=lH (K.out.trans kk);have HW5:=lH hw5;clear kk hw5;go_upto_region 8 with fail
    try rw[HW5.out]
    clear HW5
    cases t with
    | true =>
     go_wp2;go_ret;exact⟨jb (HE.out.trans (XC HW.out HBO.out)).symm,K.out⟩
    | false =>
     have r0:=HB2.out.at_ 0 _ rfl;have r1:=HB2.out.at_ 1 _ rfl;have r2:=HB2.out.at_ 2 _ rfl;have r3:=HB2.out.at_ 3 _ rfl;have r4:=HB2.out.at_ 4 _ rfl;have r5:=HB2.out.at_ 5 _ rfl;have r6:=HB2.out.at_ 6 _ rfl;have r7:=HB2.out.at_ 7 _ rfl;have r8:=HB2.out.at_ 8 _ rfl;have r9:=HB2.out.at_ 9 _ rfl;have r10:=HB2.out.at_ 10 _ rfl;have z0:=HNB.out.at_ 0 _ rfl;have z1:=HNB.out.at_ 1 _ rfl;have z2:=HNB.out.at_ 2 _ rfl;have z3:=HNB.out.at_ 3 _ rfl;have z4:=HNB.out.at_ 4 _ rfl;have y0:=HB1.out.at_ 0 _ rfl;have y1:=HB1.out.at_ 1 _ rfl;have y2:=HB1.out.at_ 2 _ rfl;have HSK:=je1 t1 t2 t3 f1 l1 f2 l2 f3 l3 a1 a2 a3 a4 m1 c1 m2 c2 m3 c3 m4 c4 p sd name w5 HY.out.nAt.1 HY.out.pAt.1 (by have:=HY.out.nAt.2;have:=HLD.out.nodesN;omega) (by have:=HY.out.pAt.2;have:=HLD.out.podsN;omega) (by rw[HNE.out];exact HAS.out) (by rw[HNE.out];exact HCK.out);obtain⟨z,hz⟩:∃z,(zA p sd name).1=z:=⟨_,rfl⟩
     obtain⟨b,hb⟩:∃z,(zA p sd name).2=z:=⟨_,rfl⟩
     rw[hz,hb] at HSK;unfold jv at HSK;have HSK:=lH HSK;have HZ:=lH hz;have HB:=lH hb;clear hz hb;go_wp2_with fail
     refine HSK.out.mono ?_;rintro e w6 ⟨rfl,kk⟩;clear HSK;have HB1:=lH (HB1.out.kept kk);have HB2:=lH (HB2.out.kept kk);have HY:=lH (HY.out.kept kk);have HP:=lH (HP.out.kept kk);have HNB:=lH (HNB.out.kept kk);have HAT:=lH (HAT.out.kept kk);have K:=lH (K.out.trans kk);clear kk r0 r1 r2 r3 r4 r5 r6 r7 r8 r9 r10 z0 z1 z2 z3 z4 y0 y1 y2;have r0:=HB2.out.at_ 0 _ rfl;have r1:=HB2.out.at_ 1 _ rfl;have r2:=HB2.out.at_ 2 _ rfl;have r3:=HB2.out.at_ 3 _ rfl;have r4:=HB2.out.at_ 4 _ rfl;have r5:=HB2.out.at_ 5 _ rfl;have r6:=HB2.out.at_ 6 _ rfl;have r7:=HB2.out.at_ 7 _ rfl;have r8:=HB2.out.at_ 8 _ rfl;have r9:=HB2.out.at_ 9 _ rfl;have r10:=HB2.out.at_ 10 _ rfl;have z0:=HNB.out.at_ 0 _ rfl;have z1:=HNB.out.at_ 1 _ rfl;have z2:=HNB.out.at_ 2 _ rfl;have z3:=HNB.out.at_ 3 _ rfl;have z4:=HNB.out.at_ 4 _ rfl;have y0:=HB1.out.at_ 0 _ rfl;have y1:=HB1.out.at_ 1 _ rfl;have y2:=HB1.out.at_ 2 _ rfl;obtain⟨t7,h7⟩:∃t,(p.key.toList==([]:List UInt8))=t:=⟨_,rfl⟩
     have h7b:(p.key.toList != ([]:List UInt8))=!t7:=by rw[←h7];rfl
     have H7:=lH (show Jn p.key=t7 by rw[Jk,h7]);have HFR:=qt HY.out name;try unfold Jm at HFR
     have HFR:=lH HFR;clear HFR
     cases t7 with
     | true =>
      have HCR:=lH (show Jl sd p name=false by unfold Jl;rw[if_pos H7.out]);go_wp2_with fail
      refine(qt HY.out name).mono ?_;rintro e w7 ⟨fv,rfl,hfv,kk⟩;have HFV:=lH hfv;have HB1:=lH (HB1.out.kept kk);have HB2:=lH (HB2.out.kept kk);have HY:=lH (HY.out.kept kk);have HP:=lH (HP.out.kept kk);have HNB:=lH (HNB.out.kept kk);have HAT:=lH (HAT.out.kept kk);have K:=lH (K.out.trans kk);clear kk hfv r0 r1 r2 r3 r4 r5 r6 r7 r8 r9 r10 z0 z1 z2 z3 z4 y0 y1 y2;have r0:=HB2.out.at_ 0 _ rfl;have r1:=HB2.out.at_ 1 _ rfl;have r2:=HB2.out.at_ 2 _ rfl;have r3:=HB2.out.at_ 3 _ rfl;have r4:=HB2.out.at_ 4 _ rfl;have r5:=HB2.out.at_ 5 _ rfl;have r6:=HB2.out.at_ 6 _ rfl;have r7:=HB2.out.at_ 7 _ rfl;have r8:=HB2.out.at_ 8 _ rfl;have r9:=HB2.out.at_ 9 _ rfl;have r10:=HB2.out.at_ 10 _ rfl;have z0:=HNB.out.at_ 0 _ rfl;have z1:=HNB.out.at_ 1 _ rfl;have z2:=HNB.out.at_ 2 _ rfl;have z3:=HNB.out.at_ 3 _ rfl;have z4:=HNB.out.at_ 4 _ rfl;have y0:=HB1.out.at_ 0 _ rfl;have y1:=HB1.out.at_ 1 _ rfl;have y2:=HB1.out.at_ 2 _ rfl;obtain⟨c8,hc8⟩:∃c,(Jz sd name).1=c:=⟨_,rfl⟩
      obtain⟨fl,hfl⟩:∃c,(Jz sd name).2=c:=⟨_,rfl⟩
      rw[hfl] at HFV;rw[hc8];obtain⟨qb,hqb⟩:∃q,Vec.jB fl p.need=q:=⟨_,rfl⟩
      have HRO:=lH (show Zi sd p name=(decide (c8=0)&&qb) by unfold Zi;rw[hc8,hfl,hqb]);have HQB:=lH hqb;clear hc8 hfl hqb;by_cases h8:c8=0
      · subst h8;go_wp2_with fail
        refine(jbJ HP.out.need HFV.out HQB.out).mono ?_;rintro e w8 ⟨rfl,kk⟩;have K:=lH (K.out.trans kk);clear kk
        cases qb with
        | false =>
         go_wp2;go_ret;exact⟨jb (HE.out.trans (Ze HW.out HBO.out HCR.out HRO.out)).symm,K.out⟩
        | true =>
         go_wp2;go_ret;exact⟨jb (HE.out.trans (Xb HW.out HBO.out HCR.out HRO.out)).symm,K.out⟩
      · have h8b:(c8 != 0)=true:=by simpa using h8
        have HRO:=lH (show Zi sd p name=false by rw[HRO.out,decide_eq_false h8];rfl);clear h8;go_wp2;go_ret;exact⟨jb (HE.out.trans (Ze HW.out HBO.out HCR.out HRO.out)).symm,K.out⟩
     | false =>
      have HC0:=lH (show Jl sd p name=(!b||decide (p.most<z)) by unfold Jl;rw[if_neg (by rw[H7.out];decide),HZ.out,HB.out])
      cases b with
      | false =>
       go_wp2;go_ret;exact⟨jb (HE.out.trans (Yp HW.out HBO.out (by rw[HC0.out];rfl))).symm,K.out⟩
      | true =>
       by_cases hlt:p.most<z
       · have HLT:=lH hlt;go_wp2;go_ret;exact⟨jb (HE.out.trans (Yp HW.out HBO.out (by rw[HC0.out,decide_eq_true HLT.out];rfl))).symm,K.out⟩
       · have HLT:=lH hlt;have hle:z≤p.most:=by omega
         clear hlt;have HCR:=lH (show Jl sd p name=false by rw[HC0.out,decide_eq_false HLT.out];rfl);go_wp2_with fail
         refine(qt HY.out name).mono ?_;rintro e w7 ⟨fv,rfl,hfv,kk⟩;have HFV:=lH hfv;have HB1:=lH (HB1.out.kept kk);have HB2:=lH (HB2.out.kept kk);have HY:=lH (HY.out.kept kk);have HP:=lH (HP.out.kept kk);have HNB:=lH (HNB.out.kept kk);have HAT:=lH (HAT.out.kept kk);have K:=lH (K.out.trans kk);clear kk hfv r0 r1 r2 r3 r4 r5 r6 r7 r8 r9 r10 z0 z1 z2 z3 z4 y0 y1 y2;have r0:=HB2.out.at_ 0 _ rfl;have r1:=HB2.out.at_ 1 _ rfl;have r2:=HB2.out.at_ 2 _ rfl;have r3:=HB2.out.at_ 3 _ rfl;have r4:=HB2.out.at_ 4 _ rfl;have r5:=HB2.out.at_ 5 _ rfl;have r6:=HB2.out.at_ 6 _ rfl;have r7:=HB2.out.at_ 7 _ rfl;have r8:=HB2.out.at_ 8 _ rfl;have r9:=HB2.out.at_ 9 _ rfl;have r10:=HB2.out.at_ 10 _ rfl;have z0:=HNB.out.at_ 0 _ rfl;have z1:=HNB.out.at_ 1 _ rfl;have z2:=HNB.out.at_ 2 _ rfl;have z3:=HNB.out.at_ 3 _ rfl;have z4:=HNB.out.at_ 4 _ rfl;have y0:=HB1.out.at_ 0 _ rfl;have y1:=HB1.out.at_ 1 _ rfl;have y2:=HB1.out.at_ 2 _ rfl;obtain⟨c8,hc8⟩:∃c,(Jz sd name).1=c:=⟨_,rfl⟩
         obtain⟨fl,hfl⟩:∃c,(Jz sd name).2=c:=⟨_,rfl⟩
         rw[hfl] at HFV;rw[hc8];obtain⟨qb,hqb⟩:∃q,Vec.jB fl p.need=q:=⟨_,rfl⟩
         have HRO:=lH (show Zi sd p name=(decide (c8=0)&&qb) by unfold Zi;rw[hc8,hfl,hqb]);have HQB:=lH hqb;clear hc8 hfl hqb;by_cases h8:c8=0
         · subst h8;go_wp2_with fail
           refine(jbJ HP.out.need HFV.out HQB.out).mono ?_;rintro e w8 ⟨rfl,kk⟩;have K:=lH (K.out.trans kk);clear kk
           cases qb with
           | false =>
            go_wp2;go_ret;exact⟨jb (HE.out.trans (Ze HW.out HBO.out HCR.out HRO.out)).symm,K.out⟩
           | true =>
            go_wp2;go_ret;exact⟨jb (HE.out.trans (Xb HW.out HBO.out HCR.out HRO.out)).symm,K.out⟩
         · have h8b:(c8 != 0)=true:=by simpa using h8
           have HRO:=lH (show Zi sd p name=false by rw[HRO.out,decide_eq_false h8];rfl);clear h8;go_wp2;go_ret;exact⟨jb (HE.out.trans (Ze HW.out HBO.out HCR.out HRO.out)).symm,K.out⟩
theorem jcU (s1 s2 s3:Option Addr) (n1 e1 n2 e2 n3 e3:Nat) (a1 a2 a3 a4:Option Addr) (m1 c1 m2 c2 m3 c3 m4 c4:Nat) (p:Pd) (s:Clu) (w:World) (hs:jx w (Jm (.slice s1 n1 e1) (.slice s2 n2 e2) (.slice s3 n3 e3)) s) (hl:zw s) (hA:Asc s.pods) (ha:Z7 s.nodes) (hk:∀n ∈ s.nodes,jY n=0) (hp:jz w (.slice a1 m1 c1) (.slice a2 m2 c2) (.slice a3 m3 c3) (.slice a4 m4 c4) p):Calls Tryz.prog 19 #[.agg #[.slice s1 n1 e1,.slice s2 n2 e2,.slice s3 n3 e3],jv p (.slice a1 m1 c1) (.slice a2 m2 c2) (.slice a3 m3 c3) (.slice a4 m4 c4)] w fun e w'=>∃v,e=.returned v∧Own jl 9 w' w.heap.size v (Jr s p s.nodes)∧Kept w w':=by
 obtain⟨i0,hi,hz0,hz1,hz2'⟩:=info_parts jfx;obtain⟨Z,hZ⟩:∃Z,(w.alloc (.cells #[.slice s1 n1 e1,.slice s2 n2 e2,.slice s3 n3 e3] 56)).alloc (.cells #[.string p.name,.string p.owner,.int .i64 p.prio,.slice a1 m1 c1,.slice a2 m2 c2,.slice a3 m3 c3,.slice a4 m4 c4,.string p.key,.int .i64 p.most,.string p.node,.bool p.hold] 50)=Z:=⟨_,rfl⟩
 have hkz:Kept w Z:=by rw[←hZ];exact jn _ _ _
 have HB1:=lH (jc w (.slice s1 n1 e1) [.slice s2 n2 e2,.slice s3 n3 e3] 56 Z (by rw[←hZ];exact ja _ _));have HB2:=lH (show je (w.heap.size+1) [.string p.name,.string p.owner,.int .i64 p.prio,.slice a1 m1 c1,.slice a2 m2 c2,.slice a3 m3 c3,.slice a4 m4 c4,.string p.key,.int .i64 p.most,.string p.node,.bool p.hold] Z by
  have dd:=jc (w.alloc (.cells #[.slice s1 n1 e1,.slice s2 n2 e2,.slice s3 n3 e3] 56)) (.string p.name) [.string p.owner,.int .i64 p.prio,.slice a1 m1 c1,.slice a2 m2 c2,.slice a3 m3 c3,.slice a4 m4 c4,.string p.key,.int .i64 p.most,.string p.node,.bool p.hold] 50 Z (by rw[hZ];exact Kept.refl _);rw[World.size_alloc] at dd;exact dd)
 have HKZ:=lH hkz;have HS:=lH (hs.kept hkz);have HP:=lH (hp.kept hkz);have HL:=lH hl;have HA:=lH hA;have HAS:=lH ha;have HCK:=lH hk;have HNL:=lH hs.nAt.2;have hb1:n1≤100000:=by have:=hl.nodesN;have:=hs.nAt.2;omega
 clear hs hkz hp hA ha hk hl;have HN:=lH HS.out.nAt.1;unfold jv;go_enter Tryz.func19,Tryz.ntmps19;go_upto_region 2 with fail
 try rw[hZ]
 clear hZ;go_wp2;go_loopw [5,6] (fun v i wr=>∃k:Nat,k≤n1∧i=.int .i64 k∧∃la:List ByteArray,Jr s p (s.nodes.take k)=la∧Own jl 9 wr Z.heap.size v la∧Kept Z wr) (fun _ i _=>n1-(intOf i).toNat)
 case atStart=>exact⟨0,Nat.zero_le _,rfl,[],rfl,Own.nil _ _ _,Kept.refl _⟩
 case round =>
  obtain⟨k,hk,rfl,la,hla,ho,hK⟩:=hrel;have HX:=lH hla;have HO:=lH ho;have HK:=lH hK;obtain⟨m,hm⟩:∃m,la.length=m:=⟨_,rfl⟩
  have hmk:m≤k:=by
   have:=jbf s p (s.nodes.take k);rw[hla,hm,List.length_take] at this;omega
  have HT:=lH hm;have hbase:Z.heap.size≤wr.heap.size:=hK.size;have y0:=(HB1.out.kept hK).at_ 0 _ rfl;by_cases hlt:k<n1
  · obtain⟨g,off,rfl⟩:=HN.out.form.resolve_left (by omega);obtain⟨n,b1,q1,f1,b2,q2,f2,b3,q3,f3,hn,hd,hb,u0,u1,u2,u3,u4,hat⟩:=(HN.out.kept hK).at_ hlt;have HNM:=lH hat.size;have HWT:=lH (jal (s:=s) (p:=p) hn);have hkk:(k:Int)<(n1:Int):=by omega
    have hk0:¬(k:Int)<0:=by omega
    obtain⟨xn,hxn⟩:∃x,n.name=x:=⟨_,rfl⟩
    rw[hxn] at u0 HNM HWT;have HU:=lH u0;clear hd hb hn hat hla ho hm hxn u0 u1 u2 u3 u4;obtain⟨c,hc⟩:∃c,Js s p xn=c:=⟨_,rfl⟩
    have HF:=lH (show ∀W,Kept wr W→W.cell? ⟨w.heap.size,0,none⟩=some (.slice (some ⟨g,off,none⟩) n1 e1)∧W.cell? ⟨w.heap.size,1,none⟩=some (.slice s2 n2 e2)∧W.cell? ⟨w.heap.size,2,none⟩=some (.slice s3 n3 e3)∧W.cell? ⟨w.heap.size+1,0,none⟩=some (.string p.name)∧W.cell? ⟨w.heap.size+1,1,none⟩=some (.string p.owner)∧W.cell? ⟨w.heap.size+1,2,none⟩=some (.int .i64 p.prio)∧W.cell? ⟨w.heap.size+1,3,none⟩=some (.slice a1 m1 c1)∧W.cell? ⟨w.heap.size+1,4,none⟩=some (.slice a2 m2 c2)∧W.cell? ⟨w.heap.size+1,5,none⟩=some (.slice a3 m3 c3)∧W.cell? ⟨w.heap.size+1,6,none⟩=some (.slice a4 m4 c4)∧W.cell? ⟨w.heap.size+1,7,none⟩=some (.string p.key)∧W.cell? ⟨w.heap.size+1,8,none⟩=some (.int .i64 p.most)∧W.cell? ⟨w.heap.size+1,9,none⟩=some (.string p.node)∧W.cell? ⟨w.heap.size+1,10,none⟩=some (.bool p.hold)∧W.cell? ⟨g,off+k*5,none⟩=some (.string xn) from fun W k=>by
     have h1:=HB1.out.kept (HK.out.trans k);have h2:=HB2.out.kept (HK.out.trans k);exact⟨h1.at_ 0 _ rfl,h1.at_ 1 _ rfl,h1.at_ 2 _ rfl,h2.at_ 0 _ rfl,h2.at_ 1 _ rfl,h2.at_ 2 _ rfl,h2.at_ 3 _ rfl,h2.at_ 4 _ rfl,h2.at_ 5 _ rfl,h2.at_ 6 _ rfl,h2.at_ 7 _ rfl,h2.at_ 8 _ rfl,h2.at_ 9 _ rfl,h2.at_ 10 _ rfl,cell_later k HU.out⟩)
    have HRF:=lH (show ∀W,Kept wr W→Calls Tryz.prog 16 #[.agg #[.slice (some ⟨g,off,none⟩) n1 e1,.slice s2 n2 e2,.slice s3 n3 e3],.agg #[.string p.name,.string p.owner,.int .i64 p.prio,.slice a1 m1 c1,.slice a2 m2 c2,.slice a3 m3 c3,.slice a4 m4 c4,.string p.key,.int .i64 p.most,.string p.node,.bool p.hold],.string xn] W (Say (.int .i64 c) W) from fun W k=>by
     have h:=qE (some ⟨g,off,none⟩) s2 s3 n1 e1 n2 e2 n3 e3 a1 a2 a3 a4 m1 c1 m2 c2 m3 c3 m4 c4 p s xn W (HS.out.kept (HK.out.trans k)) HL.out HA.out HAS.out HCK.out (HP.out.kept (HK.out.trans k));rw[hc] at h;exact h)
    rw[hc] at HWT;go_upto_region 5 with fail
    clear hc hK y0;have J:=lH (Kept.drew wr);refine wp_region_held_drew (S:=fun W=>W.cell? ⟨w.heap.size,0,none⟩=some (.slice (some ⟨g,off,none⟩) n1 e1)∧W.cell? ⟨w.heap.size,1,none⟩=some (.slice s2 n2 e2)∧W.cell? ⟨w.heap.size,2,none⟩=some (.slice s3 n3 e3)∧W.cell? ⟨w.heap.size+1,0,none⟩=some (.string p.name)∧W.cell? ⟨w.heap.size+1,1,none⟩=some (.string p.owner)∧W.cell? ⟨w.heap.size+1,2,none⟩=some (.int .i64 p.prio)∧W.cell? ⟨w.heap.size+1,3,none⟩=some (.slice a1 m1 c1)∧W.cell? ⟨w.heap.size+1,4,none⟩=some (.slice a2 m2 c2)∧W.cell? ⟨w.heap.size+1,5,none⟩=some (.slice a3 m3 c3)∧W.cell? ⟨w.heap.size+1,6,none⟩=some (.slice a4 m4 c4)∧W.cell? ⟨w.heap.size+1,7,none⟩=some (.string p.key)∧W.cell? ⟨w.heap.size+1,8,none⟩=some (.int .i64 p.most)∧W.cell? ⟨w.heap.size+1,9,none⟩=some (.string p.node)∧W.cell? ⟨w.heap.size+1,10,none⟩=some (.bool p.hold)∧W.cell? ⟨g,off+k*5,none⟩=some (.string xn)) (by kernel_rfl) (HF.out _ J.out) (fun hHeld=>?_);obtain⟨wd,hwd⟩:∃W,wr.drew=W:=⟨_,rfl⟩
    rw[hwd] at J hHeld;try rw[hwd]
    clear hwd;refine wpAnyH_take  (i:=0) (v:=?_) (by rw[List.getElem?_toArray];exact rfl) (by kernel_rfl) (by kernel_rfl) (by kernel_rfl) (by exact fun _ _ _ h=>h) (Or.inl ⟨by rfl,(by rintro W ⟨o0,o1,o2,o3,o4,o5,o6,o7,o8,o9,o10,o11,o12,o13,o14⟩;go_simp<;>with_reducible rfl)⟩) (by assumption) ?_;try simp only  [Act.put,List.setIfInBounds_toArray,List.set_cons_zero,List.set_cons_succ]
    refine wpAnyH_take  (i:=1) (v:=?_) (by rw[List.getElem?_toArray];exact rfl) (by kernel_rfl) (by kernel_rfl) (by kernel_rfl) (by exact fun _ _ _ h=>h) (Or.inl ⟨by rfl,(by rintro W ⟨o0,o1,o2,o3,o4,o5,o6,o7,o8,o9,o10,o11,o12,o13,o14⟩;go_simp<;>with_reducible rfl)⟩) (by assumption) ?_;try simp only  [Act.put,List.setIfInBounds_toArray,List.set_cons_zero,List.set_cons_succ]
    refine wpAnyH_take  (i:=2) (v:=?_) (by rw[List.getElem?_toArray];exact rfl) (by kernel_rfl) (by kernel_rfl) (by kernel_rfl) (by exact fun _ _ _ h=>h) (Or.inl ⟨by rfl,(by rintro W ⟨o0,o1,o2,o3,o4,o5,o6,o7,o8,o9,o10,o11,o12,o13,o14⟩;go_simp<;>with_reducible rfl)⟩) (by assumption) ?_;try simp only  [Act.put,List.setIfInBounds_toArray,List.set_cons_zero,List.set_cons_succ]
    refine wpAnyH_take  (i:=3) (v:=?_) (by rw[List.getElem?_toArray];exact rfl) (by kernel_rfl) (by kernel_rfl) (by kernel_rfl) (by exact fun _ _ _ h=>h) (Or.inl ⟨by rfl,(by rintro W ⟨o0,o1,o2,o3,o4,o5,o6,o7,o8,o9,o10,o11,o12,o13,o14⟩;go_simp<;>with_reducible rfl)⟩) (by assumption) ?_;try simp only  [Act.put,List.setIfInBounds_toArray,List.set_cons_zero,List.set_cons_succ]
    refine wpAnyH_take  (i:=4) (v:=?_) (by rw[List.getElem?_toArray];exact rfl) (by kernel_rfl) (by kernel_rfl) (by kernel_rfl) (by exact fun _ _ _ h=>h) (Or.inl ⟨by rfl,(by rintro W ⟨o0,o1,o2,o3,o4,o5,o6,o7,o8,o9,o10,o11,o12,o13,o14⟩;go_simp<;>with_reducible rfl)⟩) (by assumption) ?_;try simp only  [Act.put,List.setIfInBounds_toArray,List.set_cons_zero,List.set_cons_succ]
    refine wpAnyH_take  (i:=5) (v:=?_) (by rw[List.getElem?_toArray];exact rfl) (by kernel_rfl) (by kernel_rfl) (by kernel_rfl) (by exact fun _ _ _ h=>h) (Or.inl ⟨by rfl,(by rintro W ⟨o0,o1,o2,o3,o4,o5,o6,o7,o8,o9,o10,o11,o12,o13,o14⟩;go_simp<;>with_reducible rfl)⟩) (by assumption) ?_;try simp only  [Act.put,List.setIfInBounds_toArray,List.set_cons_zero,List.set_cons_succ]
    refine wpAnyH_take  (i:=6) (v:=?_) (by rw[List.getElem?_toArray];exact rfl) (by kernel_rfl) (by kernel_rfl) (by kernel_rfl) (by exact fun _ _ _ h=>h) (Or.inl ⟨by rfl,(by rintro W ⟨o0,o1,o2,o3,o4,o5,o6,o7,o8,o9,o10,o11,o12,o13,o14⟩;go_simp<;>with_reducible rfl)⟩) (by assumption) ?_;try simp only  [Act.put,List.setIfInBounds_toArray,List.set_cons_zero,List.set_cons_succ]
    refine wpAnyH_take  (i:=7) (v:=?_) (by rw[List.getElem?_toArray];exact rfl) (by kernel_rfl) (by kernel_rfl) (by kernel_rfl) (by exact fun _ _ _ h=>h) (Or.inl ⟨by rfl,(by rintro W ⟨o0,o1,o2,o3,o4,o5,o6,o7,o8,o9,o10,o11,o12,o13,o14⟩;go_simp<;>with_reducible rfl)⟩) (by assumption) ?_;try simp only  [Act.put,List.setIfInBounds_toArray,List.set_cons_zero,List.set_cons_succ]
    refine wpAnyH_ready  (rs:=[8]) (by kernel_rfl) (by simp) (AllReadyH.cons  (by rw[List.getElem?_toArray];exact rfl) (fun K9 hK9=>?_) AllReadyH.nil);go_simp;refine(HRF.out _ J.out).mono ?_;rintro e wc ⟨rfl,kk⟩;have J:=lH (J.out.trans kk);clear kk HRF;refine hK9.out _ _ (HF.out _ J.out) (fun hHeld1=>?_);clear hK9 K9;try simp only  [Act.put,List.setIfInBounds_toArray,List.set_cons_zero,List.set_cons_succ]
    refine wpAnyH_take  (i:=9) (v:=?_) (by rw[List.getElem?_toArray];exact rfl) (by kernel_rfl) (by kernel_rfl) (by kernel_rfl) (by exact fun _ _ _ h=>h) (Or.inl ⟨by rfl,(by rintro W ⟨o0,o1,o2,o3,o4,o5,o6,o7,o8,o9,o10,o11,o12,o13,o14⟩;go_simp<;>with_reducible rfl)⟩) (by assumption) ?_;try simp only  [Act.put,List.setIfInBounds_toArray,List.set_cons_zero,List.set_cons_succ]
    refine wpAnyH_done (by kernel_rfl) ?_ _;have y0:=(HB1.out.kept (HK.out.trans J.out)).at_ 0 _ rfl;have u0:=cell_later J.out HU.out;by_cases h0:c=0
    · subst h0;have HV:=lH (show Jr s p (s.nodes.take (k+1))=la++[xn] by rw[HWT.out,HX.out,if_pos rfl]);have HOW2:=lH (show wc.ownsRow Z.heap.size 9 1 u5 m (jd jl la) by have:=(HO.out.kept J.out).1;rw[HT.out] at this;exact this);have hs1:wr.heap.size≤wc.heap.size:=J.out.size;go_wp2_with (at_builtin;refine wpList_append_lies _ rfl _ _ _ rfl Z.heap.size 9 i0 _ 1 16 Tryz.underlying29 hi hz0 hz1 hz2' rfl (by decide) u5 m (jd jl la) rfl (HOW2.out.alloc _) ⟨wc.heap.size,0,none⟩ 1 1 (jl.cs xn) rfl rfl (World.news_of_block (cs:=#[.string xn]) (t:=9) (fr:=(0,0)) (heap_alloc_new wc _)) (ZV xn) (by decide) (by unfold maxLen;omega) (by omega) (by simp;omega) (wc.heap.size+1) (by simp) ?_;intro gg cap1 w4 hown1 hgrow hat hlt1)
      have HBW:=lH ((show Below Z.heap.size Z _ from HK.out.trans (J.out.trans (ja wc _))).grown hgrow (by simp;omega) (fun j hj=>(HOW2.out.lt j hj).1));go_wp2;go_roundw
      case rel=>exact⟨k+1,by omega,by go_num,la++[xn],HV.out,Own.snoc hown1 (by rw[HT.out]) HO.out.2 HNM.out,HBW.out⟩
      case measure=>simp[intOf];omega
    · have h0b:(c==0)=false:=by simpa using h0
      have HV:=lH (show Jr s p (s.nodes.take (k+1))=la by rw[HWT.out,HX.out,if_neg h0,List.append_nil]);clear h0;go_wp2;go_roundw
      case rel=>exact⟨k+1,by omega,by go_num,la,HV.out,HO.out.kept J.out,HK.out.trans J.out⟩
      case measure=>simp[intOf];omega
  · have hge:¬(k:Int)<(n1:Int):=by omega
    have HE:=lH (show Jr s p s.nodes=la by rw[←hla,List.take_of_length_le (by rw[←HNL.out];omega)]);clear hla ho hm hK;go_wp2;go_ret;exact⟨_,rfl,by rw[HE.out];exact HO.out.base_le HKZ.out.size,HKZ.out.trans HK.out⟩
end Go.Proofs.YtgfoenfaohhjcaaGreat
