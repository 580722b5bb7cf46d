/- C. -/
import Derived.Test.YtokdjfoalkmhiaaGreatG0
import Derived.Test.YtokdjfoalkmhiaaGreatG1
import Derived.Test.YtokdjfoalkmhiaaGreatG2
import Derived.Test.YtokdjfoalkmhiaaGreatG3
import Derived.Test.YtokdjfoalkmhiaaGreatG5
import Derived.Test.YtokdjfoalkmhiaaGreatG7
set_option linter.unusedVariables false
set_option maxRecDepth 100000
set_option maxHeartbeats 25600000
namespace Go.Proofs.YtokdjfoalkmhiaaGreat.Vec
open Go.RowKit Go.Proofs.YtokdjfoalkmhiaaGreat
theorem jdl:∀(fuel:Nat) (la lb:V),(jZ fuel la lb).length≤fuel
 | 0,_,_=>Nat.le_refl _
 | fuel+1,la,lb=>by
  unfold jZ;split
  · exact Nat.zero_le _
  · rw[List.length_cons];exact Nat.succ_le_succ (jdl fuel _ _)
theorem names_mem:∀(fuel:Nat) (la lb:V) (n:ByteArray),n ∈ jZ fuel la lb→(∃y ∈ la,y.1=n)∨(∃y ∈ lb,y.1=n)
 | 0,_,_,n,h=>by simp[jZ] at h
 | fuel+1,la,lb,n,h=>by
  unfold jZ at h;split at h
  · simp at h
  · rename_i h0;rcases List.mem_cons.1 h with rfl | h
    · exact jam (by omega)
    · rcases names_mem fuel _ _ n h with ⟨y,hy,e⟩ | ⟨y,hy,e⟩
      · exact .inl ⟨y,XM y hy,e⟩
      · exact .inr ⟨y,XM y hy,e⟩
theorem jgf {l:V} (h:Gd l) {n:ByteArray} (hn:∃y ∈ l,y.1=n):0<jh l n:=by
 obtain⟨y,hy,rfl⟩:=hn;rw[jbW h hy];exact(h.1 y hy).2.1
theorem jjd {l l':V} (h:Gd l) (h':Gd l') {n:ByteArray} (hn:n ∈ jZ (l.length+l'.length) l l'):0<jh l n+jh l' n:=by
 have a:=Je n h;have b:=Je n h';rcases names_mem _ _ _ _ hn with hn | hn
 · have:=jgf h hn;omega
 · have:=jgf h' hn;omega
theorem jkq {f:Int→Int→Int×Int} {la lb:V} {n:ByteArray} {t:List ByteArray} {acc:V} {r1 r2:Int} (h:f (jh la n) (jh lb n)=(r1,r2)) (h2:r2≠0):JH f la lb (n::t) acc=(r2,[]):=by
 rw[JH,h,if_pos h2]
theorem jid {f:Int→Int→Int×Int} {la lb:V} {n:ByteArray} {t:List ByteArray} {acc:V} {r1:Int} (h:f (jh la n) (jh lb n)=(r1,0)):JH f la lb (n::t) acc=JH f la lb t (ZT acc n r1):=by
 rw[JH,h,if_neg (by simp)]
theorem jl5 (x y:Int) (w:World) (h:0≤x∧x≤9223372036854775807) (g:0≤y∧y≤9223372036854775807) :
 Calls Tryz.prog 185 #[.int .i64 x,.int .i64 y] w (Ans (jD x y).1 (jD x y).2 w):=by
 unfold jD;by_cases h2:x+y≤9223372036854775807
 · rw[if_pos h2];exact(jlF x y w h.1 g.1 h2).mono fun _ _=>YO.ans
 · rw[if_neg h2];exact(ji7 x y w h.1 g.1 g.2 (by omega)).mono fun _ _=>YO.ans
def ZR (l l':V):Int:=if jv l≠0 then jv l else jv l'
theorem jiI {l l':V} (h:ZR l l'=0):jv l=0∧jv l'=0:=by
 unfold ZR at h;split at h
 · rename_i g;exact absurd h g
 · rename_i g;exact⟨Decidable.of_not_not g,h⟩
theorem jfN {f:Int→Int→Int×Int} {l l':V} (h:ZR l l'≠0):jj f l l'=(ZR l l',[]):=by
 unfold jj;unfold ZR at h ⊢;by_cases g:jv l≠0
 · simp only[if_pos g]
 · simp only[if_neg g] at h ⊢;rw[if_pos h]
theorem jdh (a a':Option Addr) (len cap len' cap':Nat) (l l':V) (w:World) (hr:ju w a len l) (hr':ju w a' len' l') :
 Calls Tryz.prog 183 #[.slice a len cap,.slice a' len' cap'] w fun e w'=>e=.returned (.int .i64 (ZR l l'))∧Kept w w':=by
 have HA:=lH hr;have HB:=lH hr';obtain⟨c,hc⟩:=eX (jv l)
 have HC:=lH hc;clear hr hr';by_cases h0:c=0
 · subst h0;have HE:=lH (show ZR l l'=jv l' by unfold ZR;rw[hc,if_neg (by decide)]);go_enter Tryz.func183,Tryz.ntmps183;go_wp2_with fail
   refine(Yb _ _ _ l _ HA.out).mono ?_;rw[HC.out];clear hc;rintro e1 w1 ⟨rfl,k1⟩;have K1:=lH k1;clear k1;go_wp2_with fail
   refine(Yb _ _ _ l' _ (HB.out.kept K1.out)).mono ?_;rintro e2 w2 ⟨rfl,k2⟩;have K2:=lH (K1.out.trans k2);clear k2;go_wp2;go_ret;exact⟨jc HE.out.symm,K2.out⟩
 · have HE:=lH (show ZR l l'=c by unfold ZR;rw[hc,if_pos h0]);have h1:(c==0)=false:=by simpa using h0
   clear h0;go_enter Tryz.func183,Tryz.ntmps183;go_wp2_with fail
   refine(Yb _ _ _ l _ HA.out).mono ?_;rw[HC.out];clear hc;rintro e1 w1 ⟨rfl,k1⟩;have K1:=lH k1;clear k1;go_wp2;go_ret;exact⟨jc HE.out.symm,K1.out⟩
theorem jjH (a:Option Addr) (n cap:Nat) (w:World) (h:n≤8):Calls Tryz.prog 186 #[.slice a n cap] w fun e w'=>e=.returned (.tuple #[.slice a n cap,.int .i64 0])∧w=w':=by
 have h1:(n:Int)≤8:=by omega
 have h2:decide ((8:Int)<(n:Int))=false:=decide_eq_false (by omega);have h3:decide (8<n)=false:=decide_eq_false (by omega);go_enter Tryz.func186,Tryz.ntmps186;go_wp2;go_ret2
 exact⟨rfl,rfl⟩
theorem jfE (a:Option Addr) (n cap:Nat) (w:World) (h:8<n):Calls Tryz.prog 186 #[.slice a n cap] w fun e w'=>e=.returned (.tuple #[.slice none 0 0,.int .i64 4])∧w=w':=by
 have h1:(8:Int)<(n:Int):=by omega
 go_enter Tryz.func186,Tryz.ntmps186;go_wp2;go_ret2
 exact⟨rfl,rfl⟩
theorem jil (a a':Option Addr) (len cap len' cap':Nat) (l l':V) (w:World) (hr:ju w a len l) (hr':ju w a' len' l') :
 Calls Tryz.prog 127 #[.slice a len cap,.slice a' len' cap'] w (Told (jj jD l l').1 (jj jD l l').2 w):=by
 obtain⟨HA,HB,HL⟩:=lH3 hr hr' hr.1;have HL':=lH hr'.1;by_cases hc:ZR l l'=0
 · obtain⟨ha,hb⟩:=jiI hc;have HC:=lH hc;have HG:=lH (Z8 ha hr.2.2.1);have HG':=lH (Z8 hb hr'.2.2.1);have h8:len≤8:=by have:=Zx ha;rw[HL.out] at this;exact this
   have h8':len'≤8:=by have:=Zx hb;rw[HL'.out] at this;exact this
   have HM:=lH (jfD jD ha hb hr.2.2.1 hr'.2.2.1);have HP:=lH (show ∀n ∈ jZ (l.length+l'.length) l l',0<jh l n+jh l' n from fun n hn=>jjd HG.out HG'.out hn);obtain⟨NS,hNS⟩:=eX (jZ (l.length+l'.length) l l')
   have hlen:=jdl (l.length+l'.length) l l';have hn16:NS.length≤16:=by rw[hNS,HL.out,HL'.out] at hlen;omega
   rw[hNS] at HM HP;have T5:=lH hNS;obtain⟨R,hR⟩:=eX (JH jD l l' NS [])
   rw[hR] at HM;have V9:=lH hR;have No:=lH h8;have HH8':=lH h8';obtain⟨i0,hi,hz0,hz1,hz2⟩:=info_parts jgH;clear hr hr' hc ha hb hNS hR hlen h8 h8';go_enter Tryz.func127,Tryz.ntmps127;go_wp2_with fail
   refine(jdh _ _ _ _ _ _ l l' _ HA.out HB.out).mono ?_;rw[HC.out];rintro e1 w1 ⟨rfl,k1⟩;have K1:=lH k1;clear k1;go_wp2_with fail
   refine(jcY _ _ _ _ _ _ l l' _ (HA.out.kept K1.out) (HB.out.kept K1.out) No.out HH8'.out).mono ?_;rw[T5.out];rintro e2 w2 ⟨x2,rfl,ho,k2⟩;have NY:=lH ho.2;obtain⟨s,scap,rfl,hs1,hs2,hrow⟩:=ho.reads;obtain⟨Ur,TP,K2⟩:=lH3 hrow hs1 (K1.out.trans k2);obtain⟨n,hn⟩:=eX (NS.length)
   have VP:=lH hn;rw[hn] at hn16 Ur ⊢;clear k2 ho hrow hn hs1 hs2;go_wp2
   go_loopw [8,9] (fun v i wr=>∃(k:Nat) (acc:V),k≤n∧i=.int .i64 k∧JH jD l l' (NS.drop k) acc=R∧jQ 196 wr w2.heap.size v acc∧Below w2.heap.size w2 wr∧acc.length≤k)
    (fun _ i _=>n-(intOf i).toNat)
   case atStart=>exact⟨0,[],Nat.zero_le _,rfl,V9.out,jQ.nil _ _ _,Below.refl _ _,Nat.le_refl _⟩
   case round =>
    obtain⟨k,acc,hk,rfl,hres,ho,hB,hacc⟩:=hrel;obtain⟨HQ,HO,Vg⟩:=lH3 hres ho hB;clear hres ho;by_cases hlt:k<n
    · obtain⟨b,off,rfl⟩:∃b off,s=some ⟨b,off,none⟩:=Ur.out.form.resolve_left (by omega);obtain⟨x,hx,hdrop,hbx,hsz,c1⟩:=(Ur.out.kept hB).str hlt;obtain⟨HD,TM,HS,HX,RH,RI⟩:=lH6 hdrop hsz (show ∀W,Kept wr W→W.cell? ⟨b,off+k,none⟩=some (.string x) from fun W kk=>cell_later kk c1) (show 0<jh l x+jh l' x from HP.out x (List.mem_of_getElem? hx)) (show ∀W,Kept wr W→ju W a len l from fun W kk=>HA.out.kept (K2.out.trans (Kept.trans hB kk))) (show ∀W,Kept wr W→ju W a' len' l' from fun W kk=>HB.out.kept (K2.out.trans (Kept.trans hB kk)));obtain⟨g1,hg1⟩:=eX (jh l x)
      obtain⟨g2,hg2⟩:=eX (jh l' x)
      obtain⟨RJ,Tz,B1,B2⟩:=lH4 hg1 hg2 (show 0≤g1∧g1≤9223372036854775807 by rw[←hg1];exact Je x HG.out) (show 0≤g2∧g2≤9223372036854775807 by rw[←hg2];exact Je x HG'.out);rw[hg1,hg2] at HX;obtain⟨r1,r2,hr⟩:∃r1 r2,jD g1 g2=(r1,r2):=⟨_,_,rfl⟩
      have QF:=lH (show ∀W,Calls Tryz.prog 185 #[.int .i64 g1,.int .i64 g2] W (Ans r1 r2 W) from fun W=>by
       have:=jl5 g1 g2 W B1.out B2.out;rw[hr] at this;exact this)
      obtain⟨RB,HF,Np⟩:=lH3 (show 0≤r1∧r1≤9223372036854775807 by have:=jcL B1.out B2.out;rw[hr] at this;exact this) (show jD (jh l x) (jh l' x)=(r1,r2) by rw[hg1,hg2];exact hr) hr;have hk1:(k:Int)<(n:Int):=by omega
      clear hB hx hdrop hsz hg1 hg2 hr;by_cases hz:r2=0
      · subst hz;have hy:r1≠0:=by
         have h1:=HX.out;have h2:=Np.out;unfold jD at h2;split at h2
         · have:=(Prod.mk.inj h2).1;omega
         · have:=(Prod.mk.inj h2).2;omega
        have HN:=lH (show JH jD l l' (NS.drop (k+1)) (acc++[(x,r1)])=R by
         have:=jid (t:=NS.drop (k+1)) (acc:=acc) HF.out;unfold ZT at this;rw[if_neg hy] at this;rw[←this,←HD.out];exact HQ.out)
        clear hy;go_wp2;clear c1;refine wp_region_held_drew (S:=fun W=>W.cell? ⟨b,off+k,none⟩=some (.string x)) (by kernel_rfl) (HS.out _ (Kept.drew _)) (fun hHeld=>?_);refine tR 0 rfl (by kernel_rfl) (fun _ _ _=>id) (Or.inl ⟨by rfl,(by intro W hSw;go_simp<;>with_reducible rfl)⟩) ‹_› ?_;refine tR 1 rfl (by kernel_rfl) (fun _ _ _=>id) (Or.inl ⟨by rfl,(by intro W hSw;go_simp<;>with_reducible rfl)⟩) ‹_› ?_;refine tR 2 rfl (by kernel_rfl) (fun _ _ _=>id) (Or.inl ⟨by rfl,(by intro W hSw;go_simp<;>with_reducible rfl)⟩) ‹_› ?_;refine tR 3 rfl (by kernel_rfl) (fun _ _ _=>id) (Or.inl ⟨by rfl,(by intro W hSw;go_simp<;>with_reducible rfl)⟩) ‹_› ?_;refine tR 4 rfl (by kernel_rfl) (fun _ _ _=>id) (Or.inl ⟨by rfl,(by intro W hSw;go_simp<;>with_reducible rfl)⟩) ‹_› ?_;try simp only[nA,nB,nC,nD,nE]
        refine tR 6 rfl (by kernel_rfl) (fun _ _ _=>id) (Or.inl ⟨by rfl,(by intro W hSw;go_simp<;>with_reducible rfl)⟩) ‹_› ?_;refine tR 7 rfl (by kernel_rfl) (fun _ _ _=>id) (Or.inl ⟨by rfl,(by intro W hSw;go_simp<;>with_reducible rfl)⟩) ‹_› ?_;refine tR 8 rfl (by kernel_rfl) (fun _ _ _=>id) (Or.inl ⟨by rfl,(by intro W hSw;go_simp<;>with_reducible rfl)⟩) ‹_› ?_;refine tR 9 rfl (by kernel_rfl) (fun _ _ _=>id) (Or.inl ⟨by rfl,(by intro W hSw;go_simp<;>with_reducible rfl)⟩) ‹_› ?_;refine tR 10 rfl (by kernel_rfl) (fun _ _ _=>id) (Or.inl ⟨by rfl,(by intro W hSw;go_simp<;>with_reducible rfl)⟩) ‹_› ?_;try simp only[nA,nB,nC,nD,nE]
        refine rd1 5 fun K9 Ky=>?_;go_simp;refine(YC _ _ _ l x _ (RH.out _ (Kept.drew _))).mono ?_;rintro e3 w3 ⟨rfl,kk⟩;have J1:=lH ((Kept.drew _).trans kk);clear kk;refine Ky.out _ _ (HS.out _ J1.out) (fun _=>?_);clear Ky K9;try simp only[nA,nB,nC,nD,nE]
        refine rd1 11 fun K9 Ky=>?_;go_simp;refine(YC _ _ _ l' x _ (RI.out _ J1.out)).mono ?_;rintro e4 w4 ⟨rfl,kk⟩;have J2:=lH ((J1.out).trans kk);clear kk;refine Ky.out _ _ (HS.out _ J2.out) (fun _=>?_);clear Ky K9;try simp only[nA,nB,nC,nD,nE]
        rw[RJ.out,Tz.out];refine rd1 12 fun K9 Ky=>?_;go_simp;refine(QF.out _).mono ?_;rintro e5 w5 ⟨rfl,kk⟩;have J3:=lH ((J2.out).trans kk);clear kk;refine Ky.out _ _ (HS.out _ J3.out) (fun _=>?_);clear Ky K9;try simp only[nA,nB,nC,nD,nE]
        refine tR 13 rfl (by kernel_rfl) (fun _ _ _=>id) (Or.inl ⟨by rfl,(by intro W hSw;go_simp<;>with_reducible rfl)⟩) ‹_› ?_;refine tR 14 rfl (by kernel_rfl) (fun _ _ _=>id) (Or.inl ⟨by rfl,(by intro W hSw;go_simp<;>with_reducible rfl)⟩) ‹_› ?_;refine tR 15 rfl (by kernel_rfl) (fun _ _ _=>id) (Or.inl ⟨by rfl,(by intro W hSw;go_simp<;>with_reducible rfl)⟩) ‹_› ?_;refine tR 16 rfl (by kernel_rfl) (fun _ _ _=>id) (Or.inl ⟨by rfl,(by intro W hSw;go_simp<;>with_reducible rfl)⟩) ‹_› ?_;refine tR 17 rfl (by kernel_rfl) (fun _ _ _=>id) (Or.inl ⟨by rfl,(by intro W hSw;go_simp<;>with_reducible rfl)⟩) ‹_› ?_;try simp only[nA,nB,nC,nD,nE]
        refine wpAnyH_done (by kernel_rfl) ?_ _;have c1:=HS.out _ J3.out;have B6:=lH (Vg.out.trans (Below.mono J3.out Vg.out.size));have O6:=lH (HO.out.kept J3.out);have RK:=lH (show (w5.alloc (.cells #[.string x,.int .i64 r1] 196)).ownsRow w2.heap.size 196 2 u8 acc.length (cellsOf acc) from(O6.out.1.alloc _));have Vy:=lH (show w2.heap.size≤w5.heap.size from B6.out.size);go_wp2_with (at_builtin;refine wpList_append_lies _ rfl _ _ _ rfl w2.heap.size 196 i0 _ 2 24 Tryz.underlying113 hi hz0 hz1 hz2 rfl (by decide) u8 acc.length (cellsOf acc) rfl RK.out ⟨w5.heap.size,0,none⟩ 1 1 [.string x,.int .i64 r1] rfl rfl (jeU _ _ _ _) (ZO [(x,r1)]) (by decide) (by unfold maxLen;omega) (by omega) (by rw[World.size_alloc];have:=Vy.out;omega) (w5.heap.size+1) (World.size_alloc _ _) ?_;intro g cap1 w7 hown1 hgrow hg hlt7;refine Hid.out ?_)
        refine lH ?_;go_wp2;go_roundw
        case rel =>
         refine⟨k+1,acc++[(x,r1)],by omega,by go_num,HN.out,⟨?_,O6.out.2.snoc TM.out (by have:=RB.out;omega) (by have:=RB.out;omega)⟩,(B6.out.alloc Vy.out _).grown hgrow (by rw[World.size_alloc];have:=Vy.out;omega) (fun j hj=>(RK.out.lt j hj).1),by rw[List.length_append];simp only[List.length_cons,List.length_nil];omega⟩;rw[List.length_append,ZH];exact hown1
        case measure=>simp[intOf];omega
      · have hz':(r2==0)=false:=by simpa using hz
        have HE:=lH (show jj jD l l'=(r2,[]) by
         have:R=(r2,[]):=by rw[←HQ.out,HD.out];exact jkq HF.out hz
         rw[HM.out,this];simp only;rw[if_pos hz])
        clear hz;go_wp2;clear c1;refine wp_region_held_drew (S:=fun W=>W.cell? ⟨b,off+k,none⟩=some (.string x)) (by kernel_rfl) (HS.out _ (Kept.drew _)) (fun hHeld=>?_);refine tR 0 rfl (by kernel_rfl) (fun _ _ _=>id) (Or.inl ⟨by rfl,(by intro W hSw;go_simp<;>with_reducible rfl)⟩) ‹_› ?_;refine tR 1 rfl (by kernel_rfl) (fun _ _ _=>id) (Or.inl ⟨by rfl,(by intro W hSw;go_simp<;>with_reducible rfl)⟩) ‹_› ?_;refine tR 2 rfl (by kernel_rfl) (fun _ _ _=>id) (Or.inl ⟨by rfl,(by intro W hSw;go_simp<;>with_reducible rfl)⟩) ‹_› ?_;refine tR 3 rfl (by kernel_rfl) (fun _ _ _=>id) (Or.inl ⟨by rfl,(by intro W hSw;go_simp<;>with_reducible rfl)⟩) ‹_› ?_;refine tR 4 rfl (by kernel_rfl) (fun _ _ _=>id) (Or.inl ⟨by rfl,(by intro W hSw;go_simp<;>with_reducible rfl)⟩) ‹_› ?_;try simp only[nA,nB,nC,nD,nE]
        refine tR 6 rfl (by kernel_rfl) (fun _ _ _=>id) (Or.inl ⟨by rfl,(by intro W hSw;go_simp<;>with_reducible rfl)⟩) ‹_› ?_;refine tR 7 rfl (by kernel_rfl) (fun _ _ _=>id) (Or.inl ⟨by rfl,(by intro W hSw;go_simp<;>with_reducible rfl)⟩) ‹_› ?_;refine tR 8 rfl (by kernel_rfl) (fun _ _ _=>id) (Or.inl ⟨by rfl,(by intro W hSw;go_simp<;>with_reducible rfl)⟩) ‹_› ?_;refine tR 9 rfl (by kernel_rfl) (fun _ _ _=>id) (Or.inl ⟨by rfl,(by intro W hSw;go_simp<;>with_reducible rfl)⟩) ‹_› ?_;refine tR 10 rfl (by kernel_rfl) (fun _ _ _=>id) (Or.inl ⟨by rfl,(by intro W hSw;go_simp<;>with_reducible rfl)⟩) ‹_› ?_;try simp only[nA,nB,nC,nD,nE]
        refine rd1 5 fun K9 Ky=>?_;go_simp;refine(YC _ _ _ l x _ (RH.out _ (Kept.drew _))).mono ?_;rintro e3 w3 ⟨rfl,kk⟩;have J1:=lH ((Kept.drew _).trans kk);clear kk;refine Ky.out _ _ (HS.out _ J1.out) (fun _=>?_);clear Ky K9;try simp only[nA,nB,nC,nD,nE]
        refine rd1 11 fun K9 Ky=>?_;go_simp;refine(YC _ _ _ l' x _ (RI.out _ J1.out)).mono ?_;rintro e4 w4 ⟨rfl,kk⟩;have J2:=lH ((J1.out).trans kk);clear kk;refine Ky.out _ _ (HS.out _ J2.out) (fun _=>?_);clear Ky K9;try simp only[nA,nB,nC,nD,nE]
        rw[RJ.out,Tz.out];refine rd1 12 fun K9 Ky=>?_;go_simp;refine(QF.out _).mono ?_;rintro e5 w5 ⟨rfl,kk⟩;have J3:=lH ((J2.out).trans kk);clear kk;refine Ky.out _ _ (HS.out _ J3.out) (fun _=>?_);clear Ky K9;try simp only[nA,nB,nC,nD,nE]
        refine tR 13 rfl (by kernel_rfl) (fun _ _ _=>id) (Or.inl ⟨by rfl,(by intro W hSw;go_simp<;>with_reducible rfl)⟩) ‹_› ?_;refine tR 14 rfl (by kernel_rfl) (fun _ _ _=>id) (Or.inl ⟨by rfl,(by intro W hSw;go_simp<;>with_reducible rfl)⟩) ‹_› ?_;refine tR 15 rfl (by kernel_rfl) (fun _ _ _=>id) (Or.inl ⟨by rfl,(by intro W hSw;go_simp<;>with_reducible rfl)⟩) ‹_› ?_;refine tR 16 rfl (by kernel_rfl) (fun _ _ _=>id) (Or.inl ⟨by rfl,(by intro W hSw;go_simp<;>with_reducible rfl)⟩) ‹_› ?_;refine tR 17 rfl (by kernel_rfl) (fun _ _ _=>id) (Or.inl ⟨by rfl,(by intro W hSw;go_simp<;>with_reducible rfl)⟩) ‹_› ?_;try simp only[nA,nB,nC,nD,nE]
        refine wpAnyH_done (by kernel_rfl) ?_ _;have c1:=HS.out _ J3.out;have B6:=lH (Vg.out.trans (Below.mono J3.out Vg.out.size));have O6:=lH (HO.out.kept J3.out);go_wp2;go_ret2
        rw[HE.out];exact Told.none (K2.out.trans B6.out)
    · have HE:=lH (show R=(0,acc) by
       have e:NS.drop k=[]:=List.drop_of_length_le (by rw[VP.out];omega);rw[←HQ.out,e];rfl)
      have UC:=lH (K2.out.trans (show Kept w2 wr from hB));obtain⟨av,cv,rfl,hv1,hv2,-⟩:=HO.out.at_;have US:=lH (jQ.base_le HO.out K2.out.size);clear hB hv1 hv2;by_cases h9:acc.length≤8
      · have HW:=lH (show jj jD l l'=(0,acc) by
         rw[HM.out,HE.out];simp only;rw[if_neg (by decide),if_neg (by omega)])
        have QW:=lH (fun W=>jjH av acc.length cv W h9);clear h9;go_wp2_with fail
        refine(QW.out _).mono ?_;rintro e9 w9 ⟨rfl,rfl⟩;go_wp2;go_ret2
        rw[HW.out];exact⟨_,rfl,US.out,UC.out⟩
      · have HW:=lH (show jj jD l l'=(4,[]) by
         rw[HM.out,HE.out];simp only;rw[if_neg (by decide),if_pos (by omega)])
        have QW:=lH (fun W=>jfE av acc.length cv W (by omega));clear h9;go_wp2_with fail
        refine(QW.out _).mono ?_;rintro e9 w9 ⟨rfl,rfl⟩;go_wp2;go_ret2
        rw[HW.out];exact Told.none UC.out
 · have HE:=lH (jfN (f:=jD) hc);obtain⟨c,hc2⟩:=eX (ZR l l')
   rw[hc2] at HE hc;have hc':(c==0)=false:=by simpa using hc
   have HC:=lH hc2;clear hr hr' hc hc2;go_enter Tryz.func127,Tryz.ntmps127;go_wp2_with fail
   refine(jdh _ _ _ _ _ _ l l' _ HA.out HB.out).mono ?_;rw[HC.out];rintro e1 w1 ⟨rfl,k1⟩;have K1:=lH k1;clear k1;go_wp2;go_ret2
   rw[HE.out];exact Told.none K1.out
theorem jir {v v':Value} {l l' m:V} {c:Int} {w:World} (h:Reads w v l) (h':Reads w v' l') (e:jj jD l l'=(c,m)) :
 Calls Tryz.prog 127 #[v,v'] w fun e w'=>∃x,e=.returned (.tuple #[x,.int .i64 c])∧Reads w' x m∧Kept w w':=by
 obtain⟨a,cap,rfl,_,_,hb⟩:=h;obtain⟨a9,cap9,rfl,_,_,hr⟩:=h';refine(jil a a9 _ cap _ cap9 l l' w hb hr).mono ?_;rw[e];rintro e w' ⟨x,rfl,ho,k⟩;exact⟨x,rfl,ho.at_,k⟩
end Go.Proofs.YtokdjfoalkmhiaaGreat.Vec
namespace Go.Proofs.YtokdjfoalkmhiaaGreat
open Go.RowKit
def Yv (r:Int×Vec.V) (w:World) (e:Ending) (w':World):Prop:=∃y,e=.returned (.tuple #[y,.int .i64 r.1])∧Vec.Reads w' y r.2∧Kept w w'
theorem Yv.mk' {r:Int×Vec.V} {c:Int} {l:Vec.V} {y:Value} {w w':World} (h:r=(c,l)) (g:Vec.Reads w' y l) (k:Kept w w'):Yv r w (.returned (.tuple #[y,.int .i64 c])) w':=by
 subst h;exact⟨y,rfl,g,k⟩
theorem X0 (w:World):Vec.Reads w (.slice none 0 0) []:=Vec.Reads.nil w
theorem jjt {l:List Nod} {x:ByteArray} {n:Nod} (h:jk l x=some n):n.name=x :=
 jM.1 (List.find?_some (p:=fun n:Nod=>eqS n.name x) h)
theorem jjr {s:Clu} {x:ByteArray} (h:jk s.nodes x=none):JB s x=(3,[]):=by unfold JB;rw[h]
theorem jai {s:Clu} {x:ByteArray} {n:Nod} (h:jk s.nodes x=some n):JB s x=jF x s.pods []:=by unfold JB;rw[h];dsimp only;rw[jjt h]
theorem jjK {v:Value} {s:Clu} {w:World} (h:jB w v s) (x:ByteArray):Calls Tryz.prog 66 #[v,.string x] w (Yv (JB s x) w):=by
 obtain⟨v1,v2,v3,rfl,⟨a,cap,rfl,l1,m1,h1⟩,⟨b,cp,rfl,l2,m2,h2⟩,⟨d,cb,rfl,l3,m3,h3⟩⟩:=h;obtain⟨nl,pl,bl⟩:=s;dsimp only at *;obtain⟨len,hlen⟩:=eX (nl.length)
 obtain⟨m,hm⟩:=eX (pl.length)
 obtain⟨n,hn⟩:=eX (bl.length)
 rw[hlen] at h1 l1;rw[hm] at h2 l2;rw[hn] at h3 l3;try rw[hlen]
 try rw[hm]
 try rw[hn]
 clear hn;obtain⟨Z,hZ⟩:=eX (w.alloc (.cells #[.slice a len cap,.slice b m cp,.slice d n cb] 70))
 have hkz:Kept w Z:=by rw[←hZ];exact ja _ _
 obtain⟨HQ,HN,HP,V0,Vc,Uz,Th⟩:=lH7 (show je w.heap.size [.slice a len cap,.slice b m cp,.slice d n cb] Z from jb w (.slice a len cap) [.slice b m cp,.slice d n cb] 70 Z (by rw[hZ];exact Kept.refl _)) (h1.kept hkz) (h2.kept hkz) (qC l1 m1 (h1.kept hkz)) hkz hlen hm;have hml1:=Nat.le_trans l1 m1;have hml2:=Nat.le_trans l2 m2;unfold maxLen at hml1 hml2;clear h1 h2 h3 l1 l2 l3 m1 m2 m3 hkz;have cq0:=(HQ.out.kept (Kept.refl _)).at_ 0 _ rfl;have cq1:=(HQ.out.kept (Kept.refl _)).at_ 1 _ rfl;have cq2:=(HQ.out.kept (Kept.refl _)).at_ 2 _ rfl;obtain⟨o,ho⟩:=eX (jk nl x)
 have HF:=lH ho;go_enter Tryz.func66,Tryz.ntmps66;go_wp2_with fail
 try rw[hZ]
 clear hZ;refine(jiK V0.out).mono ?_;rw[ho];rintro e w1 ⟨v9,rfl,hr,kk⟩;obtain⟨nn,hnn⟩:=eX (o.getD Nod.zero)
 rw[hnn] at hr;obtain⟨y1,y2,y3,rfl,hat⟩:=hr;have g1:=hat.cap;have g2:=hat.labels;have g3:=hat.taints;obtain⟨b1,d1,rfl,-,-,-⟩:=g1;obtain⟨b2,d2,rfl,-,-,-⟩:=g2;obtain⟨b3,d3,rfl,-,-,-⟩:=g3;unfold zC;obtain⟨n1,hn1⟩:=eX (nn.cap.length)
 obtain⟨n2,hn2⟩:=eX (nn.labels.length)
 obtain⟨n3,hn3⟩:=eX (nn.taints.length)
 rw[hn1,hn2,hn3];have K1:=lH kk;clear hat kk hn1 hn2 hn3 hnn ho cq0 cq1 cq2;obtain⟨W1,hW1⟩:=eX (w1.alloc (.cells #[.string nn.name,.slice b1 n1 d1,.slice b2 n2 d2,.slice b3 n3 d3,.bool nn.cordon] 121))
 have K1:=lH (K1.out.trans (show Kept w1 W1 by rw[←hW1];exact ja _ _))
 cases o with
 | none =>
  go_wp2;try rw[hW1]
  go_ret2
  exact Yv.mk' (jjr HF.out) (X0 _) (Vc.out.trans K1.out)
 | some nod =>
  have HU:=lH (show JB ⟨nl,pl,bl⟩ x=jF x pl [] from jai HF.out);have cq0:=(HQ.out.kept K1.out).at_ 0 _ rfl;have cq1:=(HQ.out.kept K1.out).at_ 1 _ rfl;have cq2:=(HQ.out.kept K1.out).at_ 2 _ rfl;have HW:=lH hW1;clear hW1;go_wp2;try rw[HW.out]
  clear HW cq0 cq1 cq2;go_loopw [8,9] (fun s i wr=>∃k:Nat,k≤m∧i=.int .i64 k∧∃acc:Vec.V,Vec.Reads wr s acc∧jF x (pl.drop k) acc=jF x pl []∧Kept Z wr) (fun _ i _=>m-(intOf i).toNat)
  case atStart=>exact⟨0,Nat.zero_le _,rfl,[],X0 _,rfl,K1.out⟩
  case round =>
   obtain⟨k,hk,rfl,acc,hacc,hrest,hK⟩:=hrel;obtain⟨HS,HA,HK⟩:=lH3 hrest hacc hK;have cq0:=(HQ.out.kept hK).at_ 0 _ rfl;have cq1:=(HQ.out.kept hK).at_ 1 _ rfl;have cq2:=(HQ.out.kept hK).at_ 2 _ rfl;by_cases hlt:k<m
   · obtain⟨b9,off,rfl⟩:=HP.out.form.resolve_left (by omega);obtain⟨n9,x1,y1,z1,x2,y2,z2,x3,y3,z3,x4,y4,z4,hn,hd,hb,p0,p1,p2,p3,p4,p5,p6,p7,p8,p9,p10,hat⟩:=(HP.out.kept hK).at_ hlt;have HD:=lH hd;have hkk:(k:Int)<(m:Int):=by omega
     obtain⟨e1,he1⟩:=eX (eqS n9.node x)
     have he1':(n9.node.toList==x.toList)=e1:=he1;have he1n:(n9.node.toList != x.toList)=!e1:=by rw[bne,he1']
     have HE:=lH he1
     cases e1 with
     | false =>
      have HX:=lH (show jF x (pl.drop (k+1)) acc=jF x pl [] by rw[←hrest,hd,qU he1]);clear hacc hrest hK hat hn hd he1;go_wp2;go_roundw
      case rel=>exact⟨k+1,by omega,by go_num,acc,HA.out,HX.out,HK.out⟩
      case measure=>simp[intOf];omega
     | true =>
      obtain⟨c,mm,hcm⟩:∃c mm,Vec.jj Vec.jD acc n9.need=(c,mm):=⟨_,_,rfl⟩
      have HC:=lH hcm;have Ub:=lH (Vec.jir hacc hat.need hcm);clear hacc hrest hK hat hn hd he1 hcm;go_wp2_with fail
      refine Ub.out.mono ?_;rintro e w2 ⟨y,rfl,hy,kk⟩;have K2:=lH (HK.out.trans kk);have HY:=lH hy;clear hy kk;by_cases hc:c=0
      · subst hc;have HX:=lH (show jF x (pl.drop (k+1)) mm=jF x pl [] by rw[←HS.out,HD.out,jbl HE.out HC.out]);go_wp2;go_roundw
        case rel=>exact⟨k+1,by omega,by go_num,mm,HY.out,HX.out,K2.out⟩
        case measure=>simp[intOf];omega
      · have HX:=lH (show jF x pl []=(c,[]) by rw[←HS.out,HD.out,jbu HE.out HC.out hc]);have hcn:(c != 0)=true:=by simpa using hc
        clear hc;go_wp2;go_ret2
        exact Yv.mk' (HU.out.trans HX.out) (X0 _) (Vc.out.trans K2.out)
   · have HX:=lH (show jF x pl []=(0,acc) by rw[←hrest,List.drop_of_length_le (by rw[Th.out];omega)];rfl);have hkk:¬(k:Int)<(m:Int):=by omega
     clear hacc hrest hK;go_wp2;go_ret2
     exact Yv.mk' (HU.out.trans HX.out) HA.out (Vc.out.trans HK.out)
theorem jjn {v:Value} {s:Clu} {w:World} (h:jB w v s):Calls Tryz.prog 68 #[v] w (Yv (jk8 s) w):=by
 obtain⟨v1,v2,v3,rfl,⟨a,cap,rfl,l1,m1,h1⟩,⟨b,cp,rfl,l2,m2,h2⟩,⟨d,cb,rfl,l3,m3,h3⟩⟩:=h;obtain⟨nl,pl,bl⟩:=s;dsimp only at *;obtain⟨len,hlen⟩:=eX (nl.length)
 obtain⟨m,hm⟩:=eX (pl.length)
 obtain⟨n,hn⟩:=eX (bl.length)
 rw[hlen] at h1 l1;rw[hm] at h2 l2;rw[hn] at h3 l3;try rw[hlen]
 try rw[hm]
 try rw[hn]
 clear hn;obtain⟨Z,hZ⟩:=eX (w.alloc (.cells #[.slice a len cap,.slice b m cp,.slice d n cb] 70))
 have hkz:Kept w Z:=by rw[←hZ];exact ja _ _
 obtain⟨HQ,HN,HP,V0,Vc,Uz,Th⟩:=lH7 (show je w.heap.size [.slice a len cap,.slice b m cp,.slice d n cb] Z from jb w (.slice a len cap) [.slice b m cp,.slice d n cb] 70 Z (by rw[hZ];exact Kept.refl _)) (h1.kept hkz) (h2.kept hkz) (qC l1 m1 (h1.kept hkz)) hkz hlen hm;have hml1:=Nat.le_trans l1 m1;have hml2:=Nat.le_trans l2 m2;unfold maxLen at hml1 hml2;clear h1 h2 h3 l1 l2 l3 m1 m2 m3 hkz;have cq0:=(HQ.out.kept (Kept.refl _)).at_ 0 _ rfl;have cq1:=(HQ.out.kept (Kept.refl _)).at_ 1 _ rfl;have cq2:=(HQ.out.kept (Kept.refl _)).at_ 2 _ rfl;show Calls _ _ _ _ (Yv (Zf nl []) w);go_enter Tryz.func68,Tryz.ntmps68;go_wp2;try rw[hZ]
 clear hZ cq0 cq1 cq2;go_loopw [4,5] (fun s i wr=>∃k:Nat,k≤len∧i=.int .i64 k∧∃acc:Vec.V,Vec.Reads wr s acc∧Zf (nl.drop k) acc=Zf nl []∧Kept Z wr) (fun _ i _=>len-(intOf i).toNat)
 case atStart=>exact⟨0,Nat.zero_le _,rfl,[],X0 _,rfl,Kept.refl _⟩
 case round =>
  obtain⟨k,hk,rfl,acc,hacc,hrest,hK⟩:=hrel;obtain⟨HS,HA,HK⟩:=lH3 hrest hacc hK;have cq0:=(HQ.out.kept hK).at_ 0 _ rfl;have cq1:=(HQ.out.kept hK).at_ 1 _ rfl;have cq2:=(HQ.out.kept hK).at_ 2 _ rfl;by_cases hlt:k<len
  · obtain⟨b9,off,rfl⟩:=HN.out.form.resolve_left (by omega);obtain⟨n9,x1,y1,z1,x2,y2,z2,x3,y3,z3,hn,hd,hb,p0,p1,p2,p3,p4,hat⟩:=(HN.out.kept hK).at_ hlt;have HD:=lH hd;have hkk:(k:Int)<(len:Int):=by omega
    obtain⟨c,mm,hcm⟩:∃c mm,Vec.jj Vec.jD acc n9.cap=(c,mm):=⟨_,_,rfl⟩
    have HC:=lH hcm;have Ub:=lH (Vec.jir hacc hat.cap hcm);clear hacc hrest hK hat hn hd hcm;go_wp2_with fail
    refine Ub.out.mono ?_;rintro e w2 ⟨y,rfl,hy,kk⟩;have K2:=lH (HK.out.trans kk);have HY:=lH hy;clear hy kk;by_cases hc:c=0
    · subst hc;have HX:=lH (show Zf (nl.drop (k+1)) mm=Zf nl [] by rw[←HS.out,HD.out,jkP HC.out]);go_wp2;go_roundw
      case rel=>exact⟨k+1,by omega,by go_num,mm,HY.out,HX.out,K2.out⟩
      case measure=>simp[intOf];omega
    · have HX:=lH (show Zf nl []=(c,[]) by rw[←HS.out,HD.out,jkM HC.out hc]);have hcn:(c != 0)=true:=by simpa using hc
      clear hc;go_wp2;go_ret2
      exact Yv.mk' HX.out (X0 _) (Vc.out.trans K2.out)
  · have HX:=lH (show Zf nl []=(0,acc) by rw[←hrest,List.drop_of_length_le (by rw[Uz.out];omega)];rfl);have hkk:¬(k:Int)<(len:Int):=by omega
    clear hacc hrest hK;go_wp2;go_ret2
    exact Yv.mk' HX.out HA.out (Vc.out.trans HK.out)
def Jn (r:Int×Vec.V) (w:World) (e:Ending) (w':World):Prop:=(r.1=0→∃v,e=.returned v∧Vec.jQ 100 w' w.heap.size v r.2)∧(r.1≠0→e=.panicked [zo r.1])∧Kept w w'
theorem Jn.good {r:Int×Vec.V} {m:Vec.V} {v:Value} {w w':World} (h:r=(0,m)) (g:Vec.jQ 100 w' w.heap.size v m) (k:Kept w w'):Jn r w (.returned v) w':=by
 subst h;exact⟨fun _=>⟨v,rfl,g⟩,fun h=>absurd rfl h,k⟩
theorem Jn.bad {r:Int×Vec.V} {m:Vec.V} {c:Int} {w w':World} (h:r=(c,m)) (hc:c≠0) (k:Kept w w'):Jn r w (.panicked [zo c]) w':=by
 subst h;exact⟨fun h=>absurd h hc,fun _=>rfl,k⟩
theorem jm5 {v v':Value} {l l':Vec.V} {w:World} (h:Vec.Reads w v l) (h':Vec.Reads w v' l'):Calls Tryz.prog 162 #[v,v'] w (Vec.Yr (Vec.jj Vec.jD l l') w):=by
 obtain⟨a,cap,rfl,h1,h2,hr⟩:=h;obtain⟨a',cap',rfl,h1',h2',hr'⟩:=h';exact Vec.jlq a a' _ cap _ cap' l l' w hr hr' h1 h2 h1' h2'
def jlO (o:Option Nod) (w:World) (e:Ending) (w':World):Prop:=(∀n,o=some n→∃v,e=.returned v∧Jr w.heap.size w' v n)∧(o=none→e=.panicked [zo 3])∧Kept w w'
theorem jb5 (a a8 a9:Option Addr) (len cap m8 c8 m9 c9:Nat) (l:List Nod) (x:ByteArray) (w:World) (hr:jt w a len l) (hlow:∀n ∈ l,zV n) :
 Calls Tryz.prog 93 #[.agg #[.slice a len cap,.slice a8 m8 c8,.slice a9 m9 c9],.string x] w (jlO (jk l x) w):=by
 obtain⟨Z,hZ⟩:=eX ((w.alloc (.cells #[.slice a len cap,.slice a8 m8 c8,.slice a9 m9 c9] 26)).alloc (.cells #[.string ⟨#[]⟩,.slice none 0 0,.slice none 0 0,.slice none 0 0,.bool false] 57))
 have hkz:Kept w Z:=by rw[←hZ];exact jm _ _ _
 have hzs:Z.heap.size=w.heap.size+2:=by rw[←hZ];simp
 have UE:=lH (show je (w.heap.size+1) [.string ⟨#[]⟩,.slice none 0 0,.slice none 0 0,.slice none 0 0,.bool false] Z by
  have:=jb (w.alloc (.cells #[.slice a len cap,.slice a8 m8 c8,.slice a9 m9 c9] 26)) (.string ⟨#[]⟩) [.slice none 0 0,.slice none 0 0,.slice none 0 0,.bool false] 57 Z (by rw[hZ];exact Kept.refl _);rw[World.size_alloc] at this;exact this)
 have hst:Z.cell? ⟨w.heap.size,0,none⟩=some (.slice a len cap):=(jb w (.slice a len cap) [.slice a8 m8 c8,.slice a9 m9 c9] 26 Z (by rw[←hZ];exact ja _ _)).at_ 0 _ rfl;obtain⟨HF,Vc,Vf⟩:=lH3 (jia a len cap l x Z (hr.kept hkz) hlow) hkz hzs;obtain⟨o,ho⟩:=eX (jk l x)
 rw[ho] at HF ⊢;clear hr hlow hkz hzs ho
 cases o with
 | none =>
  go_enter Tryz.func93,Tryz.ntmps93;go_wp2_with fail
  try rw[hZ]
  clear hZ hst;refine HF.out.mono ?_;rintro e w1 ⟨v,rfl,hn,k1⟩;have KW:=lH (Vc.out.trans k1);obtain⟨b1,n1,d1,b2,n2,d2,b3,n3,d3,rfl,-⟩:=hn;clear k1;go_wp2;exact⟨rfl,(fun n h=>by cases h),(fun _=>rfl),KW.out.trans (ja _ _)⟩
 | some n9 =>
  go_enter Tryz.func93,Tryz.ntmps93;go_wp2_with fail
  try rw[hZ]
  clear hZ hst;refine HF.out.mono ?_;rintro e w1 ⟨v,rfl,hn,k1⟩;obtain⟨HN,VG,KW⟩:=lH3 hn (UE.out.kept k1) (Vc.out.trans k1);obtain⟨b1,n1,d1,b2,n2,d2,b3,n3,d3,hv,-⟩:=hn;have hv:v=.agg #[.string n9.name,.slice b1 n1 d1,.slice b2 n2 d2,.slice b3 n3 d3,.bool n9.cordon]:=hv;subst hv;obtain⟨z,hz⟩:=eX (n9.name)
  obtain⟨cd,hcd⟩:=eX (n9.cordon)
  have Td:=lH (show w.heap.size+2≤w1.heap.size by have:=k1.size;rw[Vf.out] at this;exact this);rw[hz,hcd];rw[hz,hcd] at HN;clear k1;have UI:=lH (VG.out.kept (ja w1 (.cells #[.string z,.slice b1 n1 d1,.slice b2 n2 d2,.slice b3 n3 d3,.bool cd] 57)));clear VG;obtain⟨W1,hW1⟩:=eX (w1.alloc (.cells #[.string z,.slice b1 n1 d1,.slice b2 n2 d2,.slice b3 n3 d3,.bool cd] 57))
  rw[hW1] at UI;have c:=jb w1 (.string z) [.slice b1 n1 d1,.slice b2 n2 d2,.slice b3 n3 d3,.bool cd] 57 W1 (by rw[hW1];exact Kept.refl _);have g0:=c.at_ 0 _ rfl;have g1:=c.at_ 1 _ rfl;have g2:=c.at_ 2 _ rfl;have g3:=c.at_ 3 _ rfl;have g4:=c.at_ 4 _ rfl;have Nq:=lH (HN.out.kept (show Kept w1 W1 by rw[←hW1];exact ja _ _));have VF:=lH (KW.out.trans (show Kept w1 W1 by rw[←hW1];exact ja _ _));obtain⟨y0,y1,y2,y3,y4⟩:=UI.out.at5;have x0:=UI.out.free 0;have x1:=UI.out.free 1;have x2:=UI.out.free 2;have x3:=UI.out.free 3;have x4:=UI.out.free 4;have P:=lH (j4 (vs:=[.string z,.slice b1 n1 d1,.slice b2 n2 d2,.slice b3 n3 d3,.bool cd]) UI.out rfl);clear UI c;go_wp2_with fail
  try rw[hW1]
  clear hW1;go_wp2;obtain⟨WE,hWE⟩:=eX (W1.setCells (w.heap.size+1) 0 [.string z,.slice b1 n1 d1,.slice b2 n2 d2,.slice b3 n3 d3,.bool cd])
  have hWE2:(((((W1.setCell ⟨(w.heap.size+1),0,none⟩ (.string z)).setCell ⟨(w.heap.size+1),1,none⟩ (.slice b1 n1 d1)).setCell ⟨(w.heap.size+1),2,none⟩ (.slice b2 n2 d2)).setCell ⟨(w.heap.size+1),3,none⟩ (.slice b3 n3 d3)).setCell ⟨(w.heap.size+1),4,none⟩ (.bool cd))=WE:=hWE;rw[hWE] at P;try rw[hWE2]
  clear hWE hWE2;obtain⟨PC,hsz,hbl,hkp⟩:=P.out;refine bodyPost_ret (by simp[results,Tryz.results93,go_sem,PC.at_ 0 _ rfl,PC.at_ 1 _ rfl,PC.at_ 2 _ rfl,PC.at_ 3 _ rfl,PC.at_ 4 _ rfl];try rfl) rfl ?_;exact⟨(fun n h=>by cases h;exact⟨_,rfl,(Nq.out.far hsz (fun b hb=>hbl b (by have:=Vf.out;omega))).less (by have:=Vf.out;omega)⟩),(fun h=>by cases h),hkp _ _ (by omega) VF.out⟩
theorem Xj (a a8 a9 b1 b2 b3:Option Addr) (len cap m8 c8 m9 c9 n1 d1 n2 d2 n3 d3:Nat) (q:ByteArray) (cd:Bool) (l:List Pd) (w:World) (hr:jC w a len l) :
 Calls Tryz.prog 95 #[.agg #[.slice a8 m8 c8,.slice a len cap,.slice a9 m9 c9],.agg #[.string q,.slice b1 n1 d1,.slice b2 n2 d2,.slice b3 n3 d3,.bool cd]] w (Jn (jF q l []) w):=by
 have hl:=hr.1;have hm:=hr.2.1;unfold maxLen at hm;obtain⟨Z,hZ⟩:=eX ((w.alloc (.cells #[.slice a8 m8 c8,.slice a len cap,.slice a9 m9 c9] 26)).alloc (.cells #[.string q,.slice b1 n1 d1,.slice b2 n2 d2,.slice b3 n3 d3,.bool cd] 57))
 have hkz:Kept w Z:=by rw[←hZ];exact jm _ _ _
 have HQ:=lH (show ∀W,Kept Z W→W.cell? ⟨w.heap.size+1,0,none⟩=some (.string q) from fun W k=>by
  have:=jb (w.alloc (.cells #[.slice a8 m8 c8,.slice a len cap,.slice a9 m9 c9] 26)) (.string q) [.slice b1 n1 d1,.slice b2 n2 d2,.slice b3 n3 d3,.bool cd] 57 W (by rw[hZ];exact k);rw[World.size_alloc] at this;exact this.at_ 0 _ rfl)
 have hst:Z.cell? ⟨w.heap.size,1,none⟩=some (.slice a len cap):=(jb w (.slice a8 m8 c8) [.slice a len cap,.slice a9 m9 c9] 26 Z (by rw[←hZ];exact ja _ _)).at_ 1 _ rfl;obtain⟨HR,HL,Vc⟩:=lH3 (hr.kept hkz) hl hkz;by_cases h0:len=0
 · subst h0;have HE:=lH (show jF q l []=(0,[]) by rw[List.eq_nil_of_length_eq_zero hl];rfl);clear hr hl hkz;go_enter Tryz.func95,Tryz.ntmps95;go_wp2;try rw[hZ]
   refine wp_loop_rounds 1 ?_;rw[rounds_succ];go_wp2;go_ret;exact Jn.good HE.out (Vec.jQ.nil _ _ _) (by first | exact Vc.out | (rw[hZ];exact Vc.out))
 · obtain⟨b,off,rfl⟩:=hr.form.resolve_left h0;clear hr hl hkz h0;go_enter Tryz.func95,Tryz.ntmps95;go_wp2;try rw[hZ]
   clear hZ hst;go_loopw [5,11] (fun s i wr=>∃k:Nat,k≤len∧i=.int .i64 k∧∃acc:Vec.V,Vec.jQ 100 wr w.heap.size s acc∧jF q (l.drop k) acc=jF q l []∧Kept Z wr) (fun _ i _=>len-(intOf i).toNat)
   case atStart=>exact⟨0,Nat.zero_le _,rfl,[],Vec.jQ.nil _ _ _,rfl,Kept.refl _⟩
   case round =>
    obtain⟨k,hk,rfl,acc,hv,hrest,hK⟩:=hrel;obtain⟨HS,HV,HK⟩:=lH3 hrest hv hK;by_cases hlt:k<len
    · obtain⟨n,a1,m1,c1,a2,m2,c2,a3,m3,c3,a4,m4,c4,hn,hd,hb,p0,p1,p2,p3,p4,p5,p6,p7,p8,p9,p10,hat⟩:=(HR.out.kept hK).at_ hlt;have HD:=lH hd;have VD:=lH hat;have q0:=HQ.out _ hK;obtain⟨t,ht⟩:=eX (eqS n.node q)
      have ht':(n.node.toList==q.toList)=t:=ht;have HT:=lH ht;have hkk:(k:Int)<(len:Int):=by omega
      have z0:=HQ.out _ (hK.trans (ja wr (.cells #[.string n.name,.string n.owner,.int .i64 n.prio,.slice a1 m1 c1,.slice a2 m2 c2,.slice a3 m3 c3,.slice a4 m4 c4,.string n.key,.int .i64 n.most,.string n.node,.bool n.hold] 44)));clear hrest hK hat hd hn ht hv
      cases t with
      | false =>
       have HX:=lH (show jF q (l.drop (k+1)) acc=jF q l [] by rw[←HS.out,HD.out,qU HT.out]);go_wp2;go_roundw
       case rel=>exact⟨k+1,by omega,by go_num,acc,HV.out.kept (ja _ _),HX.out,HK.out.trans (ja _ _)⟩
       case measure=>simp[intOf];omega
      | true =>
       obtain⟨c,m,hcm⟩:∃c m,Vec.jj Vec.jD acc n.need=(c,m):=⟨_,_,rfl⟩
       obtain⟨UT,Vy,U2⟩:=lH3 hcm (show w.heap.size≤wr.heap.size from(Vc.out.trans HK.out).size) (fun W (kk:Kept wr W)=>jm5 (HV.out.kept kk).reads (VD.out.need.kept kk));rw[hcm] at U2;clear hcm;by_cases hc:c=0
       · subst hc;have HX:=lH (show jF q (l.drop (k+1)) m=jF q l [] by rw[←HS.out,HD.out,jbl HT.out UT.out]);go_wp2_with fail
         refine(U2.out _ (ja _ _)).mono ?_;rintro e w1 ⟨x,rfl,r,kk⟩;have RX:=lH (r.base_le (show w.heap.size≤_ by rw[World.size_alloc];have:=Vy.out;omega));have KW:=lH (HK.out.trans ((ja _ _).trans kk));clear r kk;go_wp2_with fail
         refine(jcO _ _).mono ?_;rintro e w2 ⟨rfl,rfl⟩;go_wp2;go_roundw
         case rel=>exact⟨k+1,by omega,by go_num,m,RX.out,HX.out,KW.out⟩
         case measure=>simp[intOf];omega
       · have HX:=lH (show jF q l []=(c,[]) by rw[←HS.out,HD.out,jbu HT.out UT.out hc]);have HC:=lH hc;clear hc;go_wp2_with fail
         refine(U2.out _ (ja _ _)).mono ?_;rintro e w1 ⟨x,rfl,r,kk⟩;have KW:=lH (HK.out.trans ((ja _ _).trans kk));clear r kk;go_wp2_with fail
         refine(jbz _ _ _ HC.out).mono ?_;rintro e w2 ⟨rfl,rfl⟩;go_wp2;exact⟨rfl,Jn.bad HX.out HC.out (Vc.out.trans KW.out)⟩
    · have HE:=lH (show jF q l []=(0,acc) by rw[←hrest,List.drop_of_length_le (by rw[HL.out];omega)];rfl);clear hrest hK hv;go_wp2;go_ret;exact Jn.good HE.out HV.out (Vc.out.trans HK.out)
theorem jlR {v v':Value} {l l':Vec.V} {w:World} (h:Vec.Reads w v l) (h':Vec.Reads w v' l'):Calls Tryz.prog 230 #[v,v'] w (Vec.Yr (Vec.jj Vec.j6 l l') w):=by
 obtain⟨a,cap,rfl,h1,h2,hr⟩:=h;obtain⟨a',cap',rfl,h1',h2',hr'⟩:=h';exact Vec.jlN a a' _ cap _ cap' l l' w hr hr' h1 h2 h1' h2'
theorem ja0 (a a8 a9:Option Addr) (len cap m8 c8 m9 c9:Nat) (l:List Nod) (x:ByteArray) (w:World) (hr:jt w a len l) (hlow:∀n ∈ l,zV n) (hf:jk l x=none) :
 Calls Tryz.prog 93 #[.agg #[.slice a len cap,.slice a8 m8 c8,.slice a9 m9 c9],.string x] w fun e w'=>e=.panicked [zo 3]∧Kept w w':=by
 refine(jb5 a a8 a9 len cap m8 c8 m9 c9 l x w hr hlow).mono ?_;rintro e w' ⟨-,h,k⟩;exact⟨h hf,k⟩
theorem ZL (a a8 a9:Option Addr) (len cap m8 c8 m9 c9:Nat) (l:List Nod) (x:ByteArray) (n:Nod) (w:World) (hr:jt w a len l) (hlow:∀n ∈ l,zV n) (hf:jk l x=some n) :
 Calls Tryz.prog 93 #[.agg #[.slice a len cap,.slice a8 m8 c8,.slice a9 m9 c9],.string x] w fun e w'=>∃b1 n1 d1 b2 n2 d2 b3 n3 d3,e=.returned (.agg #[.string n.name,.slice b1 n1 d1,.slice b2 n2 d2,.slice b3 n3 d3,.bool n.cordon])∧zk w' (.slice b1 n1 d1) (.slice b2 n2 d2) (.slice b3 n3 d3) n∧Kept w w':=by
 refine(jb5 a a8 a9 len cap m8 c8 m9 c9 l x w hr hlow).mono ?_;rintro e w' ⟨h,-,k⟩;obtain⟨v,rfl,b1,n1,d1,b2,n2,d2,b3,n3,d3,rfl,s0,s1,s2,s3,-⟩:=h n hf;exact⟨b1,n1,d1,b2,n2,d2,b3,n3,d3,rfl,⟨s0,s1,s2,s3⟩,k⟩
theorem Jn.ok {m:Vec.V} {w w':World} {e:Ending} {r:Int×Vec.V} (h:Jn r w e w') (hr:r=(0,m)):∃v,e=.returned v∧Vec.jQ 100 w' w.heap.size v m∧Kept w w':=by
 subst hr;obtain⟨v,rfl,g⟩:=h.1 rfl;exact⟨v,rfl,g,h.2.2⟩
theorem Jn.not {m:Vec.V} {c:Int} {w w':World} {e:Ending} {r:Int×Vec.V} (h:Jn r w e w') (hr:r=(c,m)) (hc:c≠0):e=.panicked [zo c]∧Kept w w':=by
 subst hr;exact⟨h.2.1 hc,h.2.2⟩
theorem jfX (C:Addr×Addr) (r:Int×Vec.V) (w:World) (hr:r.1≠0→r.2=[])
 (hk:∀W,Kept w W→Calls Tryz.prog 215 #[.pointer (some C.1),.pointer (some C.2)] W (Jn r W)) :
 Calls Tryz.prog 211 #[.func (.func 215) #[] #[.pointer (some C.1),.pointer (some C.2)]] w (Vec.Yr r w):=by
 have hmf:=hmfL (P:=Tryz.prog);have HK:=lH hk;have HR:=lH hr;clear hk hr;obtain⟨r1,r2⟩:=r;go_enter_defers Tryz.func211,Tryz.ntmps211
 go_wp2_with fail
 refine(HK.out _ (ja _ _)).mono ?_;rintro e1 w1 ⟨h0,h1,hb⟩;have k1:=hb.size;simp only[World.size_alloc] at k1;have c2:=(hb.cell (p:=⟨w.heap.size,0,none⟩) (by simp))
 have z2:=(hb.frozen (p:=⟨w.heap.size,0,none⟩) (by simp))
 have e2':w1.cell? ⟨w.heap.size,0,none⟩=some (.int .i64 0):=by rw[c2];go_simp
 have y2:w1.frozen? ⟨w.heap.size,0,none⟩=false:=by rw[z2];go_simp
 clear c2 z2;have KB:=lH (show Below w.heap.size w w1 from(ja w _).trans hb);by_cases hx:r1=0
 · subst hx;obtain⟨v,rfl,ho⟩:=h0 rfl;have HO:=lH ho;obtain⟨av,cv,rfl,_,_,_⟩:=ho.at_;have hsz:=World.size_alloc w (.cells #[.int .i64 0] 45);clear h0 h1 hb ho;go_wp2_with fail
   refine leaves_cons (f:=240) (args:=#[.pointer (some ⟨w.heap.size,0,none⟩)]) (by simp) (by simp[go_sem]) ?_;refine(Vec.YH ⟨w.heap.size,0,none⟩ _).mono ?_;rintro e u' w'' ⟨rfl,rfl,rfl⟩;simp[Leaves,settle,results,Tryz.results211,go_sem,e2'];exact⟨_,rfl,(HO.out.setCell_below (a:=⟨w.heap.size,0,none⟩) (by simp) _).base_le (by simp),KB.out.setCell (p:=⟨w.heap.size,0,none⟩) (Nat.le_refl _) _⟩
 · obtain rfl:=h1 hx;obtain rfl:=HR.out hx;clear h0 h1 hb;go_wp2_with fail
   refine leaves_cons (f:=240) (args:=#[.pointer (some ⟨w.heap.size,0,none⟩)]) (by simp) (by simp[go_sem]) ?_;refine(Vec.J7 w.heap.size w.heap.size r1 0 _ e2' y2 (by omega)).mono ?_;rintro e u' w'' ⟨rfl,rfl,q2,q3⟩;simp[Leaves,settle,results,Tryz.results211,go_sem,q2];exact⟨_,rfl,Vec.jQ.nil _ _ _,KB.out.trans q3⟩
theorem jfW (C:Addr×Addr) (r:Int×Vec.V) (w:World) (hr:r.1≠0→r.2=[])
 (hk:∀W,Kept w W→Calls Tryz.prog 229 #[.pointer (some C.1),.pointer (some C.2)] W (Jn r W)) :
 Calls Tryz.prog 211 #[.func (.func 229) #[] #[.pointer (some C.1),.pointer (some C.2)]] w (Vec.Yr r w):=by
 have hmf:=hmfL (P:=Tryz.prog);have HK:=lH hk;have HR:=lH hr;clear hk hr;obtain⟨r1,r2⟩:=r;go_enter_defers Tryz.func211,Tryz.ntmps211
 go_wp2_with fail
 refine(HK.out _ (ja _ _)).mono ?_;rintro e1 w1 ⟨h0,h1,hb⟩;have k1:=hb.size;simp only[World.size_alloc] at k1;have c2:=(hb.cell (p:=⟨w.heap.size,0,none⟩) (by simp))
 have z2:=(hb.frozen (p:=⟨w.heap.size,0,none⟩) (by simp))
 have e2':w1.cell? ⟨w.heap.size,0,none⟩=some (.int .i64 0):=by rw[c2];go_simp
 have y2:w1.frozen? ⟨w.heap.size,0,none⟩=false:=by rw[z2];go_simp
 clear c2 z2;have KB:=lH (show Below w.heap.size w w1 from(ja w _).trans hb);by_cases hx:r1=0
 · subst hx;obtain⟨v,rfl,ho⟩:=h0 rfl;have HO:=lH ho;obtain⟨av,cv,rfl,_,_,_⟩:=ho.at_;have hsz:=World.size_alloc w (.cells #[.int .i64 0] 45);clear h0 h1 hb ho;go_wp2_with fail
   refine leaves_cons (f:=240) (args:=#[.pointer (some ⟨w.heap.size,0,none⟩)]) (by simp) (by simp[go_sem]) ?_;refine(Vec.YH ⟨w.heap.size,0,none⟩ _).mono ?_;rintro e u' w'' ⟨rfl,rfl,rfl⟩;simp[Leaves,settle,results,Tryz.results211,go_sem,e2'];exact⟨_,rfl,(HO.out.setCell_below (a:=⟨w.heap.size,0,none⟩) (by simp) _).base_le (by simp),KB.out.setCell (p:=⟨w.heap.size,0,none⟩) (Nat.le_refl _) _⟩
 · obtain rfl:=h1 hx;obtain rfl:=HR.out hx;clear h0 h1 hb;go_wp2_with fail
   refine leaves_cons (f:=240) (args:=#[.pointer (some ⟨w.heap.size,0,none⟩)]) (by simp) (by simp[go_sem]) ?_;refine(Vec.J7 w.heap.size w.heap.size r1 0 _ e2' y2 (by omega)).mono ?_;rintro e u' w'' ⟨rfl,rfl,q2,q3⟩;simp[Leaves,settle,results,Tryz.results211,go_sem,q2];exact⟨_,rfl,Vec.jQ.nil _ _ _,KB.out.trans q3⟩
def ZS (nl:List Nod) (pl:List Pd) (x:ByteArray):Int×Vec.V:=match jk nl x with | none=>(3,[]) | some n=>jF n.name pl []
def Zi (nl:List Nod) (pl:List Pd) (x:ByteArray):Int×Vec.V:=match jk nl x with | none=>(3,[]) | some n=>if (jF n.name pl []).1=0 then Vec.jj Vec.j6 n.cap (jF n.name pl []).2 else ((jF n.name pl []).1,[])
theorem jhD {nl:List Nod} {pl:List Pd} {x:ByteArray} (h:jk nl x=none):ZS nl pl x=(3,[]):=by unfold ZS;rw[h]
theorem jbF {nl:List Nod} {pl:List Pd} {x:ByteArray} {n:Nod} (h:jk nl x=some n):ZS nl pl x=jF n.name pl []:=by unfold ZS;rw[h]
theorem jhC {nl:List Nod} {pl:List Pd} {x:ByteArray} (h:jk nl x=none):Zi nl pl x=(3,[]):=by unfold Zi;rw[h]
theorem jiF {nl:List Nod} {pl:List Pd} {x:ByteArray} {n:Nod} {c:Int} {m:Vec.V} (h:jk nl x=some n) (g:jF n.name pl []=(c,m)) (hc:c≠0):Zi nl pl x=(c,[]):=by unfold Zi;rw[h];show (if (jF n.name pl []).1=0 then _ else ((jF n.name pl []).1,[]))=_;rw[g,if_neg hc]
theorem jj1 {nl:List Nod} {pl:List Pd} {x:ByteArray} {n:Nod} {m:Vec.V} (h:jk nl x=some n) (g:jF n.name pl []=(0,m)):Zi nl pl x=Vec.jj Vec.j6 n.cap m:=by unfold Zi;rw[h];show (if (jF n.name pl []).1=0 then Vec.jj Vec.j6 n.cap (jF n.name pl []).2 else _)=_;rw[g,if_pos rfl]
theorem jg0 {nl:List Nod} {pl:List Pd} {x:ByteArray}:(ZS nl pl x).1≠0→(ZS nl pl x).2=[]:=by
 unfold ZS;split
 · exact fun _=>rfl
 · exact jav
theorem jgY {nl:List Nod} {pl:List Pd} {x:ByteArray}:(Zi nl pl x).1≠0→(Zi nl pl x).2=[]:=by
 unfold Zi;split
 · exact fun _=>rfl
 · split
   · exact Vec.XA _ _
   · exact fun _=>rfl
theorem jhF (a b d:Option Addr) (len cap m c n e:Nat) (nl:List Nod) (pl:List Pd) (p q:Nat) (x:ByteArray) (w:World) (h0:w.cell? ⟨p,0,none⟩=some (.slice a len cap)) (h1:w.cell? ⟨p,1,none⟩=some (.slice b m c)) (h2:w.cell? ⟨p,2,none⟩=some (.slice d n e)) (hq:w.cell? ⟨q,0,none⟩=some (.string x)) (hn:jt w a len nl) (hp:jC w b m pl) (hlow:∀n ∈ nl,zV n) :
 Calls Tryz.prog 215 #[.pointer (some ⟨p,0,none⟩),.pointer (some ⟨q,0,none⟩)] w (Jn (ZS nl pl x) w):=by
 obtain⟨HS,HN,HP,Vr⟩:=lH4 (show ∀W,Kept w W→W.cell? ⟨p,0,none⟩=some (.slice a len cap)∧W.cell? ⟨p,1,none⟩=some (.slice b m c)∧W.cell? ⟨p,2,none⟩=some (.slice d n e)∧W.cell? ⟨q,0,none⟩=some (.string x) from fun W k=>⟨cell_later k h0,cell_later k h1,cell_later k h2,cell_later k hq⟩) hn hp hlow;clear h0 h1 h2 hq hn hp hlow
 cases hf:jk nl x with
 | none =>
  have HE:=lH (jhD (pl:=pl) hf);have HF:=lH hf;clear hf;go_enter Tryz.func215,Tryz.ntmps215;go_wp2;refine wp_region_held_drew (S:=fun W=>W.cell? ⟨p,0,none⟩=some (.slice a len cap)∧W.cell? ⟨p,1,none⟩=some (.slice b m c)∧W.cell? ⟨p,2,none⟩=some (.slice d n e)∧W.cell? ⟨q,0,none⟩=some (.string x)) (by kernel_rfl) (HS.out _ (Kept.drew _)) (fun hHeld=>?_);refine tR 0 rfl (by kernel_rfl) (fun _ _ _=>id) (Or.inl ⟨by rfl,by rintro W ⟨o0,o1,o2,o3⟩;go_simp<;>with_reducible rfl⟩) ‹_› ?_;refine tR 1 rfl (by kernel_rfl) (fun _ _ _=>id) (Or.inl ⟨by rfl,by rintro W ⟨o0,o1,o2,o3⟩;go_simp<;>with_reducible rfl⟩) ‹_› ?_;refine tR 2 rfl (by kernel_rfl) (fun _ _ _=>id) (Or.inl ⟨by rfl,by rintro W ⟨o0,o1,o2,o3⟩;go_simp<;>with_reducible rfl⟩) ‹_› ?_;try simp only[nA,nB,nC,nD,nE]
  refine rd1 3 fun K9 Ky=>?_;go_simp;refine(ja0 a b d len cap m c n e nl x _ (HN.out.kept (Kept.drew _)) Vr.out HF.out).mono ?_;rintro e1 w1 ⟨rfl,kk⟩;exact⟨rfl,Jn.bad HE.out (by decide) ((Kept.drew _).trans kk)⟩
 | some n9 =>
  obtain⟨c9,m9,hu⟩:∃c m,jF n9.name pl []=(c,m):=⟨_,_,rfl⟩
  have HU:=lH hu;have HF:=lH hf;clear hf hu;by_cases hc:c9=0
  · subst hc;have HE:=lH ((jbF (pl:=pl) HF.out).trans HU.out);go_enter Tryz.func215,Tryz.ntmps215;go_wp2;refine wp_region_held_drew (S:=fun W=>W.cell? ⟨p,0,none⟩=some (.slice a len cap)∧W.cell? ⟨p,1,none⟩=some (.slice b m c)∧W.cell? ⟨p,2,none⟩=some (.slice d n e)∧W.cell? ⟨q,0,none⟩=some (.string x)) (by kernel_rfl) (HS.out _ (Kept.drew _)) (fun hHeld=>?_);refine tR 0 rfl (by kernel_rfl) (fun _ _ _=>id) (Or.inl ⟨by rfl,by rintro W ⟨o0,o1,o2,o3⟩;go_simp<;>with_reducible rfl⟩) ‹_› ?_;refine tR 1 rfl (by kernel_rfl) (fun _ _ _=>id) (Or.inl ⟨by rfl,by rintro W ⟨o0,o1,o2,o3⟩;go_simp<;>with_reducible rfl⟩) ‹_› ?_;refine tR 2 rfl (by kernel_rfl) (fun _ _ _=>id) (Or.inl ⟨by rfl,by rintro W ⟨o0,o1,o2,o3⟩;go_simp<;>with_reducible rfl⟩) ‹_› ?_;try simp only[nA,nB,nC,nD,nE]
    refine rd1 3 fun K9 Ky=>?_;go_simp;refine(ZL a b d len cap m c n e nl x n9 _ (HN.out.kept (Kept.drew _)) Vr.out HF.out).mono ?_;rintro e1 w1 ⟨b1,n1,d1,b2,n2,d2,b3,n3,d3,rfl,hat,kk⟩;have J1:=lH ((Kept.drew _).trans kk);clear kk hat;refine Ky.out _ _ (HS.out _ J1.out) (fun _=>?_);clear Ky K9;try simp only[nA,nB,nC,nD,nE]
    refine rd1 4 fun K9 Ky=>?_;go_simp;refine((Xj b a d b1 b2 b3 m c len cap n e n1 d1 n2 d2 n3 d3 n9.name n9.cordon pl _ (HP.out.kept J1.out)).mono fun _ _ h=>h.ok HU.out).mono ?_;rintro e2 w2 ⟨v,rfl,ho,kk⟩;have J2:=lH (J1.out.trans kk);have HO:=lH (ho.base_le J1.out.size);clear kk ho;refine Ky.out _ _ (HS.out _ J2.out) (fun _=>?_);clear Ky K9;try simp only[nA,nB,nC,nD,nE]
    refine tR 5 rfl (by kernel_rfl) (fun _ _ _=>id) (Or.inl ⟨by rfl,by rintro W ⟨o0,o1,o2,o3⟩;go_simp<;>with_reducible rfl⟩) ‹_› ?_;try simp only[nA,nB,nC,nD,nE]
    refine wpAnyH_done (by kernel_rfl) ?_ _;go_wp2;go_ret;exact Jn.good HE.out HO.out J2.out
  · have HE:=lH (show ZS nl pl x=(c9,m9) from(jbF (pl:=pl) HF.out).trans HU.out);have HC:=lH hc;clear hc;go_enter Tryz.func215,Tryz.ntmps215;go_wp2;refine wp_region_held_drew (S:=fun W=>W.cell? ⟨p,0,none⟩=some (.slice a len cap)∧W.cell? ⟨p,1,none⟩=some (.slice b m c)∧W.cell? ⟨p,2,none⟩=some (.slice d n e)∧W.cell? ⟨q,0,none⟩=some (.string x)) (by kernel_rfl) (HS.out _ (Kept.drew _)) (fun hHeld=>?_);refine tR 0 rfl (by kernel_rfl) (fun _ _ _=>id) (Or.inl ⟨by rfl,by rintro W ⟨o0,o1,o2,o3⟩;go_simp<;>with_reducible rfl⟩) ‹_› ?_;refine tR 1 rfl (by kernel_rfl) (fun _ _ _=>id) (Or.inl ⟨by rfl,by rintro W ⟨o0,o1,o2,o3⟩;go_simp<;>with_reducible rfl⟩) ‹_› ?_;refine tR 2 rfl (by kernel_rfl) (fun _ _ _=>id) (Or.inl ⟨by rfl,by rintro W ⟨o0,o1,o2,o3⟩;go_simp<;>with_reducible rfl⟩) ‹_› ?_;try simp only[nA,nB,nC,nD,nE]
    refine rd1 3 fun K9 Ky=>?_;go_simp;refine(ZL a b d len cap m c n e nl x n9 _ (HN.out.kept (Kept.drew _)) Vr.out HF.out).mono ?_;rintro e1 w1 ⟨b1,n1,d1,b2,n2,d2,b3,n3,d3,rfl,hat,kk⟩;have J1:=lH ((Kept.drew _).trans kk);clear kk hat;refine Ky.out _ _ (HS.out _ J1.out) (fun _=>?_);clear Ky K9;try simp only[nA,nB,nC,nD,nE]
    refine rd1 4 fun K9 Ky=>?_;go_simp;refine((Xj b a d b1 b2 b3 m c len cap n e n1 d1 n2 d2 n3 d3 n9.name n9.cordon pl _ (HP.out.kept J1.out)).mono fun _ _ h=>h.not HU.out HC.out).mono ?_;rintro e2 w2 ⟨rfl,kk⟩;exact⟨rfl,Jn.bad HE.out HC.out (J1.out.trans kk)⟩
theorem jhb (a b d:Option Addr) (len cap m c n e:Nat) (nl:List Nod) (pl:List Pd) (p q:Nat) (x:ByteArray) (w:World) (h0:w.cell? ⟨p,0,none⟩=some (.slice a len cap)) (h1:w.cell? ⟨p,1,none⟩=some (.slice b m c)) (h2:w.cell? ⟨p,2,none⟩=some (.slice d n e)) (hq:w.cell? ⟨q,0,none⟩=some (.string x)) (hn:jt w a len nl) (hp:jC w b m pl) (hlow:∀n ∈ nl,zV n) :
 Calls Tryz.prog 229 #[.pointer (some ⟨p,0,none⟩),.pointer (some ⟨q,0,none⟩)] w (Jn (Zi nl pl x) w):=by
 obtain⟨HS,HN,HP,Vr⟩:=lH4 (show ∀W,Kept w W→W.cell? ⟨p,0,none⟩=some (.slice a len cap)∧W.cell? ⟨p,1,none⟩=some (.slice b m c)∧W.cell? ⟨p,2,none⟩=some (.slice d n e) from fun W k=>⟨cell_later k h0,cell_later k h1,cell_later k h2⟩) hn hp hlow;clear hn hp hlow
 cases hf:jk nl x with
 | none =>
  have HE:=lH (jhC (pl:=pl) hf);have HF:=lH hf;clear hf;go_enter Tryz.func229,Tryz.ntmps229;go_wp2_with fail
  refine(ja0 a b d len cap m c n e nl x _ HN.out Vr.out HF.out).mono ?_;rintro e1 w1 ⟨rfl,kk⟩;go_wp2;exact⟨rfl,Jn.bad HE.out (by decide) kk⟩
 | some n9 =>
  obtain⟨c9,m9,hu⟩:∃c m,jF n9.name pl []=(c,m):=⟨_,_,rfl⟩
  have HU:=lH hu;have HF:=lH hf;clear hf hu;by_cases hc:c9=0
  · subst hc;obtain⟨c8,m8,hs⟩:∃c m,Vec.jj Vec.j6 n9.cap m9=(c,m):=⟨_,_,rfl⟩
    have HM:=lH hs;have HE:=lH (show Zi nl pl x=(c8,m8) from(jj1 HF.out HU.out).trans hs);clear hs;by_cases hc:c8=0
    · subst hc;go_enter Tryz.func229,Tryz.ntmps229;go_wp2_with fail
      refine(ZL a b d len cap m c n e nl x n9 _ HN.out Vr.out HF.out).mono ?_;rintro e1 w1 ⟨b1,n1,d1,b2,n2,d2,b3,n3,d3,rfl,hat,kk⟩;have HA:=lH hat;obtain⟨z0,hz0⟩:=eX (n9.name)
      obtain⟨z4,hz4⟩:=eX (n9.cordon)
      rw[hz0,hz4];rw[hz0] at HU;obtain⟨W1,hW1⟩:=eX (w1.alloc (.cells #[.string z0,.slice b1 n1 d1,.slice b2 n2 d2,.slice b3 n3 d3,.bool z4] 57))
      have hk1:Kept w1 W1:=by rw[←hW1];exact ja _ _
      obtain⟨HB,J0,TQ⟩:=lH3 (fun W (k:Kept W1 W)=>jb w1 (.string z0) [.slice b1 n1 d1,.slice b2 n2 d2,.slice b3 n3 d3,.bool z4] 57 W (by rw[hW1];exact k)) (kk.trans hk1) (fun W (k:Kept W1 W)=>HA.out.kept (hk1.trans k));clear kk hat hk1 h0 h1 h2;go_wp2_with fail
      try rw[hW1]
      clear hW1;have HT:=lH (show ∀W,Kept W1 W→W.cell? ⟨p,0,none⟩=some (.slice a len cap)∧W.cell? ⟨p,1,none⟩=some (.slice b m c)∧W.cell? ⟨p,2,none⟩=some (.slice d n e)∧W.cell? ⟨w1.heap.size,0,none⟩=some (.string z0)∧W.cell? ⟨w1.heap.size,1,none⟩=some (.slice b1 n1 d1)∧W.cell? ⟨w1.heap.size,2,none⟩=some (.slice b2 n2 d2)∧W.cell? ⟨w1.heap.size,3,none⟩=some (.slice b3 n3 d3)∧W.cell? ⟨w1.heap.size,4,none⟩=some (.bool z4) from fun W k=>by
       obtain⟨o0,o1,o2⟩:=HS.out W (J0.out.trans k);have c:=HB.out W k;exact⟨o0,o1,o2,c.at_ 0 _ rfl,c.at_ 1 _ rfl,c.at_ 2 _ rfl,c.at_ 3 _ rfl,c.at_ 4 _ rfl⟩)
      refine wp_region_held_drew (S:=fun W=>W.cell? ⟨p,0,none⟩=some (.slice a len cap)∧W.cell? ⟨p,1,none⟩=some (.slice b m c)∧W.cell? ⟨p,2,none⟩=some (.slice d n e)∧W.cell? ⟨w1.heap.size,0,none⟩=some (.string z0)∧W.cell? ⟨w1.heap.size,1,none⟩=some (.slice b1 n1 d1)∧W.cell? ⟨w1.heap.size,2,none⟩=some (.slice b2 n2 d2)∧W.cell? ⟨w1.heap.size,3,none⟩=some (.slice b3 n3 d3)∧W.cell? ⟨w1.heap.size,4,none⟩=some (.bool z4)) (by kernel_rfl) (HT.out _ (Kept.drew _)) (fun hHeld=>?_);refine tR 0 rfl (by kernel_rfl) (fun _ _ _=>id) (Or.inl ⟨by rfl,by rintro W ⟨o0,o1,o2,o3,o4,o5,o6,o7⟩;go_simp<;>with_reducible rfl⟩) ‹_› ?_;refine tR 1 rfl (by kernel_rfl) (fun _ _ _=>id) (Or.inl ⟨by rfl,by rintro W ⟨o0,o1,o2,o3,o4,o5,o6,o7⟩;go_simp<;>with_reducible rfl⟩) ‹_› ?_;refine tR 2 rfl (by kernel_rfl) (fun _ _ _=>id) (Or.inl ⟨by rfl,by rintro W ⟨o0,o1,o2,o3,o4,o5,o6,o7⟩;go_simp<;>with_reducible rfl⟩) ‹_› ?_;refine tR 3 rfl (by kernel_rfl) (fun _ _ _=>id) (Or.inl ⟨by rfl,by rintro W ⟨o0,o1,o2,o3,o4,o5,o6,o7⟩;go_simp<;>with_reducible rfl⟩) ‹_› ?_;try simp only[nA,nB,nC,nD,nE]
      refine rd1 4 fun K9 Ky=>?_;go_simp;refine((Xj b a d b1 b2 b3 m c len cap n e n1 d1 n2 d2 n3 d3 z0 z4 pl _ (HP.out.kept (J0.out.trans (Kept.drew _)))).mono fun _ _ h=>h.ok HU.out).mono ?_;rintro e2 w2 ⟨v,rfl,ho,kk⟩;have J2:=lH ((Kept.drew _).trans kk);have HO:=lH ho;clear kk ho;refine Ky.out _ _ (HT.out _ J2.out) (fun _=>?_);clear Ky K9;try simp only[nA,nB,nC,nD,nE]
      refine rd1 5 fun K9 Ky=>?_;go_simp;have Vs:=jlR (TQ.out _ J2.out).cap HO.out.reads;rw[HM.out] at Vs;refine Vs.mono ?_;rintro e3 w3 ⟨x3,rfl,ho3,kk⟩;have J3:=lH (J2.out.trans kk);have RL:=lH (ho3.base_le (show w.heap.size≤_ from(J0.out.trans J2.out).size));clear kk ho3;refine Ky.out _ _ (HT.out _ J3.out) (fun _=>?_);clear Ky K9;try simp only[nA,nB,nC,nD,nE]
      refine tR 6 rfl (by kernel_rfl) (fun _ _ _=>id) (Or.inl ⟨by rfl,by rintro W ⟨o0,o1,o2,o3,o4,o5,o6,o7⟩;go_simp<;>with_reducible rfl⟩) ‹_› ?_;refine tR 7 rfl (by kernel_rfl) (fun _ _ _=>id) (Or.inl ⟨by rfl,by rintro W ⟨o0,o1,o2,o3,o4,o5,o6,o7⟩;go_simp<;>with_reducible rfl⟩) ‹_› ?_;try simp only[nA,nB,nC,nD,nE]
      refine rd1 8 fun K9 Ky=>?_;go_simp;refine(jcO _ _).mono ?_;rintro e4 w4 ⟨rfl,rfl⟩;refine Ky.out _ _ (HT.out _ J3.out) (fun _=>?_);clear Ky K9;try simp only[nA,nB,nC,nD,nE]
      refine tR 9 rfl (by kernel_rfl) (fun _ _ _=>id) (Or.inl ⟨by rfl,by rintro W ⟨o0,o1,o2,o3,o4,o5,o6,o7⟩;go_simp<;>with_reducible rfl⟩) ‹_› ?_;try simp only[nA,nB,nC,nD,nE]
      refine wpAnyH_done (by kernel_rfl) ?_ _;go_wp2;go_ret;exact Jn.good HE.out RL.out (J0.out.trans J3.out)
    · have HC:=lH hc;clear hc;go_enter Tryz.func229,Tryz.ntmps229;go_wp2_with fail
      refine(ZL a b d len cap m c n e nl x n9 _ HN.out Vr.out HF.out).mono ?_;rintro e1 w1 ⟨b1,n1,d1,b2,n2,d2,b3,n3,d3,rfl,hat,kk⟩;have HA:=lH hat;obtain⟨z0,hz0⟩:=eX (n9.name)
      obtain⟨z4,hz4⟩:=eX (n9.cordon)
      rw[hz0,hz4];rw[hz0] at HU;obtain⟨W1,hW1⟩:=eX (w1.alloc (.cells #[.string z0,.slice b1 n1 d1,.slice b2 n2 d2,.slice b3 n3 d3,.bool z4] 57))
      have hk1:Kept w1 W1:=by rw[←hW1];exact ja _ _
      obtain⟨HB,J0,TQ⟩:=lH3 (fun W (k:Kept W1 W)=>jb w1 (.string z0) [.slice b1 n1 d1,.slice b2 n2 d2,.slice b3 n3 d3,.bool z4] 57 W (by rw[hW1];exact k)) (kk.trans hk1) (fun W (k:Kept W1 W)=>HA.out.kept (hk1.trans k));clear kk hat hk1 h0 h1 h2;go_wp2_with fail
      try rw[hW1]
      clear hW1;have HT:=lH (show ∀W,Kept W1 W→W.cell? ⟨p,0,none⟩=some (.slice a len cap)∧W.cell? ⟨p,1,none⟩=some (.slice b m c)∧W.cell? ⟨p,2,none⟩=some (.slice d n e)∧W.cell? ⟨w1.heap.size,0,none⟩=some (.string z0)∧W.cell? ⟨w1.heap.size,1,none⟩=some (.slice b1 n1 d1)∧W.cell? ⟨w1.heap.size,2,none⟩=some (.slice b2 n2 d2)∧W.cell? ⟨w1.heap.size,3,none⟩=some (.slice b3 n3 d3)∧W.cell? ⟨w1.heap.size,4,none⟩=some (.bool z4) from fun W k=>by
       obtain⟨o0,o1,o2⟩:=HS.out W (J0.out.trans k);have c:=HB.out W k;exact⟨o0,o1,o2,c.at_ 0 _ rfl,c.at_ 1 _ rfl,c.at_ 2 _ rfl,c.at_ 3 _ rfl,c.at_ 4 _ rfl⟩)
      refine wp_region_held_drew (S:=fun W=>W.cell? ⟨p,0,none⟩=some (.slice a len cap)∧W.cell? ⟨p,1,none⟩=some (.slice b m c)∧W.cell? ⟨p,2,none⟩=some (.slice d n e)∧W.cell? ⟨w1.heap.size,0,none⟩=some (.string z0)∧W.cell? ⟨w1.heap.size,1,none⟩=some (.slice b1 n1 d1)∧W.cell? ⟨w1.heap.size,2,none⟩=some (.slice b2 n2 d2)∧W.cell? ⟨w1.heap.size,3,none⟩=some (.slice b3 n3 d3)∧W.cell? ⟨w1.heap.size,4,none⟩=some (.bool z4)) (by kernel_rfl) (HT.out _ (Kept.drew _)) (fun hHeld=>?_);refine tR 0 rfl (by kernel_rfl) (fun _ _ _=>id) (Or.inl ⟨by rfl,by rintro W ⟨o0,o1,o2,o3,o4,o5,o6,o7⟩;go_simp<;>with_reducible rfl⟩) ‹_› ?_;refine tR 1 rfl (by kernel_rfl) (fun _ _ _=>id) (Or.inl ⟨by rfl,by rintro W ⟨o0,o1,o2,o3,o4,o5,o6,o7⟩;go_simp<;>with_reducible rfl⟩) ‹_› ?_;refine tR 2 rfl (by kernel_rfl) (fun _ _ _=>id) (Or.inl ⟨by rfl,by rintro W ⟨o0,o1,o2,o3,o4,o5,o6,o7⟩;go_simp<;>with_reducible rfl⟩) ‹_› ?_;refine tR 3 rfl (by kernel_rfl) (fun _ _ _=>id) (Or.inl ⟨by rfl,by rintro W ⟨o0,o1,o2,o3,o4,o5,o6,o7⟩;go_simp<;>with_reducible rfl⟩) ‹_› ?_;try simp only[nA,nB,nC,nD,nE]
      refine rd1 4 fun K9 Ky=>?_;go_simp;refine((Xj b a d b1 b2 b3 m c len cap n e n1 d1 n2 d2 n3 d3 z0 z4 pl _ (HP.out.kept (J0.out.trans (Kept.drew _)))).mono fun _ _ h=>h.ok HU.out).mono ?_;rintro e2 w2 ⟨v,rfl,ho,kk⟩;have J2:=lH ((Kept.drew _).trans kk);have HO:=lH ho;clear kk ho;refine Ky.out _ _ (HT.out _ J2.out) (fun _=>?_);clear Ky K9;try simp only[nA,nB,nC,nD,nE]
      refine rd1 5 fun K9 Ky=>?_;go_simp;have Vs:=jlR (TQ.out _ J2.out).cap HO.out.reads;rw[HM.out] at Vs;refine Vs.mono ?_;rintro e3 w3 ⟨x3,rfl,ho3,kk⟩;have J3:=lH (J2.out.trans kk);have RL:=lH (ho3.base_le (show w.heap.size≤_ from(J0.out.trans J2.out).size));clear kk ho3;refine Ky.out _ _ (HT.out _ J3.out) (fun _=>?_);clear Ky K9;try simp only[nA,nB,nC,nD,nE]
      refine tR 6 rfl (by kernel_rfl) (fun _ _ _=>id) (Or.inl ⟨by rfl,by rintro W ⟨o0,o1,o2,o3,o4,o5,o6,o7⟩;go_simp<;>with_reducible rfl⟩) ‹_› ?_;refine tR 7 rfl (by kernel_rfl) (fun _ _ _=>id) (Or.inl ⟨by rfl,by rintro W ⟨o0,o1,o2,o3,o4,o5,o6,o7⟩;go_simp<;>with_reducible rfl⟩) ‹_› ?_;try simp only[nA,nB,nC,nD,nE]
      refine rd1 8 fun K9 Ky=>?_;go_simp;refine(jbz _ _ _ HC.out).mono ?_;rintro e4 w4 ⟨rfl,rfl⟩;exact⟨rfl,Jn.bad HE.out HC.out (J0.out.trans J3.out)⟩
  · have HE:=lH (jiF (pl:=pl) HF.out HU.out hc);have HC:=lH hc;clear hc;go_enter Tryz.func229,Tryz.ntmps229;go_wp2_with fail
    refine(ZL a b d len cap m c n e nl x n9 _ HN.out Vr.out HF.out).mono ?_;rintro e1 w1 ⟨b1,n1,d1,b2,n2,d2,b3,n3,d3,rfl,hat,kk⟩;have HA:=lH hat;obtain⟨z0,hz0⟩:=eX (n9.name)
    obtain⟨z4,hz4⟩:=eX (n9.cordon)
    rw[hz0,hz4];rw[hz0] at HU;obtain⟨W1,hW1⟩:=eX (w1.alloc (.cells #[.string z0,.slice b1 n1 d1,.slice b2 n2 d2,.slice b3 n3 d3,.bool z4] 57))
    have hk1:Kept w1 W1:=by rw[←hW1];exact ja _ _
    obtain⟨HB,J0,TQ⟩:=lH3 (fun W (k:Kept W1 W)=>jb w1 (.string z0) [.slice b1 n1 d1,.slice b2 n2 d2,.slice b3 n3 d3,.bool z4] 57 W (by rw[hW1];exact k)) (kk.trans hk1) (fun W (k:Kept W1 W)=>HA.out.kept (hk1.trans k));clear kk hat hk1 h0 h1 h2;go_wp2_with fail
    try rw[hW1]
    clear hW1;have HT:=lH (show ∀W,Kept W1 W→W.cell? ⟨p,0,none⟩=some (.slice a len cap)∧W.cell? ⟨p,1,none⟩=some (.slice b m c)∧W.cell? ⟨p,2,none⟩=some (.slice d n e)∧W.cell? ⟨w1.heap.size,0,none⟩=some (.string z0)∧W.cell? ⟨w1.heap.size,1,none⟩=some (.slice b1 n1 d1)∧W.cell? ⟨w1.heap.size,2,none⟩=some (.slice b2 n2 d2)∧W.cell? ⟨w1.heap.size,3,none⟩=some (.slice b3 n3 d3)∧W.cell? ⟨w1.heap.size,4,none⟩=some (.bool z4) from fun W k=>by
     obtain⟨o0,o1,o2⟩:=HS.out W (J0.out.trans k);have c:=HB.out W k;exact⟨o0,o1,o2,c.at_ 0 _ rfl,c.at_ 1 _ rfl,c.at_ 2 _ rfl,c.at_ 3 _ rfl,c.at_ 4 _ rfl⟩)
    refine wp_region_held_drew (S:=fun W=>W.cell? ⟨p,0,none⟩=some (.slice a len cap)∧W.cell? ⟨p,1,none⟩=some (.slice b m c)∧W.cell? ⟨p,2,none⟩=some (.slice d n e)∧W.cell? ⟨w1.heap.size,0,none⟩=some (.string z0)∧W.cell? ⟨w1.heap.size,1,none⟩=some (.slice b1 n1 d1)∧W.cell? ⟨w1.heap.size,2,none⟩=some (.slice b2 n2 d2)∧W.cell? ⟨w1.heap.size,3,none⟩=some (.slice b3 n3 d3)∧W.cell? ⟨w1.heap.size,4,none⟩=some (.bool z4)) (by kernel_rfl) (HT.out _ (Kept.drew _)) (fun hHeld=>?_);refine tR 0 rfl (by kernel_rfl) (fun _ _ _=>id) (Or.inl ⟨by rfl,by rintro W ⟨o0,o1,o2,o3,o4,o5,o6,o7⟩;go_simp<;>with_reducible rfl⟩) ‹_› ?_;refine tR 1 rfl (by kernel_rfl) (fun _ _ _=>id) (Or.inl ⟨by rfl,by rintro W ⟨o0,o1,o2,o3,o4,o5,o6,o7⟩;go_simp<;>with_reducible rfl⟩) ‹_› ?_;refine tR 2 rfl (by kernel_rfl) (fun _ _ _=>id) (Or.inl ⟨by rfl,by rintro W ⟨o0,o1,o2,o3,o4,o5,o6,o7⟩;go_simp<;>with_reducible rfl⟩) ‹_› ?_;refine tR 3 rfl (by kernel_rfl) (fun _ _ _=>id) (Or.inl ⟨by rfl,by rintro W ⟨o0,o1,o2,o3,o4,o5,o6,o7⟩;go_simp<;>with_reducible rfl⟩) ‹_› ?_;try simp only[nA,nB,nC,nD,nE]
    refine rd1 4 fun K9 Ky=>?_;go_simp;refine((Xj b a d b1 b2 b3 m c len cap n e n1 d1 n2 d2 n3 d3 z0 z4 pl _ (HP.out.kept (J0.out.trans (Kept.drew _)))).mono fun _ _ h=>h.not HU.out HC.out).mono ?_;rintro e2 w2 ⟨rfl,kk⟩;exact⟨rfl,Jn.bad HE.out HC.out (J0.out.trans ((Kept.drew _).trans kk))⟩
theorem jib (a b d:Option Addr) (len cap m c n e:Nat) (nl:List Nod) (pl:List Pd) (x:ByteArray) (w:World) (hn:jt w a len nl) (hp:jC w b m pl) (hlow:∀n ∈ nl,zV n) :
 Calls Tryz.prog 165 #[.agg #[.slice a len cap,.slice b m c,.slice d n e],.string x] w (Vec.Yr (ZS nl pl x) w):=by
 have hmf:=hmfL (P:=Tryz.prog);obtain⟨Z,hZ⟩:=eX ((w.alloc (.cells #[.slice a len cap,.slice b m c,.slice d n e] 26)).alloc (.cells #[.string x] 9))
 have hkz:Kept w Z:=by rw[←hZ];exact jm _ _ _
 have hC:∀W,Kept Z W→Calls Tryz.prog 215 #[.pointer (some ⟨w.heap.size,0,none⟩),.pointer (some ⟨w.heap.size+1,0,none⟩)] W (Jn (ZS nl pl x) W):=by
  intro W k;have cc:=jb w (.slice a len cap) [.slice b m c,.slice d n e] 26 W (by have:=(ja (w.alloc (.cells #[.slice a len cap,.slice b m c,.slice d n e] 26)) (.cells #[.string x] 9));rw[hZ] at this;exact this.trans k);have dd:=jb (w.alloc (.cells #[.slice a len cap,.slice b m c,.slice d n e] 26)) (.string x) [] 9 W (by rw[hZ];exact k);rw[World.size_alloc] at dd;exact jhF a b d len cap m c n e nl pl w.heap.size (w.heap.size+1) x W (cc.at_ 0 _ rfl) (cc.at_ 1 _ rfl) (cc.at_ 2 _ rfl) (dd.at_ 0 _ rfl) (hn.kept (hkz.trans k)) (hp.kept (hkz.trans k)) hlow
 have HC:=lH hC;have Vc:=lH hkz;clear hC hn hkz hp hlow;go_enter Tryz.func165,Tryz.ntmps165;go_wp2_with fail
 try rw[hZ]
 refine(jfX (⟨w.heap.size,0,none⟩,⟨w.heap.size+1,0,none⟩) (ZS nl pl x) _ jg0 HC.out).mono ?_;rintro e1 w1 ⟨v,rfl,ho,k⟩;have HO:=lH ho;have HK:=lH k;clear ho k;go_wp2;go_ret2
 exact⟨v,rfl,HO.out.base_le Vc.out.size,Vc.out.trans HK.out⟩
theorem jiH (a b d:Option Addr) (len cap m c n e:Nat) (nl:List Nod) (pl:List Pd) (x:ByteArray) (w:World) (hn:jt w a len nl) (hp:jC w b m pl) (hlow:∀n ∈ nl,zV n) :
 Calls Tryz.prog 196 #[.agg #[.slice a len cap,.slice b m c,.slice d n e],.string x] w (Vec.Yr (Zi nl pl x) w):=by
 have hmf:=hmfL (P:=Tryz.prog);obtain⟨Z,hZ⟩:=eX ((w.alloc (.cells #[.slice a len cap,.slice b m c,.slice d n e] 26)).alloc (.cells #[.string x] 9))
 have hkz:Kept w Z:=by rw[←hZ];exact jm _ _ _
 have hC:∀W,Kept Z W→Calls Tryz.prog 229 #[.pointer (some ⟨w.heap.size,0,none⟩),.pointer (some ⟨w.heap.size+1,0,none⟩)] W (Jn (Zi nl pl x) W):=by
  intro W k;have cc:=jb w (.slice a len cap) [.slice b m c,.slice d n e] 26 W (by have:=(ja (w.alloc (.cells #[.slice a len cap,.slice b m c,.slice d n e] 26)) (.cells #[.string x] 9));rw[hZ] at this;exact this.trans k);have dd:=jb (w.alloc (.cells #[.slice a len cap,.slice b m c,.slice d n e] 26)) (.string x) [] 9 W (by rw[hZ];exact k);rw[World.size_alloc] at dd;exact jhb a b d len cap m c n e nl pl w.heap.size (w.heap.size+1) x W (cc.at_ 0 _ rfl) (cc.at_ 1 _ rfl) (cc.at_ 2 _ rfl) (dd.at_ 0 _ rfl) (hn.kept (hkz.trans k)) (hp.kept (hkz.trans k)) hlow
 have HC:=lH hC;have Vc:=lH hkz;clear hC hn hkz hp hlow;go_enter Tryz.func196,Tryz.ntmps196;go_wp2_with fail
 try rw[hZ]
 refine(jfW (⟨w.heap.size,0,none⟩,⟨w.heap.size+1,0,none⟩) (Zi nl pl x) _ jgY HC.out).mono ?_;rintro e1 w1 ⟨v,rfl,ho,k⟩;have HO:=lH ho;have HK:=lH k;clear ho k;go_wp2;go_ret2
 exact⟨v,rfl,HO.out.base_le Vc.out.size,Vc.out.trans HK.out⟩
def jim (c:Int) (v:Value) (w:World) (e:Ending) (w':World):Prop:=(c=0→e=.returned v)∧(c≠0→e=.panicked [zo c])∧Kept w w'
theorem jim.bad {x c:Int} {v:Value} {w w':World} (h:x=c) (hc:c≠0) (k:Kept w w'):jim x v w (.panicked [zo c]) w':=by
 subst h;exact⟨fun h=>absurd h hc,fun _=>rfl,k⟩
theorem jaI {nl:List Nod} {pl:List Pd} {bl:List Bd} {c:Int} (h:or3 (jV nl) (jK pl) (jY bl)=c) (hc:c≠0):Jt ⟨nl,pl,bl⟩=c:=by
 unfold Jt;dsimp only;rw[h,if_pos hc]
theorem jcM {nl:List Nod} {pl:List Pd} {bl:List Bd} {c:Int} (h:or3 (jV nl) (jK pl) (jY bl)=0) (g:jE nl pl=c) (hc:c≠0):Jt ⟨nl,pl,bl⟩=c:=by
 unfold Jt;dsimp only;rw[h,if_neg (by simp),g,if_pos hc]
theorem jbn {nl:List Nod} {pl:List Pd} {bl:List Bd} {c:Int} (h:or3 (jV nl) (jK pl) (jY bl)=0) (g:jE nl pl=0) (r:jW pl nl=c) (hc:c≠0):Jt ⟨nl,pl,bl⟩=c:=by
 unfold Jt;dsimp only;rw[h,if_neg (by simp),g,if_neg (by simp),r,if_pos hc]
theorem ja3 {nl:List Nod} {pl:List Pd} {bl:List Bd} (h:or3 (jV nl) (jK pl) (jY bl)=0) (g:jE nl pl=0) (r:jW pl nl=0):Jt ⟨nl,pl,bl⟩=(Zf nl []).1:=by
 unfold Jt;dsimp only;rw[h,if_neg (by simp),g,if_neg (by simp),r,if_neg (by simp)]
end Go.Proofs.YtokdjfoalkmhiaaGreat
