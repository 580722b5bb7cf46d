/- C. -/
import Derived.Test.YtibepooajeakfaaGreatG0
import Derived.Test.YtibepooajeakfaaGreatG1
import Derived.Test.YtibepooajeakfaaGreatG2
import Derived.Test.YtibepooajeakfaaGreatG3
import Derived.Test.YtibepooajeakfaaGreatG5
import Derived.Test.YtibepooajeakfaaGreatG7
set_option linter.unusedVariables false
set_option maxRecDepth 100000
set_option maxHeartbeats 25600000
namespace Go.Proofs.YtibepooajeakfaaGreat.Vec
open Go.RowKit Go.Proofs.YtibepooajeakfaaGreat
theorem jed:∀(fuel:Nat) (la lb:V),(j9 fuel la lb).length≤fuel
 | 0,_,_=>Nat.le_refl _
 | fuel+1,la,lb=>by
  unfold j9;split
  · exact Nat.zero_le _
  · rw[List.length_cons];exact Nat.succ_le_succ (jed fuel _ _)
theorem names_mem:∀(fuel:Nat) (la lb:V) (n:ByteArray),n ∈ j9 fuel la lb→(∃y ∈ la,y.1=n)∨(∃y ∈ lb,y.1=n)
 | 0,_,_,n,h=>by simp[j9] at h
 | fuel+1,la,lb,n,h=>by
  unfold j9 at h;split at h
  · simp at h
  · rename_i h0;rcases List.mem_cons.1 h with rfl | h
    · exact ja8 (by omega)
    · rcases names_mem fuel _ _ n h with ⟨y,hy,e⟩ | ⟨y,hy,e⟩
      · exact .inl ⟨y,qb y hy,e⟩
      · exact .inr ⟨y,qb y hy,e⟩
theorem jhO {l:V} (h:Gd l) {n:ByteArray} (hn:∃y ∈ l,y.1=n):0<jh l n:=by
 obtain⟨y,hy,rfl⟩:=hn;rw[jc3 h hy];exact(h.1 y hy).2.1
theorem jjC {l l':V} (h:Gd l) (h':Gd l') {n:ByteArray} (hn:n ∈ j9 (l.length+l'.length) l l'):0<jh l n+jh l' n:=by
 have a:=Jz n h;have b:=Jz n h';rcases names_mem _ _ _ _ hn with hn | hn
 · have:=jhO h hn;omega
 · have:=jhO h' hn;omega
theorem jlX {f:Int→Int→Int×Int} {la lb:V} {n:ByteArray} {t:List ByteArray} {acc:V} {r1 r2:Int} (h:f (jh la n) (jh lb n)=(r1,r2)) (h2:r2≠0):Zc f la lb (n::t) acc=(r2,[]):=by
 rw[Zc,h,if_pos h2]
theorem jj2 {f:Int→Int→Int×Int} {la lb:V} {n:ByteArray} {t:List ByteArray} {acc:V} {r1:Int} (h:f (jh la n) (jh lb n)=(r1,0)):Zc f la lb (n::t) acc=Zc f la lb t (Yu acc n r1):=by
 rw[Zc,h,if_neg (by simp)]
theorem jn1 (x y:Int) (w:World) (h:0≤x∧x≤9223372036854775807) (g:0≤y∧y≤9223372036854775807) :
 Calls Tryz.prog 166 #[.int .i64 x,.int .i64 y] w (Ans (jG x y).1 (jG x y).2 w):=by
 unfold jG;by_cases h2:x+y≤9223372036854775807
 · rw[if_pos h2];exact(jnh x y w h.1 g.1 h2).mono fun _ _=>Xj.ans
 · rw[if_neg h2];exact(jjQ x y w h.1 g.1 g.2 (by omega)).mono fun _ _=>Xj.ans
def Yv (l l':V):Int:=if jv l≠0 then jv l else jv l'
theorem jjH {l l':V} (h:Yv l l'=0):jv l=0∧jv l'=0:=by
 unfold Yv at h;split at h
 · rename_i g;exact absurd h g
 · rename_i g;exact⟨Decidable.of_not_not g,h⟩
theorem jgQ {f:Int→Int→Int×Int} {l l':V} (h:Yv l l'≠0):jj f l l'=(Yv l l',[]):=by
 unfold jj;unfold Yv at h ⊢;by_cases g:jv l≠0
 · simp only[if_pos g]
 · simp only[if_neg g] at h ⊢;rw[if_pos h]
theorem jd4 (a a':Option Addr) (len cap len' cap':Nat) (l l':V) (w:World) (hr:jw w a len l) (hr':jw w a' len' l') :
 Calls Tryz.prog 164 #[.slice a len cap,.slice a' len' cap'] w fun e w'=>e=.returned (.int .i64 (Yv l l'))∧Kept w w':=by
 have HA:=lH hr;have HB:=lH hr';obtain⟨c,hc⟩:=eX (jv l)
 have HC:=lH hc;clear hr hr';by_cases h0:c=0
 · subst h0;have HE:=lH (show Yv l l'=jv l' by unfold Yv;rw[hc,if_neg (by decide)]);go_enter Tryz.func164,Tryz.ntmps164;go_wp2_with fail
   refine(YP _ _ _ l _ HA.out).mono ?_;rw[HC.out];clear hc;rintro e1 w1 ⟨rfl,k1⟩;have K1:=lH k1;clear k1;go_wp2_with fail
   refine(YP _ _ _ l' _ (HB.out.kept K1.out)).mono ?_;rintro e2 w2 ⟨rfl,k2⟩;have K2:=lH (K1.out.trans k2);clear k2;go_wp2;go_ret;exact⟨jb HE.out.symm,K2.out⟩
 · have HE:=lH (show Yv l l'=c by unfold Yv;rw[hc,if_pos h0]);have h1:(c==0)=false:=by simpa using h0
   clear h0;go_enter Tryz.func164,Tryz.ntmps164;go_wp2_with fail
   refine(YP _ _ _ l _ HA.out).mono ?_;rw[HC.out];clear hc;rintro e1 w1 ⟨rfl,k1⟩;have K1:=lH k1;clear k1;go_wp2;go_ret;exact⟨jb HE.out.symm,K1.out⟩
theorem jkx (a:Option Addr) (n cap:Nat) (w:World) (h:n≤8):Calls Tryz.prog 167 #[.slice a n cap] w fun e w'=>e=.returned (.tuple #[.slice a n cap,.int .i64 0])∧w=w':=by
 have h1:(n:Int)≤8:=by omega
 have h2:decide ((8:Int)<(n:Int))=false:=decide_eq_false (by omega);have h3:decide (8<n)=false:=decide_eq_false (by omega);go_enter Tryz.func167,Tryz.ntmps167;go_wp2;go_ret2
 exact⟨rfl,rfl⟩
theorem jgy (a:Option Addr) (n cap:Nat) (w:World) (h:8<n):Calls Tryz.prog 167 #[.slice a n cap] w fun e w'=>e=.returned (.tuple #[.slice none 0 0,.int .i64 4])∧w=w':=by
 have h1:(8:Int)<(n:Int):=by omega
 go_enter Tryz.func167,Tryz.ntmps167;go_wp2;go_ret2
 exact⟨rfl,rfl⟩
theorem jkp (a a':Option Addr) (len cap len' cap':Nat) (l l':V) (w:World) (hr:jw w a len l) (hr':jw w a' len' l') :
 Calls Tryz.prog 115 #[.slice a len cap,.slice a' len' cap'] w (Told (jj jG l l').1 (jj jG l l').2 w):=by
 obtain⟨HA,HB,HL⟩:=lH3 hr hr' hr.1;have HL':=lH hr'.1;by_cases hc:Yv l l'=0
 · obtain⟨ha,hb⟩:=jjH hc;have HC:=lH hc;have HG:=lH (YU ha hr.2.2.1);have HG':=lH (YU hb hr'.2.2.1);have h8:len≤8:=by have:=Z5 ha;rw[HL.out] at this;exact this
   have h8':len'≤8:=by have:=Z5 hb;rw[HL'.out] at this;exact this
   have HM:=lH (jgW jG ha hb hr.2.2.1 hr'.2.2.1);have HP:=lH (show ∀n ∈ j9 (l.length+l'.length) l l',0<jh l n+jh l' n from fun n hn=>jjC HG.out HG'.out hn);obtain⟨NS,hNS⟩:=eX (j9 (l.length+l'.length) l l')
   have hlen:=jed (l.length+l'.length) l l';have hn16:NS.length≤16:=by rw[hNS,HL.out,HL'.out] at hlen;omega
   rw[hNS] at HM HP;have Rh:=lH hNS;obtain⟨R,hR⟩:=eX (Zc jG l l' NS [])
   rw[hR] at HM;have Uj:=lH hR;have Nu:=lH h8;have HH8':=lH h8';obtain⟨i0,hi,hz0,hz1,hz2⟩:=info_parts jhH;clear hr hr' hc ha hb hNS hR hlen h8 h8';go_enter Tryz.func115,Tryz.ntmps115;go_wp2_with fail
   refine(jd4 _ _ _ _ _ _ l l' _ HA.out HB.out).mono ?_;rw[HC.out];rintro e1 w1 ⟨rfl,k1⟩;have K1:=lH k1;clear k1;go_wp2_with fail
   refine(jjy _ _ _ _ _ _ l l' _ (HA.out.kept K1.out) (HB.out.kept K1.out) Nu.out HH8'.out).mono ?_;rw[Rh.out];rintro e2 w2 ⟨x2,rfl,ho,k2⟩;have N7:=lH ho.2;obtain⟨s,scap,rfl,hs1,hs2,hrow⟩:=ho.reads;obtain⟨V9,TX,K2⟩:=lH3 hrow hs1 (K1.out.trans k2);obtain⟨n,hn⟩:=eX (NS.length)
   have VR:=lH hn;rw[hn] at hn16 V9 ⊢;clear k2 ho hrow hn hs1 hs2;go_wp2
   go_loopw [8,9] (fun v i wr=>∃(k:Nat) (acc:V),k≤n∧i=.int .i64 k∧Zc jG l l' (NS.drop k) acc=R∧jT 138 wr w2.heap.size v acc∧Below w2.heap.size w2 wr∧acc.length≤k)
    (fun _ i _=>n-(intOf i).toNat)
   case atStart=>exact⟨0,[],Nat.zero_le _,rfl,Uj.out,jT.nil _ _ _,Below.refl _ _,Nat.le_refl _⟩
   case round =>
    obtain⟨k,acc,hk,rfl,hres,ho,hB,hacc⟩:=hrel;obtain⟨HQ,HO,Vg⟩:=lH3 hres ho hB;clear hres ho;by_cases hlt:k<n
    · obtain⟨b,off,rfl⟩:∃b off,s=some ⟨b,off,none⟩:=V9.out.form.resolve_left (by omega);obtain⟨x,hx,hdrop,hbx,hsz,c1⟩:=(V9.out.kept hB).str hlt;obtain⟨HD,TU,HS,HX,RM,RN⟩:=lH6 hdrop hsz (show ∀W,Kept wr W→W.cell? ⟨b,off+k,none⟩=some (.string x) from fun W kk=>cell_later kk c1) (show 0<jh l x+jh l' x from HP.out x (List.mem_of_getElem? hx)) (show ∀W,Kept wr W→jw W a len l from fun W kk=>HA.out.kept (K2.out.trans (Kept.trans hB kk))) (show ∀W,Kept wr W→jw W a' len' l' from fun W kk=>HB.out.kept (K2.out.trans (Kept.trans hB kk)));obtain⟨g1,hg1⟩:=eX (jh l x)
      obtain⟨g2,hg2⟩:=eX (jh l' x)
      obtain⟨RO,TK,B1,B2⟩:=lH4 hg1 hg2 (show 0≤g1∧g1≤9223372036854775807 by rw[←hg1];exact Jz x HG.out) (show 0≤g2∧g2≤9223372036854775807 by rw[←hg2];exact Jz x HG'.out);rw[hg1,hg2] at HX;obtain⟨r1,r2,hr⟩:∃r1 r2,jG g1 g2=(r1,r2):=⟨_,_,rfl⟩
      have QF:=lH (show ∀W,Calls Tryz.prog 166 #[.int .i64 g1,.int .i64 g2] W (Ans r1 r2 W) from fun W=>by
       have:=jn1 g1 g2 W B1.out B2.out;rw[hr] at this;exact this)
      obtain⟨RB,HF,Nv⟩:=lH3 (show 0≤r1∧r1≤9223372036854775807 by have:=jdm B1.out B2.out;rw[hr] at this;exact this) (show jG (jh l x) (jh l' x)=(r1,r2) by rw[hg1,hg2];exact hr) hr;have hk1:(k:Int)<(n:Int):=by omega
      clear hB hx hdrop hsz hg1 hg2 hr;by_cases hz:r2=0
      · subst hz;have hy:r1≠0:=by
         have h1:=HX.out;have h2:=Nv.out;unfold jG at h2;split at h2
         · have:=(Prod.mk.inj h2).1;omega
         · have:=(Prod.mk.inj h2).2;omega
        have HN:=lH (show Zc jG l l' (NS.drop (k+1)) (acc++[(x,r1)])=R by
         have:=jj2 (t:=NS.drop (k+1)) (acc:=acc) HF.out;unfold Yu at this;rw[if_neg hy] at this;rw[←this,←HD.out];exact HQ.out)
        clear hy;go_wp2;clear c1;refine wp_region_held_drew (S:=fun W=>W.cell? ⟨b,off+k,none⟩=some (.string x)) (by kernel_rfl) (HS.out _ (Kept.drew _)) (fun hHeld=>?_);refine tkJ 0 ?_;refine tkJ 1 ?_;refine tkJ 2 ?_;refine tkJ 3 ?_;refine tkJ 4 ?_;refine tkJ 6 ?_;refine tkJ 7 ?_;refine tkJ 8 ?_;refine tkJ 9 ?_;refine tkJ 10 ?_;try simp only[nP]
        refine rd1 5 fun K9 Ky=>?_;go_simp;refine(Y9 _ _ _ l x _ (RM.out _ (Kept.drew _))).mono ?_;rintro e3 w3 ⟨rfl,kk⟩;have J1:=lH ((Kept.drew _).trans kk);clear kk;refine Ky.out _ _ (HS.out _ J1.out) (fun _=>?_);clear Ky K9;try simp only[nP]
        refine rd1 11 fun K9 Ky=>?_;go_simp;refine(Y9 _ _ _ l' x _ (RN.out _ J1.out)).mono ?_;rintro e4 w4 ⟨rfl,kk⟩;have J2:=lH ((J1.out).trans kk);clear kk;refine Ky.out _ _ (HS.out _ J2.out) (fun _=>?_);clear Ky K9;try simp only[nP]
        rw[RO.out,TK.out];refine rd1 12 fun K9 Ky=>?_;go_simp;refine(QF.out _).mono ?_;rintro e5 w5 ⟨rfl,kk⟩;have J3:=lH ((J2.out).trans kk);clear kk;refine Ky.out _ _ (HS.out _ J3.out) (fun _=>?_);clear Ky K9;try simp only[nP]
        refine tkJ 13 ?_;refine tkJ 14 ?_;refine tkJ 15 ?_;refine tkJ 16 ?_;refine tkJ 17 ?_;try simp only[nP]
        refine wpAnyH_done (by kernel_rfl) ?_ _;have c1:=HS.out _ J3.out;have B6:=lH (Vg.out.trans (Below.mono J3.out Vg.out.size));have O6:=lH (HO.out.kept J3.out);have RP:=lH (show (w5.alloc (.cells #[.string x,.int .i64 r1] 138)).ownsRow w2.heap.size 138 2 u8 acc.length (cellsOf acc) from(O6.out.1.alloc _));have Vu:=lH (show w2.heap.size≤w5.heap.size from B6.out.size);go_wp2_with (at_builtin;refine wpList_append_lies _ rfl _ _ _ rfl w2.heap.size 138 i0 _ 2 24 Tryz.underlying37 hi hz0 hz1 hz2 rfl (by decide) u8 acc.length (cellsOf acc) rfl RP.out ⟨w5.heap.size,0,none⟩ 1 1 [.string x,.int .i64 r1] rfl rfl (jfo _ _ _ _) (Yn [(x,r1)]) (by decide) (by unfold maxLen;omega) (by omega) (by rw[World.size_alloc];have:=Vu.out;omega) (w5.heap.size+1) (World.size_alloc _ _) ?_;intro g cap1 w7 hown1 hgrow hg hlt7;refine Hid.out ?_)
        refine lH ?_;go_wp2;go_roundw
        case rel =>
         refine⟨k+1,acc++[(x,r1)],by omega,by go_num,HN.out,⟨?_,O6.out.2.snoc TU.out (by have:=RB.out;omega) (by have:=RB.out;omega)⟩,(B6.out.alloc Vu.out _).grown hgrow (by rw[World.size_alloc];have:=Vu.out;omega) (fun j hj=>(RP.out.lt j hj).1),by rw[List.length_append];simp only[List.length_cons,List.length_nil];omega⟩;rw[List.length_append,Z9];exact hown1
        case measure=>simp[intOf];omega
      · have hz':(r2==0)=false:=by simpa using hz
        have HE:=lH (show jj jG l l'=(r2,[]) by
         have:R=(r2,[]):=by rw[←HQ.out,HD.out];exact jlX HF.out hz
         rw[HM.out,this];simp only;rw[if_pos hz])
        clear hz;go_wp2;clear c1;refine wp_region_held_drew (S:=fun W=>W.cell? ⟨b,off+k,none⟩=some (.string x)) (by kernel_rfl) (HS.out _ (Kept.drew _)) (fun hHeld=>?_);refine tkJ 0 ?_;refine tkJ 1 ?_;refine tkJ 2 ?_;refine tkJ 3 ?_;refine tkJ 4 ?_;refine tkJ 6 ?_;refine tkJ 7 ?_;refine tkJ 8 ?_;refine tkJ 9 ?_;refine tkJ 10 ?_;try simp only[nP]
        refine rd1 5 fun K9 Ky=>?_;go_simp;refine(Y9 _ _ _ l x _ (RM.out _ (Kept.drew _))).mono ?_;rintro e3 w3 ⟨rfl,kk⟩;have J1:=lH ((Kept.drew _).trans kk);clear kk;refine Ky.out _ _ (HS.out _ J1.out) (fun _=>?_);clear Ky K9;try simp only[nP]
        refine rd1 11 fun K9 Ky=>?_;go_simp;refine(Y9 _ _ _ l' x _ (RN.out _ J1.out)).mono ?_;rintro e4 w4 ⟨rfl,kk⟩;have J2:=lH ((J1.out).trans kk);clear kk;refine Ky.out _ _ (HS.out _ J2.out) (fun _=>?_);clear Ky K9;try simp only[nP]
        rw[RO.out,TK.out];refine rd1 12 fun K9 Ky=>?_;go_simp;refine(QF.out _).mono ?_;rintro e5 w5 ⟨rfl,kk⟩;have J3:=lH ((J2.out).trans kk);clear kk;refine Ky.out _ _ (HS.out _ J3.out) (fun _=>?_);clear Ky K9;try simp only[nP]
        refine tkJ 13 ?_;refine tkJ 14 ?_;refine tkJ 15 ?_;refine tkJ 16 ?_;refine tkJ 17 ?_;try simp only[nP]
        refine wpAnyH_done (by kernel_rfl) ?_ _;have c1:=HS.out _ J3.out;have B6:=lH (Vg.out.trans (Below.mono J3.out Vg.out.size));have O6:=lH (HO.out.kept J3.out);go_wp2;go_ret2
        rw[HE.out];exact Told.none (K2.out.trans B6.out)
    · have HE:=lH (show R=(0,acc) by
       have e:NS.drop k=[]:=List.drop_of_length_le (by rw[VR.out];omega);rw[←HQ.out,e];rfl)
      have UK:=lH (K2.out.trans (show Kept w2 wr from hB));obtain⟨av,cv,rfl,hv1,hv2,-⟩:=HO.out.at_;have Uk:=lH (jT.base_le HO.out K2.out.size);clear hB hv1 hv2;by_cases h9:acc.length≤8
      · have HW:=lH (show jj jG l l'=(0,acc) by
         rw[HM.out,HE.out];simp only;rw[if_neg (by decide),if_neg (by omega)])
        have QW:=lH (fun W=>jkx av acc.length cv W h9);clear h9;go_wp2_with fail
        refine(QW.out _).mono ?_;rintro e9 w9 ⟨rfl,rfl⟩;go_wp2;go_ret2
        rw[HW.out];exact⟨_,rfl,Uk.out,UK.out⟩
      · have HW:=lH (show jj jG l l'=(4,[]) by
         rw[HM.out,HE.out];simp only;rw[if_neg (by decide),if_pos (by omega)])
        have QW:=lH (fun W=>jgy av acc.length cv W (by omega));clear h9;go_wp2_with fail
        refine(QW.out _).mono ?_;rintro e9 w9 ⟨rfl,rfl⟩;go_wp2;go_ret2
        rw[HW.out];exact Told.none UK.out
 · have HE:=lH (jgQ (f:=jG) hc);obtain⟨c,hc2⟩:=eX (Yv l l')
   rw[hc2] at HE hc;have hc':(c==0)=false:=by simpa using hc
   have HC:=lH hc2;clear hr hr' hc hc2;go_enter Tryz.func115,Tryz.ntmps115;go_wp2_with fail
   refine(jd4 _ _ _ _ _ _ l l' _ HA.out HB.out).mono ?_;rw[HC.out];rintro e1 w1 ⟨rfl,k1⟩;have K1:=lH k1;clear k1;go_wp2;go_ret2
   rw[HE.out];exact Told.none K1.out
theorem jkG {v v':Value} {l l' m:V} {c:Int} {w:World} (h:Reads w v l) (h':Reads w v' l') (e:jj jG l l'=(c,m)) :
 Calls Tryz.prog 115 #[v,v'] w fun e w'=>∃x,e=.returned (.tuple #[x,.int .i64 c])∧Reads w' x m∧Kept w w':=by
 obtain⟨a,cap,rfl,_,_,hb⟩:=h;obtain⟨a9,cap9,rfl,_,_,hr⟩:=h';refine(jkp a a9 _ cap _ cap9 l l' w hb hr).mono ?_;rw[e];rintro e w' ⟨x,rfl,ho,k⟩;exact⟨x,rfl,ho.at_,k⟩
end Go.Proofs.YtibepooajeakfaaGreat.Vec
namespace Go.Proofs.YtibepooajeakfaaGreat
open Go.RowKit
def Xb (r:Int×Vec.V) (w:World) (e:Ending) (w':World):Prop:=∃y,e=.returned (.tuple #[y,.int .i64 r.1])∧Vec.Reads w' y r.2∧Kept w w'
theorem Xb.mk' {r:Int×Vec.V} {c:Int} {l:Vec.V} {y:Value} {w w':World} (h:r=(c,l)) (g:Vec.Reads w' y l) (k:Kept w w'):Xb r w (.returned (.tuple #[y,.int .i64 c])) w':=by
 subst h;exact⟨y,rfl,g,k⟩
theorem qz (w:World):Vec.Reads w (.slice none 0 0) []:=Vec.Reads.nil w
theorem jj1 {l:List Nod} {x:ByteArray} {n:Nod} (h:jl l x=some n):n.name=x :=
 jR.1 (List.find?_some (p:=fun n:Nod=>eqS n.name x) h)
theorem jkN {s:Clu} {x:ByteArray} (h:jl s.nodes x=none):JU s x=(3,[]):=by unfold JU;rw[h]
theorem jaQ {s:Clu} {x:ByteArray} {n:Nod} (h:jl s.nodes x=some n):JU s x=jJ x s.pods []:=by unfold JU;rw[h];dsimp only;rw[jj1 h]
theorem jly {v:Value} {s:Clu} {w:World} (h:jC w v s) (x:ByteArray):Calls Tryz.prog 64 #[v,.string x] w (Xb (JU s x) w):=by
 obtain⟨v1,v2,v3,rfl,⟨a,cap,rfl,l1,m1,h1⟩,⟨b,cp,rfl,l2,m2,h2⟩,⟨d,cb,rfl,l3,m3,h3⟩⟩:=h;obtain⟨nl,pl,bl⟩:=s;dsimp only at *;obtain⟨len,hlen⟩:=eX (nl.length)
 obtain⟨m,hm⟩:=eX (pl.length)
 obtain⟨n,hn⟩:=eX (bl.length)
 rw[hlen] at h1 l1;rw[hm] at h2 l2;rw[hn] at h3 l3;try rw[hlen]
 try rw[hm]
 try rw[hn]
 clear hn;obtain⟨Z,hZ⟩:=eX (w.alloc (.cells #[.slice a len cap,.slice b m cp,.slice d n cb] 33))
 have hkz:Kept w Z:=by rw[←hZ];exact ja _ _
 obtain⟨HQ,HN,HP,V2,Vc,UF,Tq⟩:=lH7 (show jf w.heap.size [.slice a len cap,.slice b m cp,.slice d n cb] Z from jc w (.slice a len cap) [.slice b m cp,.slice d n cb] 33 Z (by rw[hZ];exact Kept.refl _)) (h1.kept hkz) (h2.kept hkz) (jaj l1 m1 (h1.kept hkz)) hkz hlen hm;have hml1:=Nat.le_trans l1 m1;have hml2:=Nat.le_trans l2 m2;unfold maxLen at hml1 hml2;clear h1 h2 h3 l1 l2 l3 m1 m2 m3 hkz;have cq0:=(HQ.out.kept (Kept.refl _)).at_ 0 _ rfl;have cq1:=(HQ.out.kept (Kept.refl _)).at_ 1 _ rfl;have cq2:=(HQ.out.kept (Kept.refl _)).at_ 2 _ rfl;obtain⟨o,ho⟩:=eX (jl nl x)
 have HF:=lH ho;go_enter Tryz.func64,Tryz.ntmps64;go_wp2_with fail
 try rw[hZ]
 clear hZ;refine(jj8 V2.out).mono ?_;rw[ho];rintro e w1 ⟨v9,rfl,hr,kk⟩;obtain⟨nn,hnn⟩:=eX (o.getD Nod.zero)
 rw[hnn] at hr;obtain⟨y1,y2,y3,rfl,hat⟩:=hr;have g1:=hat.cap;have g2:=hat.labels;have g3:=hat.taints;obtain⟨b1,d1,rfl,-,-,-⟩:=g1;obtain⟨b2,d2,rfl,-,-,-⟩:=g2;obtain⟨b3,d3,rfl,-,-,-⟩:=g3;unfold zi;obtain⟨n1,hn1⟩:=eX (nn.cap.length)
 obtain⟨n2,hn2⟩:=eX (nn.labels.length)
 obtain⟨n3,hn3⟩:=eX (nn.taints.length)
 rw[hn1,hn2,hn3];have K1:=lH kk;clear hat kk hn1 hn2 hn3 hnn ho cq0 cq1 cq2;obtain⟨W1,hW1⟩:=eX (w1.alloc (.cells #[.string nn.name,.slice b1 n1 d1,.slice b2 n2 d2,.slice b3 n3 d3,.bool nn.cordon] 122))
 have K1:=lH (K1.out.trans (show Kept w1 W1 by rw[←hW1];exact ja _ _))
 cases o with
 | none =>
  go_wp2;try rw[hW1]
  go_ret2
  exact Xb.mk' (jkN HF.out) (qz _) (Vc.out.trans K1.out)
 | some nod =>
  have HU:=lH (show JU ⟨nl,pl,bl⟩ x=jJ x pl [] from jaQ HF.out);have cq0:=(HQ.out.kept K1.out).at_ 0 _ rfl;have cq1:=(HQ.out.kept K1.out).at_ 1 _ rfl;have cq2:=(HQ.out.kept K1.out).at_ 2 _ rfl;have HW:=lH hW1;clear hW1;go_wp2;try rw[HW.out]
  clear HW cq0 cq1 cq2;go_loopw [8,9] (fun s i wr=>∃k:Nat,k≤m∧i=.int .i64 k∧∃acc:Vec.V,Vec.Reads wr s acc∧jJ x (pl.drop k) acc=jJ x pl []∧Kept Z wr) (fun _ i _=>m-(intOf i).toNat)
  case atStart=>exact⟨0,Nat.zero_le _,rfl,[],qz _,rfl,K1.out⟩
  case round =>
   obtain⟨k,hk,rfl,acc,hacc,hrest,hK⟩:=hrel;obtain⟨HS,HA,HK⟩:=lH3 hrest hacc hK;have cq0:=(HQ.out.kept hK).at_ 0 _ rfl;have cq1:=(HQ.out.kept hK).at_ 1 _ rfl;have cq2:=(HQ.out.kept hK).at_ 2 _ rfl;by_cases hlt:k<m
   · obtain⟨b9,off,rfl⟩:=HP.out.form.resolve_left (by omega);obtain⟨n9,x1,y1,z1,x2,y2,z2,x3,y3,z3,x4,y4,z4,hn,hd,hb,p0,p1,p2,p3,p4,p5,p6,p7,p8,p9,p10,hat⟩:=(HP.out.kept hK).at_ hlt;have HD:=lH hd;have hkk:(k:Int)<(m:Int):=by omega
     obtain⟨e1,he1⟩:=eX (eqS n9.node x)
     have he1':(n9.node.toList==x.toList)=e1:=he1;have he1n:(n9.node.toList != x.toList)=!e1:=by rw[bne,he1']
     have HE:=lH he1
     cases e1 with
     | false =>
      have HX:=lH (show jJ x (pl.drop (k+1)) acc=jJ x pl [] by rw[←hrest,hd,jaW he1]);clear hacc hrest hK hat hn hd he1;go_wp2;go_roundw
      case rel=>exact⟨k+1,by omega,by go_num,acc,HA.out,HX.out,HK.out⟩
      case measure=>simp[intOf];omega
     | true =>
      obtain⟨c,mm,hcm⟩:∃c mm,Vec.jj Vec.jG acc n9.need=(c,mm):=⟨_,_,rfl⟩
      have HC:=lH hcm;have Ul:=lH (Vec.jkG hacc hat.need hcm);clear hacc hrest hK hat hn hd he1 hcm;go_wp2_with fail
      refine Ul.out.mono ?_;rintro e w2 ⟨y,rfl,hy,kk⟩;have K2:=lH (HK.out.trans kk);have HY:=lH hy;clear hy kk;by_cases hc:c=0
      · subst hc;have HX:=lH (show jJ x (pl.drop (k+1)) mm=jJ x pl [] by rw[←HS.out,HD.out,jce HE.out HC.out]);go_wp2;go_roundw
        case rel=>exact⟨k+1,by omega,by go_num,mm,HY.out,HX.out,K2.out⟩
        case measure=>simp[intOf];omega
      · have HX:=lH (show jJ x pl []=(c,[]) by rw[←HS.out,HD.out,jcq HE.out HC.out hc]);have hcn:(c != 0)=true:=by simpa using hc
        clear hc;go_wp2;go_ret2
        exact Xb.mk' (HU.out.trans HX.out) (qz _) (Vc.out.trans K2.out)
   · have HX:=lH (show jJ x pl []=(0,acc) by rw[←hrest,List.drop_of_length_le (by rw[Tq.out];omega)];rfl);have hkk:¬(k:Int)<(m:Int):=by omega
     clear hacc hrest hK;go_wp2;go_ret2
     exact Xb.mk' (HU.out.trans HX.out) HA.out (Vc.out.trans HK.out)
theorem jjZ {v:Value} {s:Clu} {w:World} (h:jC w v s):Calls Tryz.prog 66 #[v] w (Xb (jm7 s) w):=by
 obtain⟨v1,v2,v3,rfl,⟨a,cap,rfl,l1,m1,h1⟩,⟨b,cp,rfl,l2,m2,h2⟩,⟨d,cb,rfl,l3,m3,h3⟩⟩:=h;obtain⟨nl,pl,bl⟩:=s;dsimp only at *;obtain⟨len,hlen⟩:=eX (nl.length)
 obtain⟨m,hm⟩:=eX (pl.length)
 obtain⟨n,hn⟩:=eX (bl.length)
 rw[hlen] at h1 l1;rw[hm] at h2 l2;rw[hn] at h3 l3;try rw[hlen]
 try rw[hm]
 try rw[hn]
 clear hn;obtain⟨Z,hZ⟩:=eX (w.alloc (.cells #[.slice a len cap,.slice b m cp,.slice d n cb] 33))
 have hkz:Kept w Z:=by rw[←hZ];exact ja _ _
 obtain⟨HQ,HN,HP,V2,Vc,UF,Tq⟩:=lH7 (show jf w.heap.size [.slice a len cap,.slice b m cp,.slice d n cb] Z from jc w (.slice a len cap) [.slice b m cp,.slice d n cb] 33 Z (by rw[hZ];exact Kept.refl _)) (h1.kept hkz) (h2.kept hkz) (jaj l1 m1 (h1.kept hkz)) hkz hlen hm;have hml1:=Nat.le_trans l1 m1;have hml2:=Nat.le_trans l2 m2;unfold maxLen at hml1 hml2;clear h1 h2 h3 l1 l2 l3 m1 m2 m3 hkz;have cq0:=(HQ.out.kept (Kept.refl _)).at_ 0 _ rfl;have cq1:=(HQ.out.kept (Kept.refl _)).at_ 1 _ rfl;have cq2:=(HQ.out.kept (Kept.refl _)).at_ 2 _ rfl;show Calls _ _ _ _ (Xb (Jt nl []) w);go_enter Tryz.func66,Tryz.ntmps66;go_wp2;try rw[hZ]
 clear hZ cq0 cq1 cq2;go_loopw [4,5] (fun s i wr=>∃k:Nat,k≤len∧i=.int .i64 k∧∃acc:Vec.V,Vec.Reads wr s acc∧Jt (nl.drop k) acc=Jt nl []∧Kept Z wr) (fun _ i _=>len-(intOf i).toNat)
 case atStart=>exact⟨0,Nat.zero_le _,rfl,[],qz _,rfl,Kept.refl _⟩
 case round =>
  obtain⟨k,hk,rfl,acc,hacc,hrest,hK⟩:=hrel;obtain⟨HS,HA,HK⟩:=lH3 hrest hacc hK;have cq0:=(HQ.out.kept hK).at_ 0 _ rfl;have cq1:=(HQ.out.kept hK).at_ 1 _ rfl;have cq2:=(HQ.out.kept hK).at_ 2 _ rfl;by_cases hlt:k<len
  · obtain⟨b9,off,rfl⟩:=HN.out.form.resolve_left (by omega);obtain⟨n9,x1,y1,z1,x2,y2,z2,x3,y3,z3,hn,hd,hb,p0,p1,p2,p3,p4,hat⟩:=(HN.out.kept hK).at_ hlt;have HD:=lH hd;have hkk:(k:Int)<(len:Int):=by omega
    obtain⟨c,mm,hcm⟩:∃c mm,Vec.jj Vec.jG acc n9.cap=(c,mm):=⟨_,_,rfl⟩
    have HC:=lH hcm;have Ul:=lH (Vec.jkG hacc hat.cap hcm);clear hacc hrest hK hat hn hd hcm;go_wp2_with fail
    refine Ul.out.mono ?_;rintro e w2 ⟨y,rfl,hy,kk⟩;have K2:=lH (HK.out.trans kk);have HY:=lH hy;clear hy kk;by_cases hc:c=0
    · subst hc;have HX:=lH (show Jt (nl.drop (k+1)) mm=Jt nl [] by rw[←HS.out,HD.out,jfb HC.out]);go_wp2;go_roundw
      case rel=>exact⟨k+1,by omega,by go_num,mm,HY.out,HX.out,K2.out⟩
      case measure=>simp[intOf];omega
    · have HX:=lH (show Jt nl []=(c,[]) by rw[←HS.out,HD.out,jgo HC.out hc]);have hcn:(c != 0)=true:=by simpa using hc
      clear hc;go_wp2;go_ret2
      exact Xb.mk' HX.out (qz _) (Vc.out.trans K2.out)
  · have HX:=lH (show Jt nl []=(0,acc) by rw[←hrest,List.drop_of_length_le (by rw[UF.out];omega)];rfl);have hkk:¬(k:Int)<(len:Int):=by omega
    clear hacc hrest hK;go_wp2;go_ret2
    exact Xb.mk' HX.out HA.out (Vc.out.trans HK.out)
def Jg (r:Int×Vec.V) (w:World) (e:Ending) (w':World):Prop:=(r.1=0→∃v,e=.returned v∧Vec.jT 114 w' w.heap.size v r.2)∧(r.1≠0→e=.panicked [zx r.1])∧Kept w w'
theorem Jg.good {r:Int×Vec.V} {m:Vec.V} {v:Value} {w w':World} (h:r=(0,m)) (g:Vec.jT 114 w' w.heap.size v m) (k:Kept w w'):Jg r w (.returned v) w':=by
 subst h;exact⟨fun _=>⟨v,rfl,g⟩,fun h=>absurd rfl h,k⟩
theorem Jg.bad {r:Int×Vec.V} {m:Vec.V} {c:Int} {w w':World} (h:r=(c,m)) (hc:c≠0) (k:Kept w w'):Jg r w (.panicked [zx c]) w':=by
 subst h;exact⟨fun h=>absurd h hc,fun _=>rfl,k⟩
theorem jnZ {v v':Value} {l l':Vec.V} {w:World} (h:Vec.Reads w v l) (h':Vec.Reads w v' l'):Calls Tryz.prog 149 #[v,v'] w (Vec.Y3 (Vec.jj Vec.jG l l') w):=by
 obtain⟨a,cap,rfl,h1,h2,hr⟩:=h;obtain⟨a',cap',rfl,h1',h2',hr'⟩:=h';exact Vec.jnr a a' _ cap _ cap' l l' w hr hr' h1 h2 h1' h2'
theorem jjT (w:World):Calls Tryz.prog 89 #[.int .i64 0] w fun e w'=>e=.returned (.tuple #[])∧w=w':=by
 go_enter Tryz.func89,Tryz.ntmps89;go_wp2;go_end0
 exact⟨rfl,rfl⟩
theorem jiE (x:Int) (w:World) (h:x≠0):Calls Tryz.prog 89 #[.int .i64 x] w fun e w'=>e=.panicked [zx x]∧w=w':=by
 have h3:(x != 0)=true:=by simpa using h
 clear h;go_enter Tryz.func89,Tryz.ntmps89;go_wp2;exact⟨rfl,rfl,rfl⟩
def jmQ (o:Option Nod) (w:World) (e:Ending) (w':World):Prop:=(∀n,o=some n→∃v,e=.returned v∧JO w.heap.size w' v n)∧(o=none→e=.panicked [zx 3])∧Kept w w'
theorem jcz (a a8 a9:Option Addr) (len cap m8 c8 m9 c9:Nat) (l:List Nod) (x:ByteArray) (w:World) (hr:jo w a len l) (hlow:∀n ∈ l,zP n) :
 Calls Tryz.prog 94 #[.agg #[.slice a len cap,.slice a8 m8 c8,.slice a9 m9 c9],.string x] w (jmQ (jl l x) w):=by
 obtain⟨Z,hZ⟩:=eX ((w.alloc (.cells #[.slice a len cap,.slice a8 m8 c8,.slice a9 m9 c9] 26)).alloc (.cells #[.string ⟨#[]⟩,.slice none 0 0,.slice none 0 0,.slice none 0 0,.bool false] 78))
 have hkz:Kept w Z:=by rw[←hZ];exact jn _ _ _
 have hzs:Z.heap.size=w.heap.size+2:=by rw[←hZ];simp
 have UN:=lH (show jf (w.heap.size+1) [.string ⟨#[]⟩,.slice none 0 0,.slice none 0 0,.slice none 0 0,.bool false] Z by
  have:=jc (w.alloc (.cells #[.slice a len cap,.slice a8 m8 c8,.slice a9 m9 c9] 26)) (.string ⟨#[]⟩) [.slice none 0 0,.slice none 0 0,.slice none 0 0,.bool false] 78 Z (by rw[hZ];exact Kept.refl _);rw[World.size_alloc] at this;exact this)
 have hst:Z.cell? ⟨w.heap.size,0,none⟩=some (.slice a len cap):=(jc w (.slice a len cap) [.slice a8 m8 c8,.slice a9 m9 c9] 26 Z (by rw[←hZ];exact ja _ _)).at_ 0 _ rfl;obtain⟨HF,Vc,Vf⟩:=lH3 (jka a len cap l x Z (hr.kept hkz) hlow) hkz hzs;obtain⟨o,ho⟩:=eX (jl l x)
 rw[ho] at HF ⊢;clear hr hlow hkz hzs ho
 cases o with
 | none =>
  go_enter Tryz.func94,Tryz.ntmps94;go_wp2_with fail
  try rw[hZ]
  clear hZ hst;refine HF.out.mono ?_;rintro e w1 ⟨v,rfl,hn,k1⟩;have KW:=lH (Vc.out.trans k1);obtain⟨b1,n1,d1,b2,n2,d2,b3,n3,d3,rfl,-⟩:=hn;clear k1;go_wp2;exact⟨rfl,(fun n h=>by cases h),(fun _=>rfl),KW.out.trans (ja _ _)⟩
 | some n9 =>
  go_enter Tryz.func94,Tryz.ntmps94;go_wp2_with fail
  try rw[hZ]
  clear hZ hst;refine HF.out.mono ?_;rintro e w1 ⟨v,rfl,hn,k1⟩;obtain⟨HN,VJ,KW⟩:=lH3 hn (UN.out.kept k1) (Vc.out.trans k1);obtain⟨b1,n1,d1,b2,n2,d2,b3,n3,d3,hv,-⟩:=hn;have hv:v=.agg #[.string n9.name,.slice b1 n1 d1,.slice b2 n2 d2,.slice b3 n3 d3,.bool n9.cordon]:=hv;subst hv;obtain⟨z,hz⟩:=eX (n9.name)
  obtain⟨cd,hcd⟩:=eX (n9.cordon)
  have Tk:=lH (show w.heap.size+2≤w1.heap.size by have:=k1.size;rw[Vf.out] at this;exact this);rw[hz,hcd];rw[hz,hcd] at HN;clear k1;have UR:=lH (VJ.out.kept (ja w1 (.cells #[.string z,.slice b1 n1 d1,.slice b2 n2 d2,.slice b3 n3 d3,.bool cd] 78)));clear VJ;obtain⟨W1,hW1⟩:=eX (w1.alloc (.cells #[.string z,.slice b1 n1 d1,.slice b2 n2 d2,.slice b3 n3 d3,.bool cd] 78))
  rw[hW1] at UR;have c:=jc w1 (.string z) [.slice b1 n1 d1,.slice b2 n2 d2,.slice b3 n3 d3,.bool cd] 78 W1 (by rw[hW1];exact Kept.refl _);have g0:=c.at_ 0 _ rfl;have g1:=c.at_ 1 _ rfl;have g2:=c.at_ 2 _ rfl;have g3:=c.at_ 3 _ rfl;have g4:=c.at_ 4 _ rfl;have Nw:=lH (HN.out.kept (show Kept w1 W1 by rw[←hW1];exact ja _ _));have Vm:=lH (KW.out.trans (show Kept w1 W1 by rw[←hW1];exact ja _ _));obtain⟨y0,y1,y2,y3,y4⟩:=UR.out.at5;have x0:=UR.out.free 0;have x1:=UR.out.free 1;have x2:=UR.out.free 2;have x3:=UR.out.free 3;have x4:=UR.out.free 4;have P:=lH (j5 (vs:=[.string z,.slice b1 n1 d1,.slice b2 n2 d2,.slice b3 n3 d3,.bool cd]) UR.out rfl);clear UR c;go_wp2_with fail
  try rw[hW1]
  clear hW1;go_wp2;obtain⟨WE,hWE⟩:=eX (W1.setCells (w.heap.size+1) 0 [.string z,.slice b1 n1 d1,.slice b2 n2 d2,.slice b3 n3 d3,.bool cd])
  have hWE2:(((((W1.setCell ⟨(w.heap.size+1),0,none⟩ (.string z)).setCell ⟨(w.heap.size+1),1,none⟩ (.slice b1 n1 d1)).setCell ⟨(w.heap.size+1),2,none⟩ (.slice b2 n2 d2)).setCell ⟨(w.heap.size+1),3,none⟩ (.slice b3 n3 d3)).setCell ⟨(w.heap.size+1),4,none⟩ (.bool cd))=WE:=hWE;rw[hWE] at P;try rw[hWE2]
  clear hWE hWE2;obtain⟨PC,hsz,hbl,hkp⟩:=P.out;refine bodyPost_ret (by simp[results,Tryz.results94,go_sem,PC.at_ 0 _ rfl,PC.at_ 1 _ rfl,PC.at_ 2 _ rfl,PC.at_ 3 _ rfl,PC.at_ 4 _ rfl];try rfl) rfl ?_;exact⟨(fun n h=>by cases h;exact⟨_,rfl,(Nw.out.far hsz (fun b hb=>hbl b (by have:=Vf.out;omega))).less (by have:=Vf.out;omega)⟩),(fun h=>by cases h),hkp _ _ (by omega) Vm.out⟩
theorem Xc (a a8 a9 b1 b2 b3:Option Addr) (len cap m8 c8 m9 c9 n1 d1 n2 d2 n3 d3:Nat) (q:ByteArray) (cd:Bool) (l:List Pd) (w:World) (hr:jx w a len l) :
 Calls Tryz.prog 96 #[.agg #[.slice a8 m8 c8,.slice a len cap,.slice a9 m9 c9],.agg #[.string q,.slice b1 n1 d1,.slice b2 n2 d2,.slice b3 n3 d3,.bool cd]] w (Jg (jJ q l []) w):=by
 have hl:=hr.1;have hm:=hr.2.1;unfold maxLen at hm;obtain⟨Z,hZ⟩:=eX ((w.alloc (.cells #[.slice a8 m8 c8,.slice a len cap,.slice a9 m9 c9] 26)).alloc (.cells #[.string q,.slice b1 n1 d1,.slice b2 n2 d2,.slice b3 n3 d3,.bool cd] 78))
 have hkz:Kept w Z:=by rw[←hZ];exact jn _ _ _
 have HQ:=lH (show ∀W,Kept Z W→W.cell? ⟨w.heap.size+1,0,none⟩=some (.string q) from fun W k=>by
  have:=jc (w.alloc (.cells #[.slice a8 m8 c8,.slice a len cap,.slice a9 m9 c9] 26)) (.string q) [.slice b1 n1 d1,.slice b2 n2 d2,.slice b3 n3 d3,.bool cd] 78 W (by rw[hZ];exact k);rw[World.size_alloc] at this;exact this.at_ 0 _ rfl)
 have hst:Z.cell? ⟨w.heap.size,1,none⟩=some (.slice a len cap):=(jc w (.slice a8 m8 c8) [.slice a len cap,.slice a9 m9 c9] 26 Z (by rw[←hZ];exact ja _ _)).at_ 1 _ rfl;obtain⟨HR,HL,Vc⟩:=lH3 (hr.kept hkz) hl hkz;by_cases h0:len=0
 · subst h0;have HE:=lH (show jJ q l []=(0,[]) by rw[List.eq_nil_of_length_eq_zero hl];rfl);clear hr hl hkz;go_enter Tryz.func96,Tryz.ntmps96;go_wp2;try rw[hZ]
   refine wp_loop_rounds 1 ?_;rw[rounds_succ];go_wp2;go_ret;exact Jg.good HE.out (Vec.jT.nil _ _ _) (by first | exact Vc.out | (rw[hZ];exact Vc.out))
 · obtain⟨b,off,rfl⟩:=hr.form.resolve_left h0;clear hr hl hkz h0;go_enter Tryz.func96,Tryz.ntmps96;go_wp2;try rw[hZ]
   clear hZ hst;go_loopw [5,11] (fun s i wr=>∃k:Nat,k≤len∧i=.int .i64 k∧∃acc:Vec.V,Vec.jT 114 wr w.heap.size s acc∧jJ q (l.drop k) acc=jJ q l []∧Kept Z wr) (fun _ i _=>len-(intOf i).toNat)
   case atStart=>exact⟨0,Nat.zero_le _,rfl,[],Vec.jT.nil _ _ _,rfl,Kept.refl _⟩
   case round =>
    obtain⟨k,hk,rfl,acc,hv,hrest,hK⟩:=hrel;obtain⟨HS,HV,HK⟩:=lH3 hrest hv hK;by_cases hlt:k<len
    · obtain⟨n,a1,m1,c1,a2,m2,c2,a3,m3,c3,a4,m4,c4,hn,hd,hb,p0,p1,p2,p3,p4,p5,p6,p7,p8,p9,p10,hat⟩:=(HR.out.kept hK).at_ hlt;have HD:=lH hd;have VH:=lH hat;have q0:=HQ.out _ hK;obtain⟨t,ht⟩:=eX (eqS n.node q)
      have ht':(n.node.toList==q.toList)=t:=ht;have HT:=lH ht;have hkk:(k:Int)<(len:Int):=by omega
      have z0:=HQ.out _ (hK.trans (ja wr (.cells #[.string n.name,.string n.owner,.int .i64 n.prio,.slice a1 m1 c1,.slice a2 m2 c2,.slice a3 m3 c3,.slice a4 m4 c4,.string n.key,.int .i64 n.most,.string n.node,.bool n.hold] 52)));clear hrest hK hat hd hn ht hv
      cases t with
      | false =>
       have HX:=lH (show jJ q (l.drop (k+1)) acc=jJ q l [] by rw[←HS.out,HD.out,jaW HT.out]);go_wp2;go_roundw
       case rel=>exact⟨k+1,by omega,by go_num,acc,HV.out.kept (ja _ _),HX.out,HK.out.trans (ja _ _)⟩
       case measure=>simp[intOf];omega
      | true =>
       obtain⟨c,m,hcm⟩:∃c m,Vec.jj Vec.jG acc n.need=(c,m):=⟨_,_,rfl⟩
       obtain⟨Ux,Vu,Uc⟩:=lH3 hcm (show w.heap.size≤wr.heap.size from(Vc.out.trans HK.out).size) (fun W (kk:Kept wr W)=>jnZ (HV.out.kept kk).reads (VH.out.need.kept kk));rw[hcm] at Uc;clear hcm;by_cases hc:c=0
       · subst hc;have HX:=lH (show jJ q (l.drop (k+1)) m=jJ q l [] by rw[←HS.out,HD.out,jce HT.out Ux.out]);go_wp2_with fail
         refine(Uc.out _ (ja _ _)).mono ?_;rintro e w1 ⟨x,rfl,r,kk⟩;have RX:=lH (r.base_le (show w.heap.size≤_ by rw[World.size_alloc];have:=Vu.out;omega));have KW:=lH (HK.out.trans ((ja _ _).trans kk));clear r kk;go_wp2_with fail
         refine(ja1 _ _).mono ?_;rintro e w2 ⟨rfl,rfl⟩;go_wp2;go_roundw
         case rel=>exact⟨k+1,by omega,by go_num,m,RX.out,HX.out,KW.out⟩
         case measure=>simp[intOf];omega
       · have HX:=lH (show jJ q l []=(c,[]) by rw[←HS.out,HD.out,jcq HT.out Ux.out hc]);have HC:=lH hc;clear hc;go_wp2_with fail
         refine(Uc.out _ (ja _ _)).mono ?_;rintro e w1 ⟨x,rfl,r,kk⟩;have KW:=lH (HK.out.trans ((ja _ _).trans kk));clear r kk;go_wp2_with fail
         refine(qP _ _ _ HC.out).mono ?_;rintro e w2 ⟨rfl,rfl⟩;go_wp2;exact⟨rfl,Jg.bad HX.out HC.out (Vc.out.trans KW.out)⟩
    · have HE:=lH (show jJ q l []=(0,acc) by rw[←hrest,List.drop_of_length_le (by rw[HL.out];omega)];rfl);clear hrest hK hv;go_wp2;go_ret;exact Jg.good HE.out HV.out (Vc.out.trans HK.out)
theorem jjG (a a8 a9:Option Addr) (len cap m8 c8 m9 c9:Nat) (l:List Nod) (w:World) (hr:jo w a len l) :
 Calls Tryz.prog 97 #[.agg #[.slice a len cap,.slice a8 m8 c8,.slice a9 m9 c9]] w (Jg (Jt l []) w):=by
 have hl:=hr.1;have hm:=hr.2.1;unfold maxLen at hm;obtain⟨Z,hZ⟩:=eX (w.alloc (.cells #[.slice a len cap,.slice a8 m8 c8,.slice a9 m9 c9] 26))
 have hkz:Kept w Z:=by rw[←hZ];exact ja _ _
 have hst:Z.cell? ⟨w.heap.size,0,none⟩=some (.slice a len cap):=(jc w (.slice a len cap) [.slice a8 m8 c8,.slice a9 m9 c9] 26 Z (by rw[hZ];exact Kept.refl _)).at_ 0 _ rfl;obtain⟨HR,HL,Vc⟩:=lH3 (hr.kept hkz) hl hkz;by_cases h0:len=0
 · subst h0;have HE:=lH (show Jt l []=(0,[]) by rw[List.eq_nil_of_length_eq_zero hl];rfl);clear hr hl hkz;go_enter Tryz.func97,Tryz.ntmps97;go_wp2;try rw[hZ]
   refine wp_loop_rounds 1 ?_;rw[rounds_succ];go_wp2;go_ret;exact Jg.good HE.out (Vec.jT.nil _ _ _) (by first | exact Vc.out | (rw[hZ];exact Vc.out))
 · obtain⟨b,off,rfl⟩:=hr.form.resolve_left h0;clear hr hl hkz h0;go_enter Tryz.func97,Tryz.ntmps97;go_wp2;try rw[hZ]
   clear hZ hst;go_loopw [3,9] (fun s i wr=>∃k:Nat,k≤len∧i=.int .i64 k∧∃acc:Vec.V,Vec.jT 114 wr w.heap.size s acc∧Jt (l.drop k) acc=Jt l []∧Kept Z wr) (fun _ i _=>len-(intOf i).toNat)
   case atStart=>exact⟨0,Nat.zero_le _,rfl,[],Vec.jT.nil _ _ _,rfl,Kept.refl _⟩
   case round =>
    obtain⟨k,hk,rfl,acc,hv,hrest,hK⟩:=hrel;obtain⟨HS,HV,HK⟩:=lH3 hrest hv hK;by_cases hlt:k<len
    · obtain⟨n,a1,m1,c1,a2,m2,c2,a3,m3,c3,hn,hd,hb,p0,p1,p2,p3,p4,hat⟩:=(HR.out.kept hK).at_ hlt;have HD:=lH hd;have VH:=lH hat;have hkk:(k:Int)<(len:Int):=by omega
      obtain⟨c,m,hcm⟩:∃c m,Vec.jj Vec.jG acc n.cap=(c,m):=⟨_,_,rfl⟩
      obtain⟨Ux,Vu,Uc⟩:=lH3 hcm (show w.heap.size≤wr.heap.size from(Vc.out.trans HK.out).size) (fun W (kk:Kept wr W)=>jnZ (HV.out.kept kk).reads (VH.out.cap.kept kk));rw[hcm] at Uc;clear hrest hK hat hd hn hv hcm;by_cases hc:c=0
      · subst hc;have HX:=lH (show Jt (l.drop (k+1)) m=Jt l [] by rw[←HS.out,HD.out,jfb Ux.out]);go_wp2_with fail
        refine(Uc.out _ (ja _ _)).mono ?_;rintro e w1 ⟨x,rfl,r,kk⟩;have RX:=lH (r.base_le (show w.heap.size≤_ by rw[World.size_alloc];have:=Vu.out;omega));have KW:=lH (HK.out.trans ((ja _ _).trans kk));clear r kk;go_wp2_with fail
        refine(ja1 _ _).mono ?_;rintro e w2 ⟨rfl,rfl⟩;go_wp2;go_roundw
        case rel=>exact⟨k+1,by omega,by go_num,m,RX.out,HX.out,KW.out⟩
        case measure=>simp[intOf];omega
      · have HX:=lH (show Jt l []=(c,[]) by rw[←HS.out,HD.out,jgo Ux.out hc]);have HC:=lH hc;clear hc;go_wp2_with fail
        refine(Uc.out _ (ja _ _)).mono ?_;rintro e w1 ⟨x,rfl,r,kk⟩;have KW:=lH (HK.out.trans ((ja _ _).trans kk));clear r kk;go_wp2_with fail
        refine(qP _ _ _ HC.out).mono ?_;rintro e w2 ⟨rfl,rfl⟩;go_wp2;exact⟨rfl,Jg.bad HX.out HC.out (Vc.out.trans KW.out)⟩
    · have HE:=lH (show Jt l []=(0,acc) by rw[←hrest,List.drop_of_length_le (by rw[HL.out];omega)];rfl);clear hrest hK hv;go_wp2;go_ret;exact Jg.good HE.out HV.out (Vc.out.trans HK.out)
theorem jnQ {v v':Value} {l l':Vec.V} {w:World} (h:Vec.Reads w v l) (h':Vec.Reads w v' l'):Calls Tryz.prog 230 #[v,v'] w (Vec.Y3 (Vec.jj Vec.zl l l') w):=by
 obtain⟨a,cap,rfl,h1,h2,hr⟩:=h;obtain⟨a',cap',rfl,h1',h2',hr'⟩:=h';exact Vec.jmT a a' _ cap _ cap' l l' w hr hr' h1 h2 h1' h2'
theorem qp (a a8 a9:Option Addr) (len cap m8 c8 m9 c9:Nat) (l:List Nod) (x:ByteArray) (w:World) (hr:jo w a len l) (hlow:∀n ∈ l,zP n) (hf:jl l x=none) :
 Calls Tryz.prog 94 #[.agg #[.slice a len cap,.slice a8 m8 c8,.slice a9 m9 c9],.string x] w fun e w'=>e=.panicked [zx 3]∧Kept w w':=by
 refine(jcz a a8 a9 len cap m8 c8 m9 c9 l x w hr hlow).mono ?_;rintro e w' ⟨-,h,k⟩;exact⟨h hf,k⟩
theorem ZH (a a8 a9:Option Addr) (len cap m8 c8 m9 c9:Nat) (l:List Nod) (x:ByteArray) (n:Nod) (w:World) (hr:jo w a len l) (hlow:∀n ∈ l,zP n) (hf:jl l x=some n) :
 Calls Tryz.prog 94 #[.agg #[.slice a len cap,.slice a8 m8 c8,.slice a9 m9 c9],.string x] w fun e w'=>∃b1 n1 d1 b2 n2 d2 b3 n3 d3,e=.returned (.agg #[.string n.name,.slice b1 n1 d1,.slice b2 n2 d2,.slice b3 n3 d3,.bool n.cordon])∧zr w' (.slice b1 n1 d1) (.slice b2 n2 d2) (.slice b3 n3 d3) n∧Kept w w':=by
 refine(jcz a a8 a9 len cap m8 c8 m9 c9 l x w hr hlow).mono ?_;rintro e w' ⟨h,-,k⟩;obtain⟨v,rfl,b1,n1,d1,b2,n2,d2,b3,n3,d3,rfl,s0,s1,s2,s3,-⟩:=h n hf;exact⟨b1,n1,d1,b2,n2,d2,b3,n3,d3,rfl,⟨s0,s1,s2,s3⟩,k⟩
theorem Jg.ok {m:Vec.V} {w w':World} {e:Ending} {r:Int×Vec.V} (h:Jg r w e w') (hr:r=(0,m)):∃v,e=.returned v∧Vec.jT 114 w' w.heap.size v m∧Kept w w':=by
 subst hr;obtain⟨v,rfl,g⟩:=h.1 rfl;exact⟨v,rfl,g,h.2.2⟩
theorem Jg.not {m:Vec.V} {c:Int} {w w':World} {e:Ending} {r:Int×Vec.V} (h:Jg r w e w') (hr:r=(c,m)) (hc:c≠0):e=.panicked [zx c]∧Kept w w':=by
 subst hr;exact⟨h.2.1 hc,h.2.2⟩
theorem jhf (C:Addr×Addr) (r:Int×Vec.V) (w:World) (hr:r.1≠0→r.2=[])
 (hk:∀W,Kept w W→Calls Tryz.prog 310 #[.pointer (some C.1),.pointer (some C.2)] W (Jg r W)) :
 Calls Tryz.prog 188 #[.func (.func 310) #[] #[.pointer (some C.1),.pointer (some C.2)]] w (Vec.Y3 r w):=by
 have hmf:=hmfL (P:=Tryz.prog);have HK:=lH hk;have HR:=lH hr;clear hk hr;obtain⟨r1,r2⟩:=r;go_enter_defers Tryz.func188,Tryz.ntmps188
 go_wp2_with fail
 refine(HK.out _ (ja _ _)).mono ?_;rintro e1 w1 ⟨h0,h1,hb⟩;have k1:=hb.size;simp only[World.size_alloc] at k1;have c2:=(hb.cell (p:=⟨w.heap.size,0,none⟩) (by simp))
 have z2:=(hb.frozen (p:=⟨w.heap.size,0,none⟩) (by simp))
 have e2':w1.cell? ⟨w.heap.size,0,none⟩=some (.int .i64 0):=by rw[c2];go_simp
 have y2:w1.frozen? ⟨w.heap.size,0,none⟩=false:=by rw[z2];go_simp
 clear c2 z2;have KB:=lH (show Below w.heap.size w w1 from(ja w _).trans hb);by_cases hx:r1=0
 · subst hx;obtain⟨v,rfl,ho⟩:=h0 rfl;have HO:=lH ho;obtain⟨av,cv,rfl,_,_,_⟩:=ho.at_;have hsz:=World.size_alloc w (.cells #[.int .i64 0] 69);clear h0 h1 hb ho;go_wp2_with fail
   refine leaves_cons (f:=218) (args:=#[.pointer (some ⟨w.heap.size,0,none⟩)]) (by simp) (by simp[go_sem]) ?_;refine(Vec.Yp ⟨w.heap.size,0,none⟩ _).mono ?_;rintro e u' w'' ⟨rfl,rfl,rfl⟩;simp[Leaves,settle,results,Tryz.results188,go_sem,e2'];exact⟨_,rfl,(HO.out.setCell_below (a:=⟨w.heap.size,0,none⟩) (by simp) _).base_le (by simp),KB.out.setCell (p:=⟨w.heap.size,0,none⟩) (Nat.le_refl _) _⟩
 · obtain rfl:=h1 hx;obtain rfl:=HR.out hx;clear h0 h1 hb;go_wp2_with fail
   refine leaves_cons (f:=218) (args:=#[.pointer (some ⟨w.heap.size,0,none⟩)]) (by simp) (by simp[go_sem]) ?_;refine(Vec.JV w.heap.size w.heap.size r1 0 _ e2' y2 (by omega)).mono ?_;rintro e u' w'' ⟨rfl,rfl,q2,q3⟩;simp[Leaves,settle,results,Tryz.results188,go_sem,q2];exact⟨_,rfl,Vec.jT.nil _ _ _,KB.out.trans q3⟩
theorem jgx (C:Addr×Addr) (r:Int×Vec.V) (w:World) (hr:r.1≠0→r.2=[])
 (hk:∀W,Kept w W→Calls Tryz.prog 229 #[.pointer (some C.1),.pointer (some C.2)] W (Jg r W)) :
 Calls Tryz.prog 188 #[.func (.func 229) #[] #[.pointer (some C.1),.pointer (some C.2)]] w (Vec.Y3 r w):=by
 have hmf:=hmfL (P:=Tryz.prog);have HK:=lH hk;have HR:=lH hr;clear hk hr;obtain⟨r1,r2⟩:=r;go_enter_defers Tryz.func188,Tryz.ntmps188
 go_wp2_with fail
 refine(HK.out _ (ja _ _)).mono ?_;rintro e1 w1 ⟨h0,h1,hb⟩;have k1:=hb.size;simp only[World.size_alloc] at k1;have c2:=(hb.cell (p:=⟨w.heap.size,0,none⟩) (by simp))
 have z2:=(hb.frozen (p:=⟨w.heap.size,0,none⟩) (by simp))
 have e2':w1.cell? ⟨w.heap.size,0,none⟩=some (.int .i64 0):=by rw[c2];go_simp
 have y2:w1.frozen? ⟨w.heap.size,0,none⟩=false:=by rw[z2];go_simp
 clear c2 z2;have KB:=lH (show Below w.heap.size w w1 from(ja w _).trans hb);by_cases hx:r1=0
 · subst hx;obtain⟨v,rfl,ho⟩:=h0 rfl;have HO:=lH ho;obtain⟨av,cv,rfl,_,_,_⟩:=ho.at_;have hsz:=World.size_alloc w (.cells #[.int .i64 0] 69);clear h0 h1 hb ho;go_wp2_with fail
   refine leaves_cons (f:=218) (args:=#[.pointer (some ⟨w.heap.size,0,none⟩)]) (by simp) (by simp[go_sem]) ?_;refine(Vec.Yp ⟨w.heap.size,0,none⟩ _).mono ?_;rintro e u' w'' ⟨rfl,rfl,rfl⟩;simp[Leaves,settle,results,Tryz.results188,go_sem,e2'];exact⟨_,rfl,(HO.out.setCell_below (a:=⟨w.heap.size,0,none⟩) (by simp) _).base_le (by simp),KB.out.setCell (p:=⟨w.heap.size,0,none⟩) (Nat.le_refl _) _⟩
 · obtain rfl:=h1 hx;obtain rfl:=HR.out hx;clear h0 h1 hb;go_wp2_with fail
   refine leaves_cons (f:=218) (args:=#[.pointer (some ⟨w.heap.size,0,none⟩)]) (by simp) (by simp[go_sem]) ?_;refine(Vec.JV w.heap.size w.heap.size r1 0 _ e2' y2 (by omega)).mono ?_;rintro e u' w'' ⟨rfl,rfl,q2,q3⟩;simp[Leaves,settle,results,Tryz.results188,go_sem,q2];exact⟨_,rfl,Vec.jT.nil _ _ _,KB.out.trans q3⟩
def Yw (nl:List Nod) (pl:List Pd) (x:ByteArray):Int×Vec.V:=match jl nl x with | none=>(3,[]) | some n=>jJ n.name pl []
def ZN (nl:List Nod) (pl:List Pd) (x:ByteArray):Int×Vec.V:=match jl nl x with | none=>(3,[]) | some n=>if (jJ n.name pl []).1=0 then Vec.jj Vec.zl n.cap (jJ n.name pl []).2 else ((jJ n.name pl []).1,[])
theorem jiZ {nl:List Nod} {pl:List Pd} {x:ByteArray} (h:jl nl x=none):Yw nl pl x=(3,[]):=by unfold Yw;rw[h]
theorem jc9 {nl:List Nod} {pl:List Pd} {x:ByteArray} {n:Nod} (h:jl nl x=some n):Yw nl pl x=jJ n.name pl []:=by unfold Yw;rw[h]
theorem jjc {nl:List Nod} {pl:List Pd} {x:ByteArray} (h:jl nl x=none):ZN nl pl x=(3,[]):=by unfold ZN;rw[h]
theorem jkw {nl:List Nod} {pl:List Pd} {x:ByteArray} {n:Nod} {c:Int} {m:Vec.V} (h:jl nl x=some n) (g:jJ n.name pl []=(c,m)) (hc:c≠0):ZN nl pl x=(c,[]):=by unfold ZN;rw[h];show (if (jJ n.name pl []).1=0 then _ else ((jJ n.name pl []).1,[]))=_;rw[g,if_neg hc]
theorem jmk {nl:List Nod} {pl:List Pd} {x:ByteArray} {n:Nod} {m:Vec.V} (h:jl nl x=some n) (g:jJ n.name pl []=(0,m)):ZN nl pl x=Vec.jj Vec.zl n.cap m:=by unfold ZN;rw[h];show (if (jJ n.name pl []).1=0 then Vec.jj Vec.zl n.cap (jJ n.name pl []).2 else _)=_;rw[g,if_pos rfl]
theorem jh5 {nl:List Nod} {pl:List Pd} {x:ByteArray}:(Yw nl pl x).1≠0→(Yw nl pl x).2=[]:=by
 unfold Yw;split
 · exact fun _=>rfl
 · exact ja3
theorem jiX {nl:List Nod} {pl:List Pd} {x:ByteArray}:(ZN nl pl x).1≠0→(ZN nl pl x).2=[]:=by
 unfold ZN;split
 · exact fun _=>rfl
 · split
   · exact Vec.X5 _ _
   · exact fun _=>rfl
theorem jip (a b d:Option Addr) (len cap m c n e:Nat) (nl:List Nod) (pl:List Pd) (p q:Nat) (x:ByteArray) (w:World) (h0:w.cell? ⟨p,0,none⟩=some (.slice a len cap)) (h1:w.cell? ⟨p,1,none⟩=some (.slice b m c)) (h2:w.cell? ⟨p,2,none⟩=some (.slice d n e)) (hq:w.cell? ⟨q,0,none⟩=some (.string x)) (hn:jo w a len nl) (hp:jx w b m pl) (hlow:∀n ∈ nl,zP n) :
 Calls Tryz.prog 310 #[.pointer (some ⟨p,0,none⟩),.pointer (some ⟨q,0,none⟩)] w (Jg (Yw nl pl x) w):=by
 obtain⟨HS,HN,HP,Vo⟩:=lH4 (show ∀W,Kept w W→W.cell? ⟨p,0,none⟩=some (.slice a len cap)∧W.cell? ⟨p,1,none⟩=some (.slice b m c)∧W.cell? ⟨p,2,none⟩=some (.slice d n e)∧W.cell? ⟨q,0,none⟩=some (.string x) from fun W k=>⟨cell_later k h0,cell_later k h1,cell_later k h2,cell_later k hq⟩) hn hp hlow;clear h0 h1 h2 hq hn hp hlow
 cases hf:jl nl x with
 | none =>
  have HE:=lH (jiZ (pl:=pl) hf);have HF:=lH hf;clear hf;go_enter Tryz.func310,Tryz.ntmps310;go_wp2;refine wp_region_held_drew (S:=fun W=>W.cell? ⟨p,0,none⟩=some (.slice a len cap)∧W.cell? ⟨p,1,none⟩=some (.slice b m c)∧W.cell? ⟨p,2,none⟩=some (.slice d n e)∧W.cell? ⟨q,0,none⟩=some (.string x)) (by kernel_rfl) (HS.out _ (Kept.drew _)) (fun hHeld=>?_);refine tkI 0 ?_;refine tkI 1 ?_;refine tkI 2 ?_;try simp only[nP]
  refine rd1 3 fun K9 Ky=>?_;go_simp;refine(qp a b d len cap m c n e nl x _ (HN.out.kept (Kept.drew _)) Vo.out HF.out).mono ?_;rintro e1 w1 ⟨rfl,kk⟩;exact⟨rfl,Jg.bad HE.out (by decide) ((Kept.drew _).trans kk)⟩
 | some n9 =>
  obtain⟨c9,m9,hu⟩:∃c m,jJ n9.name pl []=(c,m):=⟨_,_,rfl⟩
  have HU:=lH hu;have HF:=lH hf;clear hf hu;by_cases hc:c9=0
  · subst hc;have HE:=lH ((jc9 (pl:=pl) HF.out).trans HU.out);go_enter Tryz.func310,Tryz.ntmps310;go_wp2;refine wp_region_held_drew (S:=fun W=>W.cell? ⟨p,0,none⟩=some (.slice a len cap)∧W.cell? ⟨p,1,none⟩=some (.slice b m c)∧W.cell? ⟨p,2,none⟩=some (.slice d n e)∧W.cell? ⟨q,0,none⟩=some (.string x)) (by kernel_rfl) (HS.out _ (Kept.drew _)) (fun hHeld=>?_);refine tkI 0 ?_;refine tkI 1 ?_;refine tkI 2 ?_;try simp only[nP]
    refine rd1 3 fun K9 Ky=>?_;go_simp;refine(ZH a b d len cap m c n e nl x n9 _ (HN.out.kept (Kept.drew _)) Vo.out HF.out).mono ?_;rintro e1 w1 ⟨b1,n1,d1,b2,n2,d2,b3,n3,d3,rfl,hat,kk⟩;have J1:=lH ((Kept.drew _).trans kk);clear kk hat;refine Ky.out _ _ (HS.out _ J1.out) (fun _=>?_);clear Ky K9;try simp only[nP]
    refine rd1 4 fun K9 Ky=>?_;go_simp;refine((Xc b a d b1 b2 b3 m c len cap n e n1 d1 n2 d2 n3 d3 n9.name n9.cordon pl _ (HP.out.kept J1.out)).mono fun _ _ h=>h.ok HU.out).mono ?_;rintro e2 w2 ⟨v,rfl,ho,kk⟩;have J2:=lH (J1.out.trans kk);have HO:=lH (ho.base_le J1.out.size);clear kk ho;refine Ky.out _ _ (HS.out _ J2.out) (fun _=>?_);clear Ky K9;try simp only[nP]
    refine tkI 5 ?_;try simp only[nP]
    refine wpAnyH_done (by kernel_rfl) ?_ _;go_wp2;go_ret;exact Jg.good HE.out HO.out J2.out
  · have HE:=lH (show Yw nl pl x=(c9,m9) from(jc9 (pl:=pl) HF.out).trans HU.out);have HC:=lH hc;clear hc;go_enter Tryz.func310,Tryz.ntmps310;go_wp2;refine wp_region_held_drew (S:=fun W=>W.cell? ⟨p,0,none⟩=some (.slice a len cap)∧W.cell? ⟨p,1,none⟩=some (.slice b m c)∧W.cell? ⟨p,2,none⟩=some (.slice d n e)∧W.cell? ⟨q,0,none⟩=some (.string x)) (by kernel_rfl) (HS.out _ (Kept.drew _)) (fun hHeld=>?_);refine tkI 0 ?_;refine tkI 1 ?_;refine tkI 2 ?_;try simp only[nP]
    refine rd1 3 fun K9 Ky=>?_;go_simp;refine(ZH a b d len cap m c n e nl x n9 _ (HN.out.kept (Kept.drew _)) Vo.out HF.out).mono ?_;rintro e1 w1 ⟨b1,n1,d1,b2,n2,d2,b3,n3,d3,rfl,hat,kk⟩;have J1:=lH ((Kept.drew _).trans kk);clear kk hat;refine Ky.out _ _ (HS.out _ J1.out) (fun _=>?_);clear Ky K9;try simp only[nP]
    refine rd1 4 fun K9 Ky=>?_;go_simp;refine((Xc b a d b1 b2 b3 m c len cap n e n1 d1 n2 d2 n3 d3 n9.name n9.cordon pl _ (HP.out.kept J1.out)).mono fun _ _ h=>h.not HU.out HC.out).mono ?_;rintro e2 w2 ⟨rfl,kk⟩;exact⟨rfl,Jg.bad HE.out HC.out (J1.out.trans kk)⟩
theorem jiw (a b d:Option Addr) (len cap m c n e:Nat) (nl:List Nod) (pl:List Pd) (p q:Nat) (x:ByteArray) (w:World) (h0:w.cell? ⟨p,0,none⟩=some (.slice a len cap)) (h1:w.cell? ⟨p,1,none⟩=some (.slice b m c)) (h2:w.cell? ⟨p,2,none⟩=some (.slice d n e)) (hq:w.cell? ⟨q,0,none⟩=some (.string x)) (hn:jo w a len nl) (hp:jx w b m pl) (hlow:∀n ∈ nl,zP n) :
 Calls Tryz.prog 229 #[.pointer (some ⟨p,0,none⟩),.pointer (some ⟨q,0,none⟩)] w (Jg (ZN nl pl x) w):=by
 obtain⟨HS,HN,HP,Vo⟩:=lH4 (show ∀W,Kept w W→W.cell? ⟨p,0,none⟩=some (.slice a len cap)∧W.cell? ⟨p,1,none⟩=some (.slice b m c)∧W.cell? ⟨p,2,none⟩=some (.slice d n e) from fun W k=>⟨cell_later k h0,cell_later k h1,cell_later k h2⟩) hn hp hlow;clear hn hp hlow
 cases hf:jl nl x with
 | none =>
  have HE:=lH (jjc (pl:=pl) hf);have HF:=lH hf;clear hf;go_enter Tryz.func229,Tryz.ntmps229;go_wp2_with fail
  refine(qp a b d len cap m c n e nl x _ HN.out Vo.out HF.out).mono ?_;rintro e1 w1 ⟨rfl,kk⟩;go_wp2;exact⟨rfl,Jg.bad HE.out (by decide) kk⟩
 | some n9 =>
  obtain⟨c9,m9,hu⟩:∃c m,jJ n9.name pl []=(c,m):=⟨_,_,rfl⟩
  have HU:=lH hu;have HF:=lH hf;clear hf hu;by_cases hc:c9=0
  · subst hc;obtain⟨c8,m8,hs⟩:∃c m,Vec.jj Vec.zl n9.cap m9=(c,m):=⟨_,_,rfl⟩
    have HM:=lH hs;have HE:=lH (show ZN nl pl x=(c8,m8) from(jmk HF.out HU.out).trans hs);clear hs;by_cases hc:c8=0
    · subst hc;go_enter Tryz.func229,Tryz.ntmps229;go_wp2_with fail
      refine(ZH a b d len cap m c n e nl x n9 _ HN.out Vo.out HF.out).mono ?_;rintro e1 w1 ⟨b1,n1,d1,b2,n2,d2,b3,n3,d3,rfl,hat,kk⟩;have HA:=lH hat;obtain⟨z0,hz0⟩:=eX (n9.name)
      obtain⟨z4,hz4⟩:=eX (n9.cordon)
      rw[hz0,hz4];rw[hz0] at HU;obtain⟨W1,hW1⟩:=eX (w1.alloc (.cells #[.string z0,.slice b1 n1 d1,.slice b2 n2 d2,.slice b3 n3 d3,.bool z4] 78))
      have hk1:Kept w1 W1:=by rw[←hW1];exact ja _ _
      obtain⟨HB,J0,TY⟩:=lH3 (fun W (k:Kept W1 W)=>jc w1 (.string z0) [.slice b1 n1 d1,.slice b2 n2 d2,.slice b3 n3 d3,.bool z4] 78 W (by rw[hW1];exact k)) (kk.trans hk1) (fun W (k:Kept W1 W)=>HA.out.kept (hk1.trans k));clear kk hat hk1 h0 h1 h2;go_wp2_with fail
      try rw[hW1]
      clear hW1;have HT:=lH (show ∀W,Kept W1 W→W.cell? ⟨p,0,none⟩=some (.slice a len cap)∧W.cell? ⟨p,1,none⟩=some (.slice b m c)∧W.cell? ⟨p,2,none⟩=some (.slice d n e)∧W.cell? ⟨w1.heap.size,0,none⟩=some (.string z0)∧W.cell? ⟨w1.heap.size,1,none⟩=some (.slice b1 n1 d1)∧W.cell? ⟨w1.heap.size,2,none⟩=some (.slice b2 n2 d2)∧W.cell? ⟨w1.heap.size,3,none⟩=some (.slice b3 n3 d3)∧W.cell? ⟨w1.heap.size,4,none⟩=some (.bool z4) from fun W k=>by
       obtain⟨o0,o1,o2⟩:=HS.out W (J0.out.trans k);have c:=HB.out W k;exact⟨o0,o1,o2,c.at_ 0 _ rfl,c.at_ 1 _ rfl,c.at_ 2 _ rfl,c.at_ 3 _ rfl,c.at_ 4 _ rfl⟩)
      refine wp_region_held_drew (S:=fun W=>W.cell? ⟨p,0,none⟩=some (.slice a len cap)∧W.cell? ⟨p,1,none⟩=some (.slice b m c)∧W.cell? ⟨p,2,none⟩=some (.slice d n e)∧W.cell? ⟨w1.heap.size,0,none⟩=some (.string z0)∧W.cell? ⟨w1.heap.size,1,none⟩=some (.slice b1 n1 d1)∧W.cell? ⟨w1.heap.size,2,none⟩=some (.slice b2 n2 d2)∧W.cell? ⟨w1.heap.size,3,none⟩=some (.slice b3 n3 d3)∧W.cell? ⟨w1.heap.size,4,none⟩=some (.bool z4)) (by kernel_rfl) (HT.out _ (Kept.drew _)) (fun hHeld=>?_);refine tkI 0 ?_;refine tkI 1 ?_;refine tkI 2 ?_;refine tkI 3 ?_;try simp only[nP]
      refine rd1 4 fun K9 Ky=>?_;go_simp;refine((Xc b a d b1 b2 b3 m c len cap n e n1 d1 n2 d2 n3 d3 z0 z4 pl _ (HP.out.kept (J0.out.trans (Kept.drew _)))).mono fun _ _ h=>h.ok HU.out).mono ?_;rintro e2 w2 ⟨v,rfl,ho,kk⟩;have J2:=lH ((Kept.drew _).trans kk);have HO:=lH ho;clear kk ho;refine Ky.out _ _ (HT.out _ J2.out) (fun _=>?_);clear Ky K9;try simp only[nP]
      refine rd1 5 fun K9 Ky=>?_;go_simp;have Vw:=jnQ (TY.out _ J2.out).cap HO.out.reads;rw[HM.out] at Vw;refine Vw.mono ?_;rintro e3 w3 ⟨x3,rfl,ho3,kk⟩;have J3:=lH (J2.out.trans kk);have RQ:=lH (ho3.base_le (show w.heap.size≤_ from(J0.out.trans J2.out).size));clear kk ho3;refine Ky.out _ _ (HT.out _ J3.out) (fun _=>?_);clear Ky K9;try simp only[nP]
      refine tkI 6 ?_;refine tkI 7 ?_;try simp only[nP]
      refine rd1 8 fun K9 Ky=>?_;go_simp;refine(ja1 _ _).mono ?_;rintro e4 w4 ⟨rfl,rfl⟩;refine Ky.out _ _ (HT.out _ J3.out) (fun _=>?_);clear Ky K9;try simp only[nP]
      refine tkI 9 ?_;try simp only[nP]
      refine wpAnyH_done (by kernel_rfl) ?_ _;go_wp2;go_ret;exact Jg.good HE.out RQ.out (J0.out.trans J3.out)
    · have HC:=lH hc;clear hc;go_enter Tryz.func229,Tryz.ntmps229;go_wp2_with fail
      refine(ZH a b d len cap m c n e nl x n9 _ HN.out Vo.out HF.out).mono ?_;rintro e1 w1 ⟨b1,n1,d1,b2,n2,d2,b3,n3,d3,rfl,hat,kk⟩;have HA:=lH hat;obtain⟨z0,hz0⟩:=eX (n9.name)
      obtain⟨z4,hz4⟩:=eX (n9.cordon)
      rw[hz0,hz4];rw[hz0] at HU;obtain⟨W1,hW1⟩:=eX (w1.alloc (.cells #[.string z0,.slice b1 n1 d1,.slice b2 n2 d2,.slice b3 n3 d3,.bool z4] 78))
      have hk1:Kept w1 W1:=by rw[←hW1];exact ja _ _
      obtain⟨HB,J0,TY⟩:=lH3 (fun W (k:Kept W1 W)=>jc w1 (.string z0) [.slice b1 n1 d1,.slice b2 n2 d2,.slice b3 n3 d3,.bool z4] 78 W (by rw[hW1];exact k)) (kk.trans hk1) (fun W (k:Kept W1 W)=>HA.out.kept (hk1.trans k));clear kk hat hk1 h0 h1 h2;go_wp2_with fail
      try rw[hW1]
      clear hW1;have HT:=lH (show ∀W,Kept W1 W→W.cell? ⟨p,0,none⟩=some (.slice a len cap)∧W.cell? ⟨p,1,none⟩=some (.slice b m c)∧W.cell? ⟨p,2,none⟩=some (.slice d n e)∧W.cell? ⟨w1.heap.size,0,none⟩=some (.string z0)∧W.cell? ⟨w1.heap.size,1,none⟩=some (.slice b1 n1 d1)∧W.cell? ⟨w1.heap.size,2,none⟩=some (.slice b2 n2 d2)∧W.cell? ⟨w1.heap.size,3,none⟩=some (.slice b3 n3 d3)∧W.cell? ⟨w1.heap.size,4,none⟩=some (.bool z4) from fun W k=>by
       obtain⟨o0,o1,o2⟩:=HS.out W (J0.out.trans k);have c:=HB.out W k;exact⟨o0,o1,o2,c.at_ 0 _ rfl,c.at_ 1 _ rfl,c.at_ 2 _ rfl,c.at_ 3 _ rfl,c.at_ 4 _ rfl⟩)
      refine wp_region_held_drew (S:=fun W=>W.cell? ⟨p,0,none⟩=some (.slice a len cap)∧W.cell? ⟨p,1,none⟩=some (.slice b m c)∧W.cell? ⟨p,2,none⟩=some (.slice d n e)∧W.cell? ⟨w1.heap.size,0,none⟩=some (.string z0)∧W.cell? ⟨w1.heap.size,1,none⟩=some (.slice b1 n1 d1)∧W.cell? ⟨w1.heap.size,2,none⟩=some (.slice b2 n2 d2)∧W.cell? ⟨w1.heap.size,3,none⟩=some (.slice b3 n3 d3)∧W.cell? ⟨w1.heap.size,4,none⟩=some (.bool z4)) (by kernel_rfl) (HT.out _ (Kept.drew _)) (fun hHeld=>?_);refine tkI 0 ?_;refine tkI 1 ?_;refine tkI 2 ?_;refine tkI 3 ?_;try simp only[nP]
      refine rd1 4 fun K9 Ky=>?_;go_simp;refine((Xc b a d b1 b2 b3 m c len cap n e n1 d1 n2 d2 n3 d3 z0 z4 pl _ (HP.out.kept (J0.out.trans (Kept.drew _)))).mono fun _ _ h=>h.ok HU.out).mono ?_;rintro e2 w2 ⟨v,rfl,ho,kk⟩;have J2:=lH ((Kept.drew _).trans kk);have HO:=lH ho;clear kk ho;refine Ky.out _ _ (HT.out _ J2.out) (fun _=>?_);clear Ky K9;try simp only[nP]
      refine rd1 5 fun K9 Ky=>?_;go_simp;have Vw:=jnQ (TY.out _ J2.out).cap HO.out.reads;rw[HM.out] at Vw;refine Vw.mono ?_;rintro e3 w3 ⟨x3,rfl,ho3,kk⟩;have J3:=lH (J2.out.trans kk);have RQ:=lH (ho3.base_le (show w.heap.size≤_ from(J0.out.trans J2.out).size));clear kk ho3;refine Ky.out _ _ (HT.out _ J3.out) (fun _=>?_);clear Ky K9;try simp only[nP]
      refine tkI 6 ?_;refine tkI 7 ?_;try simp only[nP]
      refine rd1 8 fun K9 Ky=>?_;go_simp;refine(qP _ _ _ HC.out).mono ?_;rintro e4 w4 ⟨rfl,rfl⟩;exact⟨rfl,Jg.bad HE.out HC.out (J0.out.trans J3.out)⟩
  · have HE:=lH (jkw (pl:=pl) HF.out HU.out hc);have HC:=lH hc;clear hc;go_enter Tryz.func229,Tryz.ntmps229;go_wp2_with fail
    refine(ZH a b d len cap m c n e nl x n9 _ HN.out Vo.out HF.out).mono ?_;rintro e1 w1 ⟨b1,n1,d1,b2,n2,d2,b3,n3,d3,rfl,hat,kk⟩;have HA:=lH hat;obtain⟨z0,hz0⟩:=eX (n9.name)
    obtain⟨z4,hz4⟩:=eX (n9.cordon)
    rw[hz0,hz4];rw[hz0] at HU;obtain⟨W1,hW1⟩:=eX (w1.alloc (.cells #[.string z0,.slice b1 n1 d1,.slice b2 n2 d2,.slice b3 n3 d3,.bool z4] 78))
    have hk1:Kept w1 W1:=by rw[←hW1];exact ja _ _
    obtain⟨HB,J0,TY⟩:=lH3 (fun W (k:Kept W1 W)=>jc w1 (.string z0) [.slice b1 n1 d1,.slice b2 n2 d2,.slice b3 n3 d3,.bool z4] 78 W (by rw[hW1];exact k)) (kk.trans hk1) (fun W (k:Kept W1 W)=>HA.out.kept (hk1.trans k));clear kk hat hk1 h0 h1 h2;go_wp2_with fail
    try rw[hW1]
    clear hW1;have HT:=lH (show ∀W,Kept W1 W→W.cell? ⟨p,0,none⟩=some (.slice a len cap)∧W.cell? ⟨p,1,none⟩=some (.slice b m c)∧W.cell? ⟨p,2,none⟩=some (.slice d n e)∧W.cell? ⟨w1.heap.size,0,none⟩=some (.string z0)∧W.cell? ⟨w1.heap.size,1,none⟩=some (.slice b1 n1 d1)∧W.cell? ⟨w1.heap.size,2,none⟩=some (.slice b2 n2 d2)∧W.cell? ⟨w1.heap.size,3,none⟩=some (.slice b3 n3 d3)∧W.cell? ⟨w1.heap.size,4,none⟩=some (.bool z4) from fun W k=>by
     obtain⟨o0,o1,o2⟩:=HS.out W (J0.out.trans k);have c:=HB.out W k;exact⟨o0,o1,o2,c.at_ 0 _ rfl,c.at_ 1 _ rfl,c.at_ 2 _ rfl,c.at_ 3 _ rfl,c.at_ 4 _ rfl⟩)
    refine wp_region_held_drew (S:=fun W=>W.cell? ⟨p,0,none⟩=some (.slice a len cap)∧W.cell? ⟨p,1,none⟩=some (.slice b m c)∧W.cell? ⟨p,2,none⟩=some (.slice d n e)∧W.cell? ⟨w1.heap.size,0,none⟩=some (.string z0)∧W.cell? ⟨w1.heap.size,1,none⟩=some (.slice b1 n1 d1)∧W.cell? ⟨w1.heap.size,2,none⟩=some (.slice b2 n2 d2)∧W.cell? ⟨w1.heap.size,3,none⟩=some (.slice b3 n3 d3)∧W.cell? ⟨w1.heap.size,4,none⟩=some (.bool z4)) (by kernel_rfl) (HT.out _ (Kept.drew _)) (fun hHeld=>?_);refine tkI 0 ?_;refine tkI 1 ?_;refine tkI 2 ?_;refine tkI 3 ?_;try simp only[nP]
    refine rd1 4 fun K9 Ky=>?_;go_simp;refine((Xc b a d b1 b2 b3 m c len cap n e n1 d1 n2 d2 n3 d3 z0 z4 pl _ (HP.out.kept (J0.out.trans (Kept.drew _)))).mono fun _ _ h=>h.not HU.out HC.out).mono ?_;rintro e2 w2 ⟨rfl,kk⟩;exact⟨rfl,Jg.bad HE.out HC.out (J0.out.trans ((Kept.drew _).trans kk))⟩
theorem jkS (a b d:Option Addr) (len cap m c n e:Nat) (nl:List Nod) (pl:List Pd) (x:ByteArray) (w:World) (hn:jo w a len nl) (hp:jx w b m pl) (hlow:∀n ∈ nl,zP n) :
 Calls Tryz.prog 295 #[.agg #[.slice a len cap,.slice b m c,.slice d n e],.string x] w (Vec.Y3 (Yw nl pl x) w):=by
 have hmf:=hmfL (P:=Tryz.prog);obtain⟨Z,hZ⟩:=eX ((w.alloc (.cells #[.slice a len cap,.slice b m c,.slice d n e] 26)).alloc (.cells #[.string x] 9))
 have hkz:Kept w Z:=by rw[←hZ];exact jn _ _ _
 have hC:∀W,Kept Z W→Calls Tryz.prog 310 #[.pointer (some ⟨w.heap.size,0,none⟩),.pointer (some ⟨w.heap.size+1,0,none⟩)] W (Jg (Yw nl pl x) W):=by
  intro W k;have cc:=jc w (.slice a len cap) [.slice b m c,.slice d n e] 26 W (by have:=(ja (w.alloc (.cells #[.slice a len cap,.slice b m c,.slice d n e] 26)) (.cells #[.string x] 9));rw[hZ] at this;exact this.trans k);have dd:=jc (w.alloc (.cells #[.slice a len cap,.slice b m c,.slice d n e] 26)) (.string x) [] 9 W (by rw[hZ];exact k);rw[World.size_alloc] at dd;exact jip a b d len cap m c n e nl pl w.heap.size (w.heap.size+1) x W (cc.at_ 0 _ rfl) (cc.at_ 1 _ rfl) (cc.at_ 2 _ rfl) (dd.at_ 0 _ rfl) (hn.kept (hkz.trans k)) (hp.kept (hkz.trans k)) hlow
 have HC:=lH hC;have Vc:=lH hkz;clear hC hn hkz hp hlow;go_enter Tryz.func295,Tryz.ntmps295;go_wp2_with fail
 try rw[hZ]
 refine(jhf (⟨w.heap.size,0,none⟩,⟨w.heap.size+1,0,none⟩) (Yw nl pl x) _ jh5 HC.out).mono ?_;rintro e1 w1 ⟨v,rfl,ho,k⟩;have HO:=lH ho;have HK:=lH k;clear ho k;go_wp2;go_ret2
 exact⟨v,rfl,HO.out.base_le Vc.out.size,Vc.out.trans HK.out⟩
theorem jjt (a b d:Option Addr) (len cap m c n e:Nat) (nl:List Nod) (pl:List Pd) (x:ByteArray) (w:World) (hn:jo w a len nl) (hp:jx w b m pl) (hlow:∀n ∈ nl,zP n) :
 Calls Tryz.prog 195 #[.agg #[.slice a len cap,.slice b m c,.slice d n e],.string x] w (Vec.Y3 (ZN nl pl x) w):=by
 have hmf:=hmfL (P:=Tryz.prog);obtain⟨Z,hZ⟩:=eX ((w.alloc (.cells #[.slice a len cap,.slice b m c,.slice d n e] 26)).alloc (.cells #[.string x] 9))
 have hkz:Kept w Z:=by rw[←hZ];exact jn _ _ _
 have hC:∀W,Kept Z W→Calls Tryz.prog 229 #[.pointer (some ⟨w.heap.size,0,none⟩),.pointer (some ⟨w.heap.size+1,0,none⟩)] W (Jg (ZN nl pl x) W):=by
  intro W k;have cc:=jc w (.slice a len cap) [.slice b m c,.slice d n e] 26 W (by have:=(ja (w.alloc (.cells #[.slice a len cap,.slice b m c,.slice d n e] 26)) (.cells #[.string x] 9));rw[hZ] at this;exact this.trans k);have dd:=jc (w.alloc (.cells #[.slice a len cap,.slice b m c,.slice d n e] 26)) (.string x) [] 9 W (by rw[hZ];exact k);rw[World.size_alloc] at dd;exact jiw a b d len cap m c n e nl pl w.heap.size (w.heap.size+1) x W (cc.at_ 0 _ rfl) (cc.at_ 1 _ rfl) (cc.at_ 2 _ rfl) (dd.at_ 0 _ rfl) (hn.kept (hkz.trans k)) (hp.kept (hkz.trans k)) hlow
 have HC:=lH hC;have Vc:=lH hkz;clear hC hn hkz hp hlow;go_enter Tryz.func195,Tryz.ntmps195;go_wp2_with fail
 try rw[hZ]
 refine(jgx (⟨w.heap.size,0,none⟩,⟨w.heap.size+1,0,none⟩) (ZN nl pl x) _ jiX HC.out).mono ?_;rintro e1 w1 ⟨v,rfl,ho,k⟩;have HO:=lH ho;have HK:=lH k;clear ho k;go_wp2;go_ret2
 exact⟨v,rfl,HO.out.base_le Vc.out.size,Vc.out.trans HK.out⟩
def JW (c:Int) (v:Value) (w:World) (e:Ending) (w':World):Prop:=(c=0→e=.returned v)∧(c≠0→e=.panicked [zx c])∧Kept w w'
theorem JW.good {x c:Int} {v:Value} {w w':World} (h:x=c) (hc:c=0) (k:Kept w w'):JW x v w (.returned v) w':=by
 subst h;exact⟨fun _=>rfl,fun h=>absurd hc h,k⟩
theorem JW.bad {x c:Int} {v:Value} {w w':World} (h:x=c) (hc:c≠0) (k:Kept w w'):JW x v w (.panicked [zx c]) w':=by
 subst h;exact⟨fun h=>absurd h hc,fun _=>rfl,k⟩
theorem jay {nl:List Nod} {pl:List Pd} {bl:List Bd} {c:Int} (h:or3 (jI nl) (jD pl) (jH bl)=c) (hc:c≠0):zO ⟨nl,pl,bl⟩=c:=by
 unfold zO;dsimp only;rw[h,if_pos hc]
theorem jbm {nl:List Nod} {pl:List Pd} {bl:List Bd} {c:Int} (h:or3 (jI nl) (jD pl) (jH bl)=0) (g:jA nl pl=c) (hc:c≠0):zO ⟨nl,pl,bl⟩=c:=by
 unfold zO;dsimp only;rw[h,if_neg (by simp),g,if_pos hc]
theorem XL {nl:List Nod} {pl:List Pd} {bl:List Bd} {c:Int} (h:or3 (jI nl) (jD pl) (jH bl)=0) (g:jA nl pl=0) (r:jM pl nl=c) (hc:c≠0):zO ⟨nl,pl,bl⟩=c:=by
 unfold zO;dsimp only;rw[h,if_neg (by simp),g,if_neg (by simp),r,if_pos hc]
theorem jag {nl:List Nod} {pl:List Pd} {bl:List Bd} (h:or3 (jI nl) (jD pl) (jH bl)=0) (g:jA nl pl=0) (r:jM pl nl=0):zO ⟨nl,pl,bl⟩=(Jt nl []).1:=by
 unfold zO;dsimp only;rw[h,if_neg (by simp),g,if_neg (by simp),r,if_neg (by simp)]
theorem jev (a b d:Option Addr) (len cap m c n e:Nat) (nl:List Nod) (pl:List Pd) (bl:List Bd) (w:World) (hn:jo w a len nl) (hp:jx w b m pl) (hb:j8 w d n bl) (hlow:∀n ∈ nl,zP n) :
 Calls Tryz.prog 47 #[.agg #[.slice a len cap,.slice b m c,.slice d n e]] w (JW (zO ⟨nl,pl,bl⟩) (.agg #[.slice a len cap,.slice b m c,.slice d n e]) w):=by
 have hlN:=hn.1;have hlP:=hp.1;have hmN:=hn.2.1;have hmP:=hp.2.1;unfold maxLen at hmN hmP;obtain⟨Z,hZ⟩:=eX ((w.alloc (.cells #[.slice a len cap,.slice b m c,.slice d n e] 26)).alloc (.cells #[.slice none 0 0,.slice none 0 0,.slice none 0 0] 26))
 have hkz:Kept w Z:=by rw[←hZ];exact jn _ _ _
 have HS:=lH (show ∀W,Kept Z W→W.cell? ⟨w.heap.size,0,none⟩=some (.slice a len cap)∧W.cell? ⟨w.heap.size,1,none⟩=some (.slice b m c)∧W.cell? ⟨w.heap.size,2,none⟩=some (.slice d n e) from fun W k=>by
  have cc:=jc w (.slice a len cap) [.slice b m c,.slice d n e] 26 W (by have:=ja (w.alloc (.cells #[.slice a len cap,.slice b m c,.slice d n e] 26)) (.cells #[.slice none 0 0,.slice none 0 0,.slice none 0 0] 26);rw[hZ] at this;exact this.trans k);exact⟨cc.at_ 0 _ rfl,cc.at_ 1 _ rfl,cc.at_ 2 _ rfl⟩)
 have HQ:=lH (show ∀W,Kept Z W→jf (w.heap.size+1) [.slice none 0 0,.slice none 0 0,.slice none 0 0] W from fun W k=>by
  have dd:=jc (w.alloc (.cells #[.slice a len cap,.slice b m c,.slice d n e] 26)) (.slice none 0 0) [.slice none 0 0,.slice none 0 0] 26 W (by rw[hZ];exact k);rw[World.size_alloc] at dd;exact dd)
 obtain⟨HN,HP,HB,Vo,U7,Ud,Vc⟩:=lH7 (hn.kept hkz) (hp.kept hkz) (hb.kept hkz) hlow hlN hlP hkz;obtain⟨x1,hx1⟩:=eX (jI nl)
 obtain⟨x2,hx2⟩:=eX (jD pl)
 obtain⟨x3,hx3⟩:=eX (jH bl)
 obtain⟨x0,hx0⟩:=eX (or3 x1 x2 x3)
 obtain⟨RR,Ue,H1,H2,H3⟩:=lH5 hx0 (show or3 (jI nl) (jD pl) (jH bl)=x0 by rw[hx1,hx2,hx3,hx0]) (fun W (k:Kept Z W)=>jeZ a len cap nl W (HN.out.kept k)) (fun W (k:Kept Z W)=>jeU b m c pl W (HP.out.kept k)) (fun W (k:Kept Z W)=>jex d n e bl W (HB.out.kept k));rw[hx1] at H1;rw[hx2] at H2;rw[hx3] at H3;clear hn hp hb hlow hlN hlP hkz hx1 hx2 hx3 hx0;by_cases hc:x0=0
 · subst hc;go_enter Tryz.func47,Tryz.ntmps47;go_wp2;try rw[hZ]
   clear hZ;refine wp_region_held_drew (S:=fun W=>W.cell? ⟨w.heap.size,0,none⟩=some (.slice a len cap)∧W.cell? ⟨w.heap.size,1,none⟩=some (.slice b m c)∧W.cell? ⟨w.heap.size,2,none⟩=some (.slice d n e)) (by kernel_rfl) (HS.out _ (Kept.drew _)) (fun hHeld=>?_);refine tkI 0 ?_;refine tkI 1 ?_;refine tkI 3 ?_;refine tkI 4 ?_;refine tkI 6 ?_;refine tkI 7 ?_;try simp only[nP]
   refine rd1 2 fun K9 Ky=>?_;go_simp;refine(H1.out _ (Kept.drew _)).mono ?_;rintro e1 w1 ⟨rfl,kk⟩;have J1:=lH ((Kept.drew _).trans kk);clear kk;refine Ky.out _ _ (HS.out _ J1.out) (fun _=>?_);clear Ky K9;try simp only[nP]
   refine rd1 5 fun K9 Ky=>?_;go_simp;refine(H2.out _ J1.out).mono ?_;rintro e2 w2 ⟨rfl,kk⟩;have J2:=lH ((J1.out).trans kk);clear kk;refine Ky.out _ _ (HS.out _ J2.out) (fun _=>?_);clear Ky K9;try simp only[nP]
   refine rd1 8 fun K9 Ky=>?_;go_simp;refine(H3.out _ J2.out).mono ?_;rintro e3 w3 ⟨rfl,kk⟩;have J3:=lH ((J2.out).trans kk);clear kk;refine Ky.out _ _ (HS.out _ J3.out) (fun _=>?_);clear Ky K9;try simp only[nP]
   refine rd1 9 fun K9 Ky=>?_;go_simp;have J4:=lH (J3.out.trans (ja w3 (.cells #[.int .i64 x1,.int .i64 x2,.int .i64 x3] 69)));refine Ky.out _ _ (HS.out _ J4.out) (fun _=>?_);clear Ky K9;try simp only[nP]
   refine rd1 10 fun K9 Ky=>?_;go_simp;refine(jdt _ x1 x2 x3 _ (by go_simp) (by go_simp) (by go_simp)).mono ?_;rintro e4 w4 ⟨rfl,rfl⟩;rw[RR.out];refine Ky.out _ _ (HS.out _ J4.out) (fun _=>?_);clear Ky K9;try simp only[nP]
   refine rd1 11 fun K9 Ky=>?_;go_simp;refine(jjT _).mono ?_;rintro e5 w5 ⟨rfl,rfl⟩;refine Ky.out _ _ (HS.out _ J4.out) (fun _=>?_);clear Ky K9;try simp only[nP]
   refine wpAnyH_done (by kernel_rfl) ?_ _;obtain⟨W0,hW0⟩:=eX (w3.alloc (.cells #[.int .i64 x1,.int .i64 x2,.int .i64 x3] 69))
   rw[hW0] at J4 ⊢;obtain⟨o0,o1,o2⟩:=HS.out _ J4.out;clear hW0;go_wp2;clear o0 o1 o2;go_loopw [22] (fun i wr=>∃k:Nat,k≤m∧i=.int .i64 k∧jA nl (pl.drop k)=jA nl pl∧Kept Z wr) (fun i _=>m-(intOf i).toNat)
   case atStart=>exact⟨0,Nat.zero_le _,rfl,rfl,J4.out⟩
   case round =>
    obtain⟨k,hk,rfl,hrest,hK⟩:=hrel;have HT:=lH hrest;have HK:=lH hK;by_cases hlt:k<m
    · obtain⟨b0,off,rfl⟩:=HP.out.form.resolve_left (by omega);obtain⟨p,a1,m1,c1,a2,m2,c2,a3,m3,c3,a4,m4,c4,hn,hd,hb,y0,y1,y2,y3,y4,y5,y6,y7,y8,y9,y10,hat⟩:=(HP.out.kept hK).at_ hlt;have HD:=lH hd;obtain⟨t,ht⟩:=eX ((p.node.toList==([]:List UInt8)))
      have Ua:=lH (show zo p.node=t by rw[JX];exact ht);have hkk:(k:Int)<(m:Int):=by omega
      have KA:=lH (hK.trans (ja wr (.cells #[.string p.name,.string p.owner,.int .i64 p.prio,.slice a1 m1 c1,.slice a2 m2 c2,.slice a3 m3 c3,.slice a4 m4 c4,.string p.key,.int .i64 p.most,.string p.node,.bool p.hold] 52)));obtain⟨o0,o1,o2⟩:=HS.out _ KA.out;clear hrest hK hat hd hn
      cases t with
      | true =>
       have HX:=lH (show jA nl (pl.drop (k+1))=jA nl pl by rw[←HT.out,HD.out,jbS Ua.out]);go_wp2;go_roundw
       case rel=>exact⟨k+1,by omega,by go_num,HX.out,KA.out⟩
       case measure=>simp[intOf];omega
      | false =>
       cases hf:jl nl p.node with
       | none =>
        have HX:=lH (show jA nl pl=3 by rw[←HT.out,HD.out,qL Ua.out (by rw[hf];rfl)]);have HF:=lH hf;clear hf;go_wp2_with fail
        refine(qp a _ d len cap m c n e nl p.node _ (HN.out.kept KA.out) Vo.out HF.out).mono ?_;rintro e1 v1 ⟨rfl,kk⟩;go_wp2;exact⟨rfl,JW.bad (jbm Ue.out HX.out (by decide)) (by decide) (Vc.out.trans (KA.out.trans kk))⟩
       | some n9 =>
        have HX:=lH (show jA nl (pl.drop (k+1))=jA nl pl by rw[←HT.out,HD.out,jbZ (by rw[hf];rfl)]);have HF:=lH hf;clear hf;go_wp2_with fail
        refine(ZH a _ d len cap m c n e nl p.node n9 _ (HN.out.kept KA.out) Vo.out HF.out).mono ?_;rintro e1 v1 ⟨b1,n1,d1,b2,n2,d2,b3,n3,d3,rfl,-,kk⟩;have KB:=lH (KA.out.trans kk);clear kk o0 o1 o2;go_wp2;go_roundw
        case rel=>exact⟨k+1,by omega,by go_num,HX.out,KB.out⟩
        case measure=>simp[intOf];omega
    · have V1:=lH (show jA nl pl=0 by rw[←hrest,List.drop_of_length_le (by rw[Ud.out];omega)];rfl);obtain⟨o0,o1,o2⟩:=HS.out _ hK;clear hrest hK;go_wp2;clear o0 o1 o2;go_loopw [37] (fun i wr=>∃k:Nat,k≤len∧i=.int .i64 k∧jM pl (nl.drop k)=jM pl nl∧Kept Z wr) (fun i _=>len-(intOf i).toNat)
      case atStart=>exact⟨0,Nat.zero_le _,rfl,rfl,HK.out⟩
      case round =>
       obtain⟨k,hk,rfl,hrest,hK⟩:=hrel;have HT:=lH hrest;have HK:=lH hK;by_cases hlt:k<len
       · obtain⟨b0,off,rfl⟩:=HN.out.form.resolve_left (by omega);obtain⟨p,a1,m1,c1,a2,m2,c2,a3,m3,c3,hn,hd,hb,y0,y1,y2,y3,y4,hat⟩:=(HN.out.kept hK).at_ hlt;have HD:=lH hd;have HA:=lH hat;have hkk:(k:Int)<(len:Int):=by omega
         obtain⟨c9,m9,hu⟩:∃c m,jJ p.name pl []=(c,m):=⟨_,_,rfl⟩
         have HU:=lH hu;obtain⟨z0,hz0⟩:=eX (p.name)
         obtain⟨z4,hz4⟩:=eX (p.cordon)
         have To:=lH hz0;rw[hz0] at y0;rw[hz4] at y4;have Um:=lH (show ∀W,Kept (wr.alloc (.cells #[.string z0,.slice a1 m1 c1,.slice a2 m2 c2,.slice a3 m3 c3,.bool z4] 78)) W→W.cell? ⟨w.heap.size,0,none⟩=some (.slice (some ⟨b0,off,none⟩) len cap)∧W.cell? ⟨w.heap.size,1,none⟩=some (.slice b m c)∧W.cell? ⟨w.heap.size,2,none⟩=some (.slice d n e)∧W.cell? ⟨wr.heap.size,0,none⟩=some (.string z0)∧W.cell? ⟨wr.heap.size,1,none⟩=some (.slice a1 m1 c1)∧W.cell? ⟨wr.heap.size,2,none⟩=some (.slice a2 m2 c2)∧W.cell? ⟨wr.heap.size,3,none⟩=some (.slice a3 m3 c3)∧W.cell? ⟨wr.heap.size,4,none⟩=some (.bool z4) from fun W k=>by
          obtain⟨o0,o1,o2⟩:=HS.out W (hK.trans ((ja _ _).trans k));have cc:=jc wr (.string z0) [.slice a1 m1 c1,.slice a2 m2 c2,.slice a3 m3 c3,.bool z4] 78 W k;exact⟨o0,o1,o2,cc.at_ 0 _ rfl,cc.at_ 1 _ rfl,cc.at_ 2 _ rfl,cc.at_ 3 _ rfl,cc.at_ 4 _ rfl⟩)
         have TM:=lH (fun W (k:Kept wr W)=>Xc b (some ⟨b0,off,none⟩) d a1 a2 a3 m c len cap n e m1 c1 m2 c2 m3 c3 z0 z4 pl W (HP.out.kept (HK.out.trans k)));clear hrest hK hat hd hn hu;by_cases hc:c9=0
         · subst hc;obtain⟨t,ht⟩:=eX (Vec.jB p.cap m9)
           have UG:=lH ht;clear ht
           cases t with
           | true =>
            have HX:=lH (show jM pl (nl.drop (k+1))=jM pl nl by rw[←HT.out,HD.out,XB HU.out UG.out]);obtain⟨o0,o1,o2,-⟩:=Um.out _ (Kept.refl _);go_wp2;clear o0 o1 o2;refine wp_region_held_drew (S:=fun W=>W.cell? ⟨w.heap.size,0,none⟩=some (.slice (some ⟨b0,off,none⟩) len cap)∧W.cell? ⟨w.heap.size,1,none⟩=some (.slice b m c)∧W.cell? ⟨w.heap.size,2,none⟩=some (.slice d n e)∧W.cell? ⟨wr.heap.size,0,none⟩=some (.string z0)∧W.cell? ⟨wr.heap.size,1,none⟩=some (.slice a1 m1 c1)∧W.cell? ⟨wr.heap.size,2,none⟩=some (.slice a2 m2 c2)∧W.cell? ⟨wr.heap.size,3,none⟩=some (.slice a3 m3 c3)∧W.cell? ⟨wr.heap.size,4,none⟩=some (.bool z4)) (by kernel_rfl) (Um.out _ (Kept.drew _)) (fun hHeld=>?_);refine tkI 0 ?_;refine tkI 1 ?_;refine tkI 3 ?_;refine tkI 4 ?_;try simp only[nP]
            refine rd1 2 fun K9 Ky=>?_;go_simp;refine(((TM.out _ ((ja wr (.cells #[.string z0,.slice a1 m1 c1,.slice a2 m2 c2,.slice a3 m3 c3,.bool z4] 78)).trans (Kept.drew _))).mono fun _ _ h=>h.ok (by rw[←To.out];exact HU.out))).mono ?_;rintro e1 v1 ⟨v,rfl,ho,kk⟩;have J1:=lH ((Kept.drew _).trans kk);have HO:=lH ho;clear kk ho;refine Ky.out _ _ (Um.out _ J1.out) (fun _=>?_);clear Ky K9;try simp only[nP]
            refine rd1 5 fun K9 Ky=>?_;go_simp;refine(Vec.jig HO.out.reads (HA.out.kept ((ja wr (.cells #[.string z0,.slice a1 m1 c1,.slice a2 m2 c2,.slice a3 m3 c3,.bool z4] 78)).trans J1.out)).cap UG.out).mono ?_;rintro e2 v2 ⟨rfl,kk⟩;have J2:=lH (J1.out.trans kk);clear kk;refine Ky.out _ _ (Um.out _ J2.out) (fun _=>?_);clear Ky K9;try simp only[nP]
            refine tkI 6 ?_;try simp only[nP]
            refine wpAnyH_done (by kernel_rfl) ?_ _;have KB:=lH (HK.out.trans ((ja wr (.cells #[.string z0,.slice a1 m1 c1,.slice a2 m2 c2,.slice a3 m3 c3,.bool z4] 78)).trans J2.out));go_wp2;go_roundw
            case rel=>exact⟨k+1,by omega,by go_num,HX.out,KB.out⟩
            case measure=>simp[intOf];omega
           | false =>
            have HX:=lH (show jM pl nl=7 by rw[←HT.out,HD.out,jaw HU.out UG.out]);obtain⟨o0,o1,o2,-⟩:=Um.out _ (Kept.refl _);go_wp2;clear o0 o1 o2;refine wp_region_held_drew (S:=fun W=>W.cell? ⟨w.heap.size,0,none⟩=some (.slice (some ⟨b0,off,none⟩) len cap)∧W.cell? ⟨w.heap.size,1,none⟩=some (.slice b m c)∧W.cell? ⟨w.heap.size,2,none⟩=some (.slice d n e)∧W.cell? ⟨wr.heap.size,0,none⟩=some (.string z0)∧W.cell? ⟨wr.heap.size,1,none⟩=some (.slice a1 m1 c1)∧W.cell? ⟨wr.heap.size,2,none⟩=some (.slice a2 m2 c2)∧W.cell? ⟨wr.heap.size,3,none⟩=some (.slice a3 m3 c3)∧W.cell? ⟨wr.heap.size,4,none⟩=some (.bool z4)) (by kernel_rfl) (Um.out _ (Kept.drew _)) (fun hHeld=>?_);refine tkI 0 ?_;refine tkI 1 ?_;refine tkI 3 ?_;refine tkI 4 ?_;try simp only[nP]
            refine rd1 2 fun K9 Ky=>?_;go_simp;refine(((TM.out _ ((ja wr (.cells #[.string z0,.slice a1 m1 c1,.slice a2 m2 c2,.slice a3 m3 c3,.bool z4] 78)).trans (Kept.drew _))).mono fun _ _ h=>h.ok (by rw[←To.out];exact HU.out))).mono ?_;rintro e1 v1 ⟨v,rfl,ho,kk⟩;have J1:=lH ((Kept.drew _).trans kk);have HO:=lH ho;clear kk ho;refine Ky.out _ _ (Um.out _ J1.out) (fun _=>?_);clear Ky K9;try simp only[nP]
            refine rd1 5 fun K9 Ky=>?_;go_simp;refine(Vec.jig HO.out.reads (HA.out.kept ((ja wr (.cells #[.string z0,.slice a1 m1 c1,.slice a2 m2 c2,.slice a3 m3 c3,.bool z4] 78)).trans J1.out)).cap UG.out).mono ?_;rintro e2 v2 ⟨rfl,kk⟩;have J2:=lH (J1.out.trans kk);clear kk;refine Ky.out _ _ (Um.out _ J2.out) (fun _=>?_);clear Ky K9;try simp only[nP]
            refine tkI 6 ?_;try simp only[nP]
            refine wpAnyH_done (by kernel_rfl) ?_ _;have KB:=lH (HK.out.trans ((ja wr (.cells #[.string z0,.slice a1 m1 c1,.slice a2 m2 c2,.slice a3 m3 c3,.bool z4] 78)).trans J2.out));go_wp2;exact⟨rfl,JW.bad (XL Ue.out V1.out HX.out (by decide)) (by decide) (Vc.out.trans KB.out)⟩
         · have HX:=lH (show jM pl nl=c9 by rw[←HT.out,HD.out,jaX HU.out hc]);have HC:=lH hc;clear hc;obtain⟨o0,o1,o2,-⟩:=Um.out _ (Kept.refl _);go_wp2;clear o0 o1 o2;refine wp_region_held_drew (S:=fun W=>W.cell? ⟨w.heap.size,0,none⟩=some (.slice (some ⟨b0,off,none⟩) len cap)∧W.cell? ⟨w.heap.size,1,none⟩=some (.slice b m c)∧W.cell? ⟨w.heap.size,2,none⟩=some (.slice d n e)∧W.cell? ⟨wr.heap.size,0,none⟩=some (.string z0)∧W.cell? ⟨wr.heap.size,1,none⟩=some (.slice a1 m1 c1)∧W.cell? ⟨wr.heap.size,2,none⟩=some (.slice a2 m2 c2)∧W.cell? ⟨wr.heap.size,3,none⟩=some (.slice a3 m3 c3)∧W.cell? ⟨wr.heap.size,4,none⟩=some (.bool z4)) (by kernel_rfl) (Um.out _ (Kept.drew _)) (fun hHeld=>?_);refine tkI 0 ?_;refine tkI 1 ?_;refine tkI 3 ?_;refine tkI 4 ?_;try simp only[nP]
           refine rd1 2 fun K9 Ky=>?_;go_simp;refine(((TM.out _ ((ja wr (.cells #[.string z0,.slice a1 m1 c1,.slice a2 m2 c2,.slice a3 m3 c3,.bool z4] 78)).trans (Kept.drew _))).mono fun _ _ h=>h.not (by rw[←To.out];exact HU.out) HC.out)).mono ?_;rintro e1 v1 ⟨rfl,kk⟩;exact⟨rfl,JW.bad (XL Ue.out V1.out HX.out HC.out) HC.out (Vc.out.trans (HK.out.trans ((ja wr (.cells #[.string z0,.slice a1 m1 c1,.slice a2 m2 c2,.slice a3 m3 c3,.bool z4] 78)).trans ((Kept.drew _).trans kk))))⟩
       · have Rj:=lH (show jM pl nl=0 by rw[←hrest,List.drop_of_length_le (by rw[U7.out];omega)];rfl);obtain⟨o0,o1,o2⟩:=HS.out _ hK;have RS:=lH (jjG a b d len cap m c n e nl wr (HN.out.kept hK));have Nx:=lH (jag Ue.out V1.out Rj.out);obtain⟨c9,m9,hu⟩:∃c m,Jt nl []=(c,m):=⟨_,_,rfl⟩
         have HU:=lH hu;have HV:=lH (show zO ⟨nl,pl,bl⟩=c9 by rw[Nx.out,hu]);clear hrest hK hu;by_cases hc:c9=0
         · subst hc;go_wp2_with fail
           refine(RS.out.mono fun _ _ h=>h.ok HU.out).mono ?_;rintro e1 v1 ⟨v,rfl,ho,kk⟩;have KB:=lH (HK.out.trans kk);clear kk ho o0 o1 o2;obtain⟨o0,o1,o2⟩:=HS.out _ KB.out;have y0:=(HQ.out _ KB.out).at_ 0 _ rfl;have y1:=(HQ.out _ KB.out).at_ 1 _ rfl;have y2:=(HQ.out _ KB.out).at_ 2 _ rfl;have f0:=(HQ.out _ KB.out).free 0;have f1:=(HQ.out _ KB.out).free 1;have f2:=(HQ.out _ KB.out).free 2;have PP:=lH (j5 (vs:=[.slice a len cap,.slice b m c,.slice d n e]) (HQ.out _ KB.out) rfl);go_wp2;obtain⟨WE,hWE⟩:=eX (v1.setCells (w.heap.size+1) 0 [.slice a len cap,.slice b m c,.slice d n e])
           have hWE2:(((v1.setCell ⟨(w.heap.size+1),0,none⟩ (.slice a len cap)).setCell ⟨(w.heap.size+1),1,none⟩ (.slice b m c)).setCell ⟨(w.heap.size+1),2,none⟩ (.slice d n e))=WE:=hWE;rw[hWE] at PP;try rw[hWE2]
           clear hWE hWE2;obtain⟨PC,hsz,hbl,hkp⟩:=PP.out;refine bodyPost_ret (by simp[results,Tryz.results47,go_sem,PC.at_ 0 _ rfl,PC.at_ 1 _ rfl,PC.at_ 2 _ rfl];try rfl) rfl ?_;exact JW.good HV.out rfl (hkp _ _ (by omega) (Vc.out.trans KB.out))
         · have HC:=lH hc;clear hc;go_wp2_with fail
           refine(RS.out.mono fun _ _ h=>h.not HU.out HC.out).mono ?_;rintro e1 v1 ⟨rfl,kk⟩;go_wp2;exact⟨rfl,JW.bad HV.out HC.out (Vc.out.trans (HK.out.trans kk))⟩
 · have HC:=lH hc;clear hc;go_enter Tryz.func47,Tryz.ntmps47;go_wp2;try rw[hZ]
   clear hZ;refine wp_region_held_drew (S:=fun W=>W.cell? ⟨w.heap.size,0,none⟩=some (.slice a len cap)∧W.cell? ⟨w.heap.size,1,none⟩=some (.slice b m c)∧W.cell? ⟨w.heap.size,2,none⟩=some (.slice d n e)) (by kernel_rfl) (HS.out _ (Kept.drew _)) (fun hHeld=>?_);refine tkI 0 ?_;refine tkI 1 ?_;refine tkI 3 ?_;refine tkI 4 ?_;refine tkI 6 ?_;refine tkI 7 ?_;try simp only[nP]
   refine rd1 2 fun K9 Ky=>?_;go_simp;refine(H1.out _ (Kept.drew _)).mono ?_;rintro e1 w1 ⟨rfl,kk⟩;have J1:=lH ((Kept.drew _).trans kk);clear kk;refine Ky.out _ _ (HS.out _ J1.out) (fun _=>?_);clear Ky K9;try simp only[nP]
   refine rd1 5 fun K9 Ky=>?_;go_simp;refine(H2.out _ J1.out).mono ?_;rintro e2 w2 ⟨rfl,kk⟩;have J2:=lH ((J1.out).trans kk);clear kk;refine Ky.out _ _ (HS.out _ J2.out) (fun _=>?_);clear Ky K9;try simp only[nP]
   refine rd1 8 fun K9 Ky=>?_;go_simp;refine(H3.out _ J2.out).mono ?_;rintro e3 w3 ⟨rfl,kk⟩;have J3:=lH ((J2.out).trans kk);clear kk;refine Ky.out _ _ (HS.out _ J3.out) (fun _=>?_);clear Ky K9;try simp only[nP]
   refine rd1 9 fun K9 Ky=>?_;go_simp;have J4:=lH (J3.out.trans (ja w3 (.cells #[.int .i64 x1,.int .i64 x2,.int .i64 x3] 69)));refine Ky.out _ _ (HS.out _ J4.out) (fun _=>?_);clear Ky K9;try simp only[nP]
   refine rd1 10 fun K9 Ky=>?_;go_simp;refine(jdt _ x1 x2 x3 _ (by go_simp) (by go_simp) (by go_simp)).mono ?_;rintro e4 w4 ⟨rfl,rfl⟩;rw[RR.out];refine Ky.out _ _ (HS.out _ J4.out) (fun _=>?_);clear Ky K9;try simp only[nP]
   refine rd1 11 fun K9 Ky=>?_;go_simp;refine(jiE _ _ HC.out).mono ?_;rintro e5 w5 ⟨rfl,rfl⟩;exact⟨rfl,JW.bad (jay Ue.out HC.out) HC.out (Vc.out.trans J4.out)⟩
theorem jgM (a b d:Option Addr) (len cap m c n e p:Nat) (nl:List Nod) (pl:List Pd) (bl:List Bd) (w:World) (hn:jo w a len nl) (hp:jx w b m pl) (hb:j8 w d n bl) (hlow:∀n ∈ nl,zP n) (hs:w.cell? ⟨p,0,none⟩=some (.slice a len cap)∧w.cell? ⟨p,1,none⟩=some (.slice b m c)∧w.cell? ⟨p,2,none⟩=some (.slice d n e)) :
 Calls Tryz.prog 46 #[.pointer (some ⟨p,0,none⟩)] w (JW (zO ⟨nl,pl,bl⟩) (.agg #[.slice a len cap,.slice b m c,.slice d n e]) w):=by
 obtain⟨Z,hZ⟩:=eX (w.alloc (.cells #[.slice none 0 0,.slice none 0 0,.slice none 0 0] 26))
 have hkz:Kept w Z:=by rw[←hZ];exact ja _ _
 obtain⟨HQ,HS,HC,Vc⟩:=lH4 (show ∀W,Kept Z W→jf w.heap.size [.slice none 0 0,.slice none 0 0,.slice none 0 0] W from fun W k=>jc w (.slice none 0 0) [.slice none 0 0,.slice none 0 0] 26 W (by rw[hZ];exact k)) (show Z.cell? ⟨p,0,none⟩=some (.slice a len cap)∧Z.cell? ⟨p,1,none⟩=some (.slice b m c)∧Z.cell? ⟨p,2,none⟩=some (.slice d n e) from⟨cell_later hkz hs.1,cell_later hkz hs.2.1,cell_later hkz hs.2.2⟩) (jev a b d len cap m c n e nl pl bl Z (hn.kept hkz) (hp.kept hkz) (hb.kept hkz) hlow) hkz;obtain⟨c9,hc9⟩:=eX (zO ⟨nl,pl,bl⟩)
 rw[hc9] at HC ⊢;obtain⟨o0,o1,o2⟩:=HS.out;clear hn hp hb hlow hs hkz hc9;go_enter Tryz.func46,Tryz.ntmps46;go_wp2_with fail
 try rw[hZ]
 go_wp2_with fail
 try rw[hZ]
 clear hZ;refine HC.out.mono ?_;rintro e1 w1 ⟨h0,h1,k⟩;have KB:=lH k;by_cases hc:c9=0
 · subst hc;obtain rfl:=h0 rfl;clear h0 h1 k;have y0:=(HQ.out _ KB.out).at_ 0 _ rfl;have y1:=(HQ.out _ KB.out).at_ 1 _ rfl;have y2:=(HQ.out _ KB.out).at_ 2 _ rfl;have f0:=(HQ.out _ KB.out).free 0;have f1:=(HQ.out _ KB.out).free 1;have f2:=(HQ.out _ KB.out).free 2;have PP:=lH (j5 (vs:=[.slice a len cap,.slice b m c,.slice d n e]) (HQ.out _ KB.out) rfl);go_wp2;obtain⟨WE,hWE⟩:=eX (w1.setCells w.heap.size 0 [.slice a len cap,.slice b m c,.slice d n e])
   have hWE2:(((w1.setCell ⟨w.heap.size,0,none⟩ (.slice a len cap)).setCell ⟨w.heap.size,1,none⟩ (.slice b m c)).setCell ⟨w.heap.size,2,none⟩ (.slice d n e))=WE:=hWE;rw[hWE] at PP;try rw[hWE2]
   clear hWE hWE2;obtain⟨PC,hsz,hbl,hkp⟩:=PP.out;refine bodyPost_ret (by simp[results,Tryz.results46,go_sem,PC.at_ 0 _ rfl,PC.at_ 1 _ rfl,PC.at_ 2 _ rfl];try rfl) rfl ?_;exact JW.good rfl rfl (hkp _ _ (Nat.le_refl _) (Vc.out.trans KB.out))
 · obtain rfl:=h1 hc;have HX:=lH hc;clear h0 h1 k hc;go_wp2;exact⟨rfl,JW.bad rfl HX.out (Vc.out.trans KB.out)⟩
theorem jbh (B:Nat) (q:Nat) (x y:Int) (w:World) (hq:w.cell? ⟨q,0,none⟩=some (.int .i64 y)) (hzq:w.frozen? ⟨q,0,none⟩=false) (hBq:B≤q) :
 CallsD Tryz.prog 88 #[.pointer (some ⟨q,0,none⟩)] (.panicking [zx x]) w fun e u' w' =>
  e=.returned (.tuple #[])∧u'=.panicking [{ zx x with recovered:=true }]∧w'=w.setCell ⟨q,0,none⟩ (.int .i64 x)∧w'.cell? ⟨q,0,none⟩=some (.int .i64 x)∧Below B w w':=by
 have hta:∀W,(Instr.typeAssert (.iface 69 (.int .i64 x)) 20 69 false).run Tryz.prog W=.ok (.int .i64 x) W:=fun _=>by kernel_rfl
 refine callsD_of_wpS Tryz.func88 rfl fun c₀ cs hu=>?_;apply wpS_seq;apply wpS_region;simp[wpOpsS,go_sem,recoverD,hu,Tryz.ntmps88,Exit.thenS];apply wpS_seq;apply wpS_region;simp[wpOpsS,go_sem,recoverD,Exit.thenS];refine wpS_cond (t:=true) (by simp[Act.eval,Array.replicate]) ?_;simp only[if_true];refine wpS_of_wp ?_;simp[Array.replicate];go_wp2;simp[bodyPostS,results,Tryz.results88];exact⟨World.cell?_setCell_same' _ _ _ (by rw[hq];rfl),(Below.refl B w).setCell (p:=⟨q,0,none⟩) hBq _⟩
theorem jeK (q:Addr) (w:World) :
 CallsD Tryz.prog 88 #[.pointer (some q)] .returning w fun e u' w'=>e=.returned (.tuple #[])∧u'=.returning∧w'=w:=by
 refine callsD_of_wpS Tryz.func88 rfl fun c₀ cs hu=>?_;apply wpS_seq;apply wpS_region;simp[wpOpsS,go_sem,recoverD,hu,Tryz.ntmps88,Exit.thenS];apply wpS_seq;apply wpS_region;simp[wpOpsS,go_sem,recoverD,hu,Exit.thenS];refine wpS_cond (t:=false) (by simp[Act.eval,Array.replicate]) ?_;simp only[Bool.false_eq_true,if_false];refine wpS_of_wp (wp_skip ?_)
 cases c₀
 simp_all [bodyPostS,results,Tryz.results88]
theorem jf6 (C:Addr) (r:Int) (a b d:Option Addr) (len cap m c n e:Nat) (w:World)
 (hk:∀W,Kept w W→Calls Tryz.prog 46 #[.pointer (some C)] W (JW r (.agg #[.slice a len cap,.slice b m c,.slice d n e]) W)) :
 Calls Tryz.prog 45 #[.func (.func 46) #[] #[.pointer (some C)]] w fun e w'=>∃a b d len cap m c n f,e=.returned (.tuple #[.agg #[.slice a len cap,.slice b m c,.slice d n f],.int .i64 r])∧Kept w w':=by
 have hmf:=hmfL (P:=Tryz.prog);obtain⟨Z,hZ⟩:=eX ((w.alloc (.cells #[.slice none 0 0,.slice none 0 0,.slice none 0 0] 26)).alloc (.cells #[.int .i64 0] 69))
 have hkz:Kept w Z:=by rw[←hZ];exact jn _ _ _
 have hzs:Z.heap.size=w.heap.size+2:=by rw[←hZ];simp
 have HK:=lH hkz;have HZ:=lH (fun W (kk:Kept Z W)=>jc w (.slice none 0 0) [.slice none 0 0,.slice none 0 0] 26 W (by rw[←hZ] at kk;exact(ja _ _).trans kk));have Re:=lH (show ∀W,Kept Z W→W.cell? ⟨w.heap.size+1,0,none⟩=some (.int .i64 0)∧W.frozen? ⟨w.heap.size+1,0,none⟩=false from fun W kk=>by
  have hb:=jc (w.alloc (.cells #[.slice none 0 0,.slice none 0 0,.slice none 0 0] 26)) (.int .i64 0) [] 69 W (by rw[hZ];exact kk);rw[World.size_alloc] at hb;exact⟨hb.at_ 0 _ rfl,hb.free 0⟩)
 have Tp:=lH (hk Z hkz);clear hk hkz;go_enter_defers Tryz.func45,Tryz.ntmps45
 go_wp2_with fail
 try rw[hZ]
 refine Tp.out.mono ?_;rintro e1 w1 ⟨h0,h1,hb⟩;have KK:=lH hb;have QQ:=HZ.out _ hb;obtain⟨z0,z1⟩:=Re.out _ hb;have y0:=QQ.at_ 0 _ rfl;have y1:=QQ.at_ 1 _ rfl;have y2:=QQ.at_ 2 _ rfl;have x0:=QQ.free 0;have x1:=QQ.free 1;have x2:=QQ.free 2;have PP:=lH (j5 (vs:=[.slice a len cap,.slice b m c,.slice d n e]) QQ rfl);clear QQ;have hws:w.heap.size+1<w1.heap.size:=by have:=hb.size;omega
 by_cases hx:r=0
 · subst hx;obtain rfl:=h0 rfl;clear h0 h1 hb hZ;go_wp2_with fail
   obtain⟨WE,hWE⟩:=eX ((((w1.setCell ⟨w.heap.size,0,none⟩ (.slice a len cap)).setCell ⟨w.heap.size,1,none⟩ (.slice b m c)).setCell ⟨w.heap.size,2,none⟩ (.slice d n e)))
   have hWE2:w1.setCells w.heap.size 0 [.slice a len cap,.slice b m c,.slice d n e]=WE:=hWE;rw[hWE2] at PP;rw[hWE];obtain⟨PC,hsz,hbl,hkp⟩:=PP.out;have ez:WE.cell? ⟨w.heap.size+1,0,none⟩=some (.int .i64 0):=(World.cell?_of_block (a:=⟨w.heap.size+1,0,none⟩) (hbl (w.heap.size+1) (by omega))).trans z0;have hb2:∀b,b≠w.heap.size+1→(WE.setCell ⟨w.heap.size+1,0,none⟩ (.int .i64 0)).heap[b]?=WE.heap[b]?:=fun b hb=>Below.heap_setCell WE ⟨w.heap.size+1,0,none⟩ _ b hb;have fe:=World.cell?_setCell_same' WE ⟨w.heap.size+1,0,none⟩ (.int .i64 0) (by rw[ez];rfl);have ff:∀j v,WE.cell? ⟨w.heap.size,j,none⟩=some v→(WE.setCell ⟨w.heap.size+1,0,none⟩ (.int .i64 0)).cell? ⟨w.heap.size,j,none⟩=some v:=fun j v h=>(World.cell?_of_block (a:=⟨w.heap.size,j,none⟩) (hb2 w.heap.size (by omega))).trans h;have f0:=ff 0 _ (PC.at_ 0 _ rfl);have f1:=ff 1 _ (PC.at_ 1 _ rfl);have f2:=ff 2 _ (PC.at_ 2 _ rfl);have KF:=lH (show Kept w (WE.setCell ⟨w.heap.size+1,0,none⟩ (.int .i64 0)) from(hkp _ _ (Nat.le_refl _) (HK.out.trans KK.out)).setCell (p:=⟨w.heap.size+1,0,none⟩) (Nat.le_succ _) _);obtain⟨WF,hWF⟩:=eX (WE.setCell ⟨w.heap.size+1,0,none⟩ (.int .i64 0))
   rw[hWF] at fe f0 f1 f2 KF ⊢;clear hWE hWE2 hWF ff hb2 ez PP hbl hkp PC y0 y1 y2 x0 x1 x2 z0 z1;refine leaves_cons (f:=88) (args:=#[.pointer (some ⟨w.heap.size+1,0,none⟩)]) (by simp) (by simp[go_sem]) ?_;refine(jeK ⟨w.heap.size+1,0,none⟩ _).mono ?_;rintro e u' w'' ⟨rfl,rfl,rfl⟩;simp[Leaves,settle,results,Tryz.results45,go_sem,fe,f0,f1,f2];exact KF.out
 · obtain rfl:=h1 hx;have KW:=lH (HK.out.trans KK.out);clear h0 h1 hb hZ PP;go_wp2_with fail
   refine leaves_cons (f:=88) (args:=#[.pointer (some ⟨w.heap.size+1,0,none⟩)]) (by simp) (by simp[go_sem]) ?_;refine(jbh w.heap.size (w.heap.size+1) r 0 _ z0 z1 (by omega)).mono ?_;rintro e u' w'' ⟨rfl,rfl,rfl,q2,q3⟩;have hb2:(w1.setCell ⟨w.heap.size+1,0,none⟩ (.int .i64 r)).heap[w.heap.size]?=w1.heap[w.heap.size]?:=Below.heap_setCell w1 ⟨w.heap.size+1,0,none⟩ _ w.heap.size (by simp);have ff:∀j v,w1.cell? ⟨w.heap.size,j,none⟩=some v→(w1.setCell ⟨w.heap.size+1,0,none⟩ (.int .i64 r)).cell? ⟨w.heap.size,j,none⟩=some v:=fun j v h=>(World.cell?_of_block (a:=⟨w.heap.size,j,none⟩) hb2).trans h;have f0:=ff 0 _ y0;have f1:=ff 1 _ y1;have f2:=ff 2 _ y2;simp[Leaves,settle,results,Tryz.results45,go_sem,q2,f0,f1,f2];exact Below.trans KW.out q3
theorem jg1 (a b d:Option Addr) (len cap m c n e:Nat) (nl:List Nod) (pl:List Pd) (bl:List Bd) (w:World) (hn:jo w a len nl) (hp:jx w b m pl) (hb:j8 w d n bl) (hlow:∀n ∈ nl,zP n) :
 Calls Tryz.prog 18 #[.agg #[.slice a len cap,.slice b m c,.slice d n e]] w (Say (.int .i64 (zO ⟨nl,pl,bl⟩)) w):=by
 have hmf:=hmfL (P:=Tryz.prog);obtain⟨Z,hZ⟩:=eX (w.alloc (.cells #[.slice a len cap,.slice b m c,.slice d n e] 26))
 have hkz:Kept w Z:=by rw[←hZ];exact ja _ _
 have HC:=lH (jf6 ⟨w.heap.size,0,none⟩ (zO ⟨nl,pl,bl⟩) a b d len cap m c n e Z fun W k=>by
  have cc:=jc w (.slice a len cap) [.slice b m c,.slice d n e] 26 W (by rw[hZ];exact k);exact jgM a b d len cap m c n e w.heap.size nl pl bl W (hn.kept (hkz.trans k)) (hp.kept (hkz.trans k)) (hb.kept (hkz.trans k)) hlow ⟨cc.at_ 0 _ rfl,cc.at_ 1 _ rfl,cc.at_ 2 _ rfl⟩)
 have Vc:=lH hkz;clear hn hp hb hlow hkz;obtain⟨c9,hc9⟩:=eX (zO ⟨nl,pl,bl⟩)
 rw[hc9] at HC ⊢;clear hc9;go_enter Tryz.func18,Tryz.ntmps18;go_wp2_with fail
 try rw[hZ]
 clear hZ;refine HC.out.mono ?_;rintro e1 w1 ⟨a',b',d',len',cap',m',c',n',f',rfl,k⟩;have KB:=lH (Vc.out.trans k);clear k;go_wp2;go_ret;exact⟨rfl,KB.out.trans (ja _ _)⟩
theorem jlb {v:Value} {s:Clu} {c:Int} {w:World} (h:jC w v s) (hl:∀n ∈ s.nodes,zP n) (hc:zO s=c):Calls Tryz.prog 18 #[v] w (Say (.int .i64 c) w):=by
 subst hc;obtain⟨v1,v2,v3,rfl,⟨a,cap,rfl,_,_,hn⟩,⟨b,cp,rfl,_,_,hp⟩,⟨d,cb,rfl,_,_,hb⟩⟩:=h;exact jg1 a b d _ cap _ cp _ cb s.nodes s.pods s.buds w hn hp hb hl
end Go.Proofs.YtibepooajeakfaaGreat
