/- The law. -/
import Derived.Test.YtibepooajeakfaaGreatG15
import Derived.Test.YtibepooajeakfaaGreatG21
import Derived.Test.YtibepooajeakfaaGreatG22
set_option linter.unusedVariables false
set_option maxRecDepth 100000
set_option maxHeartbeats 25600000
namespace Go.Proofs.YtibepooajeakfaaGreat
open Go.RowKit
theorem jnp {s:Clu} (h:zK s=0):s.pods.length≤128:=by
 have:=(jb2 h).pods;unfold jD at this;split at this
 · cases this
 · omega
theorem Z8 {w:World} {a1 a2 a3:Option Addr} {t1 c1 t2 c2 t3 c3:Nat} {s:Clu} (h:jC w (Jk (.slice a1 t1 c1) (.slice a2 t2 c2) (.slice a3 t3 c3)) s):t2=s.pods.length∧jy w a2 t2 s.pods:=by
 obtain⟨v1,v2,v3,e,-,⟨b,cp,rfl,-,-,h2⟩,-⟩:=h;have e1:=congrArg (fun v=>match v with | .agg #[_,.slice a n c,_]=>(a,n,c) | _=>(none,0,0)) e;have e2:(a2,t2,c2)=(b,s.pods.length,cp):=e1;injection e2 with e3 e4;injection e4 with e5 e6;subst e3;subst e5;exact⟨rfl,h2⟩
def joE (q:Nat) (s:Clu) (bs:List (ByteArray×ByteArray)) (k:Nat) (Y wr:World):Prop:=∃a1 t1 c1 a2 t2 c2 a3 t3 c3,jf q [.slice a1 t1 c1,.slice a2 t2 c2,.slice a3 t3 c3] wr∧(Off (fun b=>b=q) wr fun u=>jC u (.agg #[.slice a1 t1 c1,.slice a2 t2 c2,.slice a3 t3 c3]) (goS (bs.take k) s))∧Kept Y wr
theorem SchedSound_walk (v:Value) (s:Clu) (pk:Bool) (w:World) (h:jC w v s):Calls Tryz.prog 4 #[v,.bool pk] w fun e w'=>e=.returned (.bool true)∧Kept w w':=by
 obtain⟨sa1,sl1,sc1,sa2,sl2,sc2,sa3,sl3,sc3,rfl⟩:=jaa h;obtain⟨Z,hZ⟩:=eX (w.alloc (.cells #[.slice sa1 sl1 sc1,.slice sa2 sl2 sc2,.slice sa3 sl3 sc3] 26))
 have hkz:Kept w Z:=by rw[←hZ];exact ja _ _
 obtain⟨VZ,HS,K⟩:=lH3 (jc w (.slice sa1 sl1 sc1) [.slice sa2 sl2 sc2,.slice sa3 sl3 sc3] 26 Z (by rw[hZ];exact Kept.refl _)) (h.kept hkz) hkz;clear h hkz;obtain⟨qs,hqs⟩:=eX (w.heap.size)
 rw[hqs] at VZ;go_enter Tryz.func4,Tryz.ntmps4;go_wp2_with fail
 try rw[hZ]
 try rw[hqs]
 clear hZ hqs;refine(jgx Z).mono ?_;rintro e w1 ⟨rfl,kk⟩;obtain⟨VZ,HS,K⟩:=lH3 (VZ.out.kept kk) (HS.out.kept kk) (K.out.trans kk);clear kk;obtain⟨e1,he1⟩:=eX (ZU s)
 have UE:=lH he1;obtain⟨y0,y1,y2⟩:=VZ.out.at3;go_wp2_with fail
 refine(jmC HS.out he1).mono ?_;rintro e w2 ⟨rfl,kk⟩;obtain⟨VZ,HS,K⟩:=lH3 (VZ.out.kept kk) (HS.out.kept kk) (K.out.trans kk);clear kk he1 y0 y1 y2
 cases e1 with
 | false =>
  go_wp2;go_ret;exact⟨rfl,K.out⟩
 | true =>
  have HW:=lH (show Jf s from⟨XH UE.out,jgt UE.out HS.out,(jgh (jmq UE.out)).1,jnp (XH UE.out)⟩);have hpb:s.pods.length+1≤100000:=by have:=HW.out.few;omega
  have Vz:=lH hpb;obtain⟨y0,y1,y2⟩:=VZ.out.at3;have HA:=lH (jhY sa1 sa2 sa3 sl1 sc1 sl2 sc2 sl3 sc3 pk s w2 HS.out HW.out);go_wp2_with fail
  refine HA.out.mono ?_;rintro e w3 ⟨vt,vm,rfl,hct,hm,kk⟩;obtain⟨ta1,tl1,tc1,ta2,tl2,tc2,ta3,tl3,tc3,rfl⟩:=jaa hct;obtain⟨VZ,HS,K⟩:=lH3 (VZ.out.kept kk) (HS.out.kept kk) (K.out.trans kk);obtain⟨bs,hbs⟩:=eX (JG s pk)
  have Vu:=lH hbs;rw[hbs] at hct hm;obtain⟨ma,mc,rfl,-,-,hmr⟩:=hm;have T5:=lH (show bs.length≤(zD s.pods).length by rw[←hbs];exact jam _ _ _);obtain⟨bn,hbn⟩:=eX (bs.length)
  rw[hbn] at hmr T5;try rw[hbn]
  have Uk:=lH hbn;have hb9:bn≤128:=Nat.le_trans T5.out (Nat.le_trans (qJ _) HW.out.few);obtain⟨T,hT⟩:=eX (goS bs s)
  rw[hT] at hct;obtain⟨TS,VX,HT⟩:=lH3 hT hmr hct;obtain rfl:tl2=sl2:=by rw[(Z8 hct).1,(Z8 HS.out).1,←hT];exact jmM _ _
  have hs9:tl2≤128:=by rw[(Z8 HS.out).1];exact HW.out.few
  clear kk hct hmr HA y0 y1 y2 hbs hbn hT;obtain⟨gt,hgt⟩:=eX (w3.heap.size)
  obtain⟨w4,hw4⟩:=eX (w3.alloc (.cells #[.slice ta1 tl1 tc1,.slice ta2 tl2 tc2,.slice ta3 tl3 tc3] 26))
  have kk:Kept w3 w4:=by rw[←hw4];exact ja _ _
  have VU:=lH (show jf gt [.slice ta1 tl1 tc1,.slice ta2 tl2 tc2,.slice ta3 tl3 tc3] w4 by
   have c:=jc w3 (.slice ta1 tl1 tc1) [.slice ta2 tl2 tc2,.slice ta3 tl3 tc3] 26 w4 (by rw[hw4];exact Kept.refl _);rw[hgt] at c;exact c)
  obtain⟨VZ,HS,VX,HT,K⟩:=lH5 (VZ.out.kept kk) (HS.out.kept kk) (VX.out.kept kk) (HT.out.kept kk) (K.out.trans kk);clear kk;obtain⟨y0,y1,y2⟩:=VZ.out.at3;go_upto_region 6 with fail
  try rw[hw4]
  try rw[hgt]
  clear hw4 hgt;obtain⟨uq,huq⟩:=eX (w4.heap.size)
  obtain⟨w5,hw5⟩:=eX (w4.alloc (.cells #[.slice sa1 sl1 sc1,.slice sa2 tl2 sc2,.slice sa3 sl3 sc3] 26))
  have K5:=lH (show Kept w4 w5 by rw[←hw5];exact ja _ _);have Nh:=lH (show jf uq [.slice sa1 sl1 sc1,.slice sa2 tl2 sc2,.slice sa3 sl3 sc3] w5 by
   have c:=jc w4 (.slice sa1 sl1 sc1) [.slice sa2 tl2 sc2,.slice sa3 sl3 sc3] 26 w5 (by rw[hw5];exact Kept.refl _);rw[huq] at c;exact c)
  have Ni:=lH huq;go_upto_region 7 with fail
  try rw[hw5]
  try rw[huq]
  clear hw5 huq y0 y1 y2;go_wp2_with fail
  go_loopw [8] (fun iv wr=>∃k:Nat,k≤bn∧iv=.int .i64 k∧joE uq s bs k w4 wr) (fun iv _=>bn-(intOf iv).toNat)
  case atStart=>exact⟨0,Nat.zero_le _,rfl,sa1,sl1,sc1,sa2,tl2,sc2,sa3,sl3,sc3,Nh.out,Off.of (a:=w4) (fun u k=>HS.out.kept k) K5.out (fun i e=>by subst e;exact Nat.le_of_eq Ni.out),K5.out⟩
  case round =>
   obtain⟨k,hk,rfl,hinv⟩:=hrel;obtain⟨a1,t1,c1,a2,t2,c2,a3,t3,c3,hm,hc,hkw⟩:=hinv;obtain⟨HM,HC,Vm⟩:=lH3 hm hc hkw;clear hm hc hkw Nh K5;by_cases hlt:k<bn
   · skip;obtain⟨g,off,rfl⟩:=VX.out.form.resolve_left (by omega);obtain⟨x,t,hbk,-,-,-,hts,d0,d1⟩:=VX.out.pair hlt;obtain⟨T6,TE,U5,RH,Ti⟩:=lH5 hbk hts (show Jf (goS (bs.take k) s) by rw[←Vu.out];exact XT HW.out pk (by rw[Vu.out,Uk.out];exact hk)) (show Jf (goS (bs.take (k+1)) s) by rw[←Vu.out];exact XT HW.out pk (by rw[Vu.out,Uk.out];exact hlt)) (jck (s:=s) hbk);obtain⟨sk,hsk⟩:=eX (goS (bs.take k) s)
     rw[hsk] at U5 HC Ti;obtain⟨sn,hsn⟩:=eX (goS (bs.take (k+1)) s)
     rw[hsn] at RH Ti;have NW:=lH hsn;have Ti:=lH (show zZ sk x t=sn from Ti.out.symm);have hkk:(k:Int)<(bn:Int):=by omega
     have hk0:¬(k:Int)<0:=by omega
     have HF:=lH (show ∀W,Kept w4 W→W.cell? ⟨g,off+k*2,none⟩=some (.string x)∧W.cell? ⟨g,off+k*2+1,none⟩=some (.string t) from fun W q=>⟨cell_later q d0,cell_later q d1⟩);clear hbk hts d0 d1 hsk hsn;go_upto_region 10 with fail
     have J:=lH (Kept.drew wr);refine wp_region_held_drew (S:=fun W=>W.cell? ⟨g,off+k*2,none⟩=some (.string x)∧W.cell? ⟨g,off+k*2+1,none⟩=some (.string t)) (by kernel_rfl) (HF.out _ (Vm.out.trans J.out)) (fun hHeld=>?_);obtain⟨wd,hwd⟩:=eX (wr.drew)
     rw[hwd] at J hHeld;try rw[hwd]
     obtain⟨HM,HC,Vm⟩:=lH3 (HM.out.kept J.out) (HC.out.step (jg.of J.out)) (Vm.out.trans J.out);clear hwd J;refine tkI 1 ?_;refine tkI 2 ?_;refine tkI 3 ?_;refine tkI 4 ?_;refine tkI 5 ?_;refine tkI 6 ?_;refine tkI 7 ?_;refine tkI 8 ?_;refine tkI 9 ?_;refine tkI 10 ?_;try simp only[nP]
     obtain⟨y0,y1,y2⟩:=HM.out.at3;refine rd1 0 fun K9 Ky=>?_;go_simp;refine Ky.out _ _ (HF.out _ Vm.out) (fun _=>?_);clear Ky K9;try simp only[nP]
     clear y0 y1 y2;refine rd1 11 fun K9 Ky=>?_;go_simp;refine(jhL HC.out.here x t TE.out U5.out.low).mono ?_;rintro e w6 ⟨u1,v1,x1,u2,v2,x2,u3,v3,x3,rfl,hoc,kk⟩;rw[Ti.out] at hoc;obtain⟨T7,Uh,HM,Vm⟩:=lH4 hoc (show uq<wd.heap.size from HM.out.lt) (HM.out.kept kk) (Vm.out.trans kk);clear kk hoc HC;refine Ky.out _ _ (HF.out _ Vm.out) (fun _=>?_);clear Ky K9;try simp only[nP]
     have z0:=HM.out.at_ 0 _ rfl;have z1:=HM.out.at_ 1 _ rfl;have z2:=HM.out.at_ 2 _ rfl;have f0:=HM.out.free 0;have f1:=HM.out.free 1;have f2:=HM.out.free 2;have P:=lH (j6 (vs:=[.slice u1 v1 x1,.slice u2 v2 x2,.slice u3 v3 x3]) HM.out rfl);have GE:=lH (jg.cells (S:=fun b=>b=uq) uq rfl [.slice u1 v1 x1,.slice u2 v2 x2,.slice u3 v3 x3] 0 w6);refine rd1 12 fun K9 Ky=>?_;go_simp;obtain⟨WE,hWE⟩:=eX (w6.setCells uq 0 [.slice u1 v1 x1,.slice u2 v2 x2,.slice u3 v3 x3])
     have hWE2:(((w6.setCell ⟨uq,0,none⟩ (.slice u1 v1 x1)).setCell ⟨uq,1,none⟩ (.slice u2 v2 x2)).setCell ⟨uq,2,none⟩ (.slice u3 v3 x3))=WE:=hWE;rw[hWE] at P GE;try rw[hWE2]
     have T9:=lH (show Kept w4 WE by rw[←hWE];exact jt uq _ _ _ _ _ (Nat.le_of_eq Ni.out) Vm.out);have Tx:=lH (T7.out.step (GE.out.mono fun b e=>by subst e;exact Uh.out));clear hWE hWE2 z0 z1 z2 f0 f1 f2 HM T7 GE Vm;refine Ky.out _ _ (HF.out _ T9.out) (fun _=>?_);clear Ky K9;try simp only[nP]
     refine wpAnyH_done (by kernel_rfl) ?_ _;clear HF;obtain⟨y0,y1,y2⟩:=P.out.cells.at3;go_wp2_with fail
     refine(jlE (Tx.out.toR) RH.out.low.nodes RH.out.chk).mono ?_;rintro e w7 ⟨rfl,kk⟩;obtain⟨NY,Tx,T9⟩:=lH3 (P.out.cells.kept kk) (Tx.out.step (jg.of kk)) (T9.out.trans kk);clear kk y0 y1 y2 P;go_wp2;go_roundw
     case rel=>exact⟨k+1,by omega,by go_num,_,_,_,_,_,_,_,_,_,NY.out,(by rw[NW.out];exact fun u g9=>(Tx.out.step (g9.mono fun b e=>by subst e;exact Uh.out)).toR),T9.out⟩
     case measure=>simp[intOf];omega
   · skip;have hkk:¬(k:Int)<(bn:Int):=by omega
     obtain⟨HC,UL,NZ,N4,VH,VZ,HS,VX⟩:=lH8 (show jC wr (.agg #[.slice a1 t1 c1,.slice a2 t2 c2,.slice a3 t3 c3]) T by have h:=HC.out.here;rw[List.take_of_length_le (by have:=Uk.out;omega),TS.out] at h;exact h) (show Jf T by rw[←TS.out,←Vu.out];exact jkN HW.out pk) (show nextS T pk=none by rw[←TS.out,←Vu.out];exact jlc HW.out pk) (show (zD T.pods).length+bn=(zD s.pods).length by rw[←TS.out,←Uk.out,←Vu.out];exact jk8 HW.out pk) (show ∀(j:Nat) (q:Pd),s.pods[j]?=some q→∃q':Pd,T.pods[j]?=some q'∧q'.name=q.name∧(zo q.node=false→q'.node=q.node) from fun j q h=>by have h1:=jkM HW.out pk h (Nat.le_refl _);rw[jdD,Vu.out,TS.out] at h1;exact h1) (VZ.out.kept Vm.out) (HS.out.kept Vm.out) (VX.out.kept Vm.out);obtain⟨HT,VU,K⟩:=lH3 (HT.out.kept Vm.out) (VU.out.kept Vm.out) (K.out.trans Vm.out);clear Vm;obtain⟨pn,hpn⟩:=eX ((zD s.pods).length)
     obtain⟨mn,hmn⟩:=eX ((zD T.pods).length)
     have UH:=lH hpn;have N6:=lH hmn;have hmb:mn+bn=pn:=by rw[←hmn,←hpn];exact N4.out
     have hpb9:pn≤128:=by rw[←hpn];exact Nat.le_trans (qJ _) HW.out.few
     have hsub:IntKind.i64.wrap ((pn:Int)-(bn:Int))=(mn:Int):=by rw[IntWalk.i64_in _ (by omega)];omega
     clear hpn hmn;obtain rfl:t2=tl2:=by rw[(Z8 HC.out).1,(Z8 HT.out).1]
     have HF:=lH (show ∀W,Kept wr W→W.cell? ⟨gt,0,none⟩=some (.slice ta1 tl1 tc1)∧W.cell? ⟨gt,1,none⟩=some (.slice ta2 t2 tc2)∧W.cell? ⟨gt,2,none⟩=some (.slice ta3 tl3 tc3)∧W.cell? ⟨uq,0,none⟩=some (.slice a1 t1 c1)∧W.cell? ⟨uq,1,none⟩=some (.slice a2 t2 c2)∧W.cell? ⟨uq,2,none⟩=some (.slice a3 t3 c3)∧W.cell? ⟨qs,0,none⟩=some (.slice sa1 sl1 sc1)∧W.cell? ⟨qs,1,none⟩=some (.slice sa2 t2 sc2)∧W.cell? ⟨qs,2,none⟩=some (.slice sa3 sl3 sc3) from fun W q=>by
      have h1:=VU.out.kept q;have h2:=HM.out.kept q;have h3:=VZ.out.kept q;exact⟨h1.at_ 0 _ rfl,h1.at_ 1 _ rfl,h1.at_ 2 _ rfl,h2.at_ 0 _ rfl,h2.at_ 1 _ rfl,h2.at_ 2 _ rfl,h3.at_ 0 _ rfl,h3.at_ 1 _ rfl,h3.at_ 2 _ rfl⟩)
     go_upto_region 13 with fail
     have J:=lH (Kept.drew wr);refine wp_region_held_drew (S:=fun W=>W.cell? ⟨gt,0,none⟩=some (.slice ta1 tl1 tc1)∧W.cell? ⟨gt,1,none⟩=some (.slice ta2 t2 tc2)∧W.cell? ⟨gt,2,none⟩=some (.slice ta3 tl3 tc3)∧W.cell? ⟨uq,0,none⟩=some (.slice a1 t1 c1)∧W.cell? ⟨uq,1,none⟩=some (.slice a2 t2 c2)∧W.cell? ⟨uq,2,none⟩=some (.slice a3 t3 c3)∧W.cell? ⟨qs,0,none⟩=some (.slice sa1 sl1 sc1)∧W.cell? ⟨qs,1,none⟩=some (.slice sa2 t2 sc2)∧W.cell? ⟨qs,2,none⟩=some (.slice sa3 sl3 sc3)) (by kernel_rfl) (HF.out _ J.out) (fun hHeld=>?_);obtain⟨wd,hwd⟩:=eX (wr.drew)
     rw[hwd] at J hHeld;try rw[hwd]
     clear hwd;refine tkI 0 ?_;refine tkI 1 ?_;try simp only[nP]
     refine rd1 2 fun K9 Ky=>?_;go_simp;refine(jmN (HT.out.kept J.out) (HC.out.kept J.out) (jgH T)).mono ?_;rintro e w8 ⟨rfl,kk⟩;have J:=lH (J.out.trans kk);clear kk;refine Ky.out _ _ (HF.out _ J.out) (fun _=>?_);clear Ky K9;try simp only[nP]
     refine tkI 3 ?_;refine tkI 4 ?_;refine tkI 5 ?_;refine tkI 6 ?_;refine tkI 7 ?_;refine tkI 8 ?_;refine tkI 9 ?_;refine tkI 10 ?_;refine tkI 11 ?_;refine tkI 12 ?_;refine tkI 13 ?_;refine tkI 14 ?_;refine tkI 17 ?_;refine tkI 20 ?_;refine tkI 21 ?_;try simp only[nP]
     refine rd1 15 fun K9 Ky=>?_;go_simp;refine(jap (HT.out.kept J.out) UL.out.low UL.out.asc).mono ?_;rintro e w9 ⟨_,rfl,⟨pa,pc,rfl,-,-,-⟩,kk⟩;rw[N6.out];have J:=lH (J.out.trans kk);clear kk;refine Ky.out _ _ (HF.out _ J.out) (fun _=>?_);clear Ky K9;try simp only[nP]
     refine tkI 16 ?_;try simp only[nP]
     refine rd1 18 fun K9 Ky=>?_;go_simp;refine(jap (HS.out.kept J.out) HW.out.low HW.out.asc).mono ?_;rintro e w10 ⟨_,rfl,⟨pb,pd,rfl,-,-,-⟩,kk⟩;rw[UH.out];have J:=lH (J.out.trans kk);clear kk;refine Ky.out _ _ (HF.out _ J.out) (fun _=>?_);clear Ky K9;try simp only[nP]
     refine tkI 19 ?_;refine tkI 22 ?_;refine tkI 23 ?_;refine tkI 24 ?_;try simp only[nP]
     refine wpAnyH_done (by kernel_rfl) ?_ _;obtain⟨VZ,HS,VX,HT,VU,K⟩:=lH6 (VZ.out.kept J.out) (HS.out.kept J.out) (VX.out.kept J.out) (HT.out.kept J.out) (VU.out.kept J.out) (K.out.trans J.out);clear J HF HM HC hsub VX;have hp1:=(Z8 HS.out).2;have hp2:=(Z8 HT.out).2;have Nj:=lH hp1;have VN:=lH hp2;clear hp1 hp2;go_wp2_with fail
     go_loopw [9] (fun iv wr=>∃k:Nat,k≤t2∧iv=.int .i64 k∧Kept w10 wr) (fun iv _=>t2-(intOf iv).toNat)
     case atStart=>exact⟨0,Nat.zero_le _,rfl,Kept.refl _⟩
     case round =>
      obtain⟨k,hk,rfl,hkw⟩:=hrel;have Vm:=lH hkw;clear hkw;have Uf:=lH (VZ.out.kept Vm.out);have Um:=lH (VU.out.kept Vm.out);have y1:=Uf.out.at_ 1 _ rfl;by_cases hlt:k<t2
      · skip;obtain⟨g1,off1,rfl⟩:=Nj.out.form.resolve_left (by omega);obtain⟨g2,off2,rfl⟩:=VN.out.form.resolve_left (by omega);obtain⟨p,-,-,-,-,-,-,-,-,-,-,-,-,hnp,-,-,p0,-,-,-,-,-,-,-,-,p9,-,-⟩:=(Nj.out.kept Vm.out).at_ hlt;obtain⟨q,-,-,-,-,-,-,-,-,-,-,-,-,hnq,-,-,q0,-,-,-,-,-,-,-,-,q9,-,-⟩:=(VN.out.kept Vm.out).at_ hlt;obtain⟨q9,h1,h2,h3⟩:=VH.out k p hnp;rw[hnq] at h1;obtain rfl:=Option.some.inj h1;rw[h2] at q0;have hkk:(k:Int)<(t2:Int):=by omega
        have hk0:¬(k:Int)<0:=by omega
        have hxx:(p.name.toList==p.name.toList)=true:=by simp
        clear h1 hnp hnq h2;have s1:=Um.out.at_ 1 _ rfl;go_upto_region 18 with fail
        go_cut [113] from 77 to 113 (fun t wy=>t=.bool false∧Kept wr wy)
        case first =>
         cases hno:zo p.node with
         | true =>
          have hne:p.node.toList.isEmpty=true:=noE hno;clear h3;go_wp2;go_quiet (fail)
          go_wp2;go_meet
          case rel=>exact⟨rfl,Kept.drewN _ _⟩
         | false =>
          have hne:p.node.toList.isEmpty=false:=noF hno;have hyy:(p.node.toList==p.node.toList)=true:=by simp
          rw[h3 hno] at q9;clear h3;go_wp2;go_quiet (fail)
          go_wp2;go_meet
          case rel=>exact⟨rfl,Kept.drewN _ _⟩
        case rest =>
         obtain⟨rfl,hky⟩:=hcut;have Vm:=lH (Vm.out.trans hky);clear hky p0 p9 q0 q9 y1 s1 h3;go_wp2;go_roundw
         case rel=>exact⟨k+1,by omega,by go_num,Vm.out⟩
         case measure=>simp[intOf];omega
      · skip;have hkk:¬(k:Int)<(t2:Int):=by omega
        have hpbT:T.pods.length+1≤100000:=by have:=UL.out.few;omega
        have HN:=lH (jcp ta1 ta2 ta3 tl1 tc1 t2 tc2 tl3 tc3 pk T wr (HT.out.kept Vm.out) UL.out.low UL.out.asc hpbT);unfold jcb at HN;rw[NZ.out] at HN;have HN:=lH (show Calls Tryz.prog 12 #[.agg #[.slice ta1 tl1 tc1,.slice ta2 t2 tc2,.slice ta3 tl3 tc3],.bool pk] wr (fun e w'=>e=.returned (.tuple #[.agg #[.string ⟨#[]⟩,.string ⟨#[]⟩],.bool false])∧Kept wr w') from HN.out);obtain⟨z0,z1,z2⟩:=Um.out.at3;go_wp2_with fail
        refine HN.out.mono ?_;rintro e wz ⟨rfl,kk⟩;have KF:=lH (K.out.trans (Vm.out.trans (kk.trans (ja wz (.cells #[.string ⟨#[]⟩,.string ⟨#[]⟩] 54)))));clear kk HN z0 z1 z2 y1;go_wp2_with fail
        go_ret;exact⟨rfl,KF.out⟩
end Go.Proofs.YtibepooajeakfaaGreat
