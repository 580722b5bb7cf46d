/- The contracts of the functions that the law calls,and the law,walked. -/
import Derived.Test.YtgfoenfaohhjcabGreatG10
import Derived.Test.YtgfoenfaohhjcabGreatG12
set_option linter.unusedVariables false
set_option maxRecDepth 100000
set_option maxHeartbeats 25600000
namespace Go.Proofs.YtgfoenfaohhjcabGreat
open Go.RowKit
theorem jgf {w:World} {v:Value} {l:Vec.V} (h:Vec.Reads w v l):Vec.zN l:=by
 obtain⟨a9,c9,-,-,-,g⟩:=h;exact g.2.2.1
theorem jga {w:World} {v1 v2 v3 v4:Value} {p:Pd} (h:jC w v1 v2 v3 v4 p) (hc:j8 p=0):zo p.need:=by
 refine jaM (Xb (l:=Ya p) hc _ ?_) (jgf h.need);unfold Ya;simp
theorem FitSound_walk (v:Value) (s:Clu) (u:Value) (p:Pd) (w:World) (h:jU w v s) (g:Z7 w u p):Calls Tryz.prog 3 #[v,u] w fun e w'=>e=.returned (.bool true)∧Kept w w':=by
 have hs0:=h;obtain⟨_,_,_,rfl,⟨sa1,sc1,rfl,-,-,-⟩,⟨sa2,sc2,rfl,-,-,-⟩,⟨sa3,sc3,rfl,-,-,-⟩⟩:=hs0;obtain⟨sl1,hsl1⟩:∃q,s.nodes.length=q:=⟨_,rfl⟩
 rw[hsl1] at h;try rw[hsl1]
 obtain⟨sl2,hsl2⟩:∃q,s.pods.length=q:=⟨_,rfl⟩
 rw[hsl2] at h;try rw[hsl2]
 obtain⟨sl3,hsl3⟩:∃q,s.buds.length=q:=⟨_,rfl⟩
 rw[hsl3] at h;try rw[hsl3]
 have HL1:=lH hsl1;have HL2:=lH hsl2;clear hsl1 hsl2 hsl3;obtain⟨_,_,_,_,rfl,hat⟩:=g;have g1:=hat.need;obtain⟨a1,c1,rfl,-,-,-⟩:=g1;obtain⟨m1,hm1⟩:∃q,p.need.length=q:=⟨_,rfl⟩
 rw[hm1] at hat;try rw[hm1]
 clear hm1;have g2:=hat.labels;obtain⟨a2,c2,rfl,-,-,-⟩:=g2;obtain⟨m2,hm2⟩:∃q,p.labels.length=q:=⟨_,rfl⟩
 rw[hm2] at hat;try rw[hm2]
 clear hm2;have g3:=hat.sel;obtain⟨a3,c3,rfl,-,-,-⟩:=g3;obtain⟨m3,hm3⟩:∃q,p.sel.length=q:=⟨_,rfl⟩
 rw[hm3] at hat;try rw[hm3]
 clear hm3;have g4:=hat.tols;obtain⟨a4,c4,rfl,-,-,-⟩:=g4;obtain⟨m4,hm4⟩:∃q,p.tols.length=q:=⟨_,rfl⟩
 rw[hm4] at hat;try rw[hm4]
 clear hm4;obtain⟨Z,hZ⟩:∃Z,(w.alloc (.cells #[.slice sa1 sl1 sc1,.slice sa2 sl2 sc2,.slice sa3 sl3 sc3] 26)).alloc (.cells #[.string p.name,.string p.owner,.int .i64 p.prio,.slice a1 m1 c1,.slice a2 m2 c2,.slice a3 m3 c3,.slice a4 m4 c4,.string p.key,.int .i64 p.most,.string p.node,.bool p.hold] 35)=Z:=⟨_,rfl⟩
 have hkz:Kept w Z:=by rw[←hZ];exact jr _ _ _
 have HQS:=lH (jc w (.slice sa1 sl1 sc1) [.slice sa2 sl2 sc2,.slice sa3 sl3 sc3] 26 Z (by rw[←hZ];exact ja _ _));have HQP:=lH (show jd (w.heap.size+1) [.string p.name,.string p.owner,.int .i64 p.prio,.slice a1 m1 c1,.slice a2 m2 c2,.slice a3 m3 c3,.slice a4 m4 c4,.string p.key,.int .i64 p.most,.string p.node,.bool p.hold] Z by
  have dd:=jc (w.alloc (.cells #[.slice sa1 sl1 sc1,.slice sa2 sl2 sc2,.slice sa3 sl3 sc3] 26)) (.string p.name) [.string p.owner,.int .i64 p.prio,.slice a1 m1 c1,.slice a2 m2 c2,.slice a3 m3 c3,.slice a4 m4 c4,.string p.key,.int .i64 p.most,.string p.node,.bool p.hold] 35 Z (by rw[hZ];exact Kept.refl _);rw[World.size_alloc] at dd;exact dd)
 have HS:=lH (h.kept hkz);have HP:=lH (hat.kept hkz);have HS0:=lH h;have HP0:=lH hat;have HKZ:=lH hkz;have HZS:=lH (show Z.heap.size=w.heap.size+2 by rw[←hZ];simp);clear h hat hkz ;have K:=lH (Kept.refl Z);unfold jE;go_enter Tryz.func3,Tryz.ntmps3;go_wp2_with fail
 try rw[hZ]
 clear hZ;refine(jcW Z).mono ?_;rintro e w1 ⟨rfl,kk⟩;have HQS:=lH (HQS.out.kept kk);have HQP:=lH (HQP.out.kept kk);have HS:=lH (HS.out.kept kk);have HP:=lH (HP.out.kept kk);have K:=lH (K.out.trans kk);clear kk;obtain⟨e1,he1⟩:∃e,ZA s=e:=⟨_,rfl⟩
 have HE1:=lH he1;have sq0:=HQS.out.at_ 0 _ rfl;have sq1:=HQS.out.at_ 1 _ rfl;have sq2:=HQS.out.at_ 2 _ rfl;have pq0:=HQP.out.at_ 0 _ rfl;have pq1:=HQP.out.at_ 1 _ rfl;have pq2:=HQP.out.at_ 2 _ rfl;have pq3:=HQP.out.at_ 3 _ rfl;have pq4:=HQP.out.at_ 4 _ rfl;have pq5:=HQP.out.at_ 5 _ rfl;have pq6:=HQP.out.at_ 6 _ rfl;have pq7:=HQP.out.at_ 7 _ rfl;have pq8:=HQP.out.at_ 8 _ rfl;have pq9:=HQP.out.at_ 9 _ rfl;have pq10:=HQP.out.at_ 10 _ rfl;go_wp2_with fail
 refine(jhs HS.out he1).mono ?_;rintro e w2 ⟨rfl,kk⟩;have HQS:=lH (HQS.out.kept kk);have HQP:=lH (HQP.out.kept kk);have HS:=lH (HS.out.kept kk);have HP:=lH (HP.out.kept kk);have K:=lH (K.out.trans kk);clear kk he1;clear sq0 sq1 sq2 pq0 pq1 pq2 pq3 pq4 pq5 pq6 pq7 pq8 pq9 pq10;have sq0:=HQS.out.at_ 0 _ rfl;have sq1:=HQS.out.at_ 1 _ rfl;have sq2:=HQS.out.at_ 2 _ rfl;have pq0:=HQP.out.at_ 0 _ rfl;have pq1:=HQP.out.at_ 1 _ rfl;have pq2:=HQP.out.at_ 2 _ rfl;have pq3:=HQP.out.at_ 3 _ rfl;have pq4:=HQP.out.at_ 4 _ rfl;have pq5:=HQP.out.at_ 5 _ rfl;have pq6:=HQP.out.at_ 6 _ rfl;have pq7:=HQP.out.at_ 7 _ rfl;have pq8:=HQP.out.at_ 8 _ rfl;have pq9:=HQP.out.at_ 9 _ rfl;have pq10:=HQP.out.at_ 10 _ rfl
 cases e1 with
 | false =>
  go_wp2;go_ret;exact⟨rfl,HKZ.out.trans K.out⟩
 | true =>
  have HL:=lH (qL (jbU HE1.out)).1;have HB34:=lH (qL (jbU HE1.out)).2;have HSO:=lH (jgb HE1.out HS.out);have hb1:sl1≤100:=by have:=HB34.out.1;have:=HL1.out;omega
  have hb2:sl2≤1000:=by have:=HB34.out.2.1;have:=HL2.out;omega
  obtain⟨e2,he2⟩:∃e,zR p=e:=⟨_,rfl⟩
  have HE2:=lH he2;have HPR:=lH (show Z7 w2 (.agg #[.string p.name,.string p.owner,.int .i64 p.prio,.slice a1 m1 c1,.slice a2 m2 c2,.slice a3 m3 c3,.slice a4 m4 c4,.string p.key,.int .i64 p.most,.string p.node,.bool p.hold]) p from⟨_,_,_,_,rfl,HP.out⟩);go_wp2_with fail
  refine(jfC HPR.out he2).mono ?_;rintro e w3 ⟨rfl,kk⟩;have HQS:=lH (HQS.out.kept kk);have HQP:=lH (HQP.out.kept kk);have HS:=lH (HS.out.kept kk);have HP:=lH (HP.out.kept kk);have K:=lH (K.out.trans kk);have HPR:=lH (HPR.out.kept kk);clear kk he2;clear sq0 sq1 sq2 pq0 pq1 pq2 pq3 pq4 pq5 pq6 pq7 pq8 pq9 pq10;have sq0:=HQS.out.at_ 0 _ rfl;have sq1:=HQS.out.at_ 1 _ rfl;have sq2:=HQS.out.at_ 2 _ rfl;have pq0:=HQP.out.at_ 0 _ rfl;have pq1:=HQP.out.at_ 1 _ rfl;have pq2:=HQP.out.at_ 2 _ rfl;have pq3:=HQP.out.at_ 3 _ rfl;have pq4:=HQP.out.at_ 4 _ rfl;have pq5:=HQP.out.at_ 5 _ rfl;have pq6:=HQP.out.at_ 6 _ rfl;have pq7:=HQP.out.at_ 7 _ rfl;have pq8:=HQP.out.at_ 8 _ rfl;have pq9:=HQP.out.at_ 9 _ rfl;have pq10:=HQP.out.at_ 10 _ rfl
  cases e2 with
  | false =>
   go_wp2;go_ret;exact⟨rfl,HKZ.out.trans K.out⟩
  | true =>
   have HLP:=lH (jcB HE2.out);go_wp2_with fail
   refine(jie HPR.out HLP.out).mono ?_;rintro e w4 ⟨y9,rfl,hy,kk⟩;have HQS:=lH (HQS.out.kept kk);have HQP:=lH (HQP.out.kept kk);have HS:=lH (HS.out.kept kk);have HP:=lH (HP.out.kept kk);have K:=lH (K.out.trans kk);have HY:=lH hy;have HPR:=lH (HPR.out.kept kk);clear kk hy;clear sq0 sq1 sq2 pq0 pq1 pq2 pq3 pq4 pq5 pq6 pq7 pq8 pq9 pq10;have sq0:=HQS.out.at_ 0 _ rfl;have sq1:=HQS.out.at_ 1 _ rfl;have sq2:=HQS.out.at_ 2 _ rfl;have pq0:=HQP.out.at_ 0 _ rfl;have pq1:=HQP.out.at_ 1 _ rfl;have pq2:=HQP.out.at_ 2 _ rfl;have pq3:=HQP.out.at_ 3 _ rfl;have pq4:=HQP.out.at_ 4 _ rfl;have pq5:=HQP.out.at_ 5 _ rfl;have pq6:=HQP.out.at_ 6 _ rfl;have pq7:=HQP.out.at_ 7 _ rfl;have pq8:=HQP.out.at_ 8 _ rfl;have pq9:=HQP.out.at_ 9 _ rfl;have pq10:=HQP.out.at_ 10 _ rfl;obtain⟨c9,hc9⟩:∃c,j8 p=c:=⟨_,rfl⟩
   have HC9:=lH hc9;go_wp2_with fail
   refine(jf8 HY.out hc9).mono ?_;rintro e w5 ⟨rfl,kk⟩;have HQS:=lH (HQS.out.kept kk);have HQP:=lH (HQP.out.kept kk);have HS:=lH (HS.out.kept kk);have HP:=lH (HP.out.kept kk);have K:=lH (K.out.trans kk);have HPR:=lH (HPR.out.kept kk);clear kk hc9 HY;clear sq0 sq1 sq2 pq0 pq1 pq2 pq3 pq4 pq5 pq6 pq7 pq8 pq9 pq10;have sq0:=HQS.out.at_ 0 _ rfl;have sq1:=HQS.out.at_ 1 _ rfl;have sq2:=HQS.out.at_ 2 _ rfl;have pq0:=HQP.out.at_ 0 _ rfl;have pq1:=HQP.out.at_ 1 _ rfl;have pq2:=HQP.out.at_ 2 _ rfl;have pq3:=HQP.out.at_ 3 _ rfl;have pq4:=HQP.out.at_ 4 _ rfl;have pq5:=HQP.out.at_ 5 _ rfl;have pq6:=HQP.out.at_ 6 _ rfl;have pq7:=HQP.out.at_ 7 _ rfl;have pq8:=HQP.out.at_ 8 _ rfl;have pq9:=HQP.out.at_ 9 _ rfl;have pq10:=HQP.out.at_ 10 _ rfl;by_cases hcz:c9=0
   · subst hcz;by_cases hln:(128:Int)≤(sl2:Int)
     · skip;go_wp2;go_ret;exact⟨rfl,HKZ.out.trans K.out⟩
     · have hlb:(sl2:Int)<128:=by omega
       clear hln;have HQ8:=lH (jga HP.out HC9.out);have HFN:=Xh sa1 sa2 sa3 sl1 sc1 sl2 sc2 sl3 sc3 a1 a2 a3 a4 m1 c1 m2 c2 m3 c3 m4 c4 p s w5 HS.out HL.out HP.out;unfold jE at HFN;have HFN:=lH HFN;have hsz5:w.heap.size+2≤w5.heap.size:=by have:=K.out.size;have:=HZS.out;omega
       go_wp2_with fail
       refine HFN.out.mono ?_;clear HFN;rintro e w6 ⟨v9,rfl,ho,kk⟩;have HQS:=lH (HQS.out.kept kk);have HQP:=lH (HQP.out.kept kk);have HS:=lH (HS.out.kept kk);have HP:=lH (HP.out.kept kk);have K:=lH (K.out.trans kk);clear kk;obtain⟨m9,hm9⟩:∃q,(JO s p s.nodes).length=q:=⟨_,rfl⟩
       have HM9:=lH hm9;have hmb:m9≤sl1:=by have:=ja9 s p s.nodes;rw[hm9,HL1.out] at this;exact this
       have hov:=ho.reads;obtain⟨la,lc,rfl,-,-,-⟩:=hov;have HOW:=lH ho;rw[hm9] at HOW;try rw[hm9]
       clear ho hm9;have HKA:=lH (HKZ.out.trans K.out);clear sq0 sq1 sq2 pq0 pq1 pq2 pq3 pq4 pq5 pq6 pq7 pq8 pq9 pq10;go_wp2;go_loopw [6] (fun iv wr=>∃(i:Nat) (x:ByteArray),i≤m9∧iv=.int .i64 i∧Hid (jd w.heap.size [.slice sa1 sl1 sc1,.slice sa2 sl2 sc2,.slice sa3 sl3 sc3] wr∧jd (w.heap.size+1) [.string p.name,.string p.owner,.int .i64 p.prio,.slice a1 m1 c1,.slice a2 m2 c2,.slice a3 m3 c3,.slice a4 m4 c4,.string p.key,.int .i64 p.most,.string x,.bool p.hold] wr∧Own j6 9 wr w5.heap.size (.slice la m9 lc) (JO s p s.nodes)∧Kept w wr)) (fun iv _=>m9-(intOf iv).toNat)
       case atStart=>exact⟨0,p.node,Nat.zero_le _,rfl,HQS.out,HQP.out,HOW.out,HKA.out⟩
       case round =>
        obtain⟨i,x0,hi9,rfl,hh⟩:=hrel;have H1:=lH hh.out.1;have H2:=lH hh.out.2.1;have H3:=lH hh.out.2.2.1;have H4:=lH hh.out.2.2.2;clear hh;by_cases hlt:i<m9
        · obtain⟨a9,c9,er,-,-,hrow⟩:=H3.out.reads;have e1:la=a9:=by injection er
          rw[HM9.out,←e1] at hrow;clear er e1;obtain⟨bl,ol,rfl⟩:=hrow.form.resolve_left (by omega);obtain⟨x,hx,-,hxb,hxs,cx⟩:=hrow.str hlt;have HFX:=lH (jfe (List.mem_of_getElem? hx)).1;have hkk:(i:Int)<(m9:Int):=by omega
          have hk0:¬(i:Int)<0:=by omega
          have r0:=H2.out.at_ 0 _ rfl;have r1:=H2.out.at_ 1 _ rfl;have r2:=H2.out.at_ 2 _ rfl;have r3:=H2.out.at_ 3 _ rfl;have r4:=H2.out.at_ 4 _ rfl;have r5:=H2.out.at_ 5 _ rfl;have r6:=H2.out.at_ 6 _ rfl;have r7:=H2.out.at_ 7 _ rfl;have r8:=H2.out.at_ 8 _ rfl;have r9:=H2.out.at_ 9 _ rfl;have r10:=H2.out.at_ 10 _ rfl;have y0:=H1.out.at_ 0 _ rfl;have y1:=H1.out.at_ 1 _ rfl;have y2:=H1.out.at_ 2 _ rfl;have f9:=H2.out.free 9;have HP2:=lH (show jd (w.heap.size+1) [.string p.name,.string p.owner,.int .i64 p.prio,.slice a1 m1 c1,.slice a2 m2 c2,.slice a3 m3 c3,.slice a4 m4 c4,.string p.key,.int .i64 p.most,.string x,.bool p.hold] (wr.setCell ⟨w.heap.size+1,9,none⟩ (.string x)) from H2.out.set (j:=9) (u:=.string x) (by simp));have H1s:=lH (H1.out.other (p:=w.heap.size+1) (j:=9) (u:=.string x) (by omega));have H3s:=lH (H3.out.setCell_below (a:=⟨w.heap.size+1,9,none⟩) (by show w.heap.size+1<w5.heap.size;omega) (.string x));have H4s:=lH (show Kept w (wr.setCell ⟨w.heap.size+1,9,none⟩ (.string x)) from H4.out.setCell (p:=⟨w.heap.size+1,9,none⟩) (Nat.le_succ _) _);obtain⟨wz,hwz⟩:∃W,wr.setCell ⟨w.heap.size+1,9,none⟩ (.string x)=W:=⟨_,rfl⟩
          rw[hwz] at HP2 H1s H3s H4s;go_upto_region 10 with fail
          try rw[hwz]
          clear hwz hrow hx hxb cx f9 r0 r1 r2 r3 r4 r5 r6 r7 r8 r9 r10 y0 y1 y2;have r0:=HP2.out.at_ 0 _ rfl;have r1:=HP2.out.at_ 1 _ rfl;have r2:=HP2.out.at_ 2 _ rfl;have r3:=HP2.out.at_ 3 _ rfl;have r4:=HP2.out.at_ 4 _ rfl;have r5:=HP2.out.at_ 5 _ rfl;have r6:=HP2.out.at_ 6 _ rfl;have r7:=HP2.out.at_ 7 _ rfl;have r8:=HP2.out.at_ 8 _ rfl;have r9:=HP2.out.at_ 9 _ rfl;have r10:=HP2.out.at_ 10 _ rfl;have y0:=H1s.out.at_ 0 _ rfl;have y1:=H1s.out.at_ 1 _ rfl;have y2:=H1s.out.at_ 2 _ rfl;have HAT:=lH (HP0.out.kept H4s.out);have HPX:=lH (show Z7 wz (.agg #[.string p.name,.string p.owner,.int .i64 p.prio,.slice a1 m1 c1,.slice a2 m2 c2,.slice a3 m3 c3,.slice a4 m4 c4,.string p.key,.int .i64 p.most,.string x,.bool p.hold]) { p with node:=x } from⟨_,_,_,_,rfl,⟨HAT.out.name,HAT.out.owner,HAT.out.key,hxs,HAT.out.prio,HAT.out.most,HAT.out.need,HAT.out.labels,HAT.out.sel,HAT.out.tols⟩⟩);have HSX:=lH (HS0.out.kept H4s.out);try unfold Zu at HSX
          go_wp2_with fail
          refine(jhX HSX.out HPX.out HL.out ⟨HLP.out.need,HLP.out.labels,HLP.out.sel,HLP.out.tols⟩).mono ?_;rintro e wa ⟨ya,rfl,hya,kk⟩;have HYA:=lH hya;have H1s:=lH (H1s.out.kept kk);have HP2:=lH (HP2.out.kept kk);have H3s:=lH (H3s.out.kept kk);have H4s:=lH (H4s.out.trans kk);clear kk hya r0 r1 r2 r3 r4 r5 r6 r7 r8 r9 r10 y0 y1 y2;go_wp2_with fail
          refine(jgc HYA.out HL.out.nodes (jfF (qA HE1.out) HSO.out HC9.out HQ8.out (by have:=HL2.out;omega) HFX.out)).mono ?_;rintro e wb ⟨rfl,kk⟩;have H1s:=lH (H1s.out.kept kk);have HP2:=lH (HP2.out.kept kk);have H3s:=lH (H3s.out.kept kk);have H4s:=lH (H4s.out.trans kk);clear kk;go_wp2;go_roundw
          case rel=>exact⟨i+1,x,by omega,by go_num,H1s.out,HP2.out,H3s.out,H4s.out⟩
          case measure=>simp[intOf];omega
        · have hge:¬(i:Int)<(m9:Int):=by omega
          go_wp2;go_ret;exact⟨rfl,H4.out⟩
   · have hcb:(c9 != 0)=true:=by simpa using hcz
     clear hcz;go_wp2;go_ret;exact⟨rfl,HKZ.out.trans K.out⟩
end Go.Proofs.YtgfoenfaohhjcabGreat
