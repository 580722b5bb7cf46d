/- The contracts of the functions that the law calls,and the law,walked. -/
import Derived.Test.YtgfoenfaohhjcabGreatG8
import Derived.Test.YtgfoenfaohhjcabGreatG10
set_option linter.unusedVariables false
set_option maxRecDepth 100000
set_option maxHeartbeats 25600000
namespace Go.Proofs.YtgfoenfaohhjcabGreat
open Go.RowKit
theorem FitStays_walk (v:Value) (s:Clu) (w:World) (h:jP w v s):Calls Tryz.prog 6 #[v] w fun e w'=>e=.returned (.bool true)∧Kept w w':=by
 have hs0:=h;obtain⟨_,_,_,rfl,⟨sa1,sc1,rfl,-,-,-⟩,⟨sa2,sc2,rfl,-,-,-⟩,⟨sa3,sc3,rfl,-,-,-⟩⟩:=hs0;obtain⟨sl1,hsl1⟩:∃q,s.nodes.length=q:=⟨_,rfl⟩
 rw[hsl1] at h;try rw[hsl1]
 obtain⟨sl2,hsl2⟩:∃q,s.pods.length=q:=⟨_,rfl⟩
 rw[hsl2] at h;try rw[hsl2]
 obtain⟨sl3,hsl3⟩:∃q,s.buds.length=q:=⟨_,rfl⟩
 rw[hsl3] at h;try rw[hsl3]
 have HL1:=lH hsl1;have HL2:=lH hsl2;clear hsl1 hsl2 hsl3;obtain⟨Z,hZ⟩:∃Z,w.alloc (.cells #[.slice sa1 sl1 sc1,.slice sa2 sl2 sc2,.slice sa3 sl3 sc3] 26)=Z:=⟨_,rfl⟩
 have hkz:Kept w Z:=by rw[←hZ];exact ja _ _
 have HQS:=lH (show je w.heap.size [.slice sa1 sl1 sc1,.slice sa2 sl2 sc2,.slice sa3 sl3 sc3] Z from jc w (.slice sa1 sl1 sc1) [.slice sa2 sl2 sc2,.slice sa3 sl3 sc3] 26 Z (by rw[hZ];exact Kept.refl _));have HS:=lH (h.kept hkz);have HKZ:=lH hkz;clear h hkz;have K:=lH (Kept.refl Z);go_enter Tryz.func6,Tryz.ntmps6;go_wp2_with fail
 try rw[hZ]
 clear hZ;refine(jb4 Z).mono ?_;rintro e w1 ⟨rfl,kk⟩;have HQS:=lH (HQS.out.kept kk);have HS:=lH (HS.out.kept kk);have K:=lH (K.out.trans kk);clear kk;obtain⟨e1,he1⟩:∃e,JX s=e:=⟨_,rfl⟩
 have HE1:=lH he1;have sq0:=HQS.out.at_ 0 _ rfl;have sq1:=HQS.out.at_ 1 _ rfl;have sq2:=HQS.out.at_ 2 _ rfl;go_wp2_with fail
 refine(jf0 HS.out he1).mono ?_;rintro e w2 ⟨rfl,kk⟩;have HQS:=lH (HQS.out.kept kk);have HS:=lH (HS.out.kept kk);have K:=lH (K.out.trans kk);clear kk he1;clear sq0 sq1 sq2;have sq0:=HQS.out.at_ 0 _ rfl;have sq1:=HQS.out.at_ 1 _ rfl;have sq2:=HQS.out.at_ 2 _ rfl
 cases e1 with
 | false =>
  go_wp2;go_ret;exact⟨rfl,HKZ.out.trans K.out⟩
 | true =>
  have HL:=lH (Xw (jaC HE1.out)).1;have HB34:=lH (Xw (jaC HE1.out)).2;have HSO:=lH (jfu HE1.out HS.out);have HPA:=lH HS.out.pAt.1;have hb2:sl2≤1000:=by have:=HB34.out.2.1;have:=HL2.out;omega
  go_wp2;go_loopw [3] (fun iv wr=>∃i:Nat,i≤sl2∧iv=.int .i64 i∧Kept w2 wr) (fun iv _=>sl2-(intOf iv).toNat)
  case atStart=>exact⟨0,Nat.zero_le _,rfl,Kept.refl _⟩
  case round =>
   obtain⟨i,hi9,rfl,hK⟩:=hrel;have HK:=lH hK;have HSK:=lH (HQS.out.kept hK);clear sq0 sq1 sq2;have y0:=HSK.out.at_ 0 _ rfl;have y1:=HSK.out.at_ 1 _ rfl;have y2:=HSK.out.at_ 2 _ rfl;by_cases hlt:i<sl2
   · obtain⟨g,off,rfl⟩:=HPA.out.form.resolve_left (by omega);obtain⟨p,a1,m1,c1,a2,m2,c2,a3,m3,c3,a4,m4,c4,hn,hd,hb,q0,q1,q2,q3,q4,q5,q6,q7,q8,q9,q10,hat⟩:=(HPA.out.kept hK).at_ hlt;have HPM:=lH (List.mem_of_getElem? hn);have hkk:(i:Int)<(sl2:Int):=by omega
     have hk0:¬(i:Int)<0:=by omega
     obtain⟨wx,hwx⟩:∃W,wr.alloc (.cells #[.string p.name,.string p.owner,.int .i64 p.prio,.slice a1 m1 c1,.slice a2 m2 c2,.slice a3 m3 c3,.slice a4 m4 c4,.string p.key,.int .i64 p.most,.string p.node,.bool p.hold] 35)=W:=⟨_,rfl⟩
     have hkx:Kept wr wx:=by rw[←hwx];exact ja _ _
     have HQB:=lH (jc wr (.string p.name) [.string p.owner,.int .i64 p.prio,.slice a1 m1 c1,.slice a2 m2 c2,.slice a3 m3 c3,.slice a4 m4 c4,.string p.key,.int .i64 p.most,.string p.node,.bool p.hold] 35 wx (by rw[hwx];exact Kept.refl _));obtain⟨bq,hbq⟩:∃z,wr.heap.size=z:=⟨_,rfl⟩
     rw[hbq] at HQB;have KX:=lH hkx;have HPR:=lH (hat.kept hkx);have HSX:=lH (HSK.out.kept hkx);have HSW:=lH (HS.out.kept (hK.trans hkx));go_upto_region 9 with fail
     try rw[hwx]
     try rw[hbq]
     clear hwx hbq hd hb hn hkx hk0 hkk hat hK q0 q1 q2 q3 q4 q5 q6 q7 q8 q9 q10 y0 y1 y2;obtain⟨t9,h9⟩:∃t,(p.node.toList==([]:List UInt8))=t:=⟨_,rfl⟩
     have H9:=lH (show Je p.node=t9 by rw[JU,h9]);have r0:=HQB.out.at_ 0 _ rfl;have r1:=HQB.out.at_ 1 _ rfl;have r2:=HQB.out.at_ 2 _ rfl;have r3:=HQB.out.at_ 3 _ rfl;have r4:=HQB.out.at_ 4 _ rfl;have r5:=HQB.out.at_ 5 _ rfl;have r6:=HQB.out.at_ 6 _ rfl;have r7:=HQB.out.at_ 7 _ rfl;have r8:=HQB.out.at_ 8 _ rfl;have r9:=HQB.out.at_ 9 _ rfl;have r10:=HQB.out.at_ 10 _ rfl;have y0:=HSX.out.at_ 0 _ rfl;have y1:=HSX.out.at_ 1 _ rfl;have y2:=HSX.out.at_ 2 _ rfl
     cases t9 with
     | true =>
      go_wp2;go_roundw
      case rel=>exact⟨i+1,by omega,by go_num,HK.out.trans KX.out⟩
      case measure=>simp[intOf];omega
     | false =>
      obtain⟨z,hz⟩:∃z,Jb s p p.node=z:=⟨_,rfl⟩
      have HZ:=lH hz;have hz7:(z==7)=false:=by
       have:=(jaf HSO.out HPM.out H9.out).1;rw[hz] at this;simpa using this
      have hz3:(z==3)=false:=by
       have:=(jaf HSO.out HPM.out H9.out).2;rw[hz] at this;simpa using this
      have hzz:(z != z)=false:=by simp
      have HF1:=lH (Zw sa1 (some ⟨g,off,none⟩) sa3 sl1 sc1 sl2 sc2 sl3 sc3 a1 a2 a3 a4 m1 c1 m2 c2 m3 c3 m4 c4 p s p.node wx HSW.out HL.out HPR.out);rw[hz] at HF1;unfold jF at HF1;clear hz;go_upto_region 10 with fail
      go_wp2_with fail
      refine HF1.out.mono ?_;rintro e wy ⟨rfl,kk⟩;have HQB:=lH (HQB.out.kept kk);have HSX:=lH (HSX.out.kept kk);have HPR:=lH (HPR.out.kept kk);have HSW:=lH (HSW.out.kept kk);have KX:=lH (KX.out.trans kk);clear kk HF1;go_upto_region 13 with fail
      clear r0 r1 r2 r3 r4 r5 r6 r7 r8 r9 r10 y0 y1 y2;have HF:=lH (show ∀W,Kept wy W→W.cell? ⟨w.heap.size,0,none⟩=some (.slice sa1 sl1 sc1)∧W.cell? ⟨w.heap.size,1,none⟩=some (.slice (some ⟨g,off,none⟩) sl2 sc2)∧W.cell? ⟨w.heap.size,2,none⟩=some (.slice sa3 sl3 sc3)∧W.cell? ⟨bq,0,none⟩=some (.string p.name)∧W.cell? ⟨bq,1,none⟩=some (.string p.owner)∧W.cell? ⟨bq,2,none⟩=some (.int .i64 p.prio)∧W.cell? ⟨bq,3,none⟩=some (.slice a1 m1 c1)∧W.cell? ⟨bq,4,none⟩=some (.slice a2 m2 c2)∧W.cell? ⟨bq,5,none⟩=some (.slice a3 m3 c3)∧W.cell? ⟨bq,6,none⟩=some (.slice a4 m4 c4)∧W.cell? ⟨bq,7,none⟩=some (.string p.key)∧W.cell? ⟨bq,8,none⟩=some (.int .i64 p.most)∧W.cell? ⟨bq,9,none⟩=some (.string p.node)∧W.cell? ⟨bq,10,none⟩=some (.bool p.hold) from fun W kk=>by
       have h:=HSX.out.kept kk;have p:=HQB.out.kept kk;exact⟨h.at_ 0 _ rfl,h.at_ 1 _ rfl,h.at_ 2 _ rfl,p.at_ 0 _ rfl,p.at_ 1 _ rfl,p.at_ 2 _ rfl,p.at_ 3 _ rfl,p.at_ 4 _ rfl,p.at_ 5 _ rfl,p.at_ 6 _ rfl,p.at_ 7 _ rfl,p.at_ 8 _ rfl,p.at_ 9 _ rfl,p.at_ 10 _ rfl⟩)
      have J:=lH (Kept.drew wy);refine wp_region_held_drew (S:=fun W=>W.cell? ⟨w.heap.size,0,none⟩=some (.slice sa1 sl1 sc1)∧W.cell? ⟨w.heap.size,1,none⟩=some (.slice (some ⟨g,off,none⟩) sl2 sc2)∧W.cell? ⟨w.heap.size,2,none⟩=some (.slice sa3 sl3 sc3)∧W.cell? ⟨bq,0,none⟩=some (.string p.name)∧W.cell? ⟨bq,1,none⟩=some (.string p.owner)∧W.cell? ⟨bq,2,none⟩=some (.int .i64 p.prio)∧W.cell? ⟨bq,3,none⟩=some (.slice a1 m1 c1)∧W.cell? ⟨bq,4,none⟩=some (.slice a2 m2 c2)∧W.cell? ⟨bq,5,none⟩=some (.slice a3 m3 c3)∧W.cell? ⟨bq,6,none⟩=some (.slice a4 m4 c4)∧W.cell? ⟨bq,7,none⟩=some (.string p.key)∧W.cell? ⟨bq,8,none⟩=some (.int .i64 p.most)∧W.cell? ⟨bq,9,none⟩=some (.string p.node)∧W.cell? ⟨bq,10,none⟩=some (.bool p.hold)) (by kernel_rfl) (HF.out _ J.out) (fun hHeld=>?_);obtain⟨wd,hwd⟩:∃W,wy.drew=W:=⟨_,rfl⟩
      rw[hwd] at J hHeld;try rw[hwd]
      clear hwd;refine wpAnyH_take  (i:=0) (v:=?_) (by rw[List.getElem?_toArray];exact rfl) (by kernel_rfl) (by kernel_rfl) (by kernel_rfl) (by exact fun _ _ _ h=>h) (Or.inl ⟨by rfl,(by rintro W ⟨o0,o1,o2,o3,o4,o5,o6,o7,o8,o9,o10,o11,o12,o13⟩;go_simp<;>with_reducible rfl)⟩) (by assumption) ?_;try simp only  [Act.put,List.setIfInBounds_toArray,List.set_cons_zero,List.set_cons_succ]
      refine wpAnyH_take  (i:=1) (v:=?_) (by rw[List.getElem?_toArray];exact rfl) (by kernel_rfl) (by kernel_rfl) (by kernel_rfl) (by exact fun _ _ _ h=>h) (Or.inl ⟨by rfl,(by rintro W ⟨o0,o1,o2,o3,o4,o5,o6,o7,o8,o9,o10,o11,o12,o13⟩;go_simp<;>with_reducible rfl)⟩) (by assumption) ?_;try simp only  [Act.put,List.setIfInBounds_toArray,List.set_cons_zero,List.set_cons_succ]
      refine wpAnyH_take  (i:=2) (v:=?_) (by rw[List.getElem?_toArray];exact rfl) (by kernel_rfl) (by kernel_rfl) (by kernel_rfl) (by exact fun _ _ _ h=>h) (Or.inl ⟨by rfl,(by rintro W ⟨o0,o1,o2,o3,o4,o5,o6,o7,o8,o9,o10,o11,o12,o13⟩;go_simp<;>with_reducible rfl)⟩) (by assumption) ?_;try simp only  [Act.put,List.setIfInBounds_toArray,List.set_cons_zero,List.set_cons_succ]
      refine wpAnyH_take  (i:=4) (v:=?_) (by rw[List.getElem?_toArray];exact rfl) (by kernel_rfl) (by kernel_rfl) (by kernel_rfl) (by exact fun _ _ _ h=>h) (Or.inl ⟨by rfl,(by rintro W ⟨o0,o1,o2,o3,o4,o5,o6,o7,o8,o9,o10,o11,o12,o13⟩;go_simp<;>with_reducible rfl)⟩) (by assumption) ?_;try simp only  [Act.put,List.setIfInBounds_toArray,List.set_cons_zero,List.set_cons_succ]
      refine wpAnyH_take  (i:=5) (v:=?_) (by rw[List.getElem?_toArray];exact rfl) (by kernel_rfl) (by kernel_rfl) (by kernel_rfl) (by exact fun _ _ _ h=>h) (Or.inl ⟨by rfl,(by rintro W ⟨o0,o1,o2,o3,o4,o5,o6,o7,o8,o9,o10,o11,o12,o13⟩;go_simp<;>with_reducible rfl)⟩) (by assumption) ?_;try simp only  [Act.put,List.setIfInBounds_toArray,List.set_cons_zero,List.set_cons_succ]
      refine wpAnyH_take  (i:=6) (v:=?_) (by rw[List.getElem?_toArray];exact rfl) (by kernel_rfl) (by kernel_rfl) (by kernel_rfl) (by exact fun _ _ _ h=>h) (Or.inl ⟨by rfl,(by rintro W ⟨o0,o1,o2,o3,o4,o5,o6,o7,o8,o9,o10,o11,o12,o13⟩;go_simp<;>with_reducible rfl)⟩) (by assumption) ?_;try simp only  [Act.put,List.setIfInBounds_toArray,List.set_cons_zero,List.set_cons_succ]
      refine wpAnyH_ready  (rs:=[3]) (by kernel_rfl) (by simp) (AllReadyH.cons  (by rw[List.getElem?_toArray];exact rfl) (fun K9 hK9=>?_) AllReadyH.nil);go_simp;refine(qB (HSW.out.kept J.out) p.name HL.out).mono ?_;rintro e wd2 ⟨x1,rfl,hd1,kk⟩;obtain⟨u1,f1,l1,u2,f2,l2,u3,f3,l3,rfl⟩:=hd1.spelt;have J:=lH (J.out.trans kk);have HD1:=lH hd1;clear hd1 kk;refine hK9.out _ _ (HF.out _ J.out) (fun hHeld1=>?_);clear hK9 K9;try simp only  [Act.put,List.setIfInBounds_toArray,List.set_cons_zero,List.set_cons_succ]
      refine wpAnyH_ready  (rs:=[7]) (by kernel_rfl) (by simp) (AllReadyH.cons  (by rw[List.getElem?_toArray];exact rfl) (fun K9 hK9=>?_) AllReadyH.nil);go_simp;have HF2:=Zw u1 u2 u3 f1 l1 f2 l2 f3 l3 a1 a2 a3 a4 m1 c1 m2 c2 m3 c3 m4 c4 p (jQ s p.name) p.node wd2 HD1.out (YG HL.out p.name) (HPR.out.kept J.out);rw[jca HSO.out.asc,HZ.out] at HF2;unfold jF at HF2;try unfold JR at HF2
      refine HF2.mono ?_;clear HF2;rintro e we ⟨rfl,kk⟩;have J:=lH (J.out.trans kk);clear kk HD1;refine hK9.out _ _ (HF.out _ J.out) (fun hHeld2=>?_);clear hK9 K9;try simp only  [Act.put,List.setIfInBounds_toArray,List.set_cons_zero,List.set_cons_succ]
      refine wpAnyH_take  (i:=8) (v:=?_) (by rw[List.getElem?_toArray];exact rfl) (by kernel_rfl) (by kernel_rfl) (by kernel_rfl) (by exact fun _ _ _ h=>h) (Or.inl ⟨by rfl,(by rintro W ⟨o0,o1,o2,o3,o4,o5,o6,o7,o8,o9,o10,o11,o12,o13⟩;go_simp<;>with_reducible rfl)⟩) (by assumption) ?_;try simp only  [Act.put,List.setIfInBounds_toArray,List.set_cons_zero,List.set_cons_succ]
      refine wpAnyH_done (by kernel_rfl) ?_ _;go_wp2;go_roundw
      case rel=>exact⟨i+1,by omega,by go_num,HK.out.trans (KX.out.trans J.out)⟩
      case measure=>simp[intOf];omega
   · have hge:¬(i:Int)<(sl2:Int):=by omega
     go_wp2;go_ret;exact⟨rfl,HKZ.out.trans (K.out.trans HK.out)⟩
end Go.Proofs.YtgfoenfaohhjcabGreat
