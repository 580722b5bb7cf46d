/- The law. -/
import Derived.Test.YtabafpoklpiiiaaGreatG0
import Derived.Test.YtabafpoklpiiiaaGreatG1
import Derived.Test.YtabafpoklpiiiaaGreatG2
import Derived.Test.YtabafpoklpiiiaaGreatG3
import Derived.Test.YtabafpoklpiiiaaGreatG6
import Derived.Test.YtabafpoklpiiiaaGreatG11
set_option linter.unusedVariables false
set_option maxRecDepth 100000
set_option maxHeartbeats 25600000
namespace Go.Proofs.YtabafpoklpiiiaaGreat
open Go.RowKit
theorem jbQ (w:World):Calls Tryz.prog 7 #[] w (Say (.bool true) w):=by
 go_enter Tryz.func7,Tryz.ntmps7;go_wp2_with fail
 refine(YD ⟨#[97]⟩ 10 (by decide:(-9223372036854775808:Int)≤10∧(10:Int)≤9223372036854775807) (by decide:(1:Nat)≤maxLen) _).mono ?_;rintro e w1 ⟨b1,n1,d1,rfl,ha,k⟩;have K:=lH k;have Uh:=lH ha;clear k ha;go_wp2_with fail
 refine(YD ⟨#[98]⟩ 10 (by decide:(-9223372036854775808:Int)≤10∧(10:Int)≤9223372036854775807) (by decide:(1:Nat)≤maxLen) _).mono ?_;rintro e w2 ⟨b2,n2,d2,rfl,ha,k⟩;obtain⟨K,Uh,Tz⟩:=lH3 (K.out.trans k) (Uh.out.kept k) ha;clear k ha;go_wp2_with fail
 obtain⟨g1,hg1⟩:=eX (w2.heap.size)
 obtain⟨w3,hw3⟩:=eX (w2.alloc (.cells #[.string ⟨#[97]⟩,.slice b1 n1 d1,.slice none 0 0,.slice none 0 0,.bool false,.string ⟨#[98]⟩,.slice b2 n2 d2,.slice none 0 0,.slice none 0 0,.bool false] 29))
 have k:Kept w2 w3:=by rw[←hw3];exact ja _ _
 have VR:=lH (show jt w3 (some ⟨g1,0,none⟩) 2 peS.nodes from by
  have c:=jc w2 (.string ⟨#[97]⟩) [.slice b1 n1 d1,.slice none 0 0,.slice none 0 0,.bool false,.string ⟨#[98]⟩,.slice b2 n2 d2,.slice none 0 0,.slice none 0 0,.bool false] 29 w3 (by rw[hw3];exact Kept.refl _);rw[hg1] at c;exact jaa (lx:=[(Ys ⟨#[97]⟩ 10,(b1,n1,d1),(none,0,0),(none,0,0)),(Ys ⟨#[98]⟩ 10,(b2,n2,d2),(none,0,0),(none,0,0))]) (Xu rfl c (fun _ _=>trivial) (by decide:(2:Nat)≤maxLen)) (fun z hz=>by
   rcases List.mem_cons.1 hz with rfl | hz
   · exact Uh.out.kept k
   obtain rfl:=List.mem_singleton.1 hz;exact Tz.out.kept k))
 have K:=lH (K.out.trans k);clear Uh Tz k;try rw[hw3]
 clear hw3;try rw[hg1]
 clear hg1;refine(J5 0 (by decide) 4 ⟨#[104,111,108,100,48]⟩ ⟨#[97]⟩ (by decide:(-9223372036854775808:Int)≤4∧(4:Int)≤9223372036854775807) (zU 0 (by decide)).1 (zU 0 (by decide)).2 (by decide:(5:Nat)≤maxLen) (by decide:(1:Nat)≤maxLen) _).mono ?_;rintro e w4 ⟨p1,q1,r1,rfl,ha,k,-⟩;obtain⟨K,VR,Uy⟩:=lH3 (K.out.trans k) (VR.out.kept k) ha;clear k ha;go_wp2_with fail
 refine(J5 1 (by decide) 5 ⟨#[104,111,108,100,49]⟩ ⟨#[97]⟩ (by decide:(-9223372036854775808:Int)≤5∧(5:Int)≤9223372036854775807) (zU 1 (by decide)).1 (zU 1 (by decide)).2 (by decide:(5:Nat)≤maxLen) (by decide:(1:Nat)≤maxLen) _).mono ?_;rintro e w5 ⟨p2,q2,r2,rfl,ha,k,-⟩;obtain⟨K,VR,Uy,Vp⟩:=lH4 (K.out.trans k) (VR.out.kept k) (Uy.out.kept k) ha;clear k ha;go_wp2_with fail
 refine(J5 2 (by decide) 8 ⟨#[104,111,108,100,50]⟩ ⟨#[98]⟩ (by decide:(-9223372036854775808:Int)≤8∧(8:Int)≤9223372036854775807) (zU 2 (by decide)).1 (zU 2 (by decide)).2 (by decide:(5:Nat)≤maxLen) (by decide:(1:Nat)≤maxLen) _).mono ?_;rintro e w6 ⟨p3,q3,r3,rfl,ha,k,-⟩;obtain⟨K,VR,Uy,Vp,TU⟩:=lH5 (K.out.trans k) (VR.out.kept k) (Uy.out.kept k) (Vp.out.kept k) ha;clear k ha;go_wp2_with fail
 refine(YG ⟨#[120]⟩ 9 ⟨#[]⟩ (by decide:(-9223372036854775808:Int)≤9∧(9:Int)≤9223372036854775807) (by decide:(1:Nat)≤maxLen) (by decide:(0:Nat)≤maxLen) _).mono ?_;rintro e w7 ⟨p4,q4,r4,rfl,ha,k⟩;obtain⟨K,VR,Uy,Vp,TU,TB⟩:=lH6 (K.out.trans k) (VR.out.kept k) (Uy.out.kept k) (Vp.out.kept k) (TU.out.kept k) ha;clear k ha;skip;obtain⟨w8,hw8⟩:=eX (w7.alloc (.cells #[.string ⟨#[104,111,108,100,48]⟩,.string ⟨#[]⟩,.int .i64 (-1),.slice p1 q1 r1,.slice none 0 0,.slice none 0 0,.slice none 0 0,.string ⟨#[]⟩,.int .i64 0,.string ⟨#[97]⟩,.bool true,.string ⟨#[104,111,108,100,49]⟩,.string ⟨#[]⟩,.int .i64 (-1),.slice p2 q2 r2,.slice none 0 0,.slice none 0 0,.slice none 0 0,.string ⟨#[]⟩,.int .i64 0,.string ⟨#[97]⟩,.bool true,.string ⟨#[104,111,108,100,50]⟩,.string ⟨#[]⟩,.int .i64 (-1),.slice p3 q3 r3,.slice none 0 0,.slice none 0 0,.slice none 0 0,.string ⟨#[]⟩,.int .i64 0,.string ⟨#[98]⟩,.bool true,.string ⟨#[120]⟩,.string ⟨#[]⟩,.int .i64 0,.slice p4 q4 r4,.slice none 0 0,.slice none 0 0,.slice none 0 0,.string ⟨#[]⟩,.int .i64 0,.string ⟨#[]⟩,.bool false] 41))
 have hs8:w8.heap.size=w7.heap.size+1:=by rw[←hw8];simp
 obtain⟨w9,hw9⟩:=eX (w8.alloc (.cells #[.slice (some ⟨g1,0,none⟩) 2 2,.slice (some ⟨w7.heap.size,0,none⟩) 4 4,.slice none 0 0] 35))
 have k:Kept w7 w9:=by rw[←hw9,←hw8];exact ji _ _ _
 have hc:=jc w7 (.string ⟨#[104,111,108,100,48]⟩) [.string ⟨#[]⟩,.int .i64 (-1),.slice p1 q1 r1,.slice none 0 0,.slice none 0 0,.slice none 0 0,.string ⟨#[]⟩,.int .i64 0,.string ⟨#[97]⟩,.bool true,.string ⟨#[104,111,108,100,49]⟩,.string ⟨#[]⟩,.int .i64 (-1),.slice p2 q2 r2,.slice none 0 0,.slice none 0 0,.slice none 0 0,.string ⟨#[]⟩,.int .i64 0,.string ⟨#[97]⟩,.bool true,.string ⟨#[104,111,108,100,50]⟩,.string ⟨#[]⟩,.int .i64 (-1),.slice p3 q3 r3,.slice none 0 0,.slice none 0 0,.slice none 0 0,.string ⟨#[]⟩,.int .i64 0,.string ⟨#[98]⟩,.bool true,.string ⟨#[120]⟩,.string ⟨#[]⟩,.int .i64 0,.slice p4 q4 r4,.slice none 0 0,.slice none 0 0,.slice none 0 0,.string ⟨#[]⟩,.int .i64 0,.string ⟨#[]⟩,.bool false] 41 w9 (by rw[←hw9,←hw8];exact ja _ _);have Ry:=lH hc;have R6:=lH (show jv w9 (some ⟨w7.heap.size,0,none⟩) 4 peS.pods from by
  exact jfj (lx:=[(Je ⟨#[104,111,108,100,48]⟩ 4 ⟨#[97]⟩,(p1,q1,r1),(none,0,0),(none,0,0),(none,0,0)),(Je ⟨#[104,111,108,100,49]⟩ 5 ⟨#[97]⟩,(p2,q2,r2),(none,0,0),(none,0,0),(none,0,0)),(Je ⟨#[104,111,108,100,50]⟩ 8 ⟨#[98]⟩,(p3,q3,r3),(none,0,0),(none,0,0),(none,0,0)),(peX,(p4,q4,r4),(none,0,0),(none,0,0),(none,0,0))]) (Xu rfl hc (fun _ _=>trivial) (by decide:(4:Nat)≤maxLen)) (fun z hz=>by
   rcases List.mem_cons.1 hz with rfl | hz
   · exact Uy.out.kept k
   rcases List.mem_cons.1 hz with rfl | hz
   · exact Vp.out.kept k
   rcases List.mem_cons.1 hz with rfl | hz
   · exact TU.out.kept k
   obtain rfl:=List.mem_singleton.1 hz;exact TB.out.kept k))
 have HQ:=lH (show je (w7.heap.size+1) [.slice (some ⟨g1,0,none⟩) 2 2,.slice (some ⟨w7.heap.size,0,none⟩) 4 4,.slice none 0 0] w9 by
  have c:=jc w8 (.slice (some ⟨g1,0,none⟩) 2 2) [.slice (some ⟨w7.heap.size,0,none⟩) 4 4,.slice none 0 0] 35 w9 (by rw[hw9];exact Kept.refl _);rw[hs8] at c;exact c)
 obtain⟨TB,K,VR⟩:=lH3 (TB.out.kept k) (K.out.trans k) (VR.out.kept k);clear Uy Vp TU k hc;obtain⟨g2,hg2⟩:=eX (w7.heap.size)
 have R7:=lH hw8;have Rz:=lH hw9;clear hw9 hw8 hs8;go_upto_region 2 with fail
 try rw[R7.out]
 try rw[hg2]
 try rw[hg2] at Rz
 try rw[Rz.out]
 rw[hg2] at Ry R6 HQ;clear R7 Rz hg2;have TT:=lH (show zu w9 none 0 [] from⟨rfl,by decide,.inl rfl⟩);have TC:=lH (show jC w9 (.agg #[.slice (some ⟨g1,0,none⟩) 2 2,.slice (some ⟨g2,0,none⟩) 4 4,.slice none 0 0]) peS from⟨_,_,_,rfl,⟨_,2,rfl,by decide,by decide,VR.out⟩,⟨_,4,rfl,by decide,by decide,R6.out⟩,⟨none,0,rfl,by decide,by decide,TT.out⟩⟩);have Ui:=lH (show ∀W,Kept w9 W→Calls Tryz.prog 12 #[.agg #[.slice (some ⟨g1,0,none⟩) 2 2,.slice (some ⟨g2,0,none⟩) 4 4,.slice none 0 0],.agg #[.string ⟨#[120]⟩,.string ⟨#[]⟩,.int .i64 0,.slice p4 q4 r4,.slice none 0 0,.slice none 0 0,.slice none 0 0,.string ⟨#[]⟩,.int .i64 0,.string ⟨#[]⟩,.bool false]] W (Jt (JY peS peX) W) from fun W k=>Z4 (some ⟨g1,0,none⟩) (some ⟨g2,0,none⟩) none 2 2 4 4 0 0 p4 none none none q4 r4 0 0 0 0 0 0 peX peS W (TC.out.kept k) Xk (TB.out.kept k));rw[jgD] at Ui;unfold Jt at Ui;have HS:=lH (show ∀W,Kept w9 W→W.cell? ⟨g2+1,0,none⟩=some (.slice (some ⟨g1,0,none⟩) 2 2)∧W.cell? ⟨g2+1,1,none⟩=some (.slice (some ⟨g2,0,none⟩) 4 4)∧W.cell? ⟨g2+1,2,none⟩=some (.slice none 0 0)∧W.cell? ⟨g2,33,none⟩=some (.string ⟨#[120]⟩)∧W.cell? ⟨g2,34,none⟩=some (.string ⟨#[]⟩)∧W.cell? ⟨g2,35,none⟩=some (.int .i64 0)∧W.cell? ⟨g2,36,none⟩=some (.slice p4 q4 r4)∧W.cell? ⟨g2,37,none⟩=some (.slice none 0 0)∧W.cell? ⟨g2,38,none⟩=some (.slice none 0 0)∧W.cell? ⟨g2,39,none⟩=some (.slice none 0 0)∧W.cell? ⟨g2,40,none⟩=some (.string ⟨#[]⟩)∧W.cell? ⟨g2,41,none⟩=some (.int .i64 0)∧W.cell? ⟨g2,42,none⟩=some (.string ⟨#[]⟩)∧W.cell? ⟨g2,43,none⟩=some (.bool false) from fun W k=>by
  have h:=HQ.out.kept k;have p:=Ry.out.kept k;exact⟨h.at_ 0 _ rfl,h.at_ 1 _ rfl,h.at_ 2 _ rfl,p.at_ 33 _ rfl,p.at_ 34 _ rfl,p.at_ 35 _ rfl,p.at_ 36 _ rfl,p.at_ 37 _ rfl,p.at_ 38 _ rfl,p.at_ 39 _ rfl,p.at_ 40 _ rfl,p.at_ 41 _ rfl,p.at_ 42 _ rfl,p.at_ 43 _ rfl⟩)
 go_cut [2,3] from 20 to 28 (fun s2 s3 wx=>∃q2 ha hn hc,s2=.pointer (some ⟨q2,0,none⟩)∧s3=.bool true∧Hid (je q2 [.string ⟨#[120]⟩,.string ⟨#[98]⟩,.slice ha hn hc] wx∧Reads jK wx (.slice ha hn hc) [⟨#[104,111,108,100,50]⟩]∧Kept w9 wx))
 case first =>
  have J:=lH (Kept.drew w9);refine wp_region_held_drew (S:=fun W=>W.cell? ⟨g2+1,0,none⟩=some (.slice (some ⟨g1,0,none⟩) 2 2)∧W.cell? ⟨g2+1,1,none⟩=some (.slice (some ⟨g2,0,none⟩) 4 4)∧W.cell? ⟨g2+1,2,none⟩=some (.slice none 0 0)∧W.cell? ⟨g2,33,none⟩=some (.string ⟨#[120]⟩)∧W.cell? ⟨g2,34,none⟩=some (.string ⟨#[]⟩)∧W.cell? ⟨g2,35,none⟩=some (.int .i64 0)∧W.cell? ⟨g2,36,none⟩=some (.slice p4 q4 r4)∧W.cell? ⟨g2,37,none⟩=some (.slice none 0 0)∧W.cell? ⟨g2,38,none⟩=some (.slice none 0 0)∧W.cell? ⟨g2,39,none⟩=some (.slice none 0 0)∧W.cell? ⟨g2,40,none⟩=some (.string ⟨#[]⟩)∧W.cell? ⟨g2,41,none⟩=some (.int .i64 0)∧W.cell? ⟨g2,42,none⟩=some (.string ⟨#[]⟩)∧W.cell? ⟨g2,43,none⟩=some (.bool false)) (by kernel_rfl) (HS.out _ J.out) (fun hHeld=>?_);obtain⟨wd,hwd⟩:=eX (w9.drew)
  rw[hwd] at J hHeld;try rw[hwd]
  clear hwd;refine tR 0 rfl (by kernel_rfl) (fun _ _ _=>id) (Or.inl ⟨by rfl,by rintro W ⟨o0,o1,o2,o3,o4,o5,o6,o7,o8,o9,o10,o11,o12,o13⟩;go_simp<;>with_reducible rfl⟩) ‹_› ?_;refine tR 1 rfl (by kernel_rfl) (fun _ _ _=>id) (Or.inl ⟨by rfl,by rintro W ⟨o0,o1,o2,o3,o4,o5,o6,o7,o8,o9,o10,o11,o12,o13⟩;go_simp<;>with_reducible rfl⟩) ‹_› ?_;refine tR 2 rfl (by kernel_rfl) (fun _ _ _=>id) (Or.inl ⟨by rfl,by rintro W ⟨o0,o1,o2,o3,o4,o5,o6,o7,o8,o9,o10,o11,o12,o13⟩;go_simp<;>with_reducible rfl⟩) ‹_› ?_;refine tR 3 rfl (by kernel_rfl) (fun _ _ _=>id) (Or.inl ⟨by rfl,by rintro W ⟨o0,o1,o2,o3,o4,o5,o6,o7,o8,o9,o10,o11,o12,o13⟩;go_simp<;>with_reducible rfl⟩) ‹_› ?_;refine tR 4 rfl (by kernel_rfl) (fun _ _ _=>id) (Or.inl ⟨by rfl,by rintro W ⟨o0,o1,o2,o3,o4,o5,o6,o7,o8,o9,o10,o11,o12,o13⟩;go_simp<;>with_reducible rfl⟩) ‹_› ?_;try simp only[nA,nB,nC,nD,nE]
  refine wpAnyH_ready  (rs:=[5,9]) (by kernel_rfl) (by simp) (AllReadyH.cons  (by rw[List.getElem?_toArray];exact rfl) (fun K9 Ky=>?_) (AllReadyH.cons  (by rw[List.getElem?_toArray];exact rfl) (fun K9 Ky=>?_) AllReadyH.nil))
  · go_simp;refine(Ui.out _ J.out).mono ?_;rintro e wc ⟨v,rfl,⟨ha,hn,hc,rfl,hrd⟩,kk⟩;have Vm:=lH hrd;have J:=lH (J.out.trans kk);clear kk hrd;try rw[show (Option.some ((⟨#[120]⟩,⟨#[98]⟩,[⟨#[104,111,108,100,50]⟩]):Jb)).getD wzP=(⟨#[120]⟩,⟨#[98]⟩,[⟨#[104,111,108,100,50]⟩]) from rfl]
    try dsimp only
    refine Ky.out _ _ (HS.out _ J.out) (fun _=>?_);clear Ky K9;try simp only[nA,nB,nC,nD,nE]
    refine tR 6 rfl (by kernel_rfl) (fun _ _ _=>id) (Or.inl ⟨by rfl,by rintro W ⟨o0,o1,o2,o3,o4,o5,o6,o7,o8,o9,o10,o11,o12,o13⟩;go_simp<;>with_reducible rfl⟩) ‹_› ?_;refine tR 7 rfl (by kernel_rfl) (fun _ _ _=>id) (Or.inl ⟨by rfl,by rintro W ⟨o0,o1,o2,o3,o4,o5,o6,o7,o8,o9,o10,o11,o12,o13⟩;go_simp<;>with_reducible rfl⟩) ‹_› ?_;refine tR 8 rfl (by kernel_rfl) (fun _ _ _=>id) (Or.inl ⟨by rfl,by rintro W ⟨o0,o1,o2,o3,o4,o5,o6,o7,o8,o9,o10,o11,o12,o13⟩;go_simp<;>with_reducible rfl⟩) ‹_› ?_;try simp only[nA,nB,nC,nD,nE]
    refine rd1 9 fun K9 Ky=>?_;go_simp;obtain⟨wa,hwa⟩:=eX (wc.alloc (.cells #[.string ⟨#[]⟩,.string ⟨#[]⟩,.slice none 0 0] 46))
    have kk:Kept wc wa:=by rw[←hwa];exact ja _ _
    have HA:=lH (jc wc (.string ⟨#[]⟩) [.string ⟨#[]⟩,.slice none 0 0] 46 wa (by rw[hwa];exact Kept.refl _));have Vv:=lH (show w9.heap.size≤wc.heap.size from J.out.size);obtain⟨q2,hq2⟩:=eX (wc.heap.size)
    rw[hq2] at HA Vv;try rw[hwa]
    try rw[hq2]
    have Vm:=lH (Vm.out.new (S':=fun b=>b=q2∨b<wd.heap.size) (jb.of kk) (fun k e=>by rcases e with e | e;exact .inr (by omega);exact .inl e));have J:=lH (J.out.trans kk);clear hwa kk hq2;refine Ky.out _ _ (HS.out _ J.out) (fun _=>?_);clear Ky K9;try simp only[nA,nB,nC,nD,nE]
    have y0:=HA.out.at_ 0 _ rfl;have y1:=HA.out.at_ 1 _ rfl;have y2:=HA.out.at_ 2 _ rfl;have f0:=HA.out.free 0;have f1:=HA.out.free 1;have f2:=HA.out.free 2;have P:=lH (jW (vs:=[.string ⟨#[120]⟩,.string ⟨#[98]⟩,.slice ha hn hc]) HA.out rfl);refine rd1 10 fun K9 Ky=>?_;go_simp;obtain⟨WE,hWE⟩:=eX (wa.setCells q2 0 [.string ⟨#[120]⟩,.string ⟨#[98]⟩,.slice ha hn hc])
    have hWE2:(((wa.setCell ⟨q2,0,none⟩ (.string ⟨#[120]⟩)).setCell ⟨q2,1,none⟩ (.string ⟨#[98]⟩)).setCell ⟨q2,2,none⟩ (.slice ha hn hc))=WE:=hWE;rw[hWE] at P;try rw[hWE2]
    have GE:=lH (show jb (fun b=>b=q2∨b<wd.heap.size) wa WE by rw[←hWE];exact jb.cells (S:=fun b=>b=q2∨b<wd.heap.size) q2 (.inl rfl) _ _ _);have JE:=lH (show Kept w9 WE by rw[←hWE];exact jm q2 _ _ _ _ _ Vv.out J.out);clear hWE hWE2 y0 y1 y2 f0 f1 f2;refine Ky.out _ _ (HS.out _ JE.out) (fun _=>?_);clear Ky K9;try simp only[nA,nB,nC,nD,nE]
    refine tR 11 rfl (by kernel_rfl) (fun _ _ _=>id) (Or.inl ⟨by rfl,by rintro W ⟨o0,o1,o2,o3,o4,o5,o6,o7,o8,o9,o10,o11,o12,o13⟩;go_simp<;>with_reducible rfl⟩) ‹_› ?_;try simp only[nA,nB,nC,nD,nE]
    refine wpAnyH_done (by kernel_rfl) ?_ _;go_wp2;go_meet
    case rel=>exact⟨q2,ha,hn,hc,rfl,rfl,P.out.cells,(Vm.out.step GE.out).here,JE.out⟩
  · go_simp;obtain⟨wa,hwa⟩:=eX (wd.alloc (.cells #[.string ⟨#[]⟩,.string ⟨#[]⟩,.slice none 0 0] 46))
    have kk:Kept wd wa:=by rw[←hwa];exact ja _ _
    obtain⟨RD,HA,Vv⟩:=lH3 kk.size (jc wd (.string ⟨#[]⟩) [.string ⟨#[]⟩,.slice none 0 0] 46 wa (by rw[hwa];exact Kept.refl _)) (show w9.heap.size≤wd.heap.size from J.out.size);obtain⟨q2,hq2⟩:=eX (wd.heap.size)
    rw[hq2] at HA Vv;try rw[hwa]
    try rw[hq2]
    have J:=lH (J.out.trans kk);clear hwa kk hq2;refine Ky.out _ _ (HS.out _ J.out) (fun _=>?_);clear Ky K9;try simp only[nA,nB,nC,nD,nE]
    have RE:=lH HA.out.lt;have NO:=lH RD.out;refine rd1 5 fun K9 Ky=>?_;go_simp;refine(Ui.out _ J.out).mono ?_;rintro e wc ⟨v,rfl,⟨ha,hn,hc,rfl,hrd⟩,kk⟩;obtain⟨HA,Vm,UP,J⟩:=lH4 (HA.out.kept kk) hrd Vv.out (J.out.trans kk);clear kk hrd;try rw[show (Option.some ((⟨#[120]⟩,⟨#[98]⟩,[⟨#[104,111,108,100,50]⟩]):Jb)).getD wzP=(⟨#[120]⟩,⟨#[98]⟩,[⟨#[104,111,108,100,50]⟩]) from rfl]
    try dsimp only
    refine Ky.out _ _ (HS.out _ J.out) (fun _=>?_);clear Ky K9;try simp only[nA,nB,nC,nD,nE]
    refine tR 6 rfl (by kernel_rfl) (fun _ _ _=>id) (Or.inl ⟨by rfl,by rintro W ⟨o0,o1,o2,o3,o4,o5,o6,o7,o8,o9,o10,o11,o12,o13⟩;go_simp<;>with_reducible rfl⟩) ‹_› ?_;refine tR 7 rfl (by kernel_rfl) (fun _ _ _=>id) (Or.inl ⟨by rfl,by rintro W ⟨o0,o1,o2,o3,o4,o5,o6,o7,o8,o9,o10,o11,o12,o13⟩;go_simp<;>with_reducible rfl⟩) ‹_› ?_;refine tR 8 rfl (by kernel_rfl) (fun _ _ _=>id) (Or.inl ⟨by rfl,by rintro W ⟨o0,o1,o2,o3,o4,o5,o6,o7,o8,o9,o10,o11,o12,o13⟩;go_simp<;>with_reducible rfl⟩) ‹_› ?_;try simp only[nA,nB,nC,nD,nE]
    have Vm:=lH (Vm.out.less (S':=fun b=>b=q2∨b<wd.heap.size) (fun k e=>by rcases e with e | e;(have e2:k=q2:=e;have:=RE.out;omega);(have e2:k<wd.heap.size:=e;have:=NO.out;omega)));have y0:=HA.out.at_ 0 _ rfl;have y1:=HA.out.at_ 1 _ rfl;have y2:=HA.out.at_ 2 _ rfl;have f0:=HA.out.free 0;have f1:=HA.out.free 1;have f2:=HA.out.free 2;have P:=lH (jW (vs:=[.string ⟨#[120]⟩,.string ⟨#[98]⟩,.slice ha hn hc]) HA.out rfl);refine rd1 10 fun K9 Ky=>?_;go_simp;obtain⟨WE,hWE⟩:=eX (wc.setCells q2 0 [.string ⟨#[120]⟩,.string ⟨#[98]⟩,.slice ha hn hc])
    have hWE2:(((wc.setCell ⟨q2,0,none⟩ (.string ⟨#[120]⟩)).setCell ⟨q2,1,none⟩ (.string ⟨#[98]⟩)).setCell ⟨q2,2,none⟩ (.slice ha hn hc))=WE:=hWE;rw[hWE] at P;try rw[hWE2]
    have GE:=lH (show jb (fun b=>b=q2∨b<wd.heap.size) wc WE by rw[←hWE];exact jb.cells (S:=fun b=>b=q2∨b<wd.heap.size) q2 (.inl rfl) _ _ _);have JE:=lH (show Kept w9 WE by rw[←hWE];exact jm q2 _ _ _ _ _ Vv.out J.out);clear hWE hWE2 y0 y1 y2 f0 f1 f2;refine Ky.out _ _ (HS.out _ JE.out) (fun _=>?_);clear Ky K9;try simp only[nA,nB,nC,nD,nE]
    refine tR 11 rfl (by kernel_rfl) (fun _ _ _=>id) (Or.inl ⟨by rfl,by rintro W ⟨o0,o1,o2,o3,o4,o5,o6,o7,o8,o9,o10,o11,o12,o13⟩;go_simp<;>with_reducible rfl⟩) ‹_› ?_;try simp only[nA,nB,nC,nD,nE]
    refine wpAnyH_done (by kernel_rfl) ?_ _;go_wp2;go_meet
    case rel=>exact⟨q2,ha,hn,hc,rfl,rfl,P.out.cells,(Vm.out.step GE.out).here,JE.out⟩
 case rest =>
  obtain⟨q2,ha,hn,hc,rfl,rfl,hx⟩:=hcut;obtain⟨w10,hw10⟩:∃W,W=wc:=⟨_,rfl⟩
  subst hw10;obtain⟨hwb,hrd,hk⟩:=hx.out;obtain⟨Ud,Vm,J⟩:=lH3 hwb hrd hk;clear hwb hrd hk hx HS Ui Ry TB;have Vz:=lH (show ∀W,Kept w9 W→Calls Tryz.prog 29 #[.agg #[.slice (some ⟨g1,0,none⟩) 2 2,.slice (some ⟨g2,0,none⟩) 4 4,.slice none 0 0]] W (Jt (zO peS) W) from fun W k=>jdt (some ⟨g1,0,none⟩) (some ⟨g2,0,none⟩) none 2 2 4 4 0 0 peS W (TC.out.kept k) Xk jdN);rw[jg4] at Vz;unfold Jt at Vz;obtain⟨y0,y1,y2⟩:=(HQ.out.kept J.out).at3;go_wp2_with fail
  clear y0 y1 y2;refine(Vz.out _ J.out).mono ?_;rintro e w11 ⟨v,rfl,⟨va,vn,vc,rfl,-⟩,kk⟩;try rw[show (Option.some ((⟨#[120]⟩,⟨#[98]⟩,[⟨#[104,111,108,100,50]⟩]):Jb)).getD wzP=(⟨#[120]⟩,⟨#[98]⟩,[⟨#[104,111,108,100,50]⟩]) from rfl]
  try dsimp only
  obtain⟨w12,hw12⟩:=eX (w11.alloc (.cells #[.string ⟨#[120]⟩,.string ⟨#[98]⟩,.slice va vn vc] 46))
  have kb:Kept w11 w12:=by rw[←hw12];exact ja _ _
  obtain⟨Uq,Ud,Vm,J⟩:=lH4 (jc w11 (.string ⟨#[120]⟩) [.string ⟨#[98]⟩,.slice va vn vc] 46 w12 (by rw[hw12];exact Kept.refl _)) (Ud.out.kept (kk.trans kb)) (Vm.out.kept (kk.trans kb)) (J.out.trans (kk.trans kb));obtain⟨q4,hq4⟩:=eX (w11.heap.size)
  have Uv:=lH hq4;have TD:=lH hw12;rw[hq4] at Uq;clear kk kb hq4 hw12 Vz;go_upto_region 4 with fail
  try rw[TD.out]
  try rw[Uv.out]
  clear TD Uv;have Vw:=lH (show ∀W,Kept w9 W→W.cell? ⟨g2+1,0,none⟩=some (.slice (some ⟨g1,0,none⟩) 2 2)∧W.cell? ⟨g2+1,1,none⟩=some (.slice (some ⟨g2,0,none⟩) 4 4)∧W.cell? ⟨g2+1,2,none⟩=some (.slice none 0 0) from fun W k=>(HQ.out.kept k).at3);have TW:=lH (show ∀b1 n1 d1 W,Kept w9 W→jq W (.slice b1 n1 d1) (.slice none 0 0) (.slice none 0 0) (.slice none 0 0) (peY)→Calls Tryz.prog 12 #[.agg #[.slice (some ⟨g1,0,none⟩) 2 2,.slice (some ⟨g2,0,none⟩) 4 4,.slice none 0 0],.agg #[.string ⟨#[121]⟩,.string ⟨#[]⟩,.int .i64 0,.slice b1 n1 d1,.slice none 0 0,.slice none 0 0,.slice none 0 0,.string ⟨#[]⟩,.int .i64 0,.string ⟨#[]⟩,.bool false]] W (Jt none W) from fun b1 n1 d1 W k hp=>by
   have h:=Z4 (some ⟨g1,0,none⟩) (some ⟨g2,0,none⟩) none 2 2 4 4 0 0 b1 none none none n1 d1 0 0 0 0 0 0 (peY) peS W (TC.out.kept k) Xk hp;rw[jhc] at h;exact h)
  unfold Jt at TW;go_cut [7] from 34 to 39 (fun s9 wx=>s9=.bool false∧Hid (Kept w12 wx))
  case first =>
   have JJ:=lH (Kept.drew w12);refine wp_region_held_drew (S:=fun W=>W.cell? ⟨g2+1,0,none⟩=some (.slice (some ⟨g1,0,none⟩) 2 2)∧W.cell? ⟨g2+1,1,none⟩=some (.slice (some ⟨g2,0,none⟩) 4 4)∧W.cell? ⟨g2+1,2,none⟩=some (.slice none 0 0)) (by kernel_rfl) (Vw.out _ (J.out.trans JJ.out)) (fun hHeld=>?_);obtain⟨wd,hwd⟩:=eX (w12.drew)
   rw[hwd] at JJ hHeld;try rw[hwd]
   clear hwd;refine tR 0 rfl (by kernel_rfl) (fun _ _ _=>id) (Or.inl ⟨by rfl,by rintro W ⟨o0,o1,o2⟩;go_simp<;>with_reducible rfl⟩) ‹_› ?_;try simp only[nA,nB,nC,nD,nE]
   refine wpAnyH_ready  (rs:=[1,6]) (by kernel_rfl) (by simp) (AllReadyH.cons  (by rw[List.getElem?_toArray];exact rfl) (fun K9 Ky=>?_) (AllReadyH.cons  (by rw[List.getElem?_toArray];exact rfl) (fun K9 Ky=>?_) AllReadyH.nil))
   · go_simp;refine(YG ⟨#[121]⟩ 11 ⟨#[]⟩ (by decide:(-9223372036854775808:Int)≤11∧(11:Int)≤9223372036854775807) (by decide:(1:Nat)≤maxLen) (by decide:(0:Nat)≤maxLen) _).mono ?_;rintro e wp ⟨b1,n1,d1,rfl,hpd,kk⟩;have VD:=lH hpd;have JJ:=lH (JJ.out.trans kk);clear kk hpd;refine Ky.out _ _ (Vw.out _ (J.out.trans JJ.out)) (fun _=>?_);clear Ky K9;try simp only[nA,nB,nC,nD,nE]
     refine wpAnyH_ready  (rs:=[2,6]) (by kernel_rfl) (by simp) (AllReadyH.cons  (by rw[List.getElem?_toArray];exact rfl) (fun K9 Ky=>?_) (AllReadyH.cons  (by rw[List.getElem?_toArray];exact rfl) (fun K9 Ky=>?_) AllReadyH.nil))
     · go_simp;refine(TW.out _ _ _ _ (J.out.trans JJ.out) VD.out).mono ?_;rintro e wcc ⟨v,rfl,⟨ha9,hn9,hc9,rfl,-⟩,kk⟩;have JJ:=lH (JJ.out.trans kk);clear kk VD;try rw[show (Option.none:Option Jb).getD wzP=(⟨#[]⟩,⟨#[]⟩,[]) from rfl]
       try dsimp only
       refine Ky.out _ _ (Vw.out _ (J.out.trans JJ.out)) (fun _=>?_);clear Ky K9;try simp only[nA,nB,nC,nD,nE]
       refine tR 3 rfl (by kernel_rfl) (fun _ _ _=>id) (Or.inl ⟨by rfl,by rintro W ⟨o0,o1,o2⟩;go_simp<;>with_reducible rfl⟩) ‹_› ?_;refine tR 4 rfl (by kernel_rfl) (fun _ _ _=>id) (Or.inl ⟨by rfl,by rintro W ⟨o0,o1,o2⟩;go_simp<;>with_reducible rfl⟩) ‹_› ?_;refine tR 5 rfl (by kernel_rfl) (fun _ _ _=>id) (Or.inl ⟨by rfl,by rintro W ⟨o0,o1,o2⟩;go_simp<;>with_reducible rfl⟩) ‹_› ?_;try simp only[nA,nB,nC,nD,nE]
       refine rd1 6 fun K9 Ky=>?_;go_simp;obtain⟨wa,hwa⟩:=eX (wcc.alloc (.cells #[.string ⟨#[]⟩,.string ⟨#[]⟩,.slice none 0 0] 46))
       have kk:Kept wcc wa:=by rw[←hwa];exact ja _ _
       have HA:=lH (jc wcc (.string ⟨#[]⟩) [.string ⟨#[]⟩,.slice none 0 0] 46 wa (by rw[hwa];exact Kept.refl _));have Vv:=lH (show w12.heap.size≤wcc.heap.size from JJ.out.size);obtain⟨q6,hq6⟩:=eX (wcc.heap.size)
       rw[hq6] at HA Vv;try rw[hwa]
       try rw[hq6]
       have JJ:=lH (JJ.out.trans kk);clear hwa kk hq6;refine Ky.out _ _ (Vw.out _ (J.out.trans JJ.out)) (fun _=>?_);clear Ky K9;try simp only[nA,nB,nC,nD,nE]
       have y0:=HA.out.at_ 0 _ rfl;have y1:=HA.out.at_ 1 _ rfl;have y2:=HA.out.at_ 2 _ rfl;have f0:=HA.out.free 0;have f1:=HA.out.free 1;have f2:=HA.out.free 2;skip;refine rd1 7 fun K9 Ky=>?_;go_simp;obtain⟨WE,hWE⟩:=eX (wa.setCells q6 0 [.string ⟨#[]⟩,.string ⟨#[]⟩,.slice ha9 hn9 hc9])
       have hWE2:(((wa.setCell ⟨q6,0,none⟩ (.string ⟨#[]⟩)).setCell ⟨q6,1,none⟩ (.string ⟨#[]⟩)).setCell ⟨q6,2,none⟩ (.slice ha9 hn9 hc9))=WE:=hWE;try rw[hWE2]
       have JJ:=lH (show Kept w12 WE by rw[←hWE];exact jm q6 _ _ _ _ _ Vv.out JJ.out);clear hWE hWE2 y0 y1 y2 f0 f1 f2;refine Ky.out _ _ (Vw.out _ (J.out.trans JJ.out)) (fun _=>?_);clear Ky K9;try simp only[nA,nB,nC,nD,nE]
       refine tR 8 rfl (by kernel_rfl) (fun _ _ _=>id) (Or.inl ⟨by rfl,by rintro W ⟨o0,o1,o2⟩;go_simp<;>with_reducible rfl⟩) ‹_› ?_;try simp only[nA,nB,nC,nD,nE]
       refine wpAnyH_done (by kernel_rfl) ?_ _;go_wp2;go_meet
       case rel=>exact⟨rfl,JJ⟩
     · go_simp;obtain⟨wa,hwa⟩:=eX (wp.alloc (.cells #[.string ⟨#[]⟩,.string ⟨#[]⟩,.slice none 0 0] 46))
       have kk:Kept wp wa:=by rw[←hwa];exact ja _ _
       have HA:=lH (jc wp (.string ⟨#[]⟩) [.string ⟨#[]⟩,.slice none 0 0] 46 wa (by rw[hwa];exact Kept.refl _));have Vv:=lH (show w12.heap.size≤wp.heap.size from JJ.out.size);obtain⟨q6,hq6⟩:=eX (wp.heap.size)
       rw[hq6] at HA Vv;try rw[hwa]
       try rw[hq6]
       have VD:=lH (VD.out.kept kk);have JJ:=lH (JJ.out.trans kk);clear hwa kk hq6;refine Ky.out _ _ (Vw.out _ (J.out.trans JJ.out)) (fun _=>?_);clear Ky K9;try simp only[nA,nB,nC,nD,nE]
       refine rd1 2 fun K9 Ky=>?_;go_simp;refine(TW.out _ _ _ _ (J.out.trans JJ.out) VD.out).mono ?_;rintro e wcc ⟨v,rfl,⟨ha9,hn9,hc9,rfl,-⟩,kk⟩;have HA:=lH (HA.out.kept kk);have JJ:=lH (JJ.out.trans kk);clear kk VD;try rw[show (Option.none:Option Jb).getD wzP=(⟨#[]⟩,⟨#[]⟩,[]) from rfl]
       try dsimp only
       refine Ky.out _ _ (Vw.out _ (J.out.trans JJ.out)) (fun _=>?_);clear Ky K9;try simp only[nA,nB,nC,nD,nE]
       refine tR 3 rfl (by kernel_rfl) (fun _ _ _=>id) (Or.inl ⟨by rfl,by rintro W ⟨o0,o1,o2⟩;go_simp<;>with_reducible rfl⟩) ‹_› ?_;refine tR 4 rfl (by kernel_rfl) (fun _ _ _=>id) (Or.inl ⟨by rfl,by rintro W ⟨o0,o1,o2⟩;go_simp<;>with_reducible rfl⟩) ‹_› ?_;refine tR 5 rfl (by kernel_rfl) (fun _ _ _=>id) (Or.inl ⟨by rfl,by rintro W ⟨o0,o1,o2⟩;go_simp<;>with_reducible rfl⟩) ‹_› ?_;try simp only[nA,nB,nC,nD,nE]
       have y0:=HA.out.at_ 0 _ rfl;have y1:=HA.out.at_ 1 _ rfl;have y2:=HA.out.at_ 2 _ rfl;have f0:=HA.out.free 0;have f1:=HA.out.free 1;have f2:=HA.out.free 2;skip;refine rd1 7 fun K9 Ky=>?_;go_simp;obtain⟨WE,hWE⟩:=eX (wcc.setCells q6 0 [.string ⟨#[]⟩,.string ⟨#[]⟩,.slice ha9 hn9 hc9])
       have hWE2:(((wcc.setCell ⟨q6,0,none⟩ (.string ⟨#[]⟩)).setCell ⟨q6,1,none⟩ (.string ⟨#[]⟩)).setCell ⟨q6,2,none⟩ (.slice ha9 hn9 hc9))=WE:=hWE;try rw[hWE2]
       have JJ:=lH (show Kept w12 WE by rw[←hWE];exact jm q6 _ _ _ _ _ Vv.out JJ.out);clear hWE hWE2 y0 y1 y2 f0 f1 f2;refine Ky.out _ _ (Vw.out _ (J.out.trans JJ.out)) (fun _=>?_);clear Ky K9;try simp only[nA,nB,nC,nD,nE]
       refine tR 8 rfl (by kernel_rfl) (fun _ _ _=>id) (Or.inl ⟨by rfl,by rintro W ⟨o0,o1,o2⟩;go_simp<;>with_reducible rfl⟩) ‹_› ?_;try simp only[nA,nB,nC,nD,nE]
       refine wpAnyH_done (by kernel_rfl) ?_ _;go_wp2;go_meet
       case rel=>exact⟨rfl,JJ⟩
   · go_simp;obtain⟨wa,hwa⟩:=eX (wd.alloc (.cells #[.string ⟨#[]⟩,.string ⟨#[]⟩,.slice none 0 0] 46))
     have kk:Kept wd wa:=by rw[←hwa];exact ja _ _
     have HA:=lH (jc wd (.string ⟨#[]⟩) [.string ⟨#[]⟩,.slice none 0 0] 46 wa (by rw[hwa];exact Kept.refl _));have Vv:=lH (show w12.heap.size≤wd.heap.size from JJ.out.size);obtain⟨q6,hq6⟩:=eX (wd.heap.size)
     rw[hq6] at HA Vv;try rw[hwa]
     try rw[hq6]
     have JJ:=lH (JJ.out.trans kk);clear hwa kk hq6;refine Ky.out _ _ (Vw.out _ (J.out.trans JJ.out)) (fun _=>?_);clear Ky K9;try simp only[nA,nB,nC,nD,nE]
     refine rd1 1 fun K9 Ky=>?_;go_simp;refine(YG ⟨#[121]⟩ 11 ⟨#[]⟩ (by decide:(-9223372036854775808:Int)≤11∧(11:Int)≤9223372036854775807) (by decide:(1:Nat)≤maxLen) (by decide:(0:Nat)≤maxLen) _).mono ?_;rintro e wp ⟨b1,n1,d1,rfl,hpd,kk⟩;obtain⟨HA,VD,JJ⟩:=lH3 (HA.out.kept kk) hpd (JJ.out.trans kk);clear kk hpd;refine Ky.out _ _ (Vw.out _ (J.out.trans JJ.out)) (fun _=>?_);clear Ky K9;try simp only[nA,nB,nC,nD,nE]
     refine rd1 2 fun K9 Ky=>?_;go_simp;refine(TW.out _ _ _ _ (J.out.trans JJ.out) VD.out).mono ?_;rintro e wcc ⟨v,rfl,⟨ha9,hn9,hc9,rfl,-⟩,kk⟩;have HA:=lH (HA.out.kept kk);have JJ:=lH (JJ.out.trans kk);clear kk VD;try rw[show (Option.none:Option Jb).getD wzP=(⟨#[]⟩,⟨#[]⟩,[]) from rfl]
     try dsimp only
     refine Ky.out _ _ (Vw.out _ (J.out.trans JJ.out)) (fun _=>?_);clear Ky K9;try simp only[nA,nB,nC,nD,nE]
     refine tR 3 rfl (by kernel_rfl) (fun _ _ _=>id) (Or.inl ⟨by rfl,by rintro W ⟨o0,o1,o2⟩;go_simp<;>with_reducible rfl⟩) ‹_› ?_;refine tR 4 rfl (by kernel_rfl) (fun _ _ _=>id) (Or.inl ⟨by rfl,by rintro W ⟨o0,o1,o2⟩;go_simp<;>with_reducible rfl⟩) ‹_› ?_;refine tR 5 rfl (by kernel_rfl) (fun _ _ _=>id) (Or.inl ⟨by rfl,by rintro W ⟨o0,o1,o2⟩;go_simp<;>with_reducible rfl⟩) ‹_› ?_;try simp only[nA,nB,nC,nD,nE]
     have y0:=HA.out.at_ 0 _ rfl;have y1:=HA.out.at_ 1 _ rfl;have y2:=HA.out.at_ 2 _ rfl;have f0:=HA.out.free 0;have f1:=HA.out.free 1;have f2:=HA.out.free 2;skip;refine rd1 7 fun K9 Ky=>?_;go_simp;obtain⟨WE,hWE⟩:=eX (wcc.setCells q6 0 [.string ⟨#[]⟩,.string ⟨#[]⟩,.slice ha9 hn9 hc9])
     have hWE2:(((wcc.setCell ⟨q6,0,none⟩ (.string ⟨#[]⟩)).setCell ⟨q6,1,none⟩ (.string ⟨#[]⟩)).setCell ⟨q6,2,none⟩ (.slice ha9 hn9 hc9))=WE:=hWE;try rw[hWE2]
     have JJ:=lH (show Kept w12 WE by rw[←hWE];exact jm q6 _ _ _ _ _ Vv.out JJ.out);clear hWE hWE2 y0 y1 y2 f0 f1 f2;refine Ky.out _ _ (Vw.out _ (J.out.trans JJ.out)) (fun _=>?_);clear Ky K9;try simp only[nA,nB,nC,nD,nE]
     refine tR 8 rfl (by kernel_rfl) (fun _ _ _=>id) (Or.inl ⟨by rfl,by rintro W ⟨o0,o1,o2⟩;go_simp<;>with_reducible rfl⟩) ‹_› ?_;try simp only[nA,nB,nC,nD,nE]
     refine wpAnyH_done (by kernel_rfl) ?_ _;go_wp2;go_meet
     case rel=>exact⟨rfl,JJ⟩
  case rest =>
   obtain⟨rfl,hx⟩:=hcut;obtain⟨w13,hnw⟩:∃W,W=wc:=⟨_,rfl⟩
   subst hnw;have kx:=hx.out;obtain⟨Ud,Vm,Uq,J⟩:=lH4 (Ud.out.kept kx) (Vm.out.kept kx) (Uq.out.kept kx) (J.out.trans kx);clear hx kx;go_upto_region 5 with fail
   have TX:=lH (show ∀b1 n1 d1 W,Kept w9 W→jq W (.slice b1 n1 d1) (.slice none 0 0) (.slice none 0 0) (.slice none 0 0) (Je ⟨#[104,111,108,100,57]⟩ 1 ⟨#[]⟩)→Calls Tryz.prog 12 #[.agg #[.slice (some ⟨g1,0,none⟩) 2 2,.slice (some ⟨g2,0,none⟩) 4 4,.slice none 0 0],.agg #[.string ⟨#[104,111,108,100,57]⟩,.string ⟨#[]⟩,.int .i64 (-1),.slice b1 n1 d1,.slice none 0 0,.slice none 0 0,.slice none 0 0,.string ⟨#[]⟩,.int .i64 0,.string ⟨#[]⟩,.bool true]] W (Jt none W) from fun b1 n1 d1 W k hp=>by
    have h:=Z4 (some ⟨g1,0,none⟩) (some ⟨g2,0,none⟩) none 2 2 4 4 0 0 b1 none none none n1 d1 0 0 0 0 0 0 (Je ⟨#[104,111,108,100,57]⟩ 1 ⟨#[]⟩) peS W (TC.out.kept k) Xk hp;rw[jgZ] at h;exact h)
   unfold Jt at TX;go_cut [9] from 40 to 45 (fun s9 wx=>s9=.bool false∧Hid (Kept w13 wx))
   case first =>
    have JJ:=lH (Kept.drew w13);refine wp_region_held_drew (S:=fun W=>W.cell? ⟨g2+1,0,none⟩=some (.slice (some ⟨g1,0,none⟩) 2 2)∧W.cell? ⟨g2+1,1,none⟩=some (.slice (some ⟨g2,0,none⟩) 4 4)∧W.cell? ⟨g2+1,2,none⟩=some (.slice none 0 0)) (by kernel_rfl) (Vw.out _ (J.out.trans JJ.out)) (fun hHeld=>?_);obtain⟨wd,hwd⟩:=eX (w13.drew)
    rw[hwd] at JJ hHeld;try rw[hwd]
    clear hwd;refine tR 0 rfl (by kernel_rfl) (fun _ _ _=>id) (Or.inl ⟨by rfl,by rintro W ⟨o0,o1,o2⟩;go_simp<;>with_reducible rfl⟩) ‹_› ?_;try simp only[nA,nB,nC,nD,nE]
    refine wpAnyH_ready  (rs:=[1,6]) (by kernel_rfl) (by simp) (AllReadyH.cons  (by rw[List.getElem?_toArray];exact rfl) (fun K9 Ky=>?_) (AllReadyH.cons  (by rw[List.getElem?_toArray];exact rfl) (fun K9 Ky=>?_) AllReadyH.nil))
    · go_simp;refine(J5 9 (by decide) 1 ⟨#[104,111,108,100,57]⟩ ⟨#[]⟩ (by decide:(-9223372036854775808:Int)≤1∧(1:Int)≤9223372036854775807) (zU 9 (by decide)).1 (zU 9 (by decide)).2 (by decide:(5:Nat)≤maxLen) (by decide:(0:Nat)≤maxLen) _).mono ?_;rintro e wp ⟨b1,n1,d1,rfl,hpd,kk,-⟩;have VD:=lH hpd;have JJ:=lH (JJ.out.trans kk);clear kk hpd;refine Ky.out _ _ (Vw.out _ (J.out.trans JJ.out)) (fun _=>?_);clear Ky K9;try simp only[nA,nB,nC,nD,nE]
      refine wpAnyH_ready  (rs:=[2,6]) (by kernel_rfl) (by simp) (AllReadyH.cons  (by rw[List.getElem?_toArray];exact rfl) (fun K9 Ky=>?_) (AllReadyH.cons  (by rw[List.getElem?_toArray];exact rfl) (fun K9 Ky=>?_) AllReadyH.nil))
      · go_simp;refine(TX.out _ _ _ _ (J.out.trans JJ.out) VD.out).mono ?_;rintro e wcc ⟨v,rfl,⟨ha9,hn9,hc9,rfl,-⟩,kk⟩;have JJ:=lH (JJ.out.trans kk);clear kk VD;try rw[show (Option.none:Option Jb).getD wzP=(⟨#[]⟩,⟨#[]⟩,[]) from rfl]
        try dsimp only
        refine Ky.out _ _ (Vw.out _ (J.out.trans JJ.out)) (fun _=>?_);clear Ky K9;try simp only[nA,nB,nC,nD,nE]
        refine tR 3 rfl (by kernel_rfl) (fun _ _ _=>id) (Or.inl ⟨by rfl,by rintro W ⟨o0,o1,o2⟩;go_simp<;>with_reducible rfl⟩) ‹_› ?_;refine tR 4 rfl (by kernel_rfl) (fun _ _ _=>id) (Or.inl ⟨by rfl,by rintro W ⟨o0,o1,o2⟩;go_simp<;>with_reducible rfl⟩) ‹_› ?_;refine tR 5 rfl (by kernel_rfl) (fun _ _ _=>id) (Or.inl ⟨by rfl,by rintro W ⟨o0,o1,o2⟩;go_simp<;>with_reducible rfl⟩) ‹_› ?_;try simp only[nA,nB,nC,nD,nE]
        refine rd1 6 fun K9 Ky=>?_;go_simp;obtain⟨wa,hwa⟩:=eX (wcc.alloc (.cells #[.string ⟨#[]⟩,.string ⟨#[]⟩,.slice none 0 0] 46))
        have kk:Kept wcc wa:=by rw[←hwa];exact ja _ _
        have HA:=lH (jc wcc (.string ⟨#[]⟩) [.string ⟨#[]⟩,.slice none 0 0] 46 wa (by rw[hwa];exact Kept.refl _));have Vv:=lH (show w13.heap.size≤wcc.heap.size from JJ.out.size);obtain⟨q6,hq6⟩:=eX (wcc.heap.size)
        rw[hq6] at HA Vv;try rw[hwa]
        try rw[hq6]
        have JJ:=lH (JJ.out.trans kk);clear hwa kk hq6;refine Ky.out _ _ (Vw.out _ (J.out.trans JJ.out)) (fun _=>?_);clear Ky K9;try simp only[nA,nB,nC,nD,nE]
        have y0:=HA.out.at_ 0 _ rfl;have y1:=HA.out.at_ 1 _ rfl;have y2:=HA.out.at_ 2 _ rfl;have f0:=HA.out.free 0;have f1:=HA.out.free 1;have f2:=HA.out.free 2;skip;refine rd1 7 fun K9 Ky=>?_;go_simp;obtain⟨WE,hWE⟩:=eX (wa.setCells q6 0 [.string ⟨#[]⟩,.string ⟨#[]⟩,.slice ha9 hn9 hc9])
        have hWE2:(((wa.setCell ⟨q6,0,none⟩ (.string ⟨#[]⟩)).setCell ⟨q6,1,none⟩ (.string ⟨#[]⟩)).setCell ⟨q6,2,none⟩ (.slice ha9 hn9 hc9))=WE:=hWE;try rw[hWE2]
        have JJ:=lH (show Kept w13 WE by rw[←hWE];exact jm q6 _ _ _ _ _ Vv.out JJ.out);clear hWE hWE2 y0 y1 y2 f0 f1 f2;refine Ky.out _ _ (Vw.out _ (J.out.trans JJ.out)) (fun _=>?_);clear Ky K9;try simp only[nA,nB,nC,nD,nE]
        refine tR 8 rfl (by kernel_rfl) (fun _ _ _=>id) (Or.inl ⟨by rfl,by rintro W ⟨o0,o1,o2⟩;go_simp<;>with_reducible rfl⟩) ‹_› ?_;try simp only[nA,nB,nC,nD,nE]
        refine wpAnyH_done (by kernel_rfl) ?_ _;go_wp2;go_meet
        case rel=>exact⟨rfl,JJ⟩
      · go_simp;obtain⟨wa,hwa⟩:=eX (wp.alloc (.cells #[.string ⟨#[]⟩,.string ⟨#[]⟩,.slice none 0 0] 46))
        have kk:Kept wp wa:=by rw[←hwa];exact ja _ _
        have HA:=lH (jc wp (.string ⟨#[]⟩) [.string ⟨#[]⟩,.slice none 0 0] 46 wa (by rw[hwa];exact Kept.refl _));have Vv:=lH (show w13.heap.size≤wp.heap.size from JJ.out.size);obtain⟨q6,hq6⟩:=eX (wp.heap.size)
        rw[hq6] at HA Vv;try rw[hwa]
        try rw[hq6]
        have VD:=lH (VD.out.kept kk);have JJ:=lH (JJ.out.trans kk);clear hwa kk hq6;refine Ky.out _ _ (Vw.out _ (J.out.trans JJ.out)) (fun _=>?_);clear Ky K9;try simp only[nA,nB,nC,nD,nE]
        refine rd1 2 fun K9 Ky=>?_;go_simp;refine(TX.out _ _ _ _ (J.out.trans JJ.out) VD.out).mono ?_;rintro e wcc ⟨v,rfl,⟨ha9,hn9,hc9,rfl,-⟩,kk⟩;have HA:=lH (HA.out.kept kk);have JJ:=lH (JJ.out.trans kk);clear kk VD;try rw[show (Option.none:Option Jb).getD wzP=(⟨#[]⟩,⟨#[]⟩,[]) from rfl]
        try dsimp only
        refine Ky.out _ _ (Vw.out _ (J.out.trans JJ.out)) (fun _=>?_);clear Ky K9;try simp only[nA,nB,nC,nD,nE]
        refine tR 3 rfl (by kernel_rfl) (fun _ _ _=>id) (Or.inl ⟨by rfl,by rintro W ⟨o0,o1,o2⟩;go_simp<;>with_reducible rfl⟩) ‹_› ?_;refine tR 4 rfl (by kernel_rfl) (fun _ _ _=>id) (Or.inl ⟨by rfl,by rintro W ⟨o0,o1,o2⟩;go_simp<;>with_reducible rfl⟩) ‹_› ?_;refine tR 5 rfl (by kernel_rfl) (fun _ _ _=>id) (Or.inl ⟨by rfl,by rintro W ⟨o0,o1,o2⟩;go_simp<;>with_reducible rfl⟩) ‹_› ?_;try simp only[nA,nB,nC,nD,nE]
        have y0:=HA.out.at_ 0 _ rfl;have y1:=HA.out.at_ 1 _ rfl;have y2:=HA.out.at_ 2 _ rfl;have f0:=HA.out.free 0;have f1:=HA.out.free 1;have f2:=HA.out.free 2;skip;refine rd1 7 fun K9 Ky=>?_;go_simp;obtain⟨WE,hWE⟩:=eX (wcc.setCells q6 0 [.string ⟨#[]⟩,.string ⟨#[]⟩,.slice ha9 hn9 hc9])
        have hWE2:(((wcc.setCell ⟨q6,0,none⟩ (.string ⟨#[]⟩)).setCell ⟨q6,1,none⟩ (.string ⟨#[]⟩)).setCell ⟨q6,2,none⟩ (.slice ha9 hn9 hc9))=WE:=hWE;try rw[hWE2]
        have JJ:=lH (show Kept w13 WE by rw[←hWE];exact jm q6 _ _ _ _ _ Vv.out JJ.out);clear hWE hWE2 y0 y1 y2 f0 f1 f2;refine Ky.out _ _ (Vw.out _ (J.out.trans JJ.out)) (fun _=>?_);clear Ky K9;try simp only[nA,nB,nC,nD,nE]
        refine tR 8 rfl (by kernel_rfl) (fun _ _ _=>id) (Or.inl ⟨by rfl,by rintro W ⟨o0,o1,o2⟩;go_simp<;>with_reducible rfl⟩) ‹_› ?_;try simp only[nA,nB,nC,nD,nE]
        refine wpAnyH_done (by kernel_rfl) ?_ _;go_wp2;go_meet
        case rel=>exact⟨rfl,JJ⟩
    · go_simp;obtain⟨wa,hwa⟩:=eX (wd.alloc (.cells #[.string ⟨#[]⟩,.string ⟨#[]⟩,.slice none 0 0] 46))
      have kk:Kept wd wa:=by rw[←hwa];exact ja _ _
      have HA:=lH (jc wd (.string ⟨#[]⟩) [.string ⟨#[]⟩,.slice none 0 0] 46 wa (by rw[hwa];exact Kept.refl _));have Vv:=lH (show w13.heap.size≤wd.heap.size from JJ.out.size);obtain⟨q6,hq6⟩:=eX (wd.heap.size)
      rw[hq6] at HA Vv;try rw[hwa]
      try rw[hq6]
      have JJ:=lH (JJ.out.trans kk);clear hwa kk hq6;refine Ky.out _ _ (Vw.out _ (J.out.trans JJ.out)) (fun _=>?_);clear Ky K9;try simp only[nA,nB,nC,nD,nE]
      refine rd1 1 fun K9 Ky=>?_;go_simp;refine(J5 9 (by decide) 1 ⟨#[104,111,108,100,57]⟩ ⟨#[]⟩ (by decide:(-9223372036854775808:Int)≤1∧(1:Int)≤9223372036854775807) (zU 9 (by decide)).1 (zU 9 (by decide)).2 (by decide:(5:Nat)≤maxLen) (by decide:(0:Nat)≤maxLen) _).mono ?_;rintro e wp ⟨b1,n1,d1,rfl,hpd,kk,-⟩;obtain⟨HA,VD,JJ⟩:=lH3 (HA.out.kept kk) hpd (JJ.out.trans kk);clear kk hpd;refine Ky.out _ _ (Vw.out _ (J.out.trans JJ.out)) (fun _=>?_);clear Ky K9;try simp only[nA,nB,nC,nD,nE]
      refine rd1 2 fun K9 Ky=>?_;go_simp;refine(TX.out _ _ _ _ (J.out.trans JJ.out) VD.out).mono ?_;rintro e wcc ⟨v,rfl,⟨ha9,hn9,hc9,rfl,-⟩,kk⟩;have HA:=lH (HA.out.kept kk);have JJ:=lH (JJ.out.trans kk);clear kk VD;try rw[show (Option.none:Option Jb).getD wzP=(⟨#[]⟩,⟨#[]⟩,[]) from rfl]
      try dsimp only
      refine Ky.out _ _ (Vw.out _ (J.out.trans JJ.out)) (fun _=>?_);clear Ky K9;try simp only[nA,nB,nC,nD,nE]
      refine tR 3 rfl (by kernel_rfl) (fun _ _ _=>id) (Or.inl ⟨by rfl,by rintro W ⟨o0,o1,o2⟩;go_simp<;>with_reducible rfl⟩) ‹_› ?_;refine tR 4 rfl (by kernel_rfl) (fun _ _ _=>id) (Or.inl ⟨by rfl,by rintro W ⟨o0,o1,o2⟩;go_simp<;>with_reducible rfl⟩) ‹_› ?_;refine tR 5 rfl (by kernel_rfl) (fun _ _ _=>id) (Or.inl ⟨by rfl,by rintro W ⟨o0,o1,o2⟩;go_simp<;>with_reducible rfl⟩) ‹_› ?_;try simp only[nA,nB,nC,nD,nE]
      have y0:=HA.out.at_ 0 _ rfl;have y1:=HA.out.at_ 1 _ rfl;have y2:=HA.out.at_ 2 _ rfl;have f0:=HA.out.free 0;have f1:=HA.out.free 1;have f2:=HA.out.free 2;skip;refine rd1 7 fun K9 Ky=>?_;go_simp;obtain⟨WE,hWE⟩:=eX (wcc.setCells q6 0 [.string ⟨#[]⟩,.string ⟨#[]⟩,.slice ha9 hn9 hc9])
      have hWE2:(((wcc.setCell ⟨q6,0,none⟩ (.string ⟨#[]⟩)).setCell ⟨q6,1,none⟩ (.string ⟨#[]⟩)).setCell ⟨q6,2,none⟩ (.slice ha9 hn9 hc9))=WE:=hWE;try rw[hWE2]
      have JJ:=lH (show Kept w13 WE by rw[←hWE];exact jm q6 _ _ _ _ _ Vv.out JJ.out);clear hWE hWE2 y0 y1 y2 f0 f1 f2;refine Ky.out _ _ (Vw.out _ (J.out.trans JJ.out)) (fun _=>?_);clear Ky K9;try simp only[nA,nB,nC,nD,nE]
      refine tR 8 rfl (by kernel_rfl) (fun _ _ _=>id) (Or.inl ⟨by rfl,by rintro W ⟨o0,o1,o2⟩;go_simp<;>with_reducible rfl⟩) ‹_› ?_;try simp only[nA,nB,nC,nD,nE]
      refine wpAnyH_done (by kernel_rfl) ?_ _;go_wp2;go_meet
      case rel=>exact⟨rfl,JJ⟩
   case rest =>
    obtain⟨rfl,hx⟩:=hcut;obtain⟨w14,hnw⟩:∃W,W=wc:=⟨_,rfl⟩
    subst hnw;have kx:=hx.out;obtain⟨Ud,Vm,Uq,J⟩:=lH4 (Ud.out.kept kx) (Vm.out.kept kx) (Uq.out.kept kx) (J.out.trans kx);clear hx kx;have R8:=lH (jfI (some ⟨g1,0,none⟩) (some ⟨g2,0,none⟩) none 2 2 4 4 0 0 peS ⟨#[120]⟩ ⟨#[98]⟩ ha hn hc [⟨#[104,111,108,100,50]⟩] w14 (TC.out.kept J.out) Xk Vm.out (by decide:(1:Nat)≤maxLen));obtain⟨y0,y1,y2⟩:=(HQ.out.kept J.out).at3;obtain⟨z0,z1,z2⟩:=Ud.out.at3;go_wp2_with fail
    clear y0 y1 y2 z0 z1 z2;refine R8.out.mono ?_;rintro e w15 ⟨v,rfl,hcl,kk⟩;obtain⟨t1,k1,e1,t2,k2,e2,t3,k3,e3,rfl⟩:=hcl.spelt;obtain⟨u1,u2,u3,hu,hat⟩:=hcl
    cases hu
    obtain⟨rfl,TY⟩:k2=3∧Hid (jv w15 t2 3 (zv (Jg peS [⟨#[104,111,108,100,50]⟩]) ⟨#[120]⟩ ⟨#[98]⟩).pods):=by
     obtain⟨a9,c9,e9,-,-,h9⟩:=hat.pods;have h3:(zv (Jg peS [⟨#[104,111,108,100,50]⟩]) ⟨#[120]⟩ ⟨#[98]⟩).pods.length=3:=by kernel_rfl
     rw[h3] at e9 h9
     cases e9
     exact⟨rfl,lH h9⟩
    obtain⟨w16,hw16⟩:=eX (w15.alloc (.cells #[.slice t1 k1 e1,.slice t2 3 e2,.slice t3 k3 e3] 35))
    have kb:Kept w15 w16:=by rw[←hw16];exact ja _ _
    obtain⟨Vx,TY,Ud,Vm,Uq,J⟩:=lH6 (jc w15 (.slice t1 k1 e1) [.slice t2 3 e2,.slice t3 k3 e3] 35 w16 (by rw[hw16];exact Kept.refl _)) (TY.out.kept kb) (Ud.out.kept (kk.trans kb)) (Vm.out.kept (kk.trans kb)) (Uq.out.kept (kk.trans kb)) (J.out.trans (kk.trans kb));obtain⟨q9,hq9⟩:=eX (w15.heap.size)
    have R9:=lH hq9;have TE:=lH hw16;rw[hq9] at Vx;clear kk kb hq9 hw16 R8 hat;go_upto_region 7 with fail
    try rw[TE.out]
    try rw[R9.out]
    clear TE R9;obtain⟨bt,ot,rfl⟩:=TY.out.form.resolve_left (by decide);obtain⟨n9,x1,m1,c1,x2,m2,c2,x3,m3,c3,x4,m4,c4,hn9,-,-,p0,p1,p2,p3,p4,p5,p6,p7,p8,p9,p10,-⟩:=TY.out.at_ (show 2<3 by decide);have hnode:n9.node=⟨#[98]⟩:=by
     have h1:((zv (Jg peS [⟨#[104,111,108,100,50]⟩]) ⟨#[120]⟩ ⟨#[98]⟩).pods.map fun p=>p.node)[2]?=some ⟨#[98]⟩:=by
      show ((zv (jw peS _) _ _).pods.map fun p=>p.node)[2]?=_;rw[jg7];rfl
     rw[List.getElem?_map,hn9] at h1;exact Option.some.inj h1
    rw[hnode] at p9;have NP:=lH p9;clear hn9 hnode p0 p1 p2 p3 p4 p5 p6 p7 p8 p10;have ex:(((⟨#[120]⟩:ByteArray).toList==(⟨#[120]⟩:ByteArray).toList))=true:=by simp
    have eb:(((⟨#[98]⟩:ByteArray).toList==(⟨#[98]⟩:ByteArray).toList))=true:=by simp
    obtain⟨z0,z1,z2⟩:=Ud.out.at3;obtain⟨v0,v1,v2⟩:=Uq.out.at3;obtain⟨t0,t9,t8⟩:=Vx.out.at3;obtain⟨y0,y1,y2⟩:=(HQ.out.kept J.out).at3;go_wp2_with fail
    refine(jgv (Vm.out.kept (ja _ _)) (jfV w16 ⟨#[104,111,108,100,50]⟩ (by decide:(5:Nat)≤maxLen)).reads).mono ?_;rintro e w17 ⟨rfl,kk⟩;have JX:=lH ((ja w16 (.cells #[.string ⟨#[104,111,108,100,50]⟩] 9)).trans kk);clear kk z0 z1 z2 v0 v1 v2 t0 t9 t8 y0 y1 y2 p9;obtain⟨z0,z1,z2⟩:=(Ud.out.kept JX.out).at3;obtain⟨v0,v1,v2⟩:=(Uq.out.kept JX.out).at3;obtain⟨t0,t9,t8⟩:=(Vx.out.kept JX.out).at3;obtain⟨y0,y1,y2⟩:=(HQ.out.kept (J.out.trans JX.out)).at3;have p9:=cell_later JX.out NP.out;go_wp2;go_ret;exact⟨rfl,K.out.trans (J.out.trans JX.out)⟩
theorem jd2:∀x,x<10→∀y,y<10→(wfB x y).pods.length≤20:=by decide +kernel
theorem jco:∀i,i<20→(X3 i).size≤maxLen:=by decide +kernel
theorem ZO (x:ByteArray) (c:Int) (y:ByteArray):ZG (Je x c y):=⟨(by decide:(1:Nat)≤1000000),(by decide:(0:Nat)≤1000000),(by decide:(0:Nat)≤1000000),(by decide:(0:Nat)≤1000000)⟩
theorem XB:∀n,n<10→jn (wfA n)
 | 0,_=>⟨fun n hn=>by
  unfold wfA at hn;simp only[List.mem_cons,List.not_mem_nil,or_false] at hn;rcases hn with rfl | rfl<;>exact⟨(by decide:(1:Nat)≤1000000),(by decide:(0:Nat)≤1000000),(by decide:(0:Nat)≤1000000)⟩,(fun n h=>by cases h),(fun n h=>by cases h),(by decide:(2:Nat)≤100000),(by decide:(0:Nat)≤100000),(by decide:(0:Nat)≤100000)⟩
 | n+1,h=>qO (XB n (by omega)) (ZO _ _ _) (Nat.le_trans (jd2 n (by omega) 0 (by omega)) (by decide))
theorem XA (x:Nat) (hx:x<10):∀n,n<10→jn (wfB x n)
 | 0,_=>XB x hx
 | n+1,h=>qO (XA x hx n (by omega)) (ZO _ _ _) (Nat.le_trans (jd2 x hx n (by omega)) (by decide))
def WFI (q:Nat) (s:Clu) (w wr:World):Prop:=∃a1 t1 c1 a2 t2 c2 a3 t3 c3,je q [.slice a1 t1 c1,.slice a2 t2 c2,.slice a3 t3 c3] wr∧(Off (fun b=>b=q) wr fun u=>jC u (.agg #[.slice a1 t1 c1,.slice a2 t2 c2,.slice a3 t3 c3]) s)∧Kept w wr
theorem qh {v:Value} {s:Clu} {p:Pd} {w:World} {b1:Option Addr} {n1 d1:Nat} (h:jC w v s) (hp:jq w (.slice b1 n1 d1) (.slice none 0 0) (.slice none 0 0) (.slice none 0 0) p) (hl:jn s) (hP:ZG p):Calls Tryz.prog 9 #[v,jo p (.slice b1 n1 d1) (.slice none 0 0) (.slice none 0 0) (.slice none 0 0)] w fun e w'=>∃u1 v1 x1 u2 v2 x2 u3 v3 x3,e=.returned (.agg #[.slice u1 v1 x1,.slice u2 v2 x2,.slice u3 v3 x3])∧ju (fun b=>b<w.heap.size) w.heap.size w' (.slice u1 v1 x1) (.slice u2 v2 x2) (.slice u3 v3 x3) (zo s p)∧Kept w w':=by
 obtain⟨v1,v2,v3,rfl,⟨a,cap,rfl,l1,m1,h1⟩,⟨b,cp,rfl,l2,m2,h2⟩,⟨d,cb,rfl,l3,m3,h3⟩⟩:=h;exact jet a b d _ cap _ cp _ cb s.nodes s.pods s.buds p b1 none none none n1 d1 0 0 0 0 0 0 w h1 h2 h3 l1 m1 l2 m2 l3 m3 hl hp hP
theorem few_walk (a e d:Int) (w:World) (ha:0≤a∧a<256) (he:0≤e∧e<256) (hd:0≤d∧d<256):Calls Tryz.prog 3 #[.int .u8 a,.int .u8 e,.int .u8 d] w (Say (.bool true) w):=by
 obtain⟨x,hx⟩:∃q:Nat,a % 10=(q:Int):=⟨(a % 10).toNat,by omega⟩
 have hxb:x<10:=by omega
 obtain⟨y,hy⟩:∃q:Nat,e % 10=(q:Int):=⟨(e % 10).toNat,by omega⟩
 have hyb:y<10:=by omega
 obtain⟨m,hm⟩:∃q:Nat,d % 12=(q:Int):=⟨(d % 12).toNat,by omega⟩
 have hmb:m<12:=by omega
 go_enter Tryz.func3,Tryz.ntmps3;go_wp2_with fail
 refine(jbQ w).mono ?_;rintro e1 w1 ⟨rfl,kk⟩;have K:=lH kk;have U1:=lH kk.size;clear kk;go_wp2_with fail
 refine(YD ⟨#[97]⟩ 9 (by decide:(-9223372036854775808:Int)≤9∧(9:Int)≤9223372036854775807) (by decide:(1:Nat)≤maxLen) _).mono ?_;rintro e2 w2 ⟨b1,n1,d1,rfl,ha,k⟩;have K:=lH (K.out.trans k);have Uh:=lH ha;clear k ha;go_wp2_with fail
 refine(YD ⟨#[98]⟩ 9 (by decide:(-9223372036854775808:Int)≤9∧(9:Int)≤9223372036854775807) (by decide:(1:Nat)≤maxLen) _).mono ?_;rintro e3 w3 ⟨b2,n2,d2,rfl,ha,k⟩;obtain⟨K,Uh,Tz⟩:=lH3 (K.out.trans k) (Uh.out.kept k) ha;clear k ha;try rw[hx]
 try rw[hy]
 try rw[hm]
 clear hx hy hm;obtain⟨w4,hw4⟩:=eX (w3.alloc (.cells #[.string ⟨#[97]⟩,.slice b1 n1 d1,.slice none 0 0,.slice none 0 0,.bool false,.string ⟨#[98]⟩,.slice b2 n2 d2,.slice none 0 0,.slice none 0 0,.bool false] 29))
 have hs4:w4.heap.size=w3.heap.size+1:=by rw[←hw4];simp
 have k4:Kept w3 w4:=by rw[←hw4];exact ja _ _
 obtain⟨g1,hg1⟩:=eX (w3.heap.size)
 have VR:=lH (show jt w4 (some ⟨g1,0,none⟩) 2 (wfA 0).nodes from by
  have c:=jc w3 (.string ⟨#[97]⟩) [.slice b1 n1 d1,.slice none 0 0,.slice none 0 0,.bool false,.string ⟨#[98]⟩,.slice b2 n2 d2,.slice none 0 0,.slice none 0 0,.bool false] 29 w4 (by rw[hw4];exact Kept.refl _);rw[hg1] at c;exact jaa (lx:=[(Ys ⟨#[97]⟩ 9,(b1,n1,d1),(none,0,0),(none,0,0)),(Ys ⟨#[98]⟩ 9,(b2,n2,d2),(none,0,0),(none,0,0))]) (Xu rfl c (fun _ _=>trivial) (by decide:(2:Nat)≤maxLen)) (fun z hz=>by
   rcases List.mem_cons.1 hz with rfl | hz
   · exact Uh.out.kept k4
   obtain rfl:=List.mem_singleton.1 hz;exact Tz.out.kept k4))
 obtain⟨w6,hw6⟩:=eX ((w4.alloc (.cells #[] 41)).alloc (.cells #[.slice (some ⟨w3.heap.size,0,none⟩) 2 2,.slice (some ⟨w3.heap.size+1,0,none⟩) 0 0,.slice none 0 0] 35))
 have k6:Kept w4 w6:=by rw[←hw6];exact ji _ _ _
 have HQ:=lH (show je (w3.heap.size+1+1) [.slice (some ⟨w3.heap.size,0,none⟩) 2 2,.slice (some ⟨w3.heap.size+1,0,none⟩) 0 0,.slice none 0 0] w6 by
  have c:=jc (w4.alloc (.cells #[] 41)) (.slice (some ⟨w3.heap.size,0,none⟩) 2 2) [.slice (some ⟨w3.heap.size+1,0,none⟩) 0 0,.slice none 0 0] 35 w6 (by rw[hw6];exact Kept.refl _);rw[show (w4.alloc (.cells #[] 41)).heap.size=w3.heap.size+1+1 by rw[←hs4];simp] at c;exact c)
 rw[hg1] at HQ hs4;obtain⟨q,hq⟩:=eX (g1+1+1)
 rw[hq] at HQ;obtain⟨Vt,TM,RF,RG,Na,U5⟩:=lH6 (show w.heap.size≤q by have:=K.out.size;rw[hg1] at this;omega) hw4 hw6 hg1 hq (show WFI q (wfA 0) w w6 from⟨_,_,_,_,_,_,_,_,_,HQ.out,(fun u g=>⟨_,_,_,rfl,⟨_,2,rfl,by decide,by decide,VR.out.kept (jb.below k6 g (fun i e=>by have e2:i=q:=e;omega))⟩,⟨_,0,rfl,by decide,by decide,⟨rfl,by decide,.inl rfl⟩⟩,⟨none,0,rfl,by decide,by decide,⟨rfl,by decide,.inl rfl⟩⟩⟩),K.out.trans (k4.trans k6)⟩);clear HQ VR K Uh Tz k4 k6 hw4 hw6 hg1 hq hs4;go_upto_region 5 with fail
 try rw[TM.out]
 try rw[RG.out]
 rw[RG.out] at RF;try rw[RF.out]
 try rw[Na.out]
 clear TM RF RG Na;obtain⟨n,hn⟩:∃n:Nat,1+(m:Int)=n:=⟨1+m,by omega⟩
 have UN:=lH (show n=m+1 by omega);have VS:=lH hmb;try rw[hn]
 clear hn hmb;go_wp2;go_loopw [11] (fun iv wr=>∃i:Nat,i≤x∧iv=.int .i64 i∧WFI q (wfA (i)) w wr) (fun iv _=>x-(intOf iv).toNat)
 case atStart=>exact⟨0,Nat.zero_le _,rfl,U5.out⟩
 case round =>
  obtain⟨i,hik,rfl,a1,t1,c1,a2,t2,c2,a3,t3,c3,hq,hc,hkw⟩:=hrel;obtain⟨HQ,HC,K⟩:=lH3 hq hc hkw;clear hq hc hkw U5;by_cases hlt:i<x
  · skip;have hii:(i:Int)<(x:Int):=by omega
    have hi10:i<10:=by omega
    obtain⟨k9,hk9⟩:∃k:Nat,i=k:=⟨_,rfl⟩
    have hk20:k9<20:=by omega
    obtain⟨nI,hnI⟩:=eX (X3 i)
    have UO:=lH (show zo (wfA (i)) (Je nI 1 ⟨#[97]⟩)=wfA (i+1) by rw[←hnI];rfl);have HH:=lH (fun (W:World)=>J5 i (by omega) 1 (X3 i) ⟨#[97]⟩ (by decide:(-9223372036854775808:Int)≤1∧(1:Int)≤9223372036854775807) (zU i (by omega)).1 (zU i (by omega)).2 (jco i (by omega)) (by decide:(1:Nat)≤maxLen) W);rw[hnI] at HH;have TO:=lH hk9;clear hnI hk9 TO;go_upto_region 8 with fail
    have J:=lH (Kept.drew wr);refine wp_region_held_drew (S:=fun W=>True) (by kernel_rfl) (trivial) (fun hHeld=>?_);obtain⟨wd,hwd⟩:=eX (wr.drew)
    rw[hwd] at J;try rw[hwd]
    obtain⟨HQ,HC,K⟩:=lH3 (HQ.out.kept J.out) (HC.out.step (jb.of J.out)) (K.out.trans J.out);clear hwd J;refine tR 1 rfl (by kernel_rfl) (fun _ _ _=>id) (Or.inl ⟨by rfl,(by intro W hSw;go_simp<;>with_reducible rfl)⟩) ‹_› ?_;try simp only[nA,nB,nC,nD,nE]
    refine wpAnyH_ready  (rs:=[0,2]) (by kernel_rfl) (by simp) (AllReadyH.cons  (by rw[List.getElem?_toArray];exact rfl) (fun K9 Ky=>?_) (AllReadyH.cons  (by rw[List.getElem?_toArray];exact rfl) (fun K9 Ky=>?_) AllReadyH.nil))
    · skip;obtain⟨y0,y1,y2⟩:=HQ.out.at3;go_simp;refine Ky.out _ _ trivial (fun _=>?_);clear Ky K9;try simp only[nA,nB,nC,nD,nE]
      clear y0 y1 y2;refine rd1 2 fun K9 Ky=>?_;go_simp;refine(HH.out _).mono ?_;rintro e5 w5 ⟨b5,n5,d5,rfl,hz,kk,-⟩;obtain⟨HZ,HQ,HC,K⟩:=lH4 hz (HQ.out.kept kk) (HC.out.step (jb.of kk)) (K.out.trans kk);clear kk hz;refine Ky.out _ _ trivial (fun _=>?_);clear Ky K9;try simp only[nA,nB,nC,nD,nE]
      refine rd1 3 fun K9 Ky=>?_;go_simp;refine(qh HC.out.here HZ.out (XB i hi10) (ZO _ _ _)).mono ?_;rintro e7 w7 ⟨u1,v1,x1,u2,v2,x2,u3,v3,x3,rfl,hoc,kk⟩;rw[UO.out] at hoc;obtain⟨Ue,Uf,HQ,K⟩:=lH4 hoc (show q<w5.heap.size from HQ.out.lt) (HQ.out.kept kk) (K.out.trans kk);clear kk hoc HC HZ;refine Ky.out _ _ trivial (fun _=>?_);clear Ky K9;try simp only[nA,nB,nC,nD,nE]
      have z0:=HQ.out.at_ 0 _ rfl;have z1:=HQ.out.at_ 1 _ rfl;have z2:=HQ.out.at_ 2 _ rfl;have f0:=HQ.out.free 0;have f1:=HQ.out.free 1;have f2:=HQ.out.free 2;have P:=lH (jW (vs:=[.slice u1 v1 x1,.slice u2 v2 x2,.slice u3 v3 x3]) HQ.out rfl);have GE:=lH (jb.cells (S:=fun b=>b=q) q rfl [.slice u1 v1 x1,.slice u2 v2 x2,.slice u3 v3 x3] 0 w7);refine rd1 4 fun K9 Ky=>?_;go_simp;obtain⟨WE,hWE⟩:=eX (w7.setCells q 0 [.slice u1 v1 x1,.slice u2 v2 x2,.slice u3 v3 x3])
      have hWE2:(((w7.setCell ⟨q,0,none⟩ (.slice u1 v1 x1)).setCell ⟨q,1,none⟩ (.slice u2 v2 x2)).setCell ⟨q,2,none⟩ (.slice u3 v3 x3))=WE:=hWE;rw[hWE] at P GE;try rw[hWE2]
      have UQ:=lH (show Kept w WE by rw[←hWE];exact jm q _ _ _ _ _ Vt.out K.out);have UR:=lH (Ue.out.step (GE.out.mono fun b e=>by subst e;exact Uf.out));clear hWE hWE2 z0 z1 z2 f0 f1 f2 Ue GE K;refine Ky.out _ _ trivial (fun _=>?_);clear Ky K9;try simp only[nA,nB,nC,nD,nE]
      refine wpAnyH_done (by kernel_rfl) ?_ _;go_wp2;go_roundw
      case rel=>exact⟨i+1,by omega,by go_num,_,_,_,_,_,_,_,_,_,P.out.cells,(fun u g9=>(UR.out.step (g9.mono fun b e=>by subst e;exact Uf.out)).toR),UQ.out⟩
      case measure=>simp[intOf];omega
    · go_simp;refine(HH.out _).mono ?_;rintro e5 w5 ⟨b5,n5,d5,rfl,hz,kk,-⟩;obtain⟨HZ,HQ,HC,K⟩:=lH4 hz (HQ.out.kept kk) (HC.out.step (jb.of kk)) (K.out.trans kk);clear kk hz;refine Ky.out _ _ trivial (fun _=>?_);clear Ky K9;try simp only[nA,nB,nC,nD,nE]
      refine rd1 0 fun K9 Ky=>?_;go_simp;obtain⟨y0,y1,y2⟩:=HQ.out.at3;go_simp;refine Ky.out _ _ trivial (fun _=>?_);clear Ky K9;try simp only[nA,nB,nC,nD,nE]
      clear y0 y1 y2;refine rd1 3 fun K9 Ky=>?_;go_simp;refine(qh HC.out.here HZ.out (XB i hi10) (ZO _ _ _)).mono ?_;rintro e7 w7 ⟨u1,v1,x1,u2,v2,x2,u3,v3,x3,rfl,hoc,kk⟩;rw[UO.out] at hoc;obtain⟨Ue,Uf,HQ,K⟩:=lH4 hoc (show q<w5.heap.size from HQ.out.lt) (HQ.out.kept kk) (K.out.trans kk);clear kk hoc HC HZ;refine Ky.out _ _ trivial (fun _=>?_);clear Ky K9;try simp only[nA,nB,nC,nD,nE]
      have z0:=HQ.out.at_ 0 _ rfl;have z1:=HQ.out.at_ 1 _ rfl;have z2:=HQ.out.at_ 2 _ rfl;have f0:=HQ.out.free 0;have f1:=HQ.out.free 1;have f2:=HQ.out.free 2;have P:=lH (jW (vs:=[.slice u1 v1 x1,.slice u2 v2 x2,.slice u3 v3 x3]) HQ.out rfl);have GE:=lH (jb.cells (S:=fun b=>b=q) q rfl [.slice u1 v1 x1,.slice u2 v2 x2,.slice u3 v3 x3] 0 w7);refine rd1 4 fun K9 Ky=>?_;go_simp;obtain⟨WE,hWE⟩:=eX (w7.setCells q 0 [.slice u1 v1 x1,.slice u2 v2 x2,.slice u3 v3 x3])
      have hWE2:(((w7.setCell ⟨q,0,none⟩ (.slice u1 v1 x1)).setCell ⟨q,1,none⟩ (.slice u2 v2 x2)).setCell ⟨q,2,none⟩ (.slice u3 v3 x3))=WE:=hWE;rw[hWE] at P GE;try rw[hWE2]
      have UQ:=lH (show Kept w WE by rw[←hWE];exact jm q _ _ _ _ _ Vt.out K.out);have UR:=lH (Ue.out.step (GE.out.mono fun b e=>by subst e;exact Uf.out));clear hWE hWE2 z0 z1 z2 f0 f1 f2 Ue GE K;refine Ky.out _ _ trivial (fun _=>?_);clear Ky K9;try simp only[nA,nB,nC,nD,nE]
      refine wpAnyH_done (by kernel_rfl) ?_ _;go_wp2;go_roundw
      case rel=>exact⟨i+1,by omega,by go_num,_,_,_,_,_,_,_,_,_,P.out.cells,(fun u g9=>(UR.out.step (g9.mono fun b e=>by subst e;exact Uf.out)).toR),UQ.out⟩
      case measure=>simp[intOf];omega
  · skip;have hii:¬(i:Int)<(x:Int):=by omega
    obtain rfl:x=i:=by omega
    have Nb:=lH (show WFI q (wfB x 0) w wr from⟨_,_,_,_,_,_,_,_,_,HQ.out,HC.out,K.out⟩);clear HQ HC K;obtain⟨w8,hw8⟩:∃W,W=wr:=⟨_,rfl⟩
    subst hw8;go_wp2;go_loopw [12] (fun iv wr=>∃i:Nat,i≤y∧iv=.int .i64 i∧WFI q (wfB x (i)) w wr) (fun iv _=>y-(intOf iv).toNat)
    case atStart=>exact⟨0,Nat.zero_le _,rfl,Nb.out⟩
    case round =>
     obtain⟨i,hik,rfl,a1,t1,c1,a2,t2,c2,a3,t3,c3,hq,hc,hkw⟩:=hrel;obtain⟨HQ,HC,K⟩:=lH3 hq hc hkw;clear hq hc hkw Nb;by_cases hlt:i<y
     · skip;have hii:(i:Int)<(y:Int):=by omega
       have hi10:i<10:=by omega
       obtain⟨k9,hk9⟩:∃k:Nat,10+i=k:=⟨_,rfl⟩
       have hk9i:(10:Int)+(i:Int)=(k9:Int):=by omega
       have hkw9:IntKind.i64.wrap (k9:Int)=(k9:Int):=by rw[IntKind.wrap_i64];omega
       have hk20:k9<20:=by omega
       obtain⟨nI,hnI⟩:=eX (X3 k9)
       have UO:=lH (show zo (wfB x (i)) (Je nI 1 ⟨#[98]⟩)=wfB x (i+1) by rw[←hnI,←hk9];rfl);have HH:=lH (fun (W:World)=>J5 k9 (by omega) 1 (X3 k9) ⟨#[98]⟩ (by decide:(-9223372036854775808:Int)≤1∧(1:Int)≤9223372036854775807) (zU k9 (by omega)).1 (zU k9 (by omega)).2 (jco k9 (by omega)) (by decide:(1:Nat)≤maxLen) W);rw[hnI] at HH;have TO:=lH hk9;clear hnI hk9;go_upto_region 12 with fail
       have J:=lH (Kept.drew wr);refine wp_region_held_drew (S:=fun W=>True) (by kernel_rfl) (trivial) (fun hHeld=>?_);obtain⟨wd,hwd⟩:=eX (wr.drew)
       rw[hwd] at J;try rw[hwd]
       obtain⟨HQ,HC,K⟩:=lH3 (HQ.out.kept J.out) (HC.out.step (jb.of J.out)) (K.out.trans J.out);clear hwd J;refine tR 1 rfl (by kernel_rfl) (fun _ _ _=>id) (Or.inl ⟨by rfl,(by intro W hSw;go_simp<;>with_reducible rfl)⟩) ‹_› ?_;refine tR 2 rfl (by kernel_rfl) (fun _ _ _=>id) (Or.inl ⟨by rfl,(by intro W hSw;go_simp<;>with_reducible rfl)⟩) ‹_› ?_;try simp only[nA,nB,nC,nD,nE]
       refine wpAnyH_ready  (rs:=[0,3]) (by kernel_rfl) (by simp) (AllReadyH.cons  (by rw[List.getElem?_toArray];exact rfl) (fun K9 Ky=>?_) (AllReadyH.cons  (by rw[List.getElem?_toArray];exact rfl) (fun K9 Ky=>?_) AllReadyH.nil))
       · skip;obtain⟨y0,y1,y2⟩:=HQ.out.at3;go_simp;refine Ky.out _ _ trivial (fun _=>?_);clear Ky K9;try simp only[nA,nB,nC,nD,nE]
         clear y0 y1 y2;refine rd1 3 fun K9 Ky=>?_;go_simp;refine(HH.out _).mono ?_;rintro e5 w5 ⟨b5,n5,d5,rfl,hz,kk,-⟩;obtain⟨HZ,HQ,HC,K⟩:=lH4 hz (HQ.out.kept kk) (HC.out.step (jb.of kk)) (K.out.trans kk);clear kk hz;refine Ky.out _ _ trivial (fun _=>?_);clear Ky K9;try simp only[nA,nB,nC,nD,nE]
         refine rd1 4 fun K9 Ky=>?_;go_simp;refine(qh HC.out.here HZ.out (XA x hxb i hi10) (ZO _ _ _)).mono ?_;rintro e7 w7 ⟨u1,v1,x1,u2,v2,x2,u3,v3,x3,rfl,hoc,kk⟩;rw[UO.out] at hoc;obtain⟨Ue,Uf,HQ,K⟩:=lH4 hoc (show q<w5.heap.size from HQ.out.lt) (HQ.out.kept kk) (K.out.trans kk);clear kk hoc HC HZ;refine Ky.out _ _ trivial (fun _=>?_);clear Ky K9;try simp only[nA,nB,nC,nD,nE]
         have z0:=HQ.out.at_ 0 _ rfl;have z1:=HQ.out.at_ 1 _ rfl;have z2:=HQ.out.at_ 2 _ rfl;have f0:=HQ.out.free 0;have f1:=HQ.out.free 1;have f2:=HQ.out.free 2;have P:=lH (jW (vs:=[.slice u1 v1 x1,.slice u2 v2 x2,.slice u3 v3 x3]) HQ.out rfl);have GE:=lH (jb.cells (S:=fun b=>b=q) q rfl [.slice u1 v1 x1,.slice u2 v2 x2,.slice u3 v3 x3] 0 w7);refine rd1 5 fun K9 Ky=>?_;go_simp;obtain⟨WE,hWE⟩:=eX (w7.setCells q 0 [.slice u1 v1 x1,.slice u2 v2 x2,.slice u3 v3 x3])
         have hWE2:(((w7.setCell ⟨q,0,none⟩ (.slice u1 v1 x1)).setCell ⟨q,1,none⟩ (.slice u2 v2 x2)).setCell ⟨q,2,none⟩ (.slice u3 v3 x3))=WE:=hWE;rw[hWE] at P GE;try rw[hWE2]
         have UQ:=lH (show Kept w WE by rw[←hWE];exact jm q _ _ _ _ _ Vt.out K.out);have UR:=lH (Ue.out.step (GE.out.mono fun b e=>by subst e;exact Uf.out));clear hWE hWE2 z0 z1 z2 f0 f1 f2 Ue GE K;refine Ky.out _ _ trivial (fun _=>?_);clear Ky K9;try simp only[nA,nB,nC,nD,nE]
         refine wpAnyH_done (by kernel_rfl) ?_ _;go_wp2;go_roundw
         case rel=>exact⟨i+1,by omega,by go_num,_,_,_,_,_,_,_,_,_,P.out.cells,(fun u g9=>(UR.out.step (g9.mono fun b e=>by subst e;exact Uf.out)).toR),UQ.out⟩
         case measure=>simp[intOf];omega
       · go_simp;refine(HH.out _).mono ?_;rintro e5 w5 ⟨b5,n5,d5,rfl,hz,kk,-⟩;obtain⟨HZ,HQ,HC,K⟩:=lH4 hz (HQ.out.kept kk) (HC.out.step (jb.of kk)) (K.out.trans kk);clear kk hz;refine Ky.out _ _ trivial (fun _=>?_);clear Ky K9;try simp only[nA,nB,nC,nD,nE]
         refine rd1 0 fun K9 Ky=>?_;go_simp;obtain⟨y0,y1,y2⟩:=HQ.out.at3;go_simp;refine Ky.out _ _ trivial (fun _=>?_);clear Ky K9;try simp only[nA,nB,nC,nD,nE]
         clear y0 y1 y2;refine rd1 4 fun K9 Ky=>?_;go_simp;refine(qh HC.out.here HZ.out (XA x hxb i hi10) (ZO _ _ _)).mono ?_;rintro e7 w7 ⟨u1,v1,x1,u2,v2,x2,u3,v3,x3,rfl,hoc,kk⟩;rw[UO.out] at hoc;obtain⟨Ue,Uf,HQ,K⟩:=lH4 hoc (show q<w5.heap.size from HQ.out.lt) (HQ.out.kept kk) (K.out.trans kk);clear kk hoc HC HZ;refine Ky.out _ _ trivial (fun _=>?_);clear Ky K9;try simp only[nA,nB,nC,nD,nE]
         have z0:=HQ.out.at_ 0 _ rfl;have z1:=HQ.out.at_ 1 _ rfl;have z2:=HQ.out.at_ 2 _ rfl;have f0:=HQ.out.free 0;have f1:=HQ.out.free 1;have f2:=HQ.out.free 2;have P:=lH (jW (vs:=[.slice u1 v1 x1,.slice u2 v2 x2,.slice u3 v3 x3]) HQ.out rfl);have GE:=lH (jb.cells (S:=fun b=>b=q) q rfl [.slice u1 v1 x1,.slice u2 v2 x2,.slice u3 v3 x3] 0 w7);refine rd1 5 fun K9 Ky=>?_;go_simp;obtain⟨WE,hWE⟩:=eX (w7.setCells q 0 [.slice u1 v1 x1,.slice u2 v2 x2,.slice u3 v3 x3])
         have hWE2:(((w7.setCell ⟨q,0,none⟩ (.slice u1 v1 x1)).setCell ⟨q,1,none⟩ (.slice u2 v2 x2)).setCell ⟨q,2,none⟩ (.slice u3 v3 x3))=WE:=hWE;rw[hWE] at P GE;try rw[hWE2]
         have UQ:=lH (show Kept w WE by rw[←hWE];exact jm q _ _ _ _ _ Vt.out K.out);have UR:=lH (Ue.out.step (GE.out.mono fun b e=>by subst e;exact Uf.out));clear hWE hWE2 z0 z1 z2 f0 f1 f2 Ue GE K;refine Ky.out _ _ trivial (fun _=>?_);clear Ky K9;try simp only[nA,nB,nC,nD,nE]
         refine wpAnyH_done (by kernel_rfl) ?_ _;go_wp2;go_roundw
         case rel=>exact⟨i+1,by omega,by go_num,_,_,_,_,_,_,_,_,_,P.out.cells,(fun u g9=>(UR.out.step (g9.mono fun b e=>by subst e;exact Uf.out)).toR),UQ.out⟩
         case measure=>simp[intOf];omega
     · skip;have hii:¬(i:Int)<(y:Int):=by omega
       obtain rfl:y=i:=by omega
       obtain⟨w9,hw9⟩:∃W,W=wr:=⟨_,rfl⟩
       subst hw9;have TP:=lH (XA x hxb y hyb);have US:=lH (jgG x hxb y hyb m VS.out);rw[←UN.out] at US;obtain⟨S,hS⟩:=eX (wfB x y)
       rw[hS] at HC TP;unfold jgj at US;rw[hS] at US;clear hS hii;have Vl:=lH (show (n:Int)≤12 by have:=UN.out;have:=VS.out;omega);go_wp2_with fail
       refine(YG ⟨#[122]⟩ (n:Int) ⟨#[]⟩ (by have:=Vl.out;omega) (by decide:(1:Nat)≤maxLen) (by decide:(0:Nat)≤maxLen) _).mono ?_;rintro e10 w10 ⟨b6,n6,d6,rfl,hz,kk⟩;obtain⟨HZ,HQ,HC,K⟩:=lH4 hz (HQ.out.kept kk) (HC.out.here.kept kk) (K.out.trans kk);clear hz kk;obtain⟨w11,hw11⟩:=eX (w10.alloc (.cells #[.string ⟨#[122]⟩,.string ⟨#[]⟩,.int .i64 0,.slice b6 n6 d6,.slice none 0 0,.slice none 0 0,.slice none 0 0,.string ⟨#[]⟩,.int .i64 0,.string ⟨#[]⟩,.bool false] 41))
       have kk:Kept w10 w11:=by rw[←hw11];exact ja _ _
       have HP:=lH (show je w10.heap.size [.string ⟨#[122]⟩,.string ⟨#[]⟩,.int .i64 0,.slice b6 n6 d6,.slice none 0 0,.slice none 0 0,.slice none 0 0,.string ⟨#[]⟩,.int .i64 0,.string ⟨#[]⟩,.bool false] w11 from jc w10 (.string ⟨#[122]⟩) [.string ⟨#[]⟩,.int .i64 0,.slice b6 n6 d6,.slice none 0 0,.slice none 0 0,.slice none 0 0,.string ⟨#[]⟩,.int .i64 0,.string ⟨#[]⟩,.bool false] 41 w11 (by rw[hw11];exact Kept.refl _));obtain⟨p9,hp9⟩:=eX (w10.heap.size)
       rw[hp9] at HP;obtain⟨HZ,HQ,HC,K,TF⟩:=lH5 (HZ.out.kept kk) (HQ.out.kept kk) (HC.out.kept kk) (K.out.trans kk) hw11;clear kk hw11;go_upto_region 14 with fail
       try rw[TF.out]
       try rw[hp9]
       clear TF hp9;have Ui:=lH (Z4 a1 a2 a3 t1 c1 t2 c2 t3 c3 b6 none none none n6 d6 0 0 0 0 0 0 (wfZ n) S w11 HC.out TP.out HZ.out);obtain⟨o,ho⟩:=eX (JY S (wfZ n))
       rw[ho] at Ui US;unfold Jt at Ui;clear ho;obtain⟨y0,y1,y2⟩:=HQ.out.at3;have z0:=HP.out.at_ 0 _ rfl;have z1:=HP.out.at_ 1 _ rfl;have z2:=HP.out.at_ 2 _ rfl;have z3:=HP.out.at_ 3 _ rfl;have z4:=HP.out.at_ 4 _ rfl;have z5:=HP.out.at_ 5 _ rfl;have z6:=HP.out.at_ 6 _ rfl;have z7:=HP.out.at_ 7 _ rfl;have z8:=HP.out.at_ 8 _ rfl;have z9:=HP.out.at_ 9 _ rfl;have z10:=HP.out.at_ 10 _ rfl;go_wp2_with fail
       clear y0 y1 y2 z0 z1 z2 z3 z4 z5 z6 z7 z8 z9 z10;refine Ui.out.mono ?_;clear Ui;rintro e12 w12 ⟨v,rfl,⟨va,vn,vc,rfl,hrd⟩,kk⟩;have Vm:=lH hrd.here;have K:=lH (K.out.trans kk);clear hrd kk
       cases o with
       | none =>
        have h9:(9:Int)<(n:Int):=by have:=of_decide_eq_true US.out;omega
        try rw[show (Option.none:Option Jb).getD wzP=(⟨#[]⟩,⟨#[]⟩,[]) from rfl]
        try dsimp only
        have KF:=lH (K.out.trans (ja w12 (.cells #[.string ⟨#[]⟩,.string ⟨#[]⟩,.slice va vn vc] 46)));have HV:=lH (jc w12 (.string ⟨#[]⟩) [.string ⟨#[]⟩,.slice va vn vc] 46 _ (Kept.refl _));obtain⟨v0,v1,v2⟩:=HV.out.at3;go_wp2;go_ret;exact⟨rfl,KF.out⟩
       | some t =>
        obtain⟨t1,t2,t3⟩:=t;have Nc:=lH (show (decide (n≤9)&&eqS t1 ⟨#[122]⟩&&eqS t2 (Z8 x y n)&&decide (t3.length=min (wfK x n) (wfK y n)))=true from US.out);have h4:=Nc.out;simp only[Bool.and_eq_true,decide_eq_true_eq] at h4;obtain⟨⟨⟨h4a,h4b⟩,h4c⟩,h4d⟩:=h4;have e1:=jI.1 h4b;subst e1;have e2:=jI.1 h4c;subst e2;have h9:¬(9:Int)<(n:Int):=by omega
        clear US Nc h4b h4c;have Vm:=lH (show Reads jK w12 (.slice va vn vc) t3 from Vm.out);try rw[show (Option.some ((⟨#[122]⟩,Z8 x y n,t3):Jb)).getD wzP=(⟨#[122]⟩,Z8 x y n,t3) from rfl]
        try dsimp only
        obtain⟨la,lc,hlv,-,-,-⟩:=Vm.out
        cases hlv
        obtain⟨ln,hln⟩:=eX (t3.length)
        try rw[hln]
        try rw[hln] at h4d
        clear hln Vm;have KF:=lH (K.out.trans (ja w12 (.cells #[.string ⟨#[122]⟩,.string (Z8 x y n),.slice va ln vc] 46)));have HV:=lH (jc w12 (.string ⟨#[122]⟩) [.string (Z8 x y n),.slice va ln vc] 46 _ (Kept.refl _));obtain⟨v0,v1,v2⟩:=HV.out.at3;obtain⟨kx,hkx⟩:=eX (wfK x n)
        obtain⟨ky,hky⟩:=eX (wfK y n)
        obtain⟨RH,Td,VX⟩:=lH3 hkx hky h4d;rw[hkx,hky] at VX;clear hkx hky h4d;go_upto_region 18 with fail
        have EX:max 0 ((n:Int)-(9-(x:Int)))=(kx:Int):=by have:=RH.out;unfold wfK at this;omega
        have EY:max 0 ((n:Int)-(9-(y:Int)))=(ky:Int):=by have:=Td.out;unfold wfK at this;omega
        have hmn:min (kx:Int) (ky:Int)=(ln:Int):=by have:=VX.out;omega
        rw[EX,EY];clear EX EY;obtain⟨WF,hWF⟩:=eX (w12.alloc (.cells #[.string ⟨#[122]⟩,.string (Z8 x y n),.slice va ln vc] 46))
        obtain⟨qf,hqf⟩:=eX (w12.heap.size)
        rw[hWF] at v0 v1 v2 KF;rw[hqf] at v0 v1 v2;rw[hWF];try rw[hqf]
        clear HV hWF hqf HP HQ HC HZ;by_cases hk:ky<kx
        · have hki:(ky:Int)<(kx:Int):=by omega
          have ET:=lH (show Z8 x y n=⟨#[98]⟩ by unfold Z8;rw[RH.out,Td.out];exact if_pos hk);rw[ET.out] at v1;clear hk;go_wp2;go_ret;exact⟨rfl,KF.out⟩
        · have hki:¬(ky:Int)<(kx:Int):=by omega
          have ET:=lH (show Z8 x y n=⟨#[97]⟩ by unfold Z8;rw[RH.out,Td.out];exact if_neg hk);rw[ET.out] at v1;clear hk;go_wp2;go_ret;exact⟨rfl,KF.out⟩
theorem WayFewest_walk (a e d:Int) (w:World) (ha:(Lit.int .u8 a).wf=true) (he:(Lit.int .u8 e).wf=true) (hd:(Lit.int .u8 d).wf=true):Calls Tryz.prog 3 #[.int .u8 a,.int .u8 e,.int .u8 d] w fun e w'=>e=.returned (.bool true)∧Kept w w':=by
 have h1:=bounds_u8 ha;have h2:=bounds_u8 he;have h3:=bounds_u8 hd;exact few_walk a e d w ⟨h1.1,by omega⟩ ⟨h2.1,by omega⟩ ⟨h3.1,by omega⟩
end Go.Proofs.YtabafpoklpiiiaaGreat
