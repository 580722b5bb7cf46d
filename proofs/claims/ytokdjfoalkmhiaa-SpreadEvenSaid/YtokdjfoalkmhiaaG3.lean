/- The contracts of the functions that the law calls,and the law,walked. -/
import Derived.Test.YtokdjfoalkmhiaaG2
set_option linter.unusedVariables false
set_option maxRecDepth 100000
set_option maxHeartbeats 25600000
namespace Go.Proofs.Ytokdjfoalkmhiaa
open Go.RowKit
theorem even_walk (a e:Int) (w:World) (ha:0≤a∧a<256) (he:0≤e∧e<256):Calls Try.prog 3 #[.int .u8 a,.int .u8 e] w (Say (.bool true) w):=by
 obtain⟨q1,hq1⟩:∃q:Nat,a % 6=(q:Int):=⟨(a % 6).toNat,by omega⟩
 have hq1b:q1<6:=by omega
 obtain⟨n,hn⟩:∃q:Nat,e % 20=(q:Int):=⟨(e % 20).toNat,by omega⟩
 have hnb:n<20:=by omega
 obtain⟨k,hk⟩:∃c:Nat,1+(q1:Int)=(c:Int):=⟨1+q1,by omega⟩
 have hkb:1≤k∧k<7:=by omega
 obtain⟨i0,hi,hz0,hz1,hz2'⟩:=info_parts infoNE;obtain⟨j0,hj,hj0,hj1,hj2'⟩:=info_parts infoPE;go_enter Try.func3,Try.ntmps3;go_wp2_with fail
 refine(knownSp_any w).mono ?_;rintro e1 w1 ⟨rfl,kk⟩;have K:=lH kk;clear kk;obtain⟨w2,hw2⟩:=eX (w1.alloc (.cells #[.slice none 0 0,.slice none 0 0,.slice none 0 0] 27))
 obtain⟨HQ,HQB0,K⟩:=lH3 (show CellsN w1.heap.size [.slice none 0 0,.slice none 0 0,.slice none 0 0] w2 from freshN w1 (.slice none 0 0) [.slice none 0 0,.slice none 0 0] 27 w2 (by rw[hw2];exact Kept.refl _)) K.out.size (K.out.trans (show Kept w1 w2 by rw[←hw2];exact kept_alloc _ _));obtain⟨q,hq⟩:=eX (w1.heap.size)
 have HW2:=lH hw2;clear hw2;go_upto_region 6 with fail
 try rw[HW2.out]
 try rw[hq]
 rw[hq] at HQ;have HQB:=lH (show w.heap.size≤q by rw[←hq];exact HQB0.out);clear HW2 hq HQB0;try rw[hq1]
 try rw[hn]
 try rw[hk]
 clear hq1 hn hk hq1b;have HT0:=lH (show TInv q (evT k 0 0) w w2 from TInv.start HQ.out K.out);clear HQ K;go_wp2;go_loopw [8] (fun iv wr=>∃i:Nat,i≤k∧iv=.int .i64 i∧TInv q (evT k i 0) w wr) (fun iv _=>k-(intOf iv).toNat)
 case atStart=>exact⟨0,Nat.zero_le _,rfl,HT0.out⟩
 case round =>
  obtain⟨i,hik,rfl,a1,n1,c1,a2,n2,c2,hq,ho,hkw⟩:=hrel;obtain⟨HQ,HO3,K⟩:=lH3 hq ho hkw;clear hq ho hkw HT0;by_cases hlt:i<k
  · skip;have hkk:(i:Int)<(k:Int):=by omega
    have hi6:i<6:=by omega
    obtain⟨lx,hlx,hox,hdx⟩:=HO3.out.n;have hll:lx.length=i:=by
     have h1:=congrArg List.length hlx;rw[List.length_map] at h1;have h2:((evT k i 0).nodes).length=i:=by unfold evT;simp
     exact h1.trans h2
    obtain⟨HLL,HLX,HOX,HDX⟩:=lH4 hll hlx hox hdx;clear hlx hox hdx hll;have HDEC:=lH (show ∀W,Calls Try.prog 6 #[.int .i64 (i:Int)] W (fun e w'=>e=.returned (.string (bytes (Lib.itoa (i:Int))))∧Kept W w') from fun W=>Vec.decimal_any (i:Int) W (by omega) (by omega));rw[ev_dec i hi6] at HDEC;have hnm:=ev_nm i;have hzm:=ev_zm i;obtain⟨dI,hdI⟩:=eX ((⟨#[(48+i).toUInt8]⟩:ByteArray))
    obtain⟨nI,hnI⟩:=eX (evNm i)
    obtain⟨zI,hzI⟩:=eX (evZm i)
    rw[hdI] at HDEC hnm hzm;rw[hnI] at hnm;rw[hzI] at hzm;have hds:dI.size=1:=by rw[←hdI];rfl
    obtain⟨HNS,HZS,HEV⟩:=lH3 (show nI.size≤maxLen by rw[←hnI];exact(by decide:(2:Nat)≤maxLen)) (show zI.size≤maxLen by rw[←hzI];exact(by decide:(2:Nat)≤maxLen)) (show evN i=nodZ nI zI by unfold evN;rw[hnI,hzI]);have ad1:∀W,(Op.stringOp .add (⟨#[110]⟩:ByteArray) dI).run Try.prog W=.ok (.string nI) W:=fun W=>by
     have h:=run_string_add_sum (P:=Try.prog) W (⟨#[110]⟩:ByteArray) dI (by rw[hds];decide);rw[hnm] at h;exact h
    have ad2:∀W,(Op.stringOp .add (⟨#[122]⟩:ByteArray) dI).run Try.prog W=.ok (.string zI) W:=fun W=>by
     have h:=run_string_add_sum (P:=Try.prog) W (⟨#[122]⟩:ByteArray) dI (by rw[hds];decide);rw[hzm] at h;exact h
    clear hnm hzm hdI hnI hzI hds;go_upto_region 9 with fail
    refine wp_region_held_drew (S:=fun W=>True) (by kernel_rfl) (trivial) (fun hHeld=>?_);have J:=lH (Kept.drew wr);obtain⟨wd,hwd⟩:=eX (wr.drew)
    rw[hwd] at J;try rw[hwd]
    clear hwd;refine tR 0 rfl (by kernel_rfl) (fun _ _ _=>id) (Or.inl ⟨by rfl,(by intro W hSw;go_simp<;>with_reducible rfl)⟩) ‹_› ?_;try simp only[nA,nB,nC,nD,nE]
    refine tR 2 rfl (by kernel_rfl) (fun _ _ _=>id) (Or.inl ⟨by rfl,(by intro W hSw;go_simp<;>with_reducible rfl)⟩) ‹_› ?_;try simp only[nA,nB,nC,nD,nE]
    refine tR 5 rfl (by kernel_rfl) (fun _ _ _=>id) (Or.inl ⟨by rfl,(by intro W hSw;go_simp<;>with_reducible rfl)⟩) ‹_› ?_;try simp only[nA,nB,nC,nD,nE]
    refine wpAnyH_ready  (rs:=[1,3]) (by kernel_rfl) (by simp) (AllReadyH.cons  (by rw[List.getElem?_toArray];exact rfl) (fun K9 Ky=>?_) (AllReadyH.cons  (by rw[List.getElem?_toArray];exact rfl) (fun K9 Ky=>?_) AllReadyH.nil))
    · skip;have y0:wd.cell? ⟨q,0,none⟩=some (.slice a1 n1 c1):=(HQ.out.kept J.out).at_ 0 _ rfl;go_simp;refine Ky.out _ _ trivial (fun _=>?_);clear Ky K9 y0;try simp only[nA,nB,nC,nD,nE]
      refine rd1 3 fun K9 Ky=>?_;go_simp;refine(HDEC.out _).mono ?_;rintro e3 w3 ⟨rfl,kk⟩;have J:=lH (J.out.trans kk);clear kk;refine Ky.out _ _ trivial (fun _=>?_);clear Ky K9;try simp only[nA,nB,nC,nD,nE]
      refine tR 4 rfl (by kernel_rfl) (fun _ _ _=>id) (Or.inl ⟨by rfl,(by intro W hSw;go_simp<;>with_reducible rfl)⟩) ‹_› ?_;try simp only[nA,nB,nC,nD,nE]
      refine rd1 6 fun K9 Ky=>?_;go_simp;refine(HDEC.out _).mono ?_;rintro e3 w4 ⟨rfl,kk⟩;have J:=lH (J.out.trans kk);clear kk;refine Ky.out _ _ trivial (fun _=>?_);clear Ky K9;try simp only[nA,nB,nC,nD,nE]
      refine tR 7 rfl (by kernel_rfl) (fun _ _ _=>id) (Or.inl ⟨by rfl,(by intro W hSw;go_simp<;>with_reducible rfl)⟩) ‹_› ?_;try simp only[nA,nB,nC,nD,nE]
      refine rd1 8 fun K9 Ky=>?_;go_simp;refine(zoned_far nI zI HNS.out HZS.out _).mono ?_;rintro e5 w5 ⟨b1,m1,d1,b2,m2,d2,rfl,hz,kk,hb1,hb2⟩;have HZO:=lH (show Off (Tri (fun b=>b=q) (.slice a1 n1 c1) (.slice a2 n2 c2) (.slice none 0 0)) w5 fun u=>NodAt u (.slice b1 m1 d1) (.slice b2 m2 d2) (.slice none 0 0) (nodZ nI zI) from hz.off (B:=w4.heap.size) hb1 hb2 (Behind.none _) (fun k h e=>by have:=HO3.out.triLt HQ.out.lt k e;have:=J.out.size;omega));have J:=lH (J.out.trans kk);clear kk hz hb1 hb2;refine Ky.out _ _ trivial (fun _=>?_);clear Ky K9;try simp only[nA,nB,nC,nD,nE]
      refine rd1 9 fun K9 Ky=>?_;go_simp;refine Ky.out _ _ trivial (fun _=>?_);clear Ky K9;try simp only[nA,nB,nC,nD,nE]
      obtain⟨w6,hw6⟩:=eX (w5.alloc (.cells #[.string nI,.slice b1 m1 d1,.slice b2 m2 d2,.slice none 0 0,.bool false] 34))
      have hk6:Kept w5 w6:=by rw[←hw6];exact kept_alloc _ _
      obtain⟨HC6,J,HZO⟩:=lH3 (show w6.heap[w5.heap.size]?=some (.cells #[.string nI,.slice b1 m1 d1,.slice b2 m2 d2,.slice none 0 0,.bool false] 34) by rw[←hw6];exact World.alloc_heap_new w5 _) (J.out.trans hk6) (HZO.out.step (GOff.of hk6));try rw[hw6]
      clear hw6 hk6;refine rd1 10 fun K9 Ky=>?_;refine step_append_lies _ (by rfl) _ _ _ (by rfl) (q+1) 34 i0 _ 5 96 Try.underlying23 hi hz0 hz1 hz2' rfl (by decide) (.slice a1 n1 c1) lx.length (rowCells NodLay0 lx) (by rfl) (HOX.out.kept J.out).1 ⟨w5.heap.size,0,none⟩ 1 1 [.string nI,.slice b1 m1 d1,.slice b2 m2 d2,.slice none 0 0,.bool false] (by rfl) (by rfl) (World.news_of_block (cs:=#[.string nI,.slice b1 m1 d1,.slice b2 m2 d2,.slice none 0 0,.bool false]) (t:=34) (fr:=(0,0)) HC6.out) (one_node0 ((nodZ nI zI,(b1,m1,d1),(b2,m2,d2),(none,0,0)):NX)) (by decide) (by have:=HLL.out;unfold maxLen;omega) (by have:=HLL.out;omega) (Nat.le_trans HQ.out.lt J.out.size) _ rfl ?_;intro g cap w7 hown hgrow hat hlt9;have HF:=lH (TInv.putN (z:=((nodZ nI zI,(b1,m1,d1),(b2,m2,d2),(none,0,0)):NX)) (HQ.out.kept J.out) (HO3.out.kept J.out) (K.out.trans J.out) HQB.out HLX.out (HOX.out.kept J.out) (fun z hz=>(HDX.out z hz).step (GOff.of J.out)) HZO.out hown hgrow hat);clear hown hgrow hat hlt9;refine Ky.out _ _ trivial (fun _=>?_);clear Ky K9;try simp only[nA,nB,nC,nD,nE]
      refine tR 11 rfl (by kernel_rfl) (fun _ _ _=>id) (Or.inl ⟨by rfl,(by intro W hSw;go_simp<;>with_reducible rfl)⟩) ‹_› ?_;try simp only[nA,nB,nC,nD,nE]
      have z0:=HF.out.1.at_ 0 _ rfl;have f0:=HF.out.1.free 0;refine rd1 12 fun K9 Ky=>?_;go_simp;refine Ky.out _ _ trivial (fun _=>?_);clear Ky K9;try simp only[nA,nB,nC,nD,nE]
      clear z0 f0;refine wpAnyH_done (by kernel_rfl) ?_ _;have HE9:=lH (show TInv q (evT k (i+1) 0) w _ from by rw[evT_nod,HEV.out];exact HF.out.2);go_wp2;go_roundw
      case rel=>exact⟨i+1,by omega,by go_num,HE9.out⟩
      case measure=>simp[intOf];omega
    · go_simp;refine(HDEC.out _).mono ?_;rintro e3 w3 ⟨rfl,kk⟩;have J:=lH (J.out.trans kk);clear kk;refine Ky.out _ _ trivial (fun _=>?_);clear Ky K9;try simp only[nA,nB,nC,nD,nE]
      refine tR 4 rfl (by kernel_rfl) (fun _ _ _=>id) (Or.inl ⟨by rfl,(by intro W hSw;go_simp<;>with_reducible rfl)⟩) ‹_› ?_;try simp only[nA,nB,nC,nD,nE]
      refine wpAnyH_ready  (rs:=[1,6]) (by kernel_rfl) (by simp) (AllReadyH.cons  (by rw[List.getElem?_toArray];exact rfl) (fun K9 Ky=>?_) (AllReadyH.cons  (by rw[List.getElem?_toArray];exact rfl) (fun K9 Ky=>?_) AllReadyH.nil))
      · skip;have y0:w3.cell? ⟨q,0,none⟩=some (.slice a1 n1 c1):=(HQ.out.kept J.out).at_ 0 _ rfl;go_simp;refine Ky.out _ _ trivial (fun _=>?_);clear Ky K9 y0;try simp only[nA,nB,nC,nD,nE]
        refine rd1 6 fun K9 Ky=>?_;go_simp;refine(HDEC.out _).mono ?_;rintro e3 w4 ⟨rfl,kk⟩;have J:=lH (J.out.trans kk);clear kk;refine Ky.out _ _ trivial (fun _=>?_);clear Ky K9;try simp only[nA,nB,nC,nD,nE]
        refine tR 7 rfl (by kernel_rfl) (fun _ _ _=>id) (Or.inl ⟨by rfl,(by intro W hSw;go_simp<;>with_reducible rfl)⟩) ‹_› ?_;try simp only[nA,nB,nC,nD,nE]
        refine rd1 8 fun K9 Ky=>?_;go_simp;refine(zoned_far nI zI HNS.out HZS.out _).mono ?_;rintro e5 w5 ⟨b1,m1,d1,b2,m2,d2,rfl,hz,kk,hb1,hb2⟩;have HZO:=lH (show Off (Tri (fun b=>b=q) (.slice a1 n1 c1) (.slice a2 n2 c2) (.slice none 0 0)) w5 fun u=>NodAt u (.slice b1 m1 d1) (.slice b2 m2 d2) (.slice none 0 0) (nodZ nI zI) from hz.off (B:=w4.heap.size) hb1 hb2 (Behind.none _) (fun k h e=>by have:=HO3.out.triLt HQ.out.lt k e;have:=J.out.size;omega));have J:=lH (J.out.trans kk);clear kk hz hb1 hb2;refine Ky.out _ _ trivial (fun _=>?_);clear Ky K9;try simp only[nA,nB,nC,nD,nE]
        refine rd1 9 fun K9 Ky=>?_;go_simp;refine Ky.out _ _ trivial (fun _=>?_);clear Ky K9;try simp only[nA,nB,nC,nD,nE]
        obtain⟨w6,hw6⟩:=eX (w5.alloc (.cells #[.string nI,.slice b1 m1 d1,.slice b2 m2 d2,.slice none 0 0,.bool false] 34))
        have hk6:Kept w5 w6:=by rw[←hw6];exact kept_alloc _ _
        obtain⟨HC6,J,HZO⟩:=lH3 (show w6.heap[w5.heap.size]?=some (.cells #[.string nI,.slice b1 m1 d1,.slice b2 m2 d2,.slice none 0 0,.bool false] 34) by rw[←hw6];exact World.alloc_heap_new w5 _) (J.out.trans hk6) (HZO.out.step (GOff.of hk6));try rw[hw6]
        clear hw6 hk6;refine rd1 10 fun K9 Ky=>?_;refine step_append_lies _ (by rfl) _ _ _ (by rfl) (q+1) 34 i0 _ 5 96 Try.underlying23 hi hz0 hz1 hz2' rfl (by decide) (.slice a1 n1 c1) lx.length (rowCells NodLay0 lx) (by rfl) (HOX.out.kept J.out).1 ⟨w5.heap.size,0,none⟩ 1 1 [.string nI,.slice b1 m1 d1,.slice b2 m2 d2,.slice none 0 0,.bool false] (by rfl) (by rfl) (World.news_of_block (cs:=#[.string nI,.slice b1 m1 d1,.slice b2 m2 d2,.slice none 0 0,.bool false]) (t:=34) (fr:=(0,0)) HC6.out) (one_node0 ((nodZ nI zI,(b1,m1,d1),(b2,m2,d2),(none,0,0)):NX)) (by decide) (by have:=HLL.out;unfold maxLen;omega) (by have:=HLL.out;omega) (Nat.le_trans HQ.out.lt J.out.size) _ rfl ?_;intro g cap w7 hown hgrow hat hlt9;have HF:=lH (TInv.putN (z:=((nodZ nI zI,(b1,m1,d1),(b2,m2,d2),(none,0,0)):NX)) (HQ.out.kept J.out) (HO3.out.kept J.out) (K.out.trans J.out) HQB.out HLX.out (HOX.out.kept J.out) (fun z hz=>(HDX.out z hz).step (GOff.of J.out)) HZO.out hown hgrow hat);clear hown hgrow hat hlt9;refine Ky.out _ _ trivial (fun _=>?_);clear Ky K9;try simp only[nA,nB,nC,nD,nE]
        refine tR 11 rfl (by kernel_rfl) (fun _ _ _=>id) (Or.inl ⟨by rfl,(by intro W hSw;go_simp<;>with_reducible rfl)⟩) ‹_› ?_;try simp only[nA,nB,nC,nD,nE]
        have z0:=HF.out.1.at_ 0 _ rfl;have f0:=HF.out.1.free 0;refine rd1 12 fun K9 Ky=>?_;go_simp;refine Ky.out _ _ trivial (fun _=>?_);clear Ky K9;try simp only[nA,nB,nC,nD,nE]
        clear z0 f0;refine wpAnyH_done (by kernel_rfl) ?_ _;have HE9:=lH (show TInv q (evT k (i+1) 0) w _ from by rw[evT_nod,HEV.out];exact HF.out.2);go_wp2;go_roundw
        case rel=>exact⟨i+1,by omega,by go_num,HE9.out⟩
        case measure=>simp[intOf];omega
      · go_simp;refine(HDEC.out _).mono ?_;rintro e3 w4 ⟨rfl,kk⟩;have J:=lH (J.out.trans kk);clear kk;refine Ky.out _ _ trivial (fun _=>?_);clear Ky K9;try simp only[nA,nB,nC,nD,nE]
        refine tR 7 rfl (by kernel_rfl) (fun _ _ _=>id) (Or.inl ⟨by rfl,(by intro W hSw;go_simp<;>with_reducible rfl)⟩) ‹_› ?_;try simp only[nA,nB,nC,nD,nE]
        refine wpAnyH_ready  (rs:=[1,8]) (by kernel_rfl) (by simp) (AllReadyH.cons  (by rw[List.getElem?_toArray];exact rfl) (fun K9 Ky=>?_) (AllReadyH.cons  (by rw[List.getElem?_toArray];exact rfl) (fun K9 Ky=>?_) AllReadyH.nil))
        · skip;have y0:w4.cell? ⟨q,0,none⟩=some (.slice a1 n1 c1):=(HQ.out.kept J.out).at_ 0 _ rfl;go_simp;refine Ky.out _ _ trivial (fun _=>?_);clear Ky K9 y0;try simp only[nA,nB,nC,nD,nE]
          refine rd1 8 fun K9 Ky=>?_;go_simp;refine(zoned_far nI zI HNS.out HZS.out _).mono ?_;rintro e5 w5 ⟨b1,m1,d1,b2,m2,d2,rfl,hz,kk,hb1,hb2⟩;have HZO:=lH (show Off (Tri (fun b=>b=q) (.slice a1 n1 c1) (.slice a2 n2 c2) (.slice none 0 0)) w5 fun u=>NodAt u (.slice b1 m1 d1) (.slice b2 m2 d2) (.slice none 0 0) (nodZ nI zI) from hz.off (B:=w4.heap.size) hb1 hb2 (Behind.none _) (fun k h e=>by have:=HO3.out.triLt HQ.out.lt k e;have:=J.out.size;omega));have J:=lH (J.out.trans kk);clear kk hz hb1 hb2;refine Ky.out _ _ trivial (fun _=>?_);clear Ky K9;try simp only[nA,nB,nC,nD,nE]
          refine rd1 9 fun K9 Ky=>?_;go_simp;refine Ky.out _ _ trivial (fun _=>?_);clear Ky K9;try simp only[nA,nB,nC,nD,nE]
          obtain⟨w6,hw6⟩:=eX (w5.alloc (.cells #[.string nI,.slice b1 m1 d1,.slice b2 m2 d2,.slice none 0 0,.bool false] 34))
          have hk6:Kept w5 w6:=by rw[←hw6];exact kept_alloc _ _
          obtain⟨HC6,J,HZO⟩:=lH3 (show w6.heap[w5.heap.size]?=some (.cells #[.string nI,.slice b1 m1 d1,.slice b2 m2 d2,.slice none 0 0,.bool false] 34) by rw[←hw6];exact World.alloc_heap_new w5 _) (J.out.trans hk6) (HZO.out.step (GOff.of hk6));try rw[hw6]
          clear hw6 hk6;refine rd1 10 fun K9 Ky=>?_;refine step_append_lies _ (by rfl) _ _ _ (by rfl) (q+1) 34 i0 _ 5 96 Try.underlying23 hi hz0 hz1 hz2' rfl (by decide) (.slice a1 n1 c1) lx.length (rowCells NodLay0 lx) (by rfl) (HOX.out.kept J.out).1 ⟨w5.heap.size,0,none⟩ 1 1 [.string nI,.slice b1 m1 d1,.slice b2 m2 d2,.slice none 0 0,.bool false] (by rfl) (by rfl) (World.news_of_block (cs:=#[.string nI,.slice b1 m1 d1,.slice b2 m2 d2,.slice none 0 0,.bool false]) (t:=34) (fr:=(0,0)) HC6.out) (one_node0 ((nodZ nI zI,(b1,m1,d1),(b2,m2,d2),(none,0,0)):NX)) (by decide) (by have:=HLL.out;unfold maxLen;omega) (by have:=HLL.out;omega) (Nat.le_trans HQ.out.lt J.out.size) _ rfl ?_;intro g cap w7 hown hgrow hat hlt9;have HF:=lH (TInv.putN (z:=((nodZ nI zI,(b1,m1,d1),(b2,m2,d2),(none,0,0)):NX)) (HQ.out.kept J.out) (HO3.out.kept J.out) (K.out.trans J.out) HQB.out HLX.out (HOX.out.kept J.out) (fun z hz=>(HDX.out z hz).step (GOff.of J.out)) HZO.out hown hgrow hat);clear hown hgrow hat hlt9;refine Ky.out _ _ trivial (fun _=>?_);clear Ky K9;try simp only[nA,nB,nC,nD,nE]
          refine tR 11 rfl (by kernel_rfl) (fun _ _ _=>id) (Or.inl ⟨by rfl,(by intro W hSw;go_simp<;>with_reducible rfl)⟩) ‹_› ?_;try simp only[nA,nB,nC,nD,nE]
          have z0:=HF.out.1.at_ 0 _ rfl;have f0:=HF.out.1.free 0;refine rd1 12 fun K9 Ky=>?_;go_simp;refine Ky.out _ _ trivial (fun _=>?_);clear Ky K9;try simp only[nA,nB,nC,nD,nE]
          clear z0 f0;refine wpAnyH_done (by kernel_rfl) ?_ _;have HE9:=lH (show TInv q (evT k (i+1) 0) w _ from by rw[evT_nod,HEV.out];exact HF.out.2);go_wp2;go_roundw
          case rel=>exact⟨i+1,by omega,by go_num,HE9.out⟩
          case measure=>simp[intOf];omega
        · go_simp;refine(zoned_far nI zI HNS.out HZS.out _).mono ?_;rintro e5 w5 ⟨b1,m1,d1,b2,m2,d2,rfl,hz,kk,hb1,hb2⟩;have HZO:=lH (show Off (Tri (fun b=>b=q) (.slice a1 n1 c1) (.slice a2 n2 c2) (.slice none 0 0)) w5 fun u=>NodAt u (.slice b1 m1 d1) (.slice b2 m2 d2) (.slice none 0 0) (nodZ nI zI) from hz.off (B:=w4.heap.size) hb1 hb2 (Behind.none _) (fun k h e=>by have:=HO3.out.triLt HQ.out.lt k e;have:=J.out.size;omega));have J:=lH (J.out.trans kk);clear kk hz hb1 hb2;refine Ky.out _ _ trivial (fun _=>?_);clear Ky K9;try simp only[nA,nB,nC,nD,nE]
          refine wpAnyH_ready  (rs:=[1,9]) (by kernel_rfl) (by simp) (AllReadyH.cons  (by rw[List.getElem?_toArray];exact rfl) (fun K9 Ky=>?_) (AllReadyH.cons  (by rw[List.getElem?_toArray];exact rfl) (fun K9 Ky=>?_) AllReadyH.nil))
          · skip;have y0:w5.cell? ⟨q,0,none⟩=some (.slice a1 n1 c1):=(HQ.out.kept J.out).at_ 0 _ rfl;go_simp;refine Ky.out _ _ trivial (fun _=>?_);clear Ky K9 y0;try simp only[nA,nB,nC,nD,nE]
            refine rd1 9 fun K9 Ky=>?_;go_simp;refine Ky.out _ _ trivial (fun _=>?_);clear Ky K9;try simp only[nA,nB,nC,nD,nE]
            obtain⟨w6,hw6⟩:=eX (w5.alloc (.cells #[.string nI,.slice b1 m1 d1,.slice b2 m2 d2,.slice none 0 0,.bool false] 34))
            have hk6:Kept w5 w6:=by rw[←hw6];exact kept_alloc _ _
            obtain⟨HC6,J,HZO⟩:=lH3 (show w6.heap[w5.heap.size]?=some (.cells #[.string nI,.slice b1 m1 d1,.slice b2 m2 d2,.slice none 0 0,.bool false] 34) by rw[←hw6];exact World.alloc_heap_new w5 _) (J.out.trans hk6) (HZO.out.step (GOff.of hk6));try rw[hw6]
            clear hw6 hk6;refine rd1 10 fun K9 Ky=>?_;refine step_append_lies _ (by rfl) _ _ _ (by rfl) (q+1) 34 i0 _ 5 96 Try.underlying23 hi hz0 hz1 hz2' rfl (by decide) (.slice a1 n1 c1) lx.length (rowCells NodLay0 lx) (by rfl) (HOX.out.kept J.out).1 ⟨w5.heap.size,0,none⟩ 1 1 [.string nI,.slice b1 m1 d1,.slice b2 m2 d2,.slice none 0 0,.bool false] (by rfl) (by rfl) (World.news_of_block (cs:=#[.string nI,.slice b1 m1 d1,.slice b2 m2 d2,.slice none 0 0,.bool false]) (t:=34) (fr:=(0,0)) HC6.out) (one_node0 ((nodZ nI zI,(b1,m1,d1),(b2,m2,d2),(none,0,0)):NX)) (by decide) (by have:=HLL.out;unfold maxLen;omega) (by have:=HLL.out;omega) (Nat.le_trans HQ.out.lt J.out.size) _ rfl ?_;intro g cap w7 hown hgrow hat hlt9;have HF:=lH (TInv.putN (z:=((nodZ nI zI,(b1,m1,d1),(b2,m2,d2),(none,0,0)):NX)) (HQ.out.kept J.out) (HO3.out.kept J.out) (K.out.trans J.out) HQB.out HLX.out (HOX.out.kept J.out) (fun z hz=>(HDX.out z hz).step (GOff.of J.out)) HZO.out hown hgrow hat);clear hown hgrow hat hlt9;refine Ky.out _ _ trivial (fun _=>?_);clear Ky K9;try simp only[nA,nB,nC,nD,nE]
            refine tR 11 rfl (by kernel_rfl) (fun _ _ _=>id) (Or.inl ⟨by rfl,(by intro W hSw;go_simp<;>with_reducible rfl)⟩) ‹_› ?_;try simp only[nA,nB,nC,nD,nE]
            have z0:=HF.out.1.at_ 0 _ rfl;have f0:=HF.out.1.free 0;refine rd1 12 fun K9 Ky=>?_;go_simp;refine Ky.out _ _ trivial (fun _=>?_);clear Ky K9;try simp only[nA,nB,nC,nD,nE]
            clear z0 f0;refine wpAnyH_done (by kernel_rfl) ?_ _;have HE9:=lH (show TInv q (evT k (i+1) 0) w _ from by rw[evT_nod,HEV.out];exact HF.out.2);go_wp2;go_roundw
            case rel=>exact⟨i+1,by omega,by go_num,HE9.out⟩
            case measure=>simp[intOf];omega
          · go_simp;refine Ky.out _ _ trivial (fun _=>?_);clear Ky K9;try simp only[nA,nB,nC,nD,nE]
            obtain⟨w6,hw6⟩:=eX (w5.alloc (.cells #[.string nI,.slice b1 m1 d1,.slice b2 m2 d2,.slice none 0 0,.bool false] 34))
            have hk6:Kept w5 w6:=by rw[←hw6];exact kept_alloc _ _
            obtain⟨HC6,J,HZO⟩:=lH3 (show w6.heap[w5.heap.size]?=some (.cells #[.string nI,.slice b1 m1 d1,.slice b2 m2 d2,.slice none 0 0,.bool false] 34) by rw[←hw6];exact World.alloc_heap_new w5 _) (J.out.trans hk6) (HZO.out.step (GOff.of hk6));try rw[hw6]
            clear hw6 hk6;refine rd1 1 fun K9 Ky=>?_;have y0:w6.cell? ⟨q,0,none⟩=some (.slice a1 n1 c1):=(HQ.out.kept J.out).at_ 0 _ rfl;go_simp;refine Ky.out _ _ trivial (fun _=>?_);clear Ky K9 y0;try simp only[nA,nB,nC,nD,nE]
            refine rd1 10 fun K9 Ky=>?_;refine step_append_lies _ (by rfl) _ _ _ (by rfl) (q+1) 34 i0 _ 5 96 Try.underlying23 hi hz0 hz1 hz2' rfl (by decide) (.slice a1 n1 c1) lx.length (rowCells NodLay0 lx) (by rfl) (HOX.out.kept J.out).1 ⟨w5.heap.size,0,none⟩ 1 1 [.string nI,.slice b1 m1 d1,.slice b2 m2 d2,.slice none 0 0,.bool false] (by rfl) (by rfl) (World.news_of_block (cs:=#[.string nI,.slice b1 m1 d1,.slice b2 m2 d2,.slice none 0 0,.bool false]) (t:=34) (fr:=(0,0)) HC6.out) (one_node0 ((nodZ nI zI,(b1,m1,d1),(b2,m2,d2),(none,0,0)):NX)) (by decide) (by have:=HLL.out;unfold maxLen;omega) (by have:=HLL.out;omega) (Nat.le_trans HQ.out.lt J.out.size) _ rfl ?_;intro g cap w7 hown hgrow hat hlt9;have HF:=lH (TInv.putN (z:=((nodZ nI zI,(b1,m1,d1),(b2,m2,d2),(none,0,0)):NX)) (HQ.out.kept J.out) (HO3.out.kept J.out) (K.out.trans J.out) HQB.out HLX.out (HOX.out.kept J.out) (fun z hz=>(HDX.out z hz).step (GOff.of J.out)) HZO.out hown hgrow hat);clear hown hgrow hat hlt9;refine Ky.out _ _ trivial (fun _=>?_);clear Ky K9;try simp only[nA,nB,nC,nD,nE]
            refine tR 11 rfl (by kernel_rfl) (fun _ _ _=>id) (Or.inl ⟨by rfl,(by intro W hSw;go_simp<;>with_reducible rfl)⟩) ‹_› ?_;try simp only[nA,nB,nC,nD,nE]
            have z0:=HF.out.1.at_ 0 _ rfl;have f0:=HF.out.1.free 0;refine rd1 12 fun K9 Ky=>?_;go_simp;refine Ky.out _ _ trivial (fun _=>?_);clear Ky K9;try simp only[nA,nB,nC,nD,nE]
            clear z0 f0;refine wpAnyH_done (by kernel_rfl) ?_ _;have HE9:=lH (show TInv q (evT k (i+1) 0) w _ from by rw[evT_nod,HEV.out];exact HF.out.2);go_wp2;go_roundw
            case rel=>exact⟨i+1,by omega,by go_num,HE9.out⟩
            case measure=>simp[intOf];omega
  · skip;have hkk:¬(i:Int)<(k:Int):=by omega
    obtain rfl:k=i:=by omega
    have HT1:=lH (show TInv q (evT k k 0) w wr from⟨_,_,_,_,_,_,HQ.out,HO3.out,K.out⟩);clear HQ HO3 K;obtain⟨ws,hws⟩:∃W,W=wr:=⟨_,rfl⟩
    subst hws;go_wp2;go_loopw [9] (fun iv wr=>∃i:Nat,i≤n∧iv=.int .i64 i∧TInv q (evT k k i) w wr) (fun iv _=>n-(intOf iv).toNat)
    case atStart=>exact⟨0,Nat.zero_le _,rfl,HT1.out⟩
    case round =>
     obtain⟨i,hin,rfl,a1,n1,c1,a2,n2,c2,hq,ho,hkw⟩:=hrel;obtain⟨HQ,HO3,K⟩:=lH3 hq ho hkw;clear hq ho hkw HT1;obtain⟨g1,rfl,rfl⟩:∃g1,a1=some ⟨g1,0,none⟩∧k=n1:=by
      obtain⟨lx,hlx,hox,-⟩:=HO3.out.n;have h1:=congrArg List.length hlx;rw[List.length_map] at h1;have h2:((evT k k i).nodes).length=k:=by unfold evT;simp
      rcases hox.1.2 with ⟨e0,hz⟩ | ⟨g,cp,cur,e0,-⟩
      · omega
      · cases e0;exact⟨g,rfl,(h1.trans h2).symm⟩
     by_cases hlt:i<n
     · skip;have hii:(i:Int)<(n:Int):=by omega
       have hi20:i<20:=by omega
       obtain⟨u,hu⟩:∃u:Nat,97+(i:Int)=(u:Int):=⟨97+i,by omega⟩
       have cv:=convE wr u;have u1:(u:Int) % 256=(u:Int):=by omega
       have hcs:(bytes [UInt8.ofNat u]).size=1:=bytes_size _;have HA:=lH (show (({ data:=#[112] }:ByteArray)++bytes [UInt8.ofNat u])=evPm i by
        rw[show u=97+i by omega];apply Go.WideShapes.bytes_inj;simp[bytes,ByteArray.data_append])
       obtain⟨pI,hpI⟩:=eX (evPm i)
       have HPI:=lH hpI;rw[hpI] at HA;have HPS:=lH (show pI.size≤maxLen by rw[←hpI];exact(by decide:(2:Nat)≤maxLen));have HEQ:=lH (show evQ i=podO pI ⟨#[]⟩ 1 by unfold evQ;rw[hpI]);clear hpI;go_wp2_with fail
       rw[HA.out];refine(ownedLaw_far pI ⟨#[]⟩ 1 HPS.out (by decide:(0:Nat)≤maxLen) (by decide) _).mono ?_;rintro e2 w3 ⟨b9,m9,d9,rfl,hz,kk,hb9⟩;have HZO:=lH (hz.off (S:=Tri (fun b=>b=q) (.slice (some ⟨g1,0,none⟩) k c1) (.slice a2 n2 c2) (.slice none 0 0)) (B:=(wr.alloc (.cells #[.int .u8 u] 5)).heap.size) hb9 (Behind.none _) (Behind.none _) (Behind.none _) (fun k h e=>by have:=HO3.out.triLt HQ.out.lt k e;have:=(kept_alloc wr (.cells #[.int .u8 u] 5)).size;omega));have J:=lH ((kept_alloc wr (.cells #[.int .u8 u] 5)).trans kk);have HJ3:=lH J.out;have HB9:=lH hb9;clear cv hu u1 hcs kk HA hz hb9;obtain⟨w4,hw4⟩:=eX (w3.alloc (.cells #[.string pI,.string ⟨#[119,101,98]⟩,.int .i64 0,.slice b9 m9 d9,.slice none 0 0,.slice none 0 0,.slice none 0 0,.string ⟨#[122,111,110,101]⟩,.int .i64 1,.string ⟨#[]⟩,.bool false] 41))
       have hk4:Kept w3 w4:=by rw[←hw4];exact kept_alloc _ _
       obtain⟨HPB,HZO,J,HPQ⟩:=lH4 (show CellsN w3.heap.size [.string pI,.string ⟨#[119,101,98]⟩,.int .i64 0,.slice b9 m9 d9,.slice none 0 0,.slice none 0 0,.slice none 0 0,.string ⟨#[122,111,110,101]⟩,.int .i64 1,.string ⟨#[]⟩,.bool false] w4 from freshN w3 (.string pI) [.string ⟨#[119,101,98]⟩,.int .i64 0,.slice b9 m9 d9,.slice none 0 0,.slice none 0 0,.slice none 0 0,.string ⟨#[122,111,110,101]⟩,.int .i64 1,.string ⟨#[]⟩,.bool false] 41 w4 (by rw[hw4];exact Kept.refl _)) (HZO.out.new (S':=fun b=>Tri (fun b=>b=q) (.slice (some ⟨g1,0,none⟩) k c1) (.slice a2 n2 c2) (.slice none 0 0) b∨b=w3.heap.size) (GOff.of hk4) (fun k e=>e.imp id fun e=>by have e2:k=w3.heap.size:=e;omega)) (J.out.trans hk4) HJ3.out.size;obtain⟨p9,hp9⟩:=eX (w3.heap.size)
       rw[hp9] at HPB HPQ HZO;have HW4:=lH hw4;clear hw4 hk4;go_upto_region 14 with fail
       try rw[HW4.out]
       try rw[hp9]
       clear HW4 hp9;have HR0:=lH (show CluR wr (.agg #[.slice (some ⟨g1,0,none⟩) k c1,.slice a2 n2 c2,.slice none 0 0]) (evT k k i) from HO3.out.toR);obtain⟨x1,x2,x3,hux,hat9⟩:=HR0.out
       cases hux
       have HNA:=lH (show NodesAt wr (some ⟨g1,0,none⟩) k (evT k k i).nodes by
        obtain⟨a9,c9,e9,-,-,h9⟩:=hat9.nodes;have h2:((evT k k i).nodes).length=k:=by unfold evT;simp
        rw[h2] at h9 e9
        cases e9
        exact h9)
       have hn2:n2=i:=by
        obtain⟨a9,c9,e9,-⟩:=hat9.pods
        cases e9
        unfold evT;simp
       have HN2:=lH hn2;have HPA:=lH (show PodsAt wr a2 n2 (evT k k i).pods by obtain⟨a9,c9,e9,-,-,h9⟩:=hat9.pods;cases e9;exact h9);clear hat9 hn2;have HNMS:=lH (show ∀j,j<k→wr.cell? ⟨g1,j*5,none⟩=some (.string (evNm j)) from fun j hjk=>by
        obtain⟨lx,hlx,hox,-⟩:=HO3.out.n;have h1:(lx.map fun z=>z.1)[j]?=some (evN j):=by rw[hlx];unfold evT;rw[List.getElem?_map,List.getElem?_range hjk];rfl
        rw[List.getElem?_map] at h1;obtain⟨z,hz,e⟩:=Option.map_eq_some_iff.1 h1;have h2:=hox.cell_at hz (j:=0) (u:=.string z.1.name) rfl;rw[e] at h2;exact h2)
       have HF:=lH (show ∀W,Kept w4 W→W.cell? ⟨q,0,none⟩=some (.slice (some ⟨g1,0,none⟩) k c1)∧W.cell? ⟨q,1,none⟩=some (.slice a2 n2 c2)∧W.cell? ⟨q,2,none⟩=some (.slice none 0 0)∧W.cell? ⟨p9,0,none⟩=some (.string pI)∧W.cell? ⟨p9,1,none⟩=some (.string ⟨#[119,101,98]⟩)∧W.cell? ⟨p9,2,none⟩=some (.int .i64 0)∧W.cell? ⟨p9,3,none⟩=some (.slice b9 m9 d9)∧W.cell? ⟨p9,4,none⟩=some (.slice none 0 0)∧W.cell? ⟨p9,5,none⟩=some (.slice none 0 0)∧W.cell? ⟨p9,6,none⟩=some (.slice none 0 0)∧W.cell? ⟨p9,7,none⟩=some (.string ⟨#[122,111,110,101]⟩)∧W.cell? ⟨p9,8,none⟩=some (.int .i64 1)∧W.cell? ⟨p9,9,none⟩=some (.string ⟨#[]⟩)∧W.cell? ⟨p9,10,none⟩=some (.bool false) from fun W kk=>by
        have h:=HQ.out.kept (J.out.trans kk);have g:=HPB.out.kept kk;exact⟨h.at_ 0 _ rfl,h.at_ 1 _ rfl,h.at_ 2 _ rfl,g.at_ 0 _ rfl,g.at_ 1 _ rfl,g.at_ 2 _ rfl,g.at_ 3 _ rfl,g.at_ 4 _ rfl,g.at_ 5 _ rfl,g.at_ 6 _ rfl,g.at_ 7 _ rfl,g.at_ 8 _ rfl,g.at_ 9 _ rfl,g.at_ 10 _ rfl⟩)
       have HSK:=lH (show ∀j,j<k→∀W,Kept w4 W→Calls Try.prog 8 #[.agg #[.slice (some ⟨g1,0,none⟩) k c1,.slice a2 n2 c2,.slice none 0 0],.agg #[.string pI,.string ⟨#[119,101,98]⟩,.int .i64 0,.slice b9 m9 d9,.slice none 0 0,.slice none 0 0,.slice none 0 0,.string ⟨#[122,111,110,101]⟩,.int .i64 1,.string ⟨#[]⟩,.bool false],.string (evNm j)] W (Say (.tuple #[.int .i64 (evK k i j),.bool true]) W) from fun j hjk W kk=>by
        have h:=skew_any (some ⟨g1,0,none⟩) a2 none b9 none none none k c1 n2 c2 0 0 m9 d9 0 0 0 0 0 0 (evQ i) (evT k k i) (evNm j) W (HNA.out.kept (J.out.trans kk)) (HPA.out.kept (J.out.trans kk)) (by omega) (by have:=HN2.out;omega);rw[show skewS (evQ i) (evT k k i) (evNm j)=(evK k i j,true) from ev_skew k hkb.2 i hi20 j hjk,HEQ.out] at h;exact h)
       go_wp2;go_loopw [11,12] (fun bv jv wo=>∃j:Nat,j≤k∧bv=.int .i64 (evB k i j:Nat)∧jv=.int .i64 j∧Kept w4 wo) (fun _ jv _=>k-(intOf jv).toNat)
       case atStart=>exact⟨0,Nat.zero_le _,by rw[show evB k i 0=0 from by unfold evB;split<;>first | rfl | omega];rfl,rfl,Kept.refl _⟩
       case round =>
        obtain⟨j,hjk,rfl,rfl,hkj⟩:=hrel;have KO:=lH hkj;clear hkj;by_cases hlj:j<k
        · skip;have hjj:(j:Int)<(k:Int):=by omega
          have hj0n:¬(j:Int)<0:=by omega
          obtain⟨B,hB⟩:=eX (evB k i j)
          have hBk:B<k:=by rw[←hB];exact ev_in k hkb.2 i hi20 j hlj
          have hBB:(B:Int)<(k:Int):=by omega
          have hB0:¬(B:Int)<0:=by omega
          have HBN:=lH (show (if evK k i j<evK k i B then j else B)=evB k i (j+1) by rw[←hB];exact ev_best k hkb.2 i hi20 j hlj);have HPOS:=lH (ev_pos k hkb.2 i hi20 j hlj);rw[hB];clear hB;skip;go_upto_region 18 with fail
          have HFJ18:=lH (show ∀W,Kept w4 W→(W.cell? ⟨q,0,none⟩=some (.slice (some ⟨g1,0,none⟩) k c1)∧W.cell? ⟨q,1,none⟩=some (.slice a2 n2 c2)∧W.cell? ⟨q,2,none⟩=some (.slice none 0 0)∧W.cell? ⟨p9,0,none⟩=some (.string pI)∧W.cell? ⟨p9,1,none⟩=some (.string ⟨#[119,101,98]⟩)∧W.cell? ⟨p9,2,none⟩=some (.int .i64 0)∧W.cell? ⟨p9,3,none⟩=some (.slice b9 m9 d9)∧W.cell? ⟨p9,4,none⟩=some (.slice none 0 0)∧W.cell? ⟨p9,5,none⟩=some (.slice none 0 0)∧W.cell? ⟨p9,6,none⟩=some (.slice none 0 0)∧W.cell? ⟨p9,7,none⟩=some (.string ⟨#[122,111,110,101]⟩)∧W.cell? ⟨p9,8,none⟩=some (.int .i64 1)∧W.cell? ⟨p9,9,none⟩=some (.string ⟨#[]⟩)∧W.cell? ⟨p9,10,none⟩=some (.bool false)∧W.cell? ⟨g1,j*5,none⟩=some (.string (evNm j))) from fun W kk=>by
           obtain⟨o0,o1,o2,o3,o4,o5,o6,o7,o8,o9,o10,o11,o12,o13⟩:=HF.out W kk;exact⟨o0,o1,o2,o3,o4,o5,o6,o7,o8,o9,o10,o11,o12,o13,cell_later (J.out.trans kk) (HNMS.out j (by omega))⟩)
          have J18:=lH (KO.out.trans (Kept.drew wr));refine wp_region_held_drew (S:=fun W=>W.cell? ⟨q,0,none⟩=some (.slice (some ⟨g1,0,none⟩) k c1)∧W.cell? ⟨q,1,none⟩=some (.slice a2 n2 c2)∧W.cell? ⟨q,2,none⟩=some (.slice none 0 0)∧W.cell? ⟨p9,0,none⟩=some (.string pI)∧W.cell? ⟨p9,1,none⟩=some (.string ⟨#[119,101,98]⟩)∧W.cell? ⟨p9,2,none⟩=some (.int .i64 0)∧W.cell? ⟨p9,3,none⟩=some (.slice b9 m9 d9)∧W.cell? ⟨p9,4,none⟩=some (.slice none 0 0)∧W.cell? ⟨p9,5,none⟩=some (.slice none 0 0)∧W.cell? ⟨p9,6,none⟩=some (.slice none 0 0)∧W.cell? ⟨p9,7,none⟩=some (.string ⟨#[122,111,110,101]⟩)∧W.cell? ⟨p9,8,none⟩=some (.int .i64 1)∧W.cell? ⟨p9,9,none⟩=some (.string ⟨#[]⟩)∧W.cell? ⟨p9,10,none⟩=some (.bool false)∧W.cell? ⟨g1,j*5,none⟩=some (.string (evNm j))) (by kernel_rfl) (HFJ18.out _ J18.out) (fun hHeld=>?_);obtain⟨wd18,hwd⟩:=eX (wr.drew)
          rw[hwd] at J18 hHeld;try rw[hwd]
          clear hwd;refine tR 0 rfl (by kernel_rfl) (fun _ _ _=>id) (Or.inl ⟨by rfl,by rintro W ⟨o0,o1,o2,o3,o4,o5,o6,o7,o8,o9,o10,o11,o12,o13,o14⟩;go_simp<;>with_reducible rfl⟩) ‹_› ?_;try simp only[nA,nB,nC,nD,nE]
          refine tR 1 rfl (by kernel_rfl) (fun _ _ _=>id) (Or.inl ⟨by rfl,by rintro W ⟨o0,o1,o2,o3,o4,o5,o6,o7,o8,o9,o10,o11,o12,o13,o14⟩;go_simp<;>with_reducible rfl⟩) ‹_› ?_;try simp only[nA,nB,nC,nD,nE]
          refine tR 2 rfl (by kernel_rfl) (fun _ _ _=>id) (Or.inl ⟨by rfl,by rintro W ⟨o0,o1,o2,o3,o4,o5,o6,o7,o8,o9,o10,o11,o12,o13,o14⟩;go_simp<;>with_reducible rfl⟩) ‹_› ?_;try simp only[nA,nB,nC,nD,nE]
          refine tR 3 rfl (by kernel_rfl) (fun _ _ _=>id) (Or.inl ⟨by rfl,by rintro W ⟨o0,o1,o2,o3,o4,o5,o6,o7,o8,o9,o10,o11,o12,o13,o14⟩;go_simp<;>with_reducible rfl⟩) ‹_› ?_;try simp only[nA,nB,nC,nD,nE]
          refine tR 4 rfl (by kernel_rfl) (fun _ _ _=>id) (Or.inl ⟨by rfl,by rintro W ⟨o0,o1,o2,o3,o4,o5,o6,o7,o8,o9,o10,o11,o12,o13,o14⟩;go_simp<;>with_reducible rfl⟩) ‹_› ?_;try simp only[nA,nB,nC,nD,nE]
          refine tR 5 rfl (by kernel_rfl) (fun _ _ _=>id) (Or.inl ⟨by rfl,by rintro W ⟨o0,o1,o2,o3,o4,o5,o6,o7,o8,o9,o10,o11,o12,o13,o14⟩;go_simp<;>with_reducible rfl⟩) ‹_› ?_;try simp only[nA,nB,nC,nD,nE]
          refine tR 6 rfl (by kernel_rfl) (fun _ _ _=>id) (Or.inl ⟨by rfl,by rintro W ⟨o0,o1,o2,o3,o4,o5,o6,o7,o8,o9,o10,o11,o12,o13,o14⟩;go_simp<;>with_reducible rfl⟩) ‹_› ?_;try simp only[nA,nB,nC,nD,nE]
          refine tR 7 rfl (by kernel_rfl) (fun _ _ _=>id) (Or.inl ⟨by rfl,by rintro W ⟨o0,o1,o2,o3,o4,o5,o6,o7,o8,o9,o10,o11,o12,o13,o14⟩;go_simp<;>with_reducible rfl⟩) ‹_› ?_;try simp only[nA,nB,nC,nD,nE]
          refine rd1 8 fun K9 Ky=>?_;go_simp;refine(HSK.out j (by omega) _ J18.out).mono ?_;rintro e y1 ⟨rfl,kk⟩;have KO2:=lH (J18.out.trans kk);clear kk;refine Ky.out _ _ (HFJ18.out _ KO2.out) (fun _=>?_);clear Ky K9;try simp only[nA,nB,nC,nD,nE]
          refine tR 9 rfl (by kernel_rfl) (fun _ _ _=>id) (Or.inl ⟨by rfl,by rintro W ⟨o0,o1,o2,o3,o4,o5,o6,o7,o8,o9,o10,o11,o12,o13,o14⟩;go_simp<;>with_reducible rfl⟩) ‹_› ?_;try simp only[nA,nB,nC,nD,nE]
          refine tR 10 rfl (by kernel_rfl) (fun _ _ _=>id) (Or.inl ⟨by rfl,by rintro W ⟨o0,o1,o2,o3,o4,o5,o6,o7,o8,o9,o10,o11,o12,o13,o14⟩;go_simp<;>with_reducible rfl⟩) ‹_› ?_;try simp only[nA,nB,nC,nD,nE]
          refine tR 11 rfl (by kernel_rfl) (fun _ _ _=>id) (Or.inl ⟨by rfl,by rintro W ⟨o0,o1,o2,o3,o4,o5,o6,o7,o8,o9,o10,o11,o12,o13,o14⟩;go_simp<;>with_reducible rfl⟩) ‹_› ?_;try simp only[nA,nB,nC,nD,nE]
          refine tR 12 rfl (by kernel_rfl) (fun _ _ _=>id) (Or.inl ⟨by rfl,by rintro W ⟨o0,o1,o2,o3,o4,o5,o6,o7,o8,o9,o10,o11,o12,o13,o14⟩;go_simp<;>with_reducible rfl⟩) ‹_› ?_;try simp only[nA,nB,nC,nD,nE]
          refine tR 13 rfl (by kernel_rfl) (fun _ _ _=>id) (Or.inl ⟨by rfl,by rintro W ⟨o0,o1,o2,o3,o4,o5,o6,o7,o8,o9,o10,o11,o12,o13,o14⟩;go_simp<;>with_reducible rfl⟩) ‹_› ?_;try simp only[nA,nB,nC,nD,nE]
          refine wpAnyH_done (by kernel_rfl) ?_ _;clear HFJ18 J18;go_upto_region 19 with fail
          have HFJ19:=lH (show ∀W,Kept w4 W→(W.cell? ⟨q,0,none⟩=some (.slice (some ⟨g1,0,none⟩) k c1)∧W.cell? ⟨q,1,none⟩=some (.slice a2 n2 c2)∧W.cell? ⟨q,2,none⟩=some (.slice none 0 0)∧W.cell? ⟨p9,0,none⟩=some (.string pI)∧W.cell? ⟨p9,1,none⟩=some (.string ⟨#[119,101,98]⟩)∧W.cell? ⟨p9,2,none⟩=some (.int .i64 0)∧W.cell? ⟨p9,3,none⟩=some (.slice b9 m9 d9)∧W.cell? ⟨p9,4,none⟩=some (.slice none 0 0)∧W.cell? ⟨p9,5,none⟩=some (.slice none 0 0)∧W.cell? ⟨p9,6,none⟩=some (.slice none 0 0)∧W.cell? ⟨p9,7,none⟩=some (.string ⟨#[122,111,110,101]⟩)∧W.cell? ⟨p9,8,none⟩=some (.int .i64 1)∧W.cell? ⟨p9,9,none⟩=some (.string ⟨#[]⟩)∧W.cell? ⟨p9,10,none⟩=some (.bool false)∧W.cell? ⟨g1,B*5,none⟩=some (.string (evNm B))) from fun W kk=>by
           obtain⟨o0,o1,o2,o3,o4,o5,o6,o7,o8,o9,o10,o11,o12,o13⟩:=HF.out W kk;exact⟨o0,o1,o2,o3,o4,o5,o6,o7,o8,o9,o10,o11,o12,o13,cell_later (J.out.trans kk) (HNMS.out B (by omega))⟩)
          have J19:=lH (KO2.out.trans (Kept.drew y1));refine wp_region_held_drew (S:=fun W=>W.cell? ⟨q,0,none⟩=some (.slice (some ⟨g1,0,none⟩) k c1)∧W.cell? ⟨q,1,none⟩=some (.slice a2 n2 c2)∧W.cell? ⟨q,2,none⟩=some (.slice none 0 0)∧W.cell? ⟨p9,0,none⟩=some (.string pI)∧W.cell? ⟨p9,1,none⟩=some (.string ⟨#[119,101,98]⟩)∧W.cell? ⟨p9,2,none⟩=some (.int .i64 0)∧W.cell? ⟨p9,3,none⟩=some (.slice b9 m9 d9)∧W.cell? ⟨p9,4,none⟩=some (.slice none 0 0)∧W.cell? ⟨p9,5,none⟩=some (.slice none 0 0)∧W.cell? ⟨p9,6,none⟩=some (.slice none 0 0)∧W.cell? ⟨p9,7,none⟩=some (.string ⟨#[122,111,110,101]⟩)∧W.cell? ⟨p9,8,none⟩=some (.int .i64 1)∧W.cell? ⟨p9,9,none⟩=some (.string ⟨#[]⟩)∧W.cell? ⟨p9,10,none⟩=some (.bool false)∧W.cell? ⟨g1,B*5,none⟩=some (.string (evNm B))) (by kernel_rfl) (HFJ19.out _ J19.out) (fun hHeld=>?_);obtain⟨wd19,hwd⟩:=eX (y1.drew)
          rw[hwd] at J19 hHeld;try rw[hwd]
          clear hwd;refine tR 0 rfl (by kernel_rfl) (fun _ _ _=>id) (Or.inl ⟨by rfl,by rintro W ⟨o0,o1,o2,o3,o4,o5,o6,o7,o8,o9,o10,o11,o12,o13,o14⟩;go_simp<;>with_reducible rfl⟩) ‹_› ?_;try simp only[nA,nB,nC,nD,nE]
          refine tR 1 rfl (by kernel_rfl) (fun _ _ _=>id) (Or.inl ⟨by rfl,by rintro W ⟨o0,o1,o2,o3,o4,o5,o6,o7,o8,o9,o10,o11,o12,o13,o14⟩;go_simp<;>with_reducible rfl⟩) ‹_› ?_;try simp only[nA,nB,nC,nD,nE]
          refine tR 2 rfl (by kernel_rfl) (fun _ _ _=>id) (Or.inl ⟨by rfl,by rintro W ⟨o0,o1,o2,o3,o4,o5,o6,o7,o8,o9,o10,o11,o12,o13,o14⟩;go_simp<;>with_reducible rfl⟩) ‹_› ?_;try simp only[nA,nB,nC,nD,nE]
          refine tR 3 rfl (by kernel_rfl) (fun _ _ _=>id) (Or.inl ⟨by rfl,by rintro W ⟨o0,o1,o2,o3,o4,o5,o6,o7,o8,o9,o10,o11,o12,o13,o14⟩;go_simp<;>with_reducible rfl⟩) ‹_› ?_;try simp only[nA,nB,nC,nD,nE]
          refine tR 4 rfl (by kernel_rfl) (fun _ _ _=>id) (Or.inl ⟨by rfl,by rintro W ⟨o0,o1,o2,o3,o4,o5,o6,o7,o8,o9,o10,o11,o12,o13,o14⟩;go_simp<;>with_reducible rfl⟩) ‹_› ?_;try simp only[nA,nB,nC,nD,nE]
          refine tR 5 rfl (by kernel_rfl) (fun _ _ _=>id) (Or.inl ⟨by rfl,by rintro W ⟨o0,o1,o2,o3,o4,o5,o6,o7,o8,o9,o10,o11,o12,o13,o14⟩;go_simp<;>with_reducible rfl⟩) ‹_› ?_;try simp only[nA,nB,nC,nD,nE]
          refine tR 6 rfl (by kernel_rfl) (fun _ _ _=>id) (Or.inl ⟨by rfl,by rintro W ⟨o0,o1,o2,o3,o4,o5,o6,o7,o8,o9,o10,o11,o12,o13,o14⟩;go_simp<;>with_reducible rfl⟩) ‹_› ?_;try simp only[nA,nB,nC,nD,nE]
          refine tR 7 rfl (by kernel_rfl) (fun _ _ _=>id) (Or.inl ⟨by rfl,by rintro W ⟨o0,o1,o2,o3,o4,o5,o6,o7,o8,o9,o10,o11,o12,o13,o14⟩;go_simp<;>with_reducible rfl⟩) ‹_› ?_;try simp only[nA,nB,nC,nD,nE]
          refine rd1 8 fun K9 Ky=>?_;go_simp;refine(HSK.out B (by omega) _ J19.out).mono ?_;rintro e y2 ⟨rfl,kk⟩;have KO2:=lH (J19.out.trans kk);clear kk;refine Ky.out _ _ (HFJ19.out _ KO2.out) (fun _=>?_);clear Ky K9;try simp only[nA,nB,nC,nD,nE]
          refine tR 9 rfl (by kernel_rfl) (fun _ _ _=>id) (Or.inl ⟨by rfl,by rintro W ⟨o0,o1,o2,o3,o4,o5,o6,o7,o8,o9,o10,o11,o12,o13,o14⟩;go_simp<;>with_reducible rfl⟩) ‹_› ?_;try simp only[nA,nB,nC,nD,nE]
          refine tR 10 rfl (by kernel_rfl) (fun _ _ _=>id) (Or.inl ⟨by rfl,by rintro W ⟨o0,o1,o2,o3,o4,o5,o6,o7,o8,o9,o10,o11,o12,o13,o14⟩;go_simp<;>with_reducible rfl⟩) ‹_› ?_;try simp only[nA,nB,nC,nD,nE]
          refine tR 11 rfl (by kernel_rfl) (fun _ _ _=>id) (Or.inl ⟨by rfl,by rintro W ⟨o0,o1,o2,o3,o4,o5,o6,o7,o8,o9,o10,o11,o12,o13,o14⟩;go_simp<;>with_reducible rfl⟩) ‹_› ?_;try simp only[nA,nB,nC,nD,nE]
          refine tR 12 rfl (by kernel_rfl) (fun _ _ _=>id) (Or.inl ⟨by rfl,by rintro W ⟨o0,o1,o2,o3,o4,o5,o6,o7,o8,o9,o10,o11,o12,o13,o14⟩;go_simp<;>with_reducible rfl⟩) ‹_› ?_;try simp only[nA,nB,nC,nD,nE]
          refine tR 13 rfl (by kernel_rfl) (fun _ _ _=>id) (Or.inl ⟨by rfl,by rintro W ⟨o0,o1,o2,o3,o4,o5,o6,o7,o8,o9,o10,o11,o12,o13,o14⟩;go_simp<;>with_reducible rfl⟩) ‹_› ?_;try simp only[nA,nB,nC,nD,nE]
          refine wpAnyH_done (by kernel_rfl) ?_ _;clear HFJ19 J19;obtain⟨A,hA⟩:=eX (evK k i j)
          obtain⟨D,hD⟩:=eX (evK k i B)
          rw[hA,hD] at HBN;rw[hA] at HPOS;try rw[hA]
          try rw[hD]
          clear hA hD;have hA0:¬A<0:=HPOS.out;by_cases hAD:A<D
          · rw[if_pos hAD] at HBN;go_wp2;go_roundw
            case rel=>exact⟨j+1,by omega,by rw[←HBN.out],by go_num,KO2.out⟩
            case measure=>simp[intOf];omega
          · rw[if_neg hAD] at HBN;go_wp2;go_roundw
            case rel=>exact⟨j+1,by omega,by rw[←HBN.out],by go_num,KO2.out⟩
            case measure=>simp[intOf];omega
        · skip;have hjk2:j=k:=by omega
          have hjj:¬(j:Int)<(k:Int):=by omega
          obtain⟨r,hr⟩:=eX (i % k)
          have hrk:r<k:=by rw[←hr];exact Nat.mod_lt _ (by omega)
          have HBE:=lH (show evB k i j=r by rw[show j=k by omega,←hr];exact ev_end k i (by omega));rw[HBE.out];have hrr:(r:Int)<(k:Int):=by omega
          have hr0:¬(r:Int)<0:=by omega
          have HRR:=lH hr;clear hr;obtain⟨nR,hnR⟩:=eX (evNm r)
          have HNR:=lH hnR;have HNZ:=lH (show nR.size≤maxLen by rw[←hnR];exact(by decide:(2:Nat)≤maxLen));obtain⟨o0,o1,o2,s0,s1,s2,s3,s4,s5,s6,s7,s8,s9,s10⟩:=HF.out _ KO.out;have t0:wr.cell? ⟨g1,r*5,none⟩=some (.string nR):=by rw[←hnR];exact cell_later (J.out.trans KO.out) (HNMS.out r hrk)
          have HPBX:=lH (HPB.out.kept KO.out);have f9:=HPBX.out.free 9;clear hnR;obtain⟨HPS2,KS,HQS,GS⟩:=lH4 (HPBX.out.set (j:=9) (u:=.string nR) (by simp)) (kept_cell (J.out.trans KO.out) (a:=⟨p9,9,none⟩) HPQ.out (.string nR)) ((HQ.out.kept (J.out.trans KO.out)).other (p:=p9) (j:=9) (u:=.string nR) (by have:=HQ.out.lt;have:=HPQ.out;omega)) (GOff.cell (S:=fun b=>b=p9) (a:=wr) p9 9 (.string nR) rfl);have HO3S:=lH (HO3.out.kept KS.out);obtain⟨WS,hWS⟩:=eX (wr.setCell ⟨p9,9,none⟩ (.string nR))
          rw[hWS] at HPS2 KS HQS GS HO3S;have HWS:=lH hWS;clear hWS;go_upto_region 25 with fail
          try rw[HWS.out]
          clear HWS o0 o1 o2 s0 s1 s2 s3 s4 s5 s6 s7 s8 s9 s10 t0 f9;obtain⟨lx,hlx,hox,hdx⟩:=HO3S.out.p;have hll:lx.length=i:=by
           have h1:=congrArg List.length hlx;rw[List.length_map] at h1;have h2:((evT k k i).pods).length=i:=by unfold evT;simp
           exact h1.trans h2
          have HZS:=lH (show Off (Tri (fun b=>b=q) (.slice (some ⟨g1,0,none⟩) k c1) (.slice a2 n2 c2) (.slice none 0 0)) WS fun u=>PodAt u (.slice b9 m9 d9) (.slice none 0 0) (.slice none 0 0) (.slice none 0 0) (podO pI nR 1) from((HZO.out.step ((GOff.of KO.out).trans (GS.out.mono fun b e=>.inr e))).less fun b e=>.inl e).imp fun u h=>⟨h.name,h.owner,h.key,HNZ.out,h.prio,h.most,h.need,h.labels,h.sel,h.tols⟩);have HEP:=lH (show evP k i=podO pI nR 1 by unfold evP;rw[HPI.out,HRR.out,HNR.out]);obtain⟨q0,q1,q2⟩:=HQS.out.at3;obtain⟨s0,s1,s2,s3,s4,s5,s6,s7,s8,s9,s10⟩:=HPS2.out.at11;have HOW:=lH (show WS.ownsRow (q+1) 41 11 (.slice a2 n2 c2) lx.length (rowCells PodLay0 lx) from hox.1);have hqs:q+1≤WS.heap.size:=by have:=HQS.out.lt;omega
          obtain⟨HLX,HOX,HDX,HLL⟩:=lH4 hlx hox hdx hll;have hlb:lx.length≤20:=by omega
          clear hlx hox hdx hll;have KA:=lH (kept_alloc WS (.cells #[.string pI,.string ⟨#[119,101,98]⟩,.int .i64 0,.slice b9 m9 d9,.slice none 0 0,.slice none 0 0,.slice none 0 0,.string ⟨#[122,111,110,101]⟩,.int .i64 1,.string nR,.bool false] 41));go_wp2_with (at_builtin;refine wpList_append_lies _ rfl _ _ _ rfl (q+1) 41 j0 _ 11 184 Try.underlying24 hj hj0 hj1 hj2' rfl (by decide) (.slice a2 n2 c2) lx.length (rowCells PodLay0 lx) rfl (HOW.out.alloc _) ⟨WS.heap.size,0,none⟩ 1 1 (PodLay0.cs ((podO pI nR 1,(b9,m9,d9),(none,0,0),(none,0,0),(none,0,0)):PX)) rfl rfl (World.news_of_block (cs:=#[.string pI,.string ⟨#[119,101,98]⟩,.int .i64 0,.slice b9 m9 d9,.slice none 0 0,.slice none 0 0,.slice none 0 0,.string ⟨#[122,111,110,101]⟩,.int .i64 1,.string nR,.bool false]) (t:=41) (fr:=(0,0)) (heap_alloc_new WS _)) (one_pod0 ((podO pI nR 1,(b9,m9,d9),(none,0,0),(none,0,0),(none,0,0)):PX)) (by decide) (by unfold maxLen;omega) (by omega) (by simp;omega) (WS.heap.size+1) (by simp) ?_;intro gg cap1 w7 hown1 hgrow hat1 hlt1;have HFI:=lH (TInv.putP (z:=((podO pI nR 1,(b9,m9,d9),(none,0,0),(none,0,0),(none,0,0)):PX)) (HQS.out.kept KA.out) (HO3S.out.kept KA.out) (K.out.trans (KS.out.trans KA.out)) HQB.out HLX.out (HOX.out.kept KA.out) (fun z hz=>(HDX.out z hz).step (GOff.of KA.out)) (HZS.out.step (GOff.of KA.out)) hown1 hgrow (hat1.imp id fun e=>by rw[e];simp));obtain⟨z0,z1,z2⟩:=HFI.out.1.at3;have f1:=HFI.out.1.free 1)
          clear hown1 hgrow hat1 hlt1 q0 q1 q2 s0 s1 s2 s3 s4 s5 s6 s7 s8 s9 s10;go_wp2;go_roundw
          case rel=>exact⟨i+1,by omega,by go_num,by rw[evT_pod,HEP.out];exact HFI.out.2⟩
          case measure=>simp[intOf];omega
     · skip;have hii:¬(i:Int)<(n:Int):=by omega
       obtain rfl:n=i:=by omega
       obtain⟨w5,hw5⟩:∃W,W=wr:=⟨_,rfl⟩
       subst hw5;have HR0:=lH (show CluR w5 (.agg #[.slice (some ⟨g1,0,none⟩) k c1,.slice a2 n2 c2,.slice none 0 0]) (evT k k n) from HO3.out.toR);obtain⟨x1,x2,x3,hux,hat9⟩:=HR0.out
       cases hux
       have HNA:=lH (show NodesAt w5 (some ⟨g1,0,none⟩) k (evT k k n).nodes by
        obtain⟨a9,c9,e9,-,-,h9⟩:=hat9.nodes;have h2:((evT k k n).nodes).length=k:=by unfold evT;simp
        rw[h2] at h9 e9
        cases e9
        exact h9)
       have HN2:=lH (show n2=n by
        obtain⟨a9,c9,e9,-⟩:=hat9.pods
        cases e9
        unfold evT;simp)
       have HPA:=lH (show PodsAt w5 a2 n2 (evT k k n).pods by obtain⟨a9,c9,e9,-,-,h9⟩:=hat9.pods;cases e9;exact h9);clear hat9;have HF:=lH (show ∀W,Kept w5 W→W.cell? ⟨q,0,none⟩=some (.slice (some ⟨g1,0,none⟩) k c1)∧W.cell? ⟨q,1,none⟩=some (.slice a2 n2 c2)∧W.cell? ⟨q,2,none⟩=some (.slice none 0 0) from fun W kk=>(HQ.out.kept kk).at3);go_wp2;go_loopw [17] (fun jv wr=>∃j:Nat,j≤k∧jv=.int .i64 j∧Kept w5 wr) (fun jv _=>k-(intOf jv).toNat)
       case atStart=>exact⟨0,Nat.zero_le _,rfl,Kept.refl _⟩
       case round =>
        obtain⟨j,hjk,rfl,hkj⟩:=hrel;have KO:=lH hkj;clear hkj;by_cases hlj:j<k
        · skip;have hjj:(j:Int)<(k:Int):=by omega
          have hi6:j<6:=by omega
          have HDEC:=lH (show ∀W,Calls Try.prog 6 #[.int .i64 (j:Int)] W (fun e w'=>e=.returned (.string (bytes (Lib.itoa (j:Int))))∧Kept W w') from fun W=>Vec.decimal_any (j:Int) W (by omega) (by omega));rw[ev_dec j hi6] at HDEC;have hzm:=ev_zm j;obtain⟨dI,hdI⟩:=eX ((⟨#[(48+j).toUInt8]⟩:ByteArray))
          obtain⟨zI,hzI⟩:=eX (evZm j)
          rw[hdI] at HDEC hzm;rw[hzI] at hzm;have hds:dI.size=1:=by rw[←hdI];rfl
          have HZS:=lH (show zI.size≤maxLen by rw[←hzI];exact(by decide:(2:Nat)≤maxLen));have ad2:∀W,(Op.stringOp .add (⟨#[122]⟩:ByteArray) dI).run Try.prog W=.ok (.string zI) W:=fun W=>by
           have h:=run_string_add_sum (P:=Try.prog) W (⟨#[122]⟩:ByteArray) dI (by rw[hds];decide);rw[hzm] at h;exact h
          obtain⟨C,hC⟩:=eX (evC k n j)
          have HEV:=lH (ev_even k hkb.2 n hnb j hlj);rw[hC] at HEV;have HCT:=lH (show ∀b9 m9 d9 W,Kept w5 W→Calls Try.prog 9 #[.agg #[.slice (some ⟨g1,0,none⟩) k c1,.slice a2 n2 c2,.slice none 0 0],.agg #[.string ⟨#[122,122]⟩,.string ⟨#[119,101,98]⟩,.int .i64 0,.slice b9 m9 d9,.slice none 0 0,.slice none 0 0,.slice none 0 0,.string ⟨#[122,111,110,101]⟩,.int .i64 1,.string ⟨#[]⟩,.bool false],.string zI] W (Say (.int .i64 (C:Int)) W) from fun b9 m9 d9 W kk=>by
           have h:=count_any (some ⟨g1,0,none⟩) a2 none b9 none none none k c1 n2 c2 0 0 m9 d9 0 0 0 0 0 0 evZ (evT k k n) zI W HZS.out (HNA.out.kept kk) (HPA.out.kept kk) (by omega) (by have:=HN2.out;omega);rw[←hzI,show inD evZ (evT k k n).pods (evZm j) (evT k k n).nodes=evC k n j from ev_count k hkb.2 n hnb j hlj,hC,hzI] at h;exact h)
          clear hzm hdI hzI hds hC;go_upto_region 29 with fail
          have J:=lH (KO.out.trans (Kept.drew wr));refine wp_region_held_drew (S:=fun W=>W.cell? ⟨q,0,none⟩=some (.slice (some ⟨g1,0,none⟩) k c1)∧W.cell? ⟨q,1,none⟩=some (.slice a2 n2 c2)∧W.cell? ⟨q,2,none⟩=some (.slice none 0 0)) (by kernel_rfl) (HF.out _ J.out) (fun hHeld=>?_);obtain⟨wd,hwd⟩:=eX (wr.drew)
          rw[hwd] at J hHeld;try rw[hwd]
          clear hwd;refine tR 0 rfl (by kernel_rfl) (fun _ _ _=>id) (Or.inl ⟨by rfl,by rintro W ⟨o0,o1,o2⟩;go_simp<;>with_reducible rfl⟩) ‹_› ?_;try simp only[nA,nB,nC,nD,nE]
          refine tR 2 rfl (by kernel_rfl) (fun _ _ _=>id) (Or.inl ⟨by rfl,by rintro W ⟨o0,o1,o2⟩;go_simp<;>with_reducible rfl⟩) ‹_› ?_;try simp only[nA,nB,nC,nD,nE]
          refine rd1 1 fun K9 Ky=>?_;go_simp;refine(ownedLaw_any ⟨#[122,122]⟩ ⟨#[]⟩ 1 (by decide:(2:Nat)≤maxLen) (by decide:(0:Nat)≤maxLen) (by decide) _).mono ?_;rintro e y3 ⟨b9,m9,d9,rfl,-,kk⟩;have J:=lH (J.out.trans kk);clear kk;refine Ky.out _ _ (HF.out _ J.out) (fun _=>?_);clear Ky K9;try simp only[nA,nB,nC,nD,nE]
          refine rd1 3 fun K9 Ky=>?_;go_simp;refine(HDEC.out _).mono ?_;rintro e y4 ⟨rfl,kk⟩;have J:=lH (J.out.trans kk);clear kk;refine Ky.out _ _ (HF.out _ J.out) (fun _=>?_);clear Ky K9;try simp only[nA,nB,nC,nD,nE]
          refine tR 4 rfl (by kernel_rfl) (fun _ _ _=>id) (Or.inl ⟨by rfl,by rintro W ⟨o0,o1,o2⟩;go_simp<;>with_reducible rfl⟩) ‹_› ?_;try simp only[nA,nB,nC,nD,nE]
          refine rd1 5 fun K9 Ky=>?_;go_simp;refine(HCT.out b9 m9 d9 _ J.out).mono ?_;rintro e y5 ⟨rfl,kk⟩;have J:=lH (J.out.trans kk);clear kk;refine Ky.out _ _ (HF.out _ J.out) (fun _=>?_);clear Ky K9;try simp only[nA,nB,nC,nD,nE]
          refine tR 6 rfl (by kernel_rfl) (fun _ _ _=>id) (Or.inl ⟨by rfl,by rintro W ⟨o0,o1,o2⟩;go_simp<;>with_reducible rfl⟩) ‹_› ?_;try simp only[nA,nB,nC,nD,nE]
          refine wpAnyH_done (by kernel_rfl) ?_ _;clear HDEC HCT HZS ad2;obtain⟨d,hd⟩:=eX (n / k)
          obtain⟨m,hm⟩:=eX (n % k)
          rw[hd,hm] at HEV;have hq1:((n:Int)).tdiv (k:Int)=(d:Int):=by rw[←hd];exact(Int.ofNat_tdiv n k).symm
          have hq2:((n:Int)).tmod (k:Int)=(m:Int):=by rw[←hm];exact(Int.ofNat_tmod n k).symm
          have hk0:((k:Int)==0)=false:=beq_eq_false_iff_ne.2 (by omega);have hk1:¬(k:Int)=0:=by omega
          have hdb:d≤20:=by rw[←hd];exact Nat.le_trans (Nat.div_le_self _ _) (by omega)
          clear hd hm;have hC:=HEV.out;clear HEV;by_cases hcd:C=d
          · have e1:((C:Int)==(d:Int))=true:=by rw[hcd];exact beq_self_eq_true _
            have e1n:((C:Int) != (d:Int))=false:=by unfold bne;rw[e1];rfl
            clear hcd hC;by_cases hm0:m=0
            · have e2:((m:Int)==0)=true:=by rw[hm0];rfl
              go_wp2;go_roundw
              case rel=>exact⟨j+1,by omega,by go_num,J.out⟩
              case measure=>simp[intOf];omega
            · have e2:((m:Int)==0)=false:=beq_eq_false_iff_ne.2 (by omega);go_wp2;go_roundw
              case rel=>exact⟨j+1,by omega,by go_num,J.out⟩
              case measure=>simp[intOf];omega
          · have hc1:C=d+1:=hC.1.resolve_left hcd;have hm0:¬m=0:=fun h=>hcd (hC.2 h);subst hc1;have e1:(((d+1:Nat):Int)==(d:Int))=false:=beq_eq_false_iff_ne.2 (by omega);have e1n:(((d+1:Nat):Int) != (d:Int))=true:=by unfold bne;rw[e1];rfl
            have e3:(((d+1:Nat):Int)==(d:Int)+1)=true:=by rw[show ((d+1:Nat):Int)=(d:Int)+1 by omega];exact beq_self_eq_true _
            have e2:((m:Int)==0)=false:=beq_eq_false_iff_ne.2 (by omega);clear hcd hC hm0;go_wp2;go_roundw
            case rel=>exact⟨j+1,by omega,by go_num,J.out⟩
            case measure=>simp[intOf];omega
        · skip;have hjj:¬(j:Int)<(k:Int):=by omega
          have HBD:=lH (show Calls Try.prog 10 #[.agg #[.slice (some ⟨g1,0,none⟩) k c1,.slice a2 n2 c2,.slice none 0 0]] wr (fun e w'=>∃b9 d9,e=.returned (.slice b9 0 d9)∧Kept wr w') from by
           refine(bad_any (some ⟨g1,0,none⟩) a2 none k c1 n2 c2 0 0 (evT k k n) wr (HNA.out.kept KO.out) (HPA.out.kept KO.out) (by omega) (by have:=HN2.out;omega)).mono ?_;rintro e w' ⟨v,rfl,hr,kk⟩;rw[show badS (evT k k n)=[] from ev_bad k hkb.2 (by omega) n hnb] at hr;obtain⟨b9,d9,rfl,-⟩:=hr;exact⟨b9,d9,rfl,kk⟩)
          obtain⟨o0,o1,o2⟩:=HF.out _ KO.out;go_wp2_with fail
          refine HBD.out.mono ?_;rintro e y6 ⟨b9,d9,rfl,kk⟩;go_wp2;go_ret;exact⟨rfl,K.out.trans (KO.out.trans kk)⟩
theorem SpreadEven_walk (n m:Int) (w:World) (hn:(Lit.int .u8 n).wf=true) (hm:(Lit.int .u8 m).wf=true):Calls Try.prog 3 #[.int .u8 n,.int .u8 m] w fun e w'=>e=.returned (.bool true)∧Kept w w':=by
 have a:=bounds_u8 hn;have b:=bounds_u8 hm;exact even_walk n m w ⟨a.1,by omega⟩ ⟨b.1,by omega⟩
end Go.Proofs.Ytokdjfoalkmhiaa
