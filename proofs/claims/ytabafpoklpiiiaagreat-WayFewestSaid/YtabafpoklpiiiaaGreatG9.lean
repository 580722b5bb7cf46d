/- C. -/
import Derived.Test.YtabafpoklpiiiaaGreatG8
import Derived.Sort.LotD2
import Derived.Shelf.SlSortCmp.KitK
set_option linter.unusedVariables false
set_option maxRecDepth 100000
set_option maxHeartbeats 25600000
namespace Go.Proofs.YtabafpoklpiiiaaGreat
open Go.RowKit
theorem Jr.kept {B:Nat} {w w':World} {v:Value} {lx:List PlX} {Ch:Nat→Prop} (h:Jr B w v lx Ch) (k:Kept w w'):Jr B w' v lx Ch :=
 ⟨h.row.kept k,h.hold.kept k,h.sep,fun b e=>⟨(h.ch b e).1,Nat.lt_of_lt_of_le (h.ch b e).2 k.size⟩⟩
theorem jd5 (s1 s2 s3:Option Addr) (n1 e1 n2 e2 n3 e3:Nat) (a1 a2 a3 a4:Option Addr) (m1 c1 m2 c2 m3 c3 m4 c4:Nat) (p:Pd) (s:Clu) (w:World) (hs:jC w (j9 (.slice s1 n1 e1) (.slice s2 n2 e2) (.slice s3 n3 e3)) s) (hl:jn s) (hp:jq w (.slice a1 m1 c1) (.slice a2 m2 c2) (.slice a3 m3 c3) (.slice a4 m4 c4) p):Calls Tryz.prog 40 #[.agg #[.slice s1 n1 e1,.slice s2 n2 e2,.slice s3 n3 e3],jo p (.slice a1 m1 c1) (.slice a2 m2 c2) (.slice a3 m3 c3) (.slice a4 m4 c4)] w (jdo p (j8 p (s.pods.length+1) (J7 s p)) w):=by
 obtain⟨Z,hZ⟩:=eX ((w.alloc (.cells #[.slice s1 n1 e1,.slice s2 n2 e2,.slice s3 n3 e3] 35)).alloc (.cells #[.string p.name,.string p.owner,.int .i64 p.prio,.slice a1 m1 c1,.slice a2 m2 c2,.slice a3 m3 c3,.slice a4 m4 c4,.string p.key,.int .i64 p.most,.string p.node,.bool p.hold] 41))
 have hkz:Kept w Z:=by rw[←hZ];exact ji _ _ _
 have Vg:=lH (jc w (.slice s1 n1 e1) [.slice s2 n2 e2,.slice s3 n3 e3] 35 Z (by rw[←hZ];exact ja _ _));have Vb:=lH (show je (w.heap.size+1) [.string p.name,.string p.owner,.int .i64 p.prio,.slice a1 m1 c1,.slice a2 m2 c2,.slice a3 m3 c3,.slice a4 m4 c4,.string p.key,.int .i64 p.most,.string p.node,.bool p.hold] Z by
  have dd:=jc (w.alloc (.cells #[.slice s1 n1 e1,.slice s2 n2 e2,.slice s3 n3 e3] 35)) (.string p.name) [.string p.owner,.int .i64 p.prio,.slice a1 m1 c1,.slice a2 m2 c2,.slice a3 m3 c3,.slice a4 m4 c4,.string p.key,.int .i64 p.most,.string p.node,.bool p.hold] 41 Z (by rw[hZ];exact Kept.refl _);rw[World.size_alloc] at dd;exact dd)
 obtain⟨K,HS,HP,HL⟩:=lH4 hkz (hs.kept hkz) (hp.kept hkz) hl;clear hs hp hkz hl;obtain⟨o,ho⟩:=eX (j8 p (s.pods.length+1) (J7 s p))
 have HO:=lH ho;rw[ho];clear ho;have VO:=lH (jcS s1 s2 s3 n1 e1 n2 e2 n3 e3 a1 a2 a3 a4 m1 c1 m2 c2 m3 c3 m4 c4 p s Z HS.out HL.out HP.out);unfold jo at VO;try unfold j9 at VO
 unfold jdo;have y0:=Vg.out.at_ 0 _ rfl;have y1:=Vg.out.at_ 1 _ rfl;have y2:=Vg.out.at_ 2 _ rfl;have r0:=Vb.out.at_ 0 _ rfl;have r1:=Vb.out.at_ 1 _ rfl;have r2:=Vb.out.at_ 2 _ rfl;have r3:=Vb.out.at_ 3 _ rfl;have r4:=Vb.out.at_ 4 _ rfl;have r5:=Vb.out.at_ 5 _ rfl;have r6:=Vb.out.at_ 6 _ rfl;have r7:=Vb.out.at_ 7 _ rfl;have r8:=Vb.out.at_ 8 _ rfl;have r9:=Vb.out.at_ 9 _ rfl;have r10:=Vb.out.at_ 10 _ rfl;unfold jo;go_enter Tryz.func40,Tryz.ntmps40;go_upto_region 1 with fail
 try rw[hZ]
 clear hZ;go_wp2_with fail
 clear y0 y1 y2 r0 r1 r2 r3 r4 r5 r6 r7 r8 r9 r10;refine VO.out.mono ?_;rintro e9 w1 ⟨v0,rfl,hown,kk⟩;have K1:=lH kk;have Rp:=lH K.out.size;obtain⟨a0,cap0,rfl,-⟩:=hown.at_;obtain⟨lx0,hlx0⟩:=eX ((j4 (JM s) p s.nodes).map (JC s (s1,n1,e1) (s2,n2,e2) (s3,n3,e3)))
 rw[hlx0] at hown;try rw[hlx0]
 have hmem:∀z ∈ lx0,z.1.2=([],s)∧gvP z=.slice none 0 0∧rvP z=j9 (.slice s1 n1 e1) (.slice s2 n2 e2) (.slice s3 n3 e3):=fun z hz=>by
  rw[←hlx0] at hz;obtain⟨x,-,rfl⟩:=List.mem_map.1 hz;exact⟨rfl,rfl,rfl⟩
 have U5:=lH (show qD p o Z.heap.size w1 w1 (.slice a0 lx0.length cap0) from by
  refine⟨a0,_,cap0,lx0,fun _=>False,s.pods.length,rfl,rfl,?_,⟨hown,⟨fun z hz=>?_,fun z hz=>?_,fun z hz b e=>?_,?_⟩,fun z hz b e=>?_,fun b e=>e.elim⟩,?_,fun z hz=>?_,Below.refl _ _⟩
  · rw[←hlx0,List.length_map];have h1:=HL.out.nodesN;unfold j4;rw[List.length_map];exact Nat.le_trans (List.length_filter_le _ _) h1
  · rw[(hmem z hz).2.1,(hmem z hz).1];exact Own.nil _ _ _
  · rw[(hmem z hz).2.2,(hmem z hz).1];exact Off.of (fun u k=>HS.out.kept k) kk (fun i e=>e.elim)
  · rw[(hmem z hz).2.1] at e;cases e
  · exact List.pairwise_of_forall_mem_list fun y hy z hz b e=>by rw[(hmem y hy).2.1] at e;cases e
  · rw[(hmem z hz).2.1] at e;cases e
  · rw[←HO.out,←hlx0,List.map_map];rfl
  · rw[(hmem z hz).1];exact⟨rfl,HL.out,by have:=HL.out.podsN;simpa using this⟩)
 obtain⟨Tu,Vb,NF,HP,Va⟩:=lH5 Vb.out (Vb.out.kept kk) HP.out (HP.out.kept kk) (show Z.heap.size≤w1.heap.size from kk.size);have VF:=lH (show w.heap.size+1<Z.heap.size from by have:=Tu.out.lt;omega);obtain⟨m0,hm0⟩:=eX (lx0.length)
 rw[hm0] at U5;try rw[hm0]
 clear hown kk hlx0 hmem hm0 VO Vg HS;go_wp2;go_loopw [4] (fun lv wr=>qD p o Z.heap.size w1 wr lv) (fun lv wr=>Zu lv wr)
 case atStart=>exact U5.out
 case round =>
  obtain⟨a,n,cap,lx,Ch,N,rfl,hn,hnb,ht,hsk,hall,hbl⟩:=hrel;obtain⟨VX,HT,Uj,UP,V1⟩:=lH5 hn ht hsk hall hbl;clear hn ht hsk hall hbl U5;obtain⟨ws,hws⟩:∃W,W=wr:=⟨_,rfl⟩
  subst hws;by_cases hpos:0<n
  · skip;have hpp:(0:Int)<(n:Int):=by omega
    have Rg:=lH (Own.Yb HT.out.row).form;have Rq:=lH (show Z.heap.size≤ws.heap.size from Nat.le_trans Va.out V1.out.size);have RW:=lH (show Kept Z ws from Below.trans K1.out V1.out);have Rr:=lH (show ∀W,Kept ws W→jq W (.slice a1 m1 c1) (.slice a2 m2 c2) (.slice a3 m3 c3) (.slice a4 m4 c4) p from fun W k=>NF.out.kept (RW.out.trans k));have Rs:=lH (show ∀W,Kept ws W→je (w.heap.size+1) [.string p.name,.string p.owner,.int .i64 p.prio,.slice a1 m1 c1,.slice a2 m2 c2,.slice a3 m3 c3,.slice a4 m4 c4,.string p.key,.int .i64 p.most,.string p.node,.bool p.hold] W from fun W k=>Tu.out.kept (RW.out.trans k));go_wp2;go_loopw [17] (fun iv wo=>∃k:Nat,k≤n∧iv=.int .i64 k∧(((lx.map fun z=>z.1).take k).find? (ZN p)=none)∧Kept ws wo) (fun iv _=>n-(intOf iv).toNat)
    case atStart=>exact⟨0,Nat.zero_le _,rfl,rfl,Kept.refl _⟩
    case round =>
     obtain⟨k,hk,rfl,hfn,hko⟩:=hrel;have Rt:=lH hfn;have KO:=lH hko;clear hfn hko;by_cases hlt:k<n
     · skip;obtain⟨g,off,rfl⟩:=Rg.out.resolve_left (by omega);obtain⟨z,hz,hd,hb,-,hc⟩:=((Own.Yb HT.out.row).kept KO.out).cells hlt;obtain⟨⟨x,gl,sz⟩,⟨ga,gn,gc⟩,⟨t1,k1,d1⟩,⟨t2,k2,d2⟩,⟨t3,k3,d3⟩⟩:=z;have u0:wr.cell? ⟨g,off+k*5,none⟩=some (.string x):=hc 0 _ rfl;have u1:wr.cell? ⟨g,off+k*5+1,none⟩=some (.slice ga gn gc):=hc 1 _ rfl;have u2:wr.cell? ⟨g,off+k*5+2,none⟩=some (.slice t1 k1 d1):=hc 2 _ rfl;have u3:wr.cell? ⟨g,off+k*5+3,none⟩=some (.slice t2 k2 d2):=hc 3 _ rfl;have u4:wr.cell? ⟨g,off+k*5+4,none⟩=some (.slice t3 k3 d3):=hc 4 _ rfl;have hzl:=List.mem_of_getElem? hz;obtain⟨TQ,U0,Uw,UZ⟩:=lH4 (show jn sz from(UP.out _ hzl).2.1) (show jC wr (j9 (.slice t1 k1 d1) (.slice t2 k2 d2) (.slice t3 k3 d3)) sz from(HT.out.hold.rest _ hzl).here.kept KO.out) (show Own jK 9 wr Z.heap.size (.slice ga gn gc) gl from(HT.out.hold.gone _ hzl).kept KO.out) (show (lx.map fun z=>z.1)[k]?=some (x,gl,sz) by rw[List.getElem?_map,hz];rfl);have hkk:(k:Int)<(n:Int):=by omega
       have hk0:¬(k:Int)<0:=by omega
       obtain⟨wx,hwx⟩:=eX (wr.alloc (.cells #[.string x,.slice ga gn gc,.slice t1 k1 d1,.slice t2 k2 d2,.slice t3 k3 d3] 153))
       have hkx:Kept wr wx:=by rw[←hwx];exact ja _ _
       have Vu:=lH (jc wr (.string x) [.slice ga gn gc,.slice t1 k1 d1,.slice t2 k2 d2,.slice t3 k3 d3] 153 wx (by rw[hwx];exact Kept.refl _));obtain⟨bq,hbq⟩:=eX (wr.heap.size)
       rw[hbq] at Vu;have KX:=lH (KO.out.trans hkx);have U6:=lH (Rr.out _ KX.out);have Vn:=lH (Rs.out _ KX.out);have Vy:=lH (jfK t1 t2 t3 k1 d1 k2 d2 k3 d3 a1 a2 a3 a4 m1 c1 m2 c2 m3 c3 m4 c4 p sz x wx (U0.out.kept hkx) TQ.out U6.out);unfold jo at Vy;try unfold j9 at Vy
       obtain⟨c,hcf⟩:=eX (Zd sz p x)
       have U4:=lH hcf;rw[hcf] at Vy;have TS:=lH (Uw.out.kept hkx);go_upto_region 7 with fail
       try rw[hwx]
       try rw[hbq]
       clear hwx hbq hd hb hz hc hzl hkx hk0 hkk hcf u0 u1 u2 u3 u4 U0 Uw;have y0:=Vu.out.at_ 0 _ rfl;have y1:=Vu.out.at_ 1 _ rfl;have y2:=Vu.out.at_ 2 _ rfl;have y3:=Vu.out.at_ 3 _ rfl;have y4:=Vu.out.at_ 4 _ rfl;have r0:=Vn.out.at_ 0 _ rfl;have r1:=Vn.out.at_ 1 _ rfl;have r2:=Vn.out.at_ 2 _ rfl;have r3:=Vn.out.at_ 3 _ rfl;have r4:=Vn.out.at_ 4 _ rfl;have r5:=Vn.out.at_ 5 _ rfl;have r6:=Vn.out.at_ 6 _ rfl;have r7:=Vn.out.at_ 7 _ rfl;have r8:=Vn.out.at_ 8 _ rfl;have r9:=Vn.out.at_ 9 _ rfl;have r10:=Vn.out.at_ 10 _ rfl;go_wp2_with fail
       clear y0 y1 y2 y3 y4 r0 r1 r2 r3 r4 r5 r6 r7 r8 r9 r10;refine Vy.out.mono ?_;rintro e9 w3 ⟨rfl,kk⟩;obtain⟨KW,Vu,Vn,TS⟩:=lH4 (KX.out.trans kk) (Vu.out.kept kk) (Vn.out.kept kk) (TS.out.kept kk);clear kk Vy;by_cases hc0:c=0
       · have e0:((c:Int)==0)=true:=by rw[hc0];rfl
         have HE:=lH (show o=some (x,gl,sz) by rw[←Uj.out,jcH (qU Rt.out UZ.out (by unfold ZN;exact decide_eq_true (U4.out.trans hc0)))]);clear hc0;have y0:=Vu.out.at_ 0 _ rfl;have y1:=Vu.out.at_ 1 _ rfl;have r0:=Vn.out.at_ 0 _ rfl;go_wp2;refine⟨rfl,fun z h=>?_,fun h=>?_,?_⟩
         · rw[HE.out] at h;obtain rfl:=Option.some.inj h;exact⟨ga,gn,gc,rfl,fun u gg=>(TS.out.goff gg fun k e h=>by have h1:=(jR TS.out k e).1;have h2:k<w.heap.size:=h;have h3:=Rp.out;omega).reads⟩
         · rw[HE.out] at h;cases h
         · exact Below.trans K.out (Below.mono (Below.trans (Below.mono K1.out (Nat.le_refl _)) (Below.trans V1.out (Below.mono KW.out Rq.out))) (by have:=Rp.out;omega))
       · have e0:((c:Int)==0)=false:=beq_eq_false_iff_ne.2 hc0;have HE:=lH (qP Rt.out UZ.out (show ZN p (x,gl,sz)=false by unfold ZN;exact decide_eq_false (fun h=>hc0 (U4.out.symm.trans h))));clear hc0;go_wp2;go_roundw
         case rel=>exact⟨k+1,by omega,by go_num,HE.out,KW.out⟩
         case measure=>simp[intOf];omega
     · have hkk:¬(k:Int)<(n:Int):=by omega
       have Tv:=lH (show (lx.map fun z=>z.1).find? (ZN p)=none by have h:=Rt.out;rwa [List.take_of_length_le (by rw[List.length_map,VX.out];omega)] at h);have VP:=lH (show Jr Z.heap.size wr (.slice a n cap) lx Ch from HT.out.kept KO.out);have RY:=lH (jeX a n cap Z.heap.size lx Ch wr VP.out (Nat.le_trans Rq.out KO.out.size) (fun z hz=>(UP.out z hz).2.1) (fun z hz=>by obtain⟨h1,-,h3⟩:=UP.out z hz;omega) hnb);go_wp2_with fail
       refine RY.out.mono ?_;rintro e9 w3 ⟨v',rfl,hm⟩;have HF:=lH (qD.next VX.out hnb hpos VP.out Uj.out UP.out (V1.out.trans (Below.mono KO.out Rq.out)) Va.out Tv.out hm);clear hm RY;go_wp2;go_roundw
       case rel=>exact HF.out.1
       case measure =>
        have h1:=Yd HT.out hpos (fun z hz=>(UP.out z hz).1);have h2:=Yd VP.out hpos (fun z hz=>(UP.out z hz).1);have h3:=HF.out.2;omega
  · have hpp:¬(0:Int)<(n:Int):=by omega
    have HE:=lH (show o=none by
     obtain rfl:lx=[]:=List.length_eq_zero_iff.1 (by rw[VX.out];omega);rw[←Uj.out];exact ZH _ _)
    go_wp2;go_end0
    rw[HE.out];exact⟨(by intros;rename_i h;cases h),(fun _=>rfl),Below.trans K.out (Below.mono (Below.trans (Below.mono K1.out (Nat.le_refl _)) V1.out) (by have:=Rp.out;omega))⟩
theorem jeH {p:Pd} {o:Option Pl} {w w':World} {e:Ending} (h:jdo p o w e w'):YK (o.map fun z=>(p.name,z.1,z.2.1)) w e w':=by
 obtain⟨h1,h2,h3⟩:=h;refine⟨fun x y l hl=>?_,fun hl=>h2 (Option.map_eq_none_iff.1 hl),h3⟩;obtain⟨z,hz,e2⟩:=Option.map_eq_some_iff.1 hl
 cases e2
 exact h1 z hz
def JY (s:Clu) (p:Pd):Option Jb:=(jgq s p).map fun z=>(p.name,z.1,z.2.1)
theorem jcF (q r:Nat) (s1 s2 s3:Option Addr) (n1 e1 n2 e2 n3 e3:Nat) (a1 a2 a3 a4:Option Addr) (m1 c1 m2 c2 m3 c3 m4 c4:Nat) (p:Pd) (s:Clu) (w:World) (hs:jC w (j9 (.slice s1 n1 e1) (.slice s2 n2 e2) (.slice s3 n3 e3)) s) (hl:jn s) (hp:jq w (.slice a1 m1 c1) (.slice a2 m2 c2) (.slice a3 m3 c3) (.slice a4 m4 c4) p) (hq:je q [.slice s1 n1 e1,.slice s2 n2 e2,.slice s3 n3 e3] w) (hr:je r [.string p.name,.string p.owner,.int .i64 p.prio,.slice a1 m1 c1,.slice a2 m2 c2,.slice a3 m3 c3,.slice a4 m4 c4,.string p.key,.int .i64 p.most,.string p.node,.bool p.hold] w):Calls Tryz.prog 39 #[.pointer (some ⟨q,0,none⟩),.pointer (some ⟨r,0,none⟩)] w (YK ((j8 p (s.pods.length+1) (J7 s p)).map fun z=>(p.name,z.1,z.2.1)) w):=by
 have HC:=lH (jd5 s1 s2 s3 n1 e1 n2 e2 n3 e3 a1 a2 a3 a4 m1 c1 m2 c2 m3 c3 m4 c4 p s w hs hl hp);unfold jo at HC;try unfold j9 at HC
 have y0:=hq.at_ 0 _ rfl;have y1:=hq.at_ 1 _ rfl;have y2:=hq.at_ 2 _ rfl;have r0:=hr.at_ 0 _ rfl;have r1:=hr.at_ 1 _ rfl;have r2:=hr.at_ 2 _ rfl;have r3:=hr.at_ 3 _ rfl;have r4:=hr.at_ 4 _ rfl;have r5:=hr.at_ 5 _ rfl;have r6:=hr.at_ 6 _ rfl;have r7:=hr.at_ 7 _ rfl;have r8:=hr.at_ 8 _ rfl;have r9:=hr.at_ 9 _ rfl;have r10:=hr.at_ 10 _ rfl;obtain⟨o,ho⟩:=eX (j8 p (s.pods.length+1) (J7 s p))
 rw[ho] at HC ⊢;clear hs hl hp hq hr ho;go_enter Tryz.func39,Tryz.ntmps39;go_wp2_with fail
 refine HC.out.mono ?_;intro e1 w1 hsp;have HG:=lH (jeH hsp);obtain⟨g1,g0,kk⟩:=hsp;clear HC y0 y1 y2 r0 r1 r2 r3 r4 r5 r6 r7 r8 r9 r10
 cases hn:o with
 | none =>
  obtain rfl:=g0 hn;clear g0 g1 hn kk;go_wp2;go_end0
  exact HG.out
 | some z =>
  obtain⟨a,n,c,rfl,-⟩:=g1 z hn;clear g0 g1 hn kk;go_wp2;exact⟨rfl,HG.out⟩
theorem Z4 (s1 s2 s3:Option Addr) (n1 e1 n2 e2 n3 e3:Nat) (a1 a2 a3 a4:Option Addr) (m1 c1 m2 c2 m3 c3 m4 c4:Nat) (p:Pd) (s:Clu) (w:World) (hs:jC w (j9 (.slice s1 n1 e1) (.slice s2 n2 e2) (.slice s3 n3 e3)) s) (hl:jn s) (hp:jq w (.slice a1 m1 c1) (.slice a2 m2 c2) (.slice a3 m3 c3) (.slice a4 m4 c4) p):Calls Tryz.prog 12 #[.agg #[.slice s1 n1 e1,.slice s2 n2 e2,.slice s3 n3 e3],jo p (.slice a1 m1 c1) (.slice a2 m2 c2) (.slice a3 m3 c3) (.slice a4 m4 c4)] w (Jt (JY s p) w):=by
 have hmf:=hmfL (P:=Tryz.prog);obtain⟨Z,hZ⟩:=eX (((w.alloc (.cells #[.slice s1 n1 e1,.slice s2 n2 e2,.slice s3 n3 e3] 35)).alloc (.cells #[.string p.name,.string p.owner,.int .i64 p.prio,.slice a1 m1 c1,.slice a2 m2 c2,.slice a3 m3 c3,.slice a4 m4 c4,.string p.key,.int .i64 p.most,.string p.node,.bool p.hold] 41)).alloc (.cells #[.string ⟨#[]⟩,.string ⟨#[]⟩,.slice none 0 0] 46))
 have hkz:Kept w Z:=by rw[←hZ];exact(ji _ _ _).trans (ja _ _)
 have Vg:=lH (jc w (.slice s1 n1 e1) [.slice s2 n2 e2,.slice s3 n3 e3] 35 Z (by rw[←hZ];exact(ja _ _).trans (ja _ _)));have Vb:=lH (show je (w.heap.size+1) [.string p.name,.string p.owner,.int .i64 p.prio,.slice a1 m1 c1,.slice a2 m2 c2,.slice a3 m3 c3,.slice a4 m4 c4,.string p.key,.int .i64 p.most,.string p.node,.bool p.hold] Z by
  have dd:=jc (w.alloc (.cells #[.slice s1 n1 e1,.slice s2 n2 e2,.slice s3 n3 e3] 35)) (.string p.name) [.string p.owner,.int .i64 p.prio,.slice a1 m1 c1,.slice a2 m2 c2,.slice a3 m3 c3,.slice a4 m4 c4,.string p.key,.int .i64 p.most,.string p.node,.bool p.hold] 41 Z (by rw[←hZ];exact ja _ _);rw[World.size_alloc] at dd;exact dd)
 have Va:=lH (show je (w.heap.size+1+1) [.string ⟨#[]⟩,.string ⟨#[]⟩,.slice none 0 0] Z by
  have dd:=jc ((w.alloc (.cells #[.slice s1 n1 e1,.slice s2 n2 e2,.slice s3 n3 e3] 35)).alloc (.cells #[.string p.name,.string p.owner,.int .i64 p.prio,.slice a1 m1 c1,.slice a2 m2 c2,.slice a3 m3 c3,.slice a4 m4 c4,.string p.key,.int .i64 p.most,.string p.node,.bool p.hold] 41)) (.string ⟨#[]⟩) [.string ⟨#[]⟩,.slice none 0 0] 46 Z (by rw[hZ];exact Kept.refl _);rw[World.size_alloc,World.size_alloc] at dd;exact dd)
 obtain⟨HK,U7,HC⟩:=lH3 hkz (show w.heap.size+1+1<Z.heap.size by rw[←hZ];simp) (jaP w.heap.size (w.heap.size+1) ((j8 p (s.pods.length+1) (J7 s p)).map fun z=>(p.name,z.1,z.2.1)) Z fun W k=>jcF w.heap.size (w.heap.size+1) s1 s2 s3 n1 e1 n2 e2 n3 e3 a1 a2 a3 a4 m1 c1 m2 c2 m3 c3 m4 c4 p s W (hs.kept (hkz.trans k)) hl (hp.kept (hkz.trans k)) (Vg.out.kept k) (Vb.out.kept k));have hfo:jgq s p=if p.hold=true then none else j8 p (s.pods.length+1) (J7 s p):=rfl
 obtain⟨o,ho⟩:=eX (j8 p (s.pods.length+1) (J7 s p))
 rw[ho] at HC hfo;obtain⟨b,hb⟩:=eX (p.hold)
 clear hs hp hl hkz ho;unfold JY;have y0:=Vg.out.at_ 0 _ rfl;have y1:=Vg.out.at_ 1 _ rfl;have y2:=Vg.out.at_ 2 _ rfl;have r0:=Vb.out.at_ 0 _ rfl;have r1:=Vb.out.at_ 1 _ rfl;have r2:=Vb.out.at_ 2 _ rfl;have r3:=Vb.out.at_ 3 _ rfl;have r4:=Vb.out.at_ 4 _ rfl;have r5:=Vb.out.at_ 5 _ rfl;have r6:=Vb.out.at_ 6 _ rfl;have r7:=Vb.out.at_ 7 _ rfl;have r8:=Vb.out.at_ 8 _ rfl;have r9:=Vb.out.at_ 9 _ rfl;have r10:=Vb.out.at_ 10 _ rfl;rw[hb] at r10 hZ hfo;obtain⟨bq,hbq⟩:=eX (w.heap.size+1+1)
 rw[hbq] at Va U7;have Vn:=lH (show w.heap.size≤bq by omega);unfold jo;try rw[hb]
 cases b with
 | true =>
  rw[if_pos rfl] at hfo;rw[hfo];clear HC hfo;go_enter Tryz.func12,Tryz.ntmps12;go_upto_region 2 with fail
  try rw[hZ]
  try rw[hbq]
  clear hZ y0 y1 y2 r0 r1 r2 r3 r4 r5 r6 r7 r8 r9 r10;have K:=lH HK.out;have c0:=Va.out.at_ 0 _ rfl;have c1:=Va.out.at_ 1 _ rfl;have c2:=Va.out.at_ 2 _ rfl;have f0:=Va.out.free 0;have f1:=Va.out.free 1;have f2:=Va.out.free 2;obtain⟨P,KF,GE⟩:=lH3 (jW (vs:=[.string ⟨#[]⟩,.string ⟨#[]⟩,.slice none 0 0]) Va.out rfl) (show Kept w (Z.setCells bq 0 [.string ⟨#[]⟩,.string ⟨#[]⟩,.slice none 0 0]) from jm bq _ _ _ _ _ Vn.out K.out) (jb.cells (S:=fun b=>b<Z.heap.size) bq U7.out [.string ⟨#[]⟩,.string ⟨#[]⟩,.slice none 0 0] 0 Z);go_wp2;obtain⟨WE,hWE⟩:=eX (Z.setCells bq 0 [.string ⟨#[]⟩,.string ⟨#[]⟩,.slice none 0 0])
  have hWE2:(((Z.setCell ⟨bq,0,none⟩ (.string ⟨#[]⟩)).setCell ⟨bq,1,none⟩ (.string ⟨#[]⟩)).setCell ⟨bq,2,none⟩ (.slice none 0 0))=WE:=hWE;rw[hWE] at P KF GE;try rw[hWE2]
  clear hWE hWE2 c0 c1 c2 f0 f1 f2;refine bodyPost_ret (by simp[results,Tryz.results12,go_sem,P.out.cells.at_ 0 _ rfl,P.out.cells.at_ 1 _ rfl,P.out.cells.at_ 2 _ rfl];try rfl) rfl ?_;exact⟨_,rfl,⟨none,0,0,rfl,fun u _=>Reads.nil _⟩,KF.out⟩
 | false =>
  rw[if_neg (by decide)] at hfo;rw[hfo];clear hfo;obtain⟨ow,how⟩:=eX ((o.map fun z=>(p.name,z.1,z.2.1)))
  rw[how] at HC ⊢;clear how;unfold Jt at HC;go_enter Tryz.func12,Tryz.ntmps12;go_upto_region 3 with fail
  try rw[hZ]
  try rw[hbq]
  clear hZ;go_wp2_with fail
  clear y0 y1 y2 r0 r1 r2 r3 r4 r5 r6 r7 r8 r9 r10;refine HC.out.mono ?_;rintro e1 w1 ⟨v,rfl,⟨a,n,c,rfl,hrd⟩,kk⟩;obtain⟨K,Va,Vm⟩:=lH3 (HK.out.trans kk) (Va.out.kept kk) hrd;clear kk HC hrd;obtain⟨x,hx⟩:=eX ((ow.getD wzP).1)
  obtain⟨y,hy⟩:=eX ((ow.getD wzP).2.1)
  obtain⟨t,ht⟩:=eX (ow.isSome)
  obtain⟨HX,HY,Ru⟩:=lH3 hx hy ht;try rw[hx]
  try rw[hy]
  try rw[ht]
  clear hx hy ht;have c0:=Va.out.at_ 0 _ rfl;have c1:=Va.out.at_ 1 _ rfl;have c2:=Va.out.at_ 2 _ rfl;have f0:=Va.out.free 0;have f1:=Va.out.free 1;have f2:=Va.out.free 2;obtain⟨P,KF,GE⟩:=lH3 (jW (vs:=[.string x,.string y,.slice a n c]) Va.out rfl) (show Kept w (w1.setCells bq 0 [.string x,.string y,.slice a n c]) from jm bq _ _ _ _ _ Vn.out K.out) (jb.cells (S:=fun b=>b<Z.heap.size) bq U7.out [.string x,.string y,.slice a n c] 0 w1);go_wp2;obtain⟨WE,hWE⟩:=eX (w1.setCells bq 0 [.string x,.string y,.slice a n c])
  have hWE2:(((w1.setCell ⟨bq,0,none⟩ (.string x)).setCell ⟨bq,1,none⟩ (.string y)).setCell ⟨bq,2,none⟩ (.slice a n c))=WE:=hWE;rw[hWE] at P KF GE;try rw[hWE2]
  clear hWE hWE2 c0 c1 c2 f0 f1 f2;refine bodyPost_ret (by simp[results,Tryz.results12,go_sem,P.out.cells.at_ 0 _ rfl,P.out.cells.at_ 1 _ rfl,P.out.cells.at_ 2 _ rfl];try rfl) rfl ?_;exact⟨_,by rw[Ru.out],⟨a,n,c,by rw[HX.out,HY.out],(Vm.out.step GE.out).less fun b e=>Nat.lt_of_lt_of_le e HK.out.size⟩,KF.out⟩
open Go.Sort
variable {α:Type} [Inhabited α] {lt:α→α→Bool}
structure Rot (lo i j:Nat) (d d':Array α):Prop where
 size:d'.size=d.size
 fst:∀k,lo≤k→k<lo+j→d'[k]! = d[k+i]!
 snd:∀k,lo+j≤k→k<lo+i+j→d'[k]! = d[k-j]!
 out:∀k,k<lo∨lo+i+j≤k→d'[k]! = d[k]!
structure JU (a b n:Nat) (d d':Array α):Prop where
 size:d'.size=d.size
 fst:∀k,a≤k→k<a+n→d'[k]! = d[k+(b-a)]!
 snd:∀k,b≤k→k<b+n→d'[k]! = d[k-(b-a)]!
 out:∀k,k<a∨(a+n≤k∧k<b)∨b+n≤k→d'[k]! = d[k]!
theorem JU.zero (a b:Nat) (d:Array α):JU a b 0 d d:=⟨rfl,fun k _ _=>by omega,fun k _ _=>by omega,fun k _=>rfl⟩
theorem JU.step {a b n:Nat} {d dk:Array α} (h:JU a b n d dk) (hab:a+(n+1)≤b) (hb:b+n<d.size):JU a b (n+1) d (swp dk (a+n) (b+n)):=by
 have hs:=h.size;refine⟨by rw[size_swp];exact hs,fun k h1 h2=>?_,fun k h1 h2=>?_,fun k h1=>?_⟩
 · by_cases e:k=a+n
   · rw[e,swp_left _ _ _ (by omega) (by omega),h.out (b+n) (by omega)];congr 1;omega
   · rw[swp_other _ _ _ _ e (by omega)];exact h.fst k h1 (by omega)
 · by_cases e:k=b+n
   · rw[e,swp_right _ _ _ (by omega),h.out (a+n) (by omega)];congr 1;omega
   · rw[swp_other _ _ _ _ (by omega) e];exact h.snd k h1 (by omega)
 · rw[swp_other _ _ _ _ (by omega) (by omega)];exact h.out k (by omega)
theorem Rot.of_exch {lo i:Nat} {d d':Array α} (h:JU lo (lo+i) i d d'):Rot lo i i d d' :=
 ⟨h.size,fun k h1 h2=>by rw[h.fst k h1 h2];congr 1;omega,fun k h1 h2=>by rw[h.snd k h1 (by omega)];congr 1;omega,fun k h1=>h.out k (by omega)⟩
theorem Rot.big {lo i j:Nat} {d d1 d':Array α} (hij:j<i) (h:JU lo (lo+i) j d d1) (g:Rot (lo+j) (i-j) j d1 d'):Rot lo i j d d':=by
 refine⟨g.size.trans h.size,fun k h1 h2=>?_,fun k h1 h2=>?_,fun k h1=>?_⟩
 · rw[g.out k (by omega),h.fst k h1 h2];congr 1;omega
 · by_cases e:k<lo+j+j
   · rw[g.fst k (by omega) e,h.snd _ (by omega) (by omega)];congr 1;omega
   · rw[g.snd k (by omega) (by omega),h.out _ (by omega)]
 · rw[g.out k (by omega),h.out k (by omega)]
theorem Rot.small {lo i j:Nat} {d d1 d':Array α} (hij:i<j) (h:JU lo (lo+j) i d d1) (g:Rot lo i (j-i) d1 d'):Rot lo i j d d':=by
 refine⟨g.size.trans h.size,fun k h1 h2=>?_,fun k h1 h2=>?_,fun k h1=>?_⟩
 · by_cases e:k<lo+(j-i)
   · rw[g.fst k h1 e,h.out _ (by omega)]
   · rw[g.snd k (by omega) (by omega),h.fst _ (by omega) (by omega)];congr 1;omega
 · rw[g.out k (by omega),h.snd k (by omega) (by omega)];congr 1;omega
 · rw[g.out k (by omega),h.out k (by omega)]
theorem Rot.triv {lo i j:Nat} {d:Array α} (h:i=0∨j=0):Rot lo i j d d :=
 ⟨rfl,fun k h1 h2=>by congr 1;omega,fun k h1 h2=>by congr 1;omega,fun _ _=>rfl⟩
theorem Rot.up {a n:Nat} {d dk:Array α} (h:Rot a 1 n d dk) (hs:a+n+1<d.size):Rot a 1 (n+1) d (swp dk (a+n) (a+n+1)):=by
 have hz:=h.size;refine⟨by rw[size_swp];exact hz,fun k h1 h2=>?_,fun k h1 h2=>?_,fun k h1=>?_⟩
 · by_cases e:k=a+n
   · rw[e,swp_left _ _ _ (by omega) (by omega),h.out _ (by omega)]
   · rw[swp_other _ _ _ _ e (by omega)];exact h.fst k h1 (by omega)
 · have e:k=a+n+1:=by omega
   rw[e,swp_right _ _ _ (by omega),h.snd _ (by omega) (by omega)];congr 1;omega
 · rw[swp_other _ _ _ _ (by omega) (by omega)];exact h.out k (by omega)
theorem Rot.down {k n:Nat} {d dk:Array α} (h:Rot (k+1) n 1 d dk) (hs:k+1+n<d.size):Rot k (n+1) 1 d (swp dk (k+1) k):=by
 have hz:=h.size;refine⟨by rw[size_swp];exact hz,fun x h1 h2=>?_,fun x h1 h2=>?_,fun x h1=>?_⟩
 · have e:x=k:=by omega
   rw[e,swp_right _ _ _ (by omega),h.fst _ (by omega) (by omega)];congr 1;omega
 · by_cases e:x=k+1
   · rw[e,swp_left _ _ _ (by omega) (by omega),h.out _ (by omega)];congr 1
   · rw[swp_other _ _ _ _ e (by omega)];exact h.snd x (by omega) (by omega)
 · rw[swp_other _ _ _ _ (by omega) (by omega)];exact h.out x (by omega)
theorem Xh {β:Type} {lt:β→β→Bool} (hS:SWO lt) {x y:β} (h:lt x y=true):lt y x=false:=by
 cases g:lt y x
 · rfl
 · have:=hS.trans _ _ _ h g;rw[hS.irrefl] at this;cases this
theorem Jl (hS:SWO lt) {a b:Nat} {d:Array α} (h:SortedIn lt a b d) {i j:Nat} (h1:a≤i) (h2:i≤j) (h3:j<b):lt d[j]! d[i]! = false:=by
 rcases Nat.lt_or_eq_of_le h2 with g | g
 · exact h i j h1 g h3
 · rw[g];exact hS.irrefl _
theorem jeS (hS:SWO lt) {a b n:Nat} {d d':Array α} (hr:Rot a 1 n d d') (hn:a+1+n≤b) (hs:SortedIn lt (a+1) b d)
 (h1:n=0∨lt d[a+n]! d[a]! = true) (h2:a+1+n=b∨lt d[a+1+n]! d[a]! = false):SortedIn lt a b d':=by
 intro x y hx hxy hy;have lo:∀k,a+1≤k→k≤a+n→lt d[a]! d[k]! = false:=fun k g1 g2=>by
  rcases h1 with h1 | h1
  · omega
  · exact hS.ntrans _ _ _ (Xh hS h1) (Jl hS hs g1 g2 (by omega))
 have hi:∀k,a+1+n≤k→k<b→lt d[k]! d[a]! = false:=fun k g1 g2=>by
  rcases h2 with h2 | h2
  · omega
  · exact hS.ntrans _ _ _ (Jl hS hs (by omega) g1 g2) h2
 rcases Nat.lt_trichotomy x (a+n) with c | c | c
 · rw[hr.fst x hx c];rcases Nat.lt_trichotomy y (a+n) with e | e | e
   · rw[hr.fst y (by omega) e];exact hs _ _ (by omega) (by omega) (by omega)
   · rw[e,hr.snd (a+n) (by omega) (by omega),show a+n-n=a from by omega];exact lo _ (by omega) (by omega)
   · rw[hr.out y (by omega)];exact hs _ _ (by omega) (by omega) hy
 · rw[c,hr.snd (a+n) (by omega) (by omega),show a+n-n=a from by omega,hr.out y (by omega)];exact hi y (by omega) hy
 · rw[hr.out x (by omega),hr.out y (by omega)];exact hs _ _ (by omega) hxy hy
theorem jdy (hS:SWO lt) {a i n:Nat} {d d':Array α} (hr:Rot i n 1 d d') (ha:a≤i) (hs:SortedIn lt a (i+n) d)
 (h1:i=a∨lt d[i+n]! d[i-1]! = false) (h2:n=0∨lt d[i+n]! d[i]! = true):SortedIn lt a (i+n+1) d':=by
 intro x y hx hxy hy;have lo:∀k,a≤k→k<i→lt d[i+n]! d[k]! = false:=fun k g1 g2=>by
  rcases h1 with h1 | h1
  · omega
  · exact hS.ntrans _ _ _ h1 (Jl hS hs g1 (by omega) (by omega))
 have hi:∀k,i≤k→k<i+n→lt d[k]! d[i+n]! = false:=fun k g1 g2=>by
  rcases h2 with h2 | h2
  · omega
  · exact hS.ntrans _ _ _ (Jl hS hs (by omega) g1 g2) (Xh hS h2)
 have ei:d'[i]! = d[i+n]!:=hr.fst i (by omega) (by omega);rcases Nat.lt_trichotomy x i with c | c | c
 · rw[hr.out x (by omega)];rcases Nat.lt_trichotomy y i with e | e | e
   · rw[hr.out y (by omega)];exact hs _ _ hx hxy (by omega)
   · rw[e,ei];exact lo x hx c
   · rw[hr.snd y (by omega) (by omega)];exact hs _ _ hx (by omega) (by omega)
 · rw[c,ei,hr.snd y (by omega) (by omega)];exact hi _ (by omega) (by omega)
 · rw[hr.snd x (by omega) (by omega),hr.snd y (by omega) (by omega)];exact hs _ _ (by omega) (by omega) (by omega)
structure Found (lt:α→α→Bool) (a m b mid s:Nat) (d:Array α):Prop where
 am:a<m
 mb:m<b
 mida:a<mid
 midb:mid<b
 sa:a≤s
 sm:s≤m
 sd:s≤mid
 em:m≤mid+m-s
 eb:mid+m-s≤b
 low:s=a∨mid+m-s=b∨lt d[mid+m-s]! d[s-1]! = false
 high:s=m∨s=mid∨lt d[mid+m-1-s]! d[s]! = true
variable {a m b mid s:Nat} {d d1:Array α}
theorem Found.parts (h:Found lt a m b mid s d) (hr:Rot s (m-s) (mid-s) d d1) (h1:SortedIn lt a m d) (h2:SortedIn lt m b d) :
 SortedIn lt a s d1∧SortedIn lt s mid d1∧SortedIn lt mid (mid+m-s) d1∧SortedIn lt (mid+m-s) b d1:=by
 obtain⟨q1,q2,q3,q4,q5,q6,q7,q8,q9,_,_⟩:=h;refine⟨fun x y hx hxy hy=>?_,fun x y hx hxy hy=>?_,fun x y hx hxy hy=>?_,fun x y hx hxy hy=>?_⟩
 · rw[hr.out x (by omega),hr.out y (by omega)];exact h1 _ _ hx hxy (by omega)
 · rw[hr.fst x hx (by omega),hr.fst y (by omega) (by omega)];exact h2 _ _ (by omega) (by omega) (by omega)
 · rw[hr.snd x (by omega) (by omega),hr.snd y (by omega) (by omega)];exact h1 _ _ (by omega) (by omega) (by omega)
 · rw[hr.out x (by omega),hr.out y (by omega)];exact h2 _ _ (by omega) hxy hy
theorem Found.cross (hS:SWO lt) (h:Found lt a m b mid s d) (hr:Rot s (m-s) (mid-s) d d1) (h1:SortedIn lt a m d) (h2:SortedIn lt m b d) :
 ∀x y,a≤x→x<mid→mid≤y→y<b→lt d1[y]! d1[x]! = false:=by
 obtain⟨q1,q2,q3,q4,q5,q6,q7,q8,q9,low,high⟩:=h;intro x y hx hx2 hy hy2;by_cases cx:x<s
 · rw[hr.out x (by omega)];by_cases cy:y<mid+m-s
   · rw[hr.snd y (by omega) (by omega)];exact h1 _ _ hx (by omega) (by omega)
   · rw[hr.out y (by omega)];rcases low with l | l | l
     · omega
     · omega
     · exact hS.ntrans _ _ _ (hS.ntrans _ _ _ (Jl hS h2 (by omega) (by omega) hy2) l) (Jl hS h1 hx (by omega) (by omega))
 · rw[hr.fst x (by omega) (by omega)];by_cases cy:y<mid+m-s
   · rw[hr.snd y (by omega) (by omega)];rcases high with l | l | l
     · omega
     · omega
     · exact hS.ntrans _ _ _ (hS.ntrans _ _ _ (Jl hS h1 (show a≤s by omega) (show s≤y-(mid-s) by omega) (by omega)) (Xh hS l)) (Jl hS h2 (by omega) (by omega) (by omega))
   · rw[hr.out y (by omega)];exact h2 _ _ (by omega) (by omega) hy2
theorem Yy {d2 d3:Array α} (hb:b≤d1.size) (hmb:mid≤b) (p1:PermIn a mid d1 d2) (s1:SortedIn lt a mid d2) (p2:PermIn mid b d2 d3) (s2:SortedIn lt mid b d3)
 (cross:∀x y,a≤x→x<mid→mid≤y→y<b→lt d1[y]! d1[x]! = false):SortedIn lt a b d3:=by
 have c1:∀y,mid≤y→y<b→∀x,a≤x→x<mid→lt d1[y]! d2[x]! = false:=fun y g1 g2 =>
  permIn_all d1 d2 a mid (fun v=>lt d1[y]! v=false) (by omega) p1 (fun x g3 g4=>cross x y g3 g4 g1 g2)
 have c2:∀x,a≤x→x<mid→∀y,mid≤y→y<b→lt d3[y]! d2[x]! = false:=fun x g1 g2 =>
  permIn_all d2 d3 mid b (fun v=>lt v d2[x]! = false) (by rw[p1.1];exact hb) p2 (fun y g3 g4=>by rw[p1.2.1 y (by omega)];exact c1 y g3 g4 x g1 g2)
 intro x y hx hxy hy;by_cases cx:x<mid
 · rw[p2.2.1 x (by omega)];by_cases cy:y<mid
   · rw[p2.2.1 y (by omega)];exact s1 x y hx hxy cy
   · exact c2 x hx cx y (by omega) hy
 · exact s2 x y (by omega) hxy hy
end Go.Proofs.YtabafpoklpiiiaaGreat
namespace Go.Proofs.YtabafpoklpiiiaaGreat
open Go.RowKit Go.Shelf Go.Lib Go.Sort
structure JV (P:Program) (kE:Nat):Prop where
 mixed:P.follows .mixedOrders=true
 fSwap:P.funcs[214]?=some Tryz.f214
 fRot:P.funcs[186]?=some Tryz.f186
 fMrg:P.funcs[145]?=some Tryz.f145
 fIns:P.funcs[144]?=some Tryz.f144
 fStb:P.funcs[103]?=some Tryz.f103
 t0:P.underlying 0=Tryz.prog.underlying 0
 a0:∀w,(isAgg 0).run P w=.ok false w
 z0:∀w,(Go.sizeOf 0).run P w=.ok 1 w
 t3:P.underlying 3=Tryz.prog.underlying 3
 a3:∀w,(isAgg 3).run P w=.ok false w
 z3:∀w,(Go.sizeOf 3).run P w=.ok 1 w
 t4:P.underlying 4=Tryz.prog.underlying 4
 a4:∀w,(isAgg 4).run P w=.ok false w
 z4:∀w,(Go.sizeOf 4).run P w=.ok 1 w
 t39:P.underlying 253=Tryz.prog.underlying 253
 a39:∀w,(isAgg 253).run P w=.ok false w
 z39:∀w,(Go.sizeOf 253).run P w=.ok 1 w
 t22:P.underlying 32=Tryz.prog.underlying 32
 a22:∀w,(isAgg 32).run P w=.ok false w
 z22:∀w,(Go.sizeOf 32).run P w=.ok 1 w
 t25:P.underlying 99=Tryz.prog.underlying 99
 a25:∀w,(isAgg 99).run P w=.ok false w
 z25:∀w,(Go.sizeOf 99).run P w=.ok 1 w
 v0:∀w,(zeroValue 0).run P w=.ok (Value.tuple #[]) w
 v3:∀w,(zeroValue 3).run P w=.ok (Value.int IntKind.i64 0) w
 v4:∀w,(zeroValue 4).run P w=.ok (Value.bool false) w
 aE:∀w,(isAgg 41).run P w=.ok true w
 zE:∀w,(Go.sizeOf 41).run P w=.ok kE w
theorem jd3:JV Tryz.prog 11 where
 mixed:=by kernel_rfl
 fSwap:=Tryz.func214
 fRot:=Tryz.func186
 fMrg:=Tryz.func145
 fIns:=Tryz.func144
 fStb:=Tryz.func103
 t0:=rfl
 a0:=Tryz.isAgg0
 z0:=Tryz.sizeOf0
 t3:=rfl
 a3:=Tryz.isAgg3
 z3:=Tryz.sizeOf3
 t4:=rfl
 a4:=Tryz.isAgg4
 z4:=Tryz.sizeOf4
 t39:=rfl
 a39:=Tryz.isAgg253
 z39:=Tryz.sizeOf253
 t22:=rfl
 a22:=Tryz.isAgg32
 z22:=Tryz.sizeOf32
 t25:=rfl
 a25:=Tryz.isAgg99
 z25:=Tryz.sizeOf99
 v0:=Tryz.zeroValue0
 v3:=Tryz.zeroValue3
 v4:=Tryz.zeroValue4
 aE:=Tryz.isAgg41
 zE:=Tryz.sizeOf41
theorem qS {α:Type} [Inhabited α] {P:Program} {kE:Nat} (L:JV P kE) (enc:α→List Value) (w0:World) (blk off cap a b n:Nat) (d0 d:Array α) (w:World) (R:RowK enc kE w0 blk off d0) (hs:d0.size=d.size) (S:SWK enc kE w0 blk off d w) (hab:a+n≤b) (hb:b+n≤d.size) (hsz:d.size<4611686018427387904) (cmp:Value) :
 Calls P 214 #[.slice (some ⟨blk,off,none⟩) d.size cap,.int .i64 a,.int .i64 b,.int .i64 n,cmp] w
  fun e w'=>e=.returned (.tuple #[])∧∃d',JU a b n d d'∧PermIn a (b+n) d d'∧SWK enc kE w0 blk off d' w':=by
 have mixed:=L.mixed;have t0:=L.t0.trans Tryz.underlying0;have a0:=L.a0;have z0:=L.z0;have t3:=L.t3.trans Tryz.underlying3;have a3:=L.a3;have z3:=L.z3;have t4:=L.t4.trans Tryz.underlying4;have a4:=L.a4;have z4:=L.z4;have t39:=L.t39.trans Tryz.underlying253;have a39:=L.a39;have z39:=L.z39;have t22:=L.t22.trans Tryz.underlying32;have a22:=L.a22;have z22:=L.z22;have t25:=L.t25.trans Tryz.underlying99;have a25:=L.a25;have z25:=L.z25;have v0:=L.v0;have v3:=L.v3;have v4:=L.v4;have aE:=L.aE;have zE:=L.zE;have u22:=run_underlying t22;have eSwap:∀args w,(callFunc 214 args).run P w=.ok (.enter 214 args) w:=enters_of L.fSwap (by kernel_rfl) rfl;have eRot:∀args w,(callFunc 186 args).run P w=.ok (.enter 186 args) w:=enters_of L.fRot (by kernel_rfl) rfl;have eMrg:∀args w,(callFunc 145 args).run P w=.ok (.enter 145 args) w:=enters_of L.fMrg (by kernel_rfl) rfl;have eIns:∀args w,(callFunc 144 args).run P w=.ok (.enter 144 args) w:=enters_of L.fIns (by kernel_rfl) rfl;have eStb:∀args w,(callFunc 103 args).run P w=.ok (.enter 103 args) w:=enters_of L.fStb (by kernel_rfl) rfl;have HR:Aside _:=R;have S0:Aside (SWK enc kE w0 blk off d w):=S;clear S R;go_enter L.fSwap,Tryz.ntmps214;go_wp2;go_loopg [10] n (fun g1 vi wr=>∃(i:Nat) (dk:Array α),vi=.int .i64 i∧i≤n∧n-i≤g1∧dk.size=d.size∧Aside (SWK enc kE w0 blk off dk wr)∧Hid (JU a b i d dk∧PermIn a (b+n) d dk))
 case atStart=>exact⟨0,d,by go_num,by omega,by omega,rfl,S0,JU.zero _ _ _,permIn_refl _ _ _⟩
 case round =>
  clear S0;obtain⟨i,dk,rfl,hi,hg1,hsk,S1,HX⟩:=hrel;by_cases hlt:i<n
  · have hltz:(i:Int)<(n:Int):=by omega
    obtain⟨iN,hiN⟩:∃q,q=a+i:=⟨_,rfl⟩
    obtain⟨jN,hjN⟩:∃q,q=b+i:=⟨_,rfl⟩
    have ea:((a:Int)+(i:Int)).toNat=iN:=by omega
    have pa:(0:Int)≤(a:Int)+(i:Int):=by omega
    have ba:(a:Int)+(i:Int)<(d.size:Int):=by omega
    have ra:IntKind.i64.wrap ((a:Int)+(i:Int))=(a:Int)+(i:Int):=by rw[IntKind.wrap_i64];omega
    have ec:((b:Int)+(i:Int)).toNat=jN:=by omega
    have pc:(0:Int)≤(b:Int)+(i:Int):=by omega
    have bc:(b:Int)+(i:Int)<(d.size:Int):=by omega
    have rc:IntKind.i64.wrap ((b:Int)+(i:Int))=(b:Int)+(i:Int):=by rw[IntKind.wrap_i64];omega
    have S3:Aside (SWK enc kE w0 blk off (swp dk (iN) (jN)) ((wr.drew.setCells blk (off+(iN)*kE) (enc dk[jN]!)).setCells blk (off+(jN)*kE) (enc dk[iN]!))):=S1.out.swapped HR.out (iN) (jN) (by omega) (by omega);have lA:=S1.out.ld1 HR.out (by omega) P (iN) (by omega);have lB:=S1.out.ld1 HR.out (by omega) P (jN) (by omega);have sA:=S1.out.st1 HR.out (by omega) P (iN) (by omega) dk[jN]!;have sB:=S1.out.st2 HR.out (by omega) P (iN) (jN) (by omega) (by omega) dk[jN]! dk[iN]!;have nA:(enc dk[iN]!).length=kE:=HR.out.hk _;have nB:(enc dk[jN]!).length=kE:=HR.out.hk _;generalize enc dk[iN]! = cI at S3 lA sB nA
    generalize enc dk[jN]! = cJ at S3 lB sA sB nB
    have UC:Hid (JU a b (i+1) d (swp dk iN jN)∧PermIn a (b+n) d (swp dk iN jN)):=by
     rw[hiN,hjN];exact⟨HX.out.1.step (by omega) (by omega),permIn_trans _ _ _ _ _ HX.out.2 (swp_permIn dk a (b+n) (a+i) (b+i) (by omega) (by omega) (by omega) (by omega) (by omega))⟩
    clear S1 hiN hjN;go_wp2_with fail
    go_big_region_o
    clear lA lB sA sB;generalize (wr.drew.setCells blk (off+(iN)*kE) cJ).setCells blk (off+(jN)*kE) cI=w3 at S3 ⊢
    clear ea ec;go_wp2;go_roundg (n-(i+1))
    case measure=>omega
    case rel=>exact⟨i+1,swp dk iN jN,by go_num,by omega,Nat.le_refl _,by rw[size_swp];exact hsk,S3,UC⟩
  · have hltz:¬(i:Int)<(n:Int):=by omega
    have hin:i=n:=by omega
    subst hin;go_wp2;go_end0
    exact⟨rfl,dk,HX.out.1,HX.out.2,S1.out⟩
def jfJ {α:Type} [Inhabited α] (kE:Nat) (enc:α→List Value) (w0:World) (blk off:Nat) (a b n:Nat) (d:Array α) (e:Ending) (w':World):Prop :=
 e=.returned (.tuple #[])∧∃d',JU a b n d d'∧PermIn a (b+n) d d'∧SWK enc kE w0 blk off d' w'
theorem ZF {α:Type} [Inhabited α] {P:Program} {kE:Nat} (L:JV P kE) (enc:α→List Value) (w0:World) (blk off cap a b n:Nat) (za zb zn:Int) (d0 d:Array α) (w:World) (R:RowK enc kE w0 blk off d0) (hs:d0.size=d.size) (S:SWK enc kE w0 blk off d w) (hab:a+n≤b) (hb:b+n≤d.size) (hsz:d.size<4611686018427387904) (cmp:Value)
 (ea:za=a) (eb:zb=b) (en:zn=n) (N:Nat) (hN:N=d.size) :
 Calls P 214 #[.slice (some ⟨blk,off,none⟩) N cap,.int .i64 za,.int .i64 zb,.int .i64 zn,cmp] w (jfJ kE enc w0 blk off a b n d):=by
 subst ea eb en hN;exact qS L enc w0 blk off cap a b n d0 d w R hs S hab hb hsz cmp
theorem jb5 {α:Type} [Inhabited α] {P:Program} {kE:Nat} (L:JV P kE) (enc:α→List Value) (w0:World) (blk off cap a m b:Nat) (d0 d:Array α) (w:World) (R:RowK enc kE w0 blk off d0) (hs:d0.size=d.size) (S:SWK enc kE w0 blk off d w) (ham:a<m) (hmb:m<b) (hb:b≤d.size) (hsz:d.size<4611686018427387904) (cmp:Value) :
 Calls P 186 #[.slice (some ⟨blk,off,none⟩) d.size cap,.int .i64 a,.int .i64 m,.int .i64 b,cmp] w
  fun e w'=>e=.returned (.tuple #[])∧∃d',Rot a (m-a) (b-m) d d'∧PermIn a b d d'∧SWK enc kE w0 blk off d' w':=by
 have mixed:=L.mixed;have t0:=L.t0.trans Tryz.underlying0;have a0:=L.a0;have z0:=L.z0;have t3:=L.t3.trans Tryz.underlying3;have a3:=L.a3;have z3:=L.z3;have t4:=L.t4.trans Tryz.underlying4;have a4:=L.a4;have z4:=L.z4;have t39:=L.t39.trans Tryz.underlying253;have a39:=L.a39;have z39:=L.z39;have t22:=L.t22.trans Tryz.underlying32;have a22:=L.a22;have z22:=L.z22;have t25:=L.t25.trans Tryz.underlying99;have a25:=L.a25;have z25:=L.z25;have v0:=L.v0;have v3:=L.v3;have v4:=L.v4;have aE:=L.aE;have zE:=L.zE;have u22:=run_underlying t22;have eSwap:∀args w,(callFunc 214 args).run P w=.ok (.enter 214 args) w:=enters_of L.fSwap (by kernel_rfl) rfl;have eRot:∀args w,(callFunc 186 args).run P w=.ok (.enter 186 args) w:=enters_of L.fRot (by kernel_rfl) rfl;have eMrg:∀args w,(callFunc 145 args).run P w=.ok (.enter 145 args) w:=enters_of L.fMrg (by kernel_rfl) rfl;have eIns:∀args w,(callFunc 144 args).run P w=.ok (.enter 144 args) w:=enters_of L.fIns (by kernel_rfl) rfl;have eStb:∀args w,(callFunc 103 args).run P w=.ok (.enter 103 args) w:=enters_of L.fStb (by kernel_rfl) rfl;have HR:Aside _:=R;have S0:Aside (SWK enc kE w0 blk off d w):=S;have r1:IntKind.i64.wrap ((m:Int)-(a:Int))=(m:Int)-(a:Int):=by rw[IntKind.wrap_i64];omega
 have r2:IntKind.i64.wrap ((b:Int)-(m:Int))=(b:Int)-(m:Int):=by rw[IntKind.wrap_i64];omega
 clear S R;go_enter L.fRot,Tryz.ntmps186;go_wp2;go_loopg [10,11] (b-a) (fun g1 vi vj wr=>∃(i j:Nat) (dk:Array α),vi=.int .i64 i∧vj=.int .i64 j∧0<i∧0<j∧i≤m-a∧j≤b-m∧i+j≤g1∧dk.size=d.size∧Aside (SWK enc kE w0 blk off dk wr)∧Hid ((∀d',Rot (m-i) i j dk d'→Rot a (m-a) (b-m) d d')∧PermIn a b d dk))
 case atStart=>exact⟨m-a,b-m,d,by congr 1;omega,by congr 1;omega,by omega,by omega,by omega,by omega,by omega,rfl,S0,fun d' h=>by rwa [show m-(m-a)=a from by omega] at h,permIn_refl _ _ _⟩
 case round =>
  clear S0;obtain⟨i,j,dk,rfl,rfl,hi,hj,hia,hjb,hg1,hsk,S1,HX⟩:=hrel;have r3:IntKind.i64.wrap ((m:Int)-(i:Int))=(m:Int)-(i:Int):=by rw[IntKind.wrap_i64];omega
  rcases Nat.lt_trichotomy j i with hlt | hlt | hlt
  · have q1:((i:Int) != (j:Int))=true:=by simp;omega
    have q2:(j:Int)<(i:Int):=by omega
    have r4:IntKind.i64.wrap ((i:Int)-(j:Int))=(i:Int)-(j:Int):=by rw[IntKind.wrap_i64];omega
    have hc:=lH (ZF L enc w0 blk off cap (m-i) m j ((m:Int)-i) m j d0 dk wr HR.out (by omega) S1.out (by omega) (by omega) (by omega) cmp (by omega) rfl rfl d.size hsk.symm);clear S1;go_wp2_with (go_at_call 214;refine hc.out.mono ?_;rintro e w1 ⟨rfl,d1,hE,hP,hS⟩)
    have H1:Hid (JU (m-i) m j dk d1):=hE;have H2:Hid (PermIn (m-i) (m+j) dk d1):=hP;have S2:Aside (SWK enc kE w0 blk off d1 w1):=hS;clear hE hP hS;go_roundg (i+j-j)
    case measure=>omega
    case rel =>
     have hz:=H1.out.size;refine⟨i-j,j,d1,by congr 1;omega,rfl,by omega,by omega,by omega,by omega,by omega,by omega,S2,fun d' h=>HX.out.1 d' (Rot.big hlt (by rw[show m-i+i=m from by omega];exact H1.out) (by rw[show m-i+j=m-(i-j) from by omega];exact h)),permIn_trans _ _ _ _ _ HX.out.2 (permIn_mono _ _ _ _ _ _ (by omega) (by omega) (by omega) H2.out)⟩
  · subst hlt;have q1:((j:Int) != (j:Int))=false:=by simp
    have hc:=lH (ZF L enc w0 blk off cap (m-j) m j ((m:Int)-j) m j d0 dk wr HR.out (by omega) S1.out (by omega) (by omega) (by omega) cmp (by omega) rfl rfl d.size hsk.symm);clear S1;go_wp2_with (go_at_call 214;refine hc.out.mono ?_;rintro e w1 ⟨rfl,d1,hE,hP,hS⟩)
    have H1:Hid (JU (m-j) m j dk d1):=hE;have H2:Hid (PermIn (m-j) (m+j) dk d1):=hP;have S2:Aside (SWK enc kE w0 blk off d1 w1):=hS;clear hE hP hS;go_end0
    exact⟨rfl,d1,HX.out.1 d1 (Rot.of_exch (by rw[show m-j+j=m from by omega];exact H1.out)),permIn_trans _ _ _ _ _ HX.out.2 (permIn_mono _ _ _ _ _ _ (by omega) (by omega) (by omega) H2.out),S2.out⟩
  · have q1:((i:Int) != (j:Int))=true:=by simp;omega
    have q2:¬(j:Int)<(i:Int):=by omega
    have r4:IntKind.i64.wrap ((j:Int)-(i:Int))=(j:Int)-(i:Int):=by rw[IntKind.wrap_i64];omega
    have r5:IntKind.i64.wrap ((m:Int)+(j:Int))=(m:Int)+(j:Int):=by rw[IntKind.wrap_i64];omega
    have r6:IntKind.i64.wrap ((m:Int)+(j:Int)-(i:Int))=(m:Int)+(j:Int)-(i:Int):=by rw[IntKind.wrap_i64];omega
    have hc:=lH (ZF L enc w0 blk off cap (m-i) (m+j-i) i ((m:Int)-i) ((m:Int)+j-i) i d0 dk wr HR.out (by omega) S1.out (by omega) (by omega) (by omega) cmp (by omega) (by omega) rfl d.size hsk.symm);clear S1;go_wp2_with (go_at_call 214;refine hc.out.mono ?_;rintro e w1 ⟨rfl,d1,hE,hP,hS⟩)
    have H1:Hid (JU (m-i) (m+j-i) i dk d1):=hE;have H2:Hid (PermIn (m-i) (m+j-i+i) dk d1):=hP;have S2:Aside (SWK enc kE w0 blk off d1 w1):=hS;clear hE hP hS;go_roundg (i+j-i)
    case measure=>omega
    case rel =>
     have hz:=H1.out.size;refine⟨i,j-i,d1,rfl,by congr 1;omega,by omega,by omega,by omega,by omega,by omega,by omega,S2,fun d' h=>HX.out.1 d' (Rot.small hlt (by rw[show m-i+j=m+j-i from by omega];exact H1.out) h),permIn_trans _ _ _ _ _ HX.out.2 (permIn_mono _ _ _ _ _ _ (by omega) (by omega) (by omega) H2.out)⟩
def YJ {α:Type} [Inhabited α] (kE:Nat) (enc:α→List Value) (cf:α→α→Int) (w0:World) (blk off a b:Nat) (d:Array α) (e:Ending) (w':World):Prop :=
 e=.returned (.tuple #[])∧∃d',PermIn a b d d'∧SortedIn (ltOf cf) a b d'∧SWK enc kE w0 blk off d' w'
theorem qL {α:Type} [Inhabited α] {P:Program} {kE:Nat} (L:JV P kE) (enc:α→List Value) (cf:α→α→Int) (hO:SWO (ltOf cf)) (g:Nat) (cb:Array Value) (w0:World) (blk off cap a b:Nat) (d0 d:Array α) (w:World)
 (eg:∀args w,(callFunc g args).run P w=.ok (.enter g args) w) (hcmp:CmpLays P g cb enc kE cf blk off d0.size w0) (R:RowK enc kE w0 blk off d0) (hs:d0.size=d.size) (S:SWK enc kE w0 blk off d w)
 (hab:a+1<b) (hb:b≤d.size) (hsz:d.size<2305843009213693952) (s2:SortedIn (ltOf cf) (a+1) b d) :
 Calls P 145 #[.slice (some ⟨blk,off,none⟩) d.size cap,.int .i64 a,.int .i64 ((a:Int)+1),.int .i64 b,.func (.func g) #[] cb] w (YJ kE enc cf w0 blk off a b d):=by
 unfold YJ;have mixed:=L.mixed;have t0:=L.t0.trans Tryz.underlying0;have a0:=L.a0;have z0:=L.z0;have t3:=L.t3.trans Tryz.underlying3;have a3:=L.a3;have z3:=L.z3;have t4:=L.t4.trans Tryz.underlying4;have a4:=L.a4;have z4:=L.z4;have t39:=L.t39.trans Tryz.underlying253;have a39:=L.a39;have z39:=L.z39;have t22:=L.t22.trans Tryz.underlying32;have a22:=L.a22;have z22:=L.z22;have t25:=L.t25.trans Tryz.underlying99;have a25:=L.a25;have z25:=L.z25;have v0:=L.v0;have v3:=L.v3;have v4:=L.v4;have aE:=L.aE;have zE:=L.zE;have u22:=run_underlying t22;have eSwap:∀args w,(callFunc 214 args).run P w=.ok (.enter 214 args) w:=enters_of L.fSwap (by kernel_rfl) rfl;have eRot:∀args w,(callFunc 186 args).run P w=.ok (.enter 186 args) w:=enters_of L.fRot (by kernel_rfl) rfl;have eMrg:∀args w,(callFunc 145 args).run P w=.ok (.enter 145 args) w:=enters_of L.fMrg (by kernel_rfl) rfl;have eIns:∀args w,(callFunc 144 args).run P w=.ok (.enter 144 args) w:=enters_of L.fIns (by kernel_rfl) rfl;have eStb:∀args w,(callFunc 103 args).run P w=.ok (.enter 103 args) w:=enters_of L.fStb (by kernel_rfl) rfl;have HR:Aside _:=R;have HC:Aside _:=hcmp;have SS:Aside _:=s2;have OO:Aside _:=hO;have S0:Aside (SWK enc kE w0 blk off d w):=S;have r1:IntKind.i64.wrap ((a:Int)+1-(a:Int))=1:=by rw[IntKind.wrap_i64];omega
 have baz:(a:Int)<(d.size:Int):=by omega
 clear S R hcmp s2 hO;go_enter L.fMrg,Tryz.ntmps145;go_wp2
 go_loopg [10,11] b (fun g1 vi vj wr=>∃lo hi:Nat,vi=.int .i64 lo∧vj=.int .i64 hi∧a+1≤lo∧lo≤hi∧hi≤b∧hi-lo≤g1∧Aside (SWK enc kE w0 blk off d wr) ∧
  Hid ((lo=a+1∨ltOf cf d[lo-1]! d[a]! = true)∧(hi=b∨ltOf cf d[hi]! d[a]! = false)))
 case atStart=>exact⟨a+1,b,by go_num,rfl,by omega,by omega,by omega,by omega,S0,.inl rfl,.inl rfl⟩
 case round =>
  clear S0;obtain⟨lo,hi,rfl,rfl,hal,hlh,hhb,hg1,S1,HX⟩:=hrel;by_cases hlt:lo<hi
  · have hltz:(lo:Int)<(hi:Int):=by omega
    obtain⟨x,hx⟩:∃x,x=d[(lo+hi) / 2]!:=⟨_,rfl⟩
    obtain⟨y,hy⟩:∃x,x=d[a]!:=⟨_,rfl⟩
    have l1:=S1.out.ld HR.out (by omega) P ((lo+hi) / 2) (by omega);have l2:=S1.out.ld HR.out (by omega) P a (by omega);obtain⟨hN,hhN⟩:∃q,q=(lo+hi) / 2:=⟨_,rfl⟩
    rw[←hx,←hhN] at l1;rw[←hy] at l2;have ea:(((lo:Int)+(hi:Int)) / 2).toNat=hN:=by omega
    have pa:(0:Int)≤((lo:Int)+(hi:Int)) / 2:=by omega
    have ra:IntKind.i64.wrap (((lo:Int)+(hi:Int)) / 2)=((lo:Int)+(hi:Int)) / 2:=by rw[IntKind.wrap_i64];omega
    have hc:=S1.out.cmp HC.out (by omega) x y;have bm:((lo:Int)+(hi:Int)) / 2<(d.size:Int):=by omega
    have VL:Hid (x=d[(lo+hi) / 2]!∧y=d[a]!):=⟨hx,hy⟩
    clear hx hy hhN;by_cases hv:cf x y<0
    · have hd:decide (cf x y<0)=true:=decide_eq_true hv;go_wp2_with fail
      go_quiet_grown (first | (go_at_fn g;refine Calls.grown_of (hc _ _)))
      have S2:Aside (SWK enc kE w0 blk off d (grow (wr.drewN nq) osq)):=S1.out.grown nq osq;clear l1 l2 hc S1;generalize grow (wr.drewN nq) osq=w2 at S2 ⊢
      clear nq osq;go_wp2;go_roundg (hi-((lo+hi) / 2+1))
      case measure=>omega
      case rel =>
       refine⟨(lo+hi) / 2+1,hi,by rw[show ((lo:Int)+(hi:Int)) / 2+1=(((lo+hi) / 2+1:Nat):Int) by omega],rfl,by omega,by omega,by omega,Nat.le_refl _,S2,?_,HX.out.2⟩;right
       rw[show (lo+hi) / 2+1-1=(lo+hi) / 2 from by omega,←VL.out.1,←VL.out.2];exact hd
    · have hd:decide (cf x y<0)=false:=decide_eq_false hv;go_wp2_with fail
      go_quiet_grown (first | (go_at_fn g;refine Calls.grown_of (hc _ _)))
      have S2:Aside (SWK enc kE w0 blk off d (grow (wr.drewN nq) osq)):=S1.out.grown nq osq;clear l1 l2 hc S1;generalize grow (wr.drewN nq) osq=w2 at S2 ⊢
      clear nq osq;go_wp2;go_roundg ((lo+hi) / 2-lo)
      case measure=>omega
      case rel =>
       refine⟨lo,(lo+hi) / 2,rfl,by rw[show ((lo:Int)+(hi:Int)) / 2=(((lo+hi) / 2:Nat):Int) by omega],by omega,by omega,by omega,Nat.le_refl _,S2,HX.out.1,?_⟩;right
       rw[←VL.out.1,←VL.out.2];exact hd
  · obtain rfl:hi=lo:=by omega
    have r2:IntKind.i64.wrap ((hi:Int)-1)=(hi:Int)-1:=by rw[IntKind.wrap_i64];omega
    have hq:¬(hi:Int)<(hi:Int):=by omega
    go_wp2;go_loopg [13] b (fun g2 vk wr2=>∃(n:Nat) (dk:Array α),vk=.int .i64 ((a+n:Nat):Int)∧a+n+1≤hi∧b-(a+n)≤g2∧dk.size=d.size∧Aside (SWK enc kE w0 blk off dk wr2)∧Hid (Rot a 1 n d dk∧PermIn a b d dk))
    case atStart=>exact⟨0,d,by go_num,by omega,by omega,rfl,S1,Rot.triv (.inr rfl),permIn_refl _ _ _⟩
    case round =>
     clear S1;obtain⟨n,dk,rfl,hn,hg2,hsk,S2,HY⟩:=hrel;by_cases hk:a+n+1<hi
     · have hkz:((a+n:Nat):Int)<(hi:Int)-1:=by omega
       obtain⟨kN,hkN⟩:∃q,q=a+n:=⟨_,rfl⟩
       rw[←hkN] at hkz ⊢;obtain⟨jN,hjN⟩:∃q,q=kN+1:=⟨_,rfl⟩
       have ea:((kN:Int)+1).toNat=jN:=by omega
       have pa:(0:Int)≤(kN:Int)+1:=by omega
       have ba:(kN:Int)+1<(d.size:Int):=by omega
       have bk:(kN:Int)<(d.size:Int):=by omega
       have ra:IntKind.i64.wrap ((kN:Int)+1)=(kN:Int)+1:=by rw[IntKind.wrap_i64];omega
       have S3:Aside (SWK enc kE w0 blk off (swp dk (kN) (jN)) ((wr.drew.setCells blk (off+(kN)*kE) (enc dk[jN]!)).setCells blk (off+(jN)*kE) (enc dk[kN]!))):=S2.out.swapped HR.out (kN) (jN) (by omega) (by omega);have lA:=S2.out.ld1 HR.out (by omega) P (kN) (by omega);have lB:=S2.out.ld1 HR.out (by omega) P (jN) (by omega);have sA:=S2.out.st1 HR.out (by omega) P (kN) (by omega) dk[jN]!;have sB:=S2.out.st2 HR.out (by omega) P (kN) (jN) (by omega) (by omega) dk[jN]! dk[kN]!;have nA:(enc dk[kN]!).length=kE:=HR.out.hk _;have nB:(enc dk[jN]!).length=kE:=HR.out.hk _;generalize enc dk[kN]! = cI at S3 lA sB nA
       generalize enc dk[jN]! = cJ at S3 lB sA sB nB
       have Rv:Hid (Rot a 1 (n+1) d (swp dk kN jN)∧PermIn a b d (swp dk kN jN)) :=
        ⟨by rw[hjN,hkN];exact HY.out.1.up (by omega),permIn_trans _ _ _ _ _ HY.out.2 (swp_permIn dk a b kN jN (by omega) (by omega) (by omega) (by omega) (by omega))⟩
       have HK:Hid (kN=a+n):=hkN;clear S2 hjN hkN;go_wp2_with fail
       go_big_region_o
       clear lA lB sA sB;generalize (wr.drew.setCells blk (off+(kN)*kE) cJ).setCells blk (off+(jN)*kE) cI=w3 at S3 ⊢
       clear ea;go_wp2;go_roundg (b-(a+(n+1)))
       case measure=>have:=HK.out;omega
       case rel=>exact⟨n+1,swp dk kN jN,by rw[HK.out];go_num,by omega,Nat.le_refl _,by rw[size_swp];exact hsk,S3,Rv⟩
     · have hkz:¬((a+n:Nat):Int)<(hi:Int)-1:=by omega
       have en:hi=a+1+n:=by omega
       have R1:Hid (Rot a 1 n d dk∧PermIn a b d dk):=HY;have EN:Hid (hi=a+1+n):=en;obtain⟨kN,hkN⟩:∃q,q=a+n:=⟨_,rfl⟩
       rw[←hkN] at hkz ⊢;clear en hkN;go_wp2;refine bodyPost_ret (results_none rfl _ _ _) rfl ?_;have e1:=EN.out;refine⟨rfl,dk,R1.out.2,jeS OO.out R1.out.1 (by omega) SS.out ?_ ?_,S2.out⟩
       · rcases HX.out.1 with h | h
         · exact .inl (by omega)
         · right;rw[show a+n=hi-1 from by omega];exact h
       · rcases HX.out.2 with h | h
         · exact .inl (by omega)
         · right;rw[←e1];exact h
theorem qs {α:Type} [Inhabited α] {P:Program} {kE:Nat} (L:JV P kE) (enc:α→List Value) (cf:α→α→Int) (hO:SWO (ltOf cf)) (g:Nat) (cb:Array Value) (w0:World) (blk off cap a m:Nat) (d0 d:Array α) (w:World)
 (eg:∀args w,(callFunc g args).run P w=.ok (.enter g args) w) (hcmp:CmpLays P g cb enc kE cf blk off d0.size w0) (R:RowK enc kE w0 blk off d0) (hs:d0.size=d.size) (S:SWK enc kE w0 blk off d w)
 (ham:a+1<m) (hb:m+1≤d.size) (hsz:d.size<2305843009213693952) (s1:SortedIn (ltOf cf) a m d) :
 Calls P 145 #[.slice (some ⟨blk,off,none⟩) d.size cap,.int .i64 a,.int .i64 m,.int .i64 ((m:Int)+1),.func (.func g) #[] cb] w (YJ kE enc cf w0 blk off a (m+1) d):=by
 unfold YJ;have mixed:=L.mixed;have t0:=L.t0.trans Tryz.underlying0;have a0:=L.a0;have z0:=L.z0;have t3:=L.t3.trans Tryz.underlying3;have a3:=L.a3;have z3:=L.z3;have t4:=L.t4.trans Tryz.underlying4;have a4:=L.a4;have z4:=L.z4;have t39:=L.t39.trans Tryz.underlying253;have a39:=L.a39;have z39:=L.z39;have t22:=L.t22.trans Tryz.underlying32;have a22:=L.a22;have z22:=L.z22;have t25:=L.t25.trans Tryz.underlying99;have a25:=L.a25;have z25:=L.z25;have v0:=L.v0;have v3:=L.v3;have v4:=L.v4;have aE:=L.aE;have zE:=L.zE;have u22:=run_underlying t22;have eSwap:∀args w,(callFunc 214 args).run P w=.ok (.enter 214 args) w:=enters_of L.fSwap (by kernel_rfl) rfl;have eRot:∀args w,(callFunc 186 args).run P w=.ok (.enter 186 args) w:=enters_of L.fRot (by kernel_rfl) rfl;have eMrg:∀args w,(callFunc 145 args).run P w=.ok (.enter 145 args) w:=enters_of L.fMrg (by kernel_rfl) rfl;have eIns:∀args w,(callFunc 144 args).run P w=.ok (.enter 144 args) w:=enters_of L.fIns (by kernel_rfl) rfl;have eStb:∀args w,(callFunc 103 args).run P w=.ok (.enter 103 args) w:=enters_of L.fStb (by kernel_rfl) rfl;have HR:Aside _:=R;have HC:Aside _:=hcmp;have SS:Aside _:=s1;have OO:Aside _:=hO;have S0:Aside (SWK enc kE w0 blk off d w):=S;have r0:IntKind.i64.wrap ((m:Int)-(a:Int))=(m:Int)-(a:Int):=by rw[IntKind.wrap_i64];omega
 have q0:((m:Int)-(a:Int)==1)=false:=by simp;omega
 have r1:IntKind.i64.wrap ((m:Int)+1-(m:Int))=1:=by rw[IntKind.wrap_i64];omega
 have bmz:(m:Int)<(d.size:Int):=by omega
 clear S R hcmp s1 hO;go_enter L.fMrg,Tryz.ntmps145;go_wp2
 go_loopg [14,15] m (fun g1 vi vj wr=>∃lo hi:Nat,vi=.int .i64 lo∧vj=.int .i64 hi∧a≤lo∧lo≤hi∧hi≤m∧hi-lo≤g1∧Aside (SWK enc kE w0 blk off d wr) ∧
  Hid ((lo=a∨ltOf cf d[m]! d[lo-1]! = false)∧(hi=m∨ltOf cf d[m]! d[hi]! = true)))
 case atStart=>exact⟨a,m,rfl,rfl,by omega,by omega,by omega,by omega,S0,.inl rfl,.inl rfl⟩
 case round =>
  clear S0;obtain⟨lo,hi,rfl,rfl,hal,hlh,hhb,hg1,S1,HX⟩:=hrel;by_cases hlt:lo<hi
  · have hltz:(lo:Int)<(hi:Int):=by omega
    obtain⟨x,hx⟩:∃x,x=d[(lo+hi) / 2]!:=⟨_,rfl⟩
    obtain⟨y,hy⟩:∃x,x=d[m]!:=⟨_,rfl⟩
    have l1:=S1.out.ld HR.out (by omega) P ((lo+hi) / 2) (by omega);have l2:=S1.out.ld HR.out (by omega) P m (by omega);obtain⟨hN,hhN⟩:∃q,q=(lo+hi) / 2:=⟨_,rfl⟩
    rw[←hx,←hhN] at l1;rw[←hy] at l2;have ea:(((lo:Int)+(hi:Int)) / 2).toNat=hN:=by omega
    have pa:(0:Int)≤((lo:Int)+(hi:Int)) / 2:=by omega
    have ra:IntKind.i64.wrap (((lo:Int)+(hi:Int)) / 2)=((lo:Int)+(hi:Int)) / 2:=by rw[IntKind.wrap_i64];omega
    have hc:=S1.out.cmp HC.out (by omega) y x;have bm:((lo:Int)+(hi:Int)) / 2<(d.size:Int):=by omega
    have VL:Hid (x=d[(lo+hi) / 2]!∧y=d[m]!):=⟨hx,hy⟩
    clear hx hy hhN;by_cases hv:cf y x<0
    · have hd:decide (cf y x<0)=true:=decide_eq_true hv;go_wp2_with fail
      go_quiet_grown (first | (go_at_fn g;refine Calls.grown_of (hc _ _)))
      have S2:Aside (SWK enc kE w0 blk off d (grow (wr.drewN nq) osq)):=S1.out.grown nq osq;clear l1 l2 hc S1;generalize grow (wr.drewN nq) osq=w2 at S2 ⊢
      clear nq osq;go_wp2;go_roundg ((lo+hi) / 2-lo)
      case measure=>omega
      case rel =>
       refine⟨lo,(lo+hi) / 2,rfl,by rw[show ((lo:Int)+(hi:Int)) / 2=(((lo+hi) / 2:Nat):Int) by omega],by omega,by omega,by omega,Nat.le_refl _,S2,HX.out.1,?_⟩;right
       rw[←VL.out.1,←VL.out.2];exact hd
    · have hd:decide (cf y x<0)=false:=decide_eq_false hv;go_wp2_with fail
      go_quiet_grown (first | (go_at_fn g;refine Calls.grown_of (hc _ _)))
      have S2:Aside (SWK enc kE w0 blk off d (grow (wr.drewN nq) osq)):=S1.out.grown nq osq;clear l1 l2 hc S1;generalize grow (wr.drewN nq) osq=w2 at S2 ⊢
      clear nq osq;go_wp2;go_roundg (hi-((lo+hi) / 2+1))
      case measure=>omega
      case rel =>
       refine⟨(lo+hi) / 2+1,hi,by rw[show ((lo:Int)+(hi:Int)) / 2+1=(((lo+hi) / 2+1:Nat):Int) by omega],rfl,by omega,by omega,by omega,Nat.le_refl _,S2,?_,HX.out.2⟩;right
       rw[show (lo+hi) / 2+1-1=(lo+hi) / 2 from by omega,←VL.out.1,←VL.out.2];exact hd
  · obtain rfl:hi=lo:=by omega
    have hq:¬(hi:Int)<(hi:Int):=by omega
    go_wp2;go_loopg [17] m (fun g2 vk wr2=>∃(k n:Nat) (dk:Array α),vk=.int .i64 (k:Int)∧k+n=m∧hi≤k∧k≤g2∧dk.size=d.size∧Aside (SWK enc kE w0 blk off dk wr2)∧Hid (Rot k n 1 d dk∧PermIn a (m+1) d dk))
    case atStart=>exact⟨m,0,d,rfl,by omega,by omega,by omega,rfl,S1,Rot.triv (.inl rfl),permIn_refl _ _ _⟩
    case round =>
     clear S1;obtain⟨k,n,dk,rfl,hkn,hhk,hg2,hsk,S2,HY⟩:=hrel;by_cases hk:hi<k
     · obtain⟨jN,hjN⟩:∃q,q+1=k:=⟨k-1,by omega⟩
       subst hjN;have hkz:(hi:Int)<(jN:Int)+1:=by omega
       obtain⟨kN,hkN⟩:∃q,q=jN+1:=⟨_,rfl⟩
       have ea:((jN:Int)+1).toNat=kN:=by omega
       have pa:(0:Int)≤(jN:Int)+1:=by omega
       have ba:(jN:Int)+1<(d.size:Int):=by omega
       have bk:(jN:Int)<(d.size:Int):=by omega
       have ra:IntKind.i64.wrap (jN:Int)=(jN:Int):=by rw[IntKind.wrap_i64];omega
       have ra2:IntKind.i64.wrap ((jN:Int)+1-1)=(jN:Int):=by rw[IntKind.wrap_i64];omega
       have S3:Aside (SWK enc kE w0 blk off (swp dk (kN) (jN)) ((wr.drew.setCells blk (off+(kN)*kE) (enc dk[jN]!)).setCells blk (off+(jN)*kE) (enc dk[kN]!))):=S2.out.swapped HR.out (kN) (jN) (by omega) (by omega);have lA:=S2.out.ld1 HR.out (by omega) P (kN) (by omega);have lB:=S2.out.ld1 HR.out (by omega) P (jN) (by omega);have sA:=S2.out.st1 HR.out (by omega) P (kN) (by omega) dk[jN]!;have sB:=S2.out.st2 HR.out (by omega) P (kN) (jN) (by omega) (by omega) dk[jN]! dk[kN]!;have nA:(enc dk[kN]!).length=kE:=HR.out.hk _;have nB:(enc dk[jN]!).length=kE:=HR.out.hk _;generalize enc dk[kN]! = cI at S3 lA sB nA
       generalize enc dk[jN]! = cJ at S3 lB sA sB nB
       have Rv:Hid (Rot jN (n+1) 1 d (swp dk kN jN)∧PermIn a (m+1) d (swp dk kN jN)) :=
        ⟨by rw[hkN];exact HY.out.1.down (by omega),permIn_trans _ _ _ _ _ HY.out.2 (swp_permIn dk a (m+1) kN jN (by omega) (by omega) (by omega) (by omega) (by omega))⟩
       clear S2 hkN;go_wp2_with fail
       go_big_region_o
       clear lA lB sA sB;generalize (wr.drew.setCells blk (off+(kN)*kE) cJ).setCells blk (off+(jN)*kE) cI=w3 at S3 ⊢
       clear ea;go_wp2;go_roundg jN
       case measure=>omega
       case rel=>exact⟨jN,n+1,swp dk kN jN,by first | rfl | go_num | (congr 1;omega),by omega,by omega,Nat.le_refl _,by rw[size_swp];exact hsk,S3,Rv⟩
     · have en:k=hi:=by omega
       subst en;have hkz:¬(k:Int)<(k:Int):=by omega
       have KN:Hid (k+n=m):=hkn;clear hkn;go_wp2;refine bodyPost_ret (results_none rfl _ _ _) rfl ?_;have e1:=KN.out;refine⟨rfl,dk,HY.out.2,?_,S2.out⟩;have:=jdy OO.out HY.out.1 hal (by rw[e1];exact SS.out) ?_ ?_
       · rw[e1] at this;exact this
       · rcases HX.out.1 with h | h
         · exact .inl h
         · right;rw[e1];exact h
       · rcases HX.out.2 with h | h
         · exact .inl (by omega)
         · right;rw[e1];exact h
end Go.Proofs.YtabafpoklpiiiaaGreat
