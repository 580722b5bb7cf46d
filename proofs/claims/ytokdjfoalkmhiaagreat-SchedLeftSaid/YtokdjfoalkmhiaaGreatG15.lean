/- C. -/
import Derived.Test.YtokdjfoalkmhiaaGreatG2
import Derived.Test.YtokdjfoalkmhiaaGreatG5
import Derived.Test.YtokdjfoalkmhiaaGreatG6
import Derived.Test.YtokdjfoalkmhiaaGreatG7
import Derived.Test.YtokdjfoalkmhiaaGreatG10
import Derived.Test.YtokdjfoalkmhiaaGreatG11
import Derived.Test.YtokdjfoalkmhiaaGreatG12
import Derived.Test.YtokdjfoalkmhiaaGreatG13
import Derived.Test.YtokdjfoalkmhiaaGreatG14
import Derived.Shelf.SlSortCmp.NoneTotal
set_option linter.unusedVariables false
set_option maxRecDepth 100000
set_option maxHeartbeats 25600000
namespace Go.Proofs.YtokdjfoalkmhiaaGreat
open Go.RowKit
attribute [local go_sem] Zg
def ZQ (s:Clu) (p:Pd) (names:List ByteArray) (l:List Mk):Prop:=l.map (·.1)=names∧∀x ∈ l,x.2.1=jaD s p x.1∧nrm x.2.2=X2 s p x.1
theorem ZQ.nil (s:Clu) (p:Pd):ZQ s p [] []:=⟨rfl,fun x h=>by cases h⟩
theorem ZQ.snoc {s:Clu} {p:Pd} {names:List ByteArray} {l:List Mk} {x:ByteArray} {m:Int} {r:Nat} (h:ZQ s p names l) (hm:m=jaD s p x) (hr:nrm r=X2 s p x):ZQ s p (names++[x]) (l++[(x,m,r)]):=by
 refine⟨by rw[List.map_append,h.1];rfl,fun y hy=>?_⟩;rcases List.mem_append.1 hy with hy | hy
 · exact h.2 y hy
 · obtain rfl:=List.mem_singleton.1 hy;exact⟨hm,hr⟩
theorem ZQ.len {s:Clu} {p:Pd} {names:List ByteArray} {l:List Mk} (h:ZQ s p names l):l.length=names.length:=by rw[←h.1,List.length_map]
theorem jie (s1 s2 s3:Option Addr) (n1 e1 n2 e2 n3 e3:Nat) (a1 a2 a3 a4:Option Addr) (m1 c1 m2 c2 m3 c3 m4 c4:Nat) (p:Pd) (s:Clu) (w:World) (hs:jB w (zP (.slice s1 n1 e1) (.slice s2 n2 e2) (.slice s3 n3 e3)) s) (hl:jA s) (hb:s.pods.length+1≤100000) (hp:ji w (.slice a1 m1 c1) (.slice a2 m2 c2) (.slice a3 m3 c3) (.slice a4 m4 c4) p) (hlp:Js p):Calls Tryz.prog 52 #[.agg #[.slice s1 n1 e1,.slice s2 n2 e2,.slice s3 n3 e3],jw p (.slice a1 m1 c1) (.slice a2 m2 c2) (.slice a3 m3 c3) (.slice a4 m4 c4)] w fun e w'=>∃(v:Value) (l:List Mk),e=.returned v∧Reads MkLay w' v l∧ZQ s p (jO s p s.nodes) l∧Kept w w':=by
 obtain⟨i0,hi,hz0,hz1,hz2'⟩:=info_parts jiw;obtain⟨Z,hZ⟩:=eX ((w.alloc (.cells #[.slice s1 n1 e1,.slice s2 n2 e2,.slice s3 n3 e3] 26)).alloc (.cells #[.string p.name,.string p.owner,.int .i64 p.prio,.slice a1 m1 c1,.slice a2 m2 c2,.slice a3 m3 c3,.slice a4 m4 c4,.string p.key,.int .i64 p.most,.string p.node,.bool p.hold] 44))
 have hkz:Kept w Z:=by rw[←hZ];exact jm _ _ _
 have Vi:=lH (jb w (.slice s1 n1 e1) [.slice s2 n2 e2,.slice s3 n3 e3] 26 Z (by rw[←hZ];exact ja _ _));have Vg:=lH (show je (w.heap.size+1) [.string p.name,.string p.owner,.int .i64 p.prio,.slice a1 m1 c1,.slice a2 m2 c2,.slice a3 m3 c3,.slice a4 m4 c4,.string p.key,.int .i64 p.most,.string p.node,.bool p.hold] Z by
  have dd:=jb (w.alloc (.cells #[.slice s1 n1 e1,.slice s2 n2 e2,.slice s3 n3 e3] 26)) (.string p.name) [.string p.owner,.int .i64 p.prio,.slice a1 m1 c1,.slice a2 m2 c2,.slice a3 m3 c3,.slice a4 m4 c4,.string p.key,.int .i64 p.most,.string p.node,.bool p.hold] 44 Z (by rw[hZ];exact Kept.refl _);rw[World.size_alloc] at dd;exact dd)
 obtain⟨K,HS,HP,HL,Ta,Ud⟩:=lH6 hkz (hs.kept hkz) (hp.kept hkz) hl hb hlp;clear hs hp hkz hl hb hlp;have HF:=lH (show ∀W,Kept Z W→W.cell? ⟨w.heap.size,0,none⟩=some (.slice s1 n1 e1)∧W.cell? ⟨w.heap.size,1,none⟩=some (.slice s2 n2 e2)∧W.cell? ⟨w.heap.size,2,none⟩=some (.slice s3 n3 e3)∧W.cell? ⟨w.heap.size+1,0,none⟩=some (.string p.name)∧W.cell? ⟨w.heap.size+1,1,none⟩=some (.string p.owner)∧W.cell? ⟨w.heap.size+1,2,none⟩=some (.int .i64 p.prio)∧W.cell? ⟨w.heap.size+1,3,none⟩=some (.slice a1 m1 c1)∧W.cell? ⟨w.heap.size+1,4,none⟩=some (.slice a2 m2 c2)∧W.cell? ⟨w.heap.size+1,5,none⟩=some (.slice a3 m3 c3)∧W.cell? ⟨w.heap.size+1,6,none⟩=some (.slice a4 m4 c4)∧W.cell? ⟨w.heap.size+1,7,none⟩=some (.string p.key)∧W.cell? ⟨w.heap.size+1,8,none⟩=some (.int .i64 p.most)∧W.cell? ⟨w.heap.size+1,9,none⟩=some (.string p.node)∧W.cell? ⟨w.heap.size+1,10,none⟩=some (.bool p.hold) from fun W kk=>by
  have h:=Vi.out.kept kk;have q:=Vg.out.kept kk;exact⟨h.at_ 0 _ rfl,h.at_ 1 _ rfl,h.at_ 2 _ rfl,q.at_ 0 _ rfl,q.at_ 1 _ rfl,q.at_ 2 _ rfl,q.at_ 3 _ rfl,q.at_ 4 _ rfl,q.at_ 5 _ rfl,q.at_ 6 _ rfl,q.at_ 7 _ rfl,q.at_ 8 _ rfl,q.at_ 9 _ rfl,q.at_ 10 _ rfl⟩)
 have TB:=lH (YB s1 s2 s3 n1 e1 n2 e2 n3 e3 a1 a2 a3 a4 m1 c1 m2 c2 m3 c3 m4 c4 p s Z HS.out HL.out HP.out);unfold jw at TB;have hfl:=jaz s p s.nodes;have VP:=HL.out.nodesN;obtain⟨y0,y1,y2⟩:=Vi.out.at3;obtain⟨r0,r1,r2,r3,r4,r5,r6,r7,r8,r9,r10⟩:=Vg.out.at11;unfold jw;go_enter Tryz.func52,Tryz.ntmps52;go_wp2_with fail
 try rw[hZ]
 clear hZ;refine TB.out.mono ?_;rintro e w1 ⟨v9,rfl,hr,kk⟩;obtain⟨names,hnm⟩:=eX (jO s p s.nodes)
 rw[hnm] at hr hfl;have Rj:=lH hnm;clear hnm;obtain⟨wa,wc,rfl,-,-,hrow⟩:=hr.reads;obtain⟨n9,hn9⟩:=eX (names.length)
 rw[hn9] at hrow hfl ⊢;obtain⟨Rl,TT,UX⟩:=lH3 hr.2 hn9 hrow;have hn5:n9≤100000:=by omega
 have J1:=lH kk;clear kk hr hrow hn9 hfl VP TB y0 y1 y2 r0 r1 r2 r3 r4 r5 r6 r7 r8 r9 r10;go_wp2;go_loopw [5,7,12] (fun v _ i wr=>∃k:Nat,k≤n9∧i=.int .i64 k∧∃la:List Mk,ZQ s p (names.take k) la∧Own MkLay 172 wr w1.heap.size v la∧Kept w1 wr) (fun _ _ i _=>n9-(intOf i).toNat)
 case atStart=>exact⟨0,Nat.zero_le _,rfl,[],ZQ.nil _ _,Own.nil _ _ _,Kept.refl _⟩
 case round =>
  obtain⟨k,hk,rfl,la,hla,ho,hK⟩:=hrel;obtain⟨HX,HO,HK⟩:=lH3 hla ho hK;obtain⟨m,hm⟩:=eX (la.length)
  have hmk:m≤k:=by
   have:=hla.len;rw[hm,List.length_take] at this;omega
  have HT:=lH hm;have hbase:w1.heap.size≤wr.heap.size:=hK.size;by_cases hlt:k<n9
  · obtain⟨b9,o9,rfl⟩:=UX.out.form.resolve_left (by omega);obtain⟨xn,hxn,-,-,hxs,cw⟩:=(UX.out.kept hK).str hlt;have UA:=lH (show names.take (k+1)=names.take k++[xn] by rw[List.take_add_one,hxn];rfl);have UH:=lH hxs;have hkk:(k:Int)<(n9:Int):=by omega
    have hk0:¬(k:Int)<0:=by omega
    have J:=lH ((J1.out.trans hK).trans (Kept.drew wr));clear hla ho hm hxn hxs hK;go_upto_region 5 with fail
    clear cw hkk hk0;refine wp_region_held_drew (S:=fun W=>W.cell? ⟨w.heap.size,0,none⟩=some (.slice s1 n1 e1)∧W.cell? ⟨w.heap.size,1,none⟩=some (.slice s2 n2 e2)∧W.cell? ⟨w.heap.size,2,none⟩=some (.slice s3 n3 e3)∧W.cell? ⟨w.heap.size+1,0,none⟩=some (.string p.name)∧W.cell? ⟨w.heap.size+1,1,none⟩=some (.string p.owner)∧W.cell? ⟨w.heap.size+1,2,none⟩=some (.int .i64 p.prio)∧W.cell? ⟨w.heap.size+1,3,none⟩=some (.slice a1 m1 c1)∧W.cell? ⟨w.heap.size+1,4,none⟩=some (.slice a2 m2 c2)∧W.cell? ⟨w.heap.size+1,5,none⟩=some (.slice a3 m3 c3)∧W.cell? ⟨w.heap.size+1,6,none⟩=some (.slice a4 m4 c4)∧W.cell? ⟨w.heap.size+1,7,none⟩=some (.string p.key)∧W.cell? ⟨w.heap.size+1,8,none⟩=some (.int .i64 p.most)∧W.cell? ⟨w.heap.size+1,9,none⟩=some (.string p.node)∧W.cell? ⟨w.heap.size+1,10,none⟩=some (.bool p.hold)) (by kernel_rfl) (HF.out _ J.out) (fun hHeld=>?_);obtain⟨wd,hwd⟩:=eX (wr.drew)
    have JR:=lH (Kept.drew wr);rw[hwd] at J JR hHeld;try rw[hwd]
    clear hwd;refine tR 0 rfl (by kernel_rfl) (fun _ _ _=>id) (Or.inl ⟨by rfl,by rintro W ⟨o0,o1,o2,o3,o4,o5,o6,o7,o8,o9,o10,o11,o12,o13⟩;go_simp<;>with_reducible rfl⟩) ‹_› ?_;refine tR 1 rfl (by kernel_rfl) (fun _ _ _=>id) (Or.inl ⟨by rfl,by rintro W ⟨o0,o1,o2,o3,o4,o5,o6,o7,o8,o9,o10,o11,o12,o13⟩;go_simp<;>with_reducible rfl⟩) ‹_› ?_;refine tR 2 rfl (by kernel_rfl) (fun _ _ _=>id) (Or.inl ⟨by rfl,by rintro W ⟨o0,o1,o2,o3,o4,o5,o6,o7,o8,o9,o10,o11,o12,o13⟩;go_simp<;>with_reducible rfl⟩) ‹_› ?_;refine tR 3 rfl (by kernel_rfl) (fun _ _ _=>id) (Or.inl ⟨by rfl,by rintro W ⟨o0,o1,o2,o3,o4,o5,o6,o7,o8,o9,o10,o11,o12,o13⟩;go_simp<;>with_reducible rfl⟩) ‹_› ?_;refine tR 4 rfl (by kernel_rfl) (fun _ _ _=>id) (Or.inl ⟨by rfl,by rintro W ⟨o0,o1,o2,o3,o4,o5,o6,o7,o8,o9,o10,o11,o12,o13⟩;go_simp<;>with_reducible rfl⟩) ‹_› ?_;try simp only[nA,nB,nC,nD,nE]
    refine tR 5 rfl (by kernel_rfl) (fun _ _ _=>id) (Or.inl ⟨by rfl,by rintro W ⟨o0,o1,o2,o3,o4,o5,o6,o7,o8,o9,o10,o11,o12,o13⟩;go_simp<;>with_reducible rfl⟩) ‹_› ?_;refine tR 9 rfl (by kernel_rfl) (fun _ _ _=>id) (Or.inl ⟨by rfl,by rintro W ⟨o0,o1,o2,o3,o4,o5,o6,o7,o8,o9,o10,o11,o12,o13⟩;go_simp<;>with_reducible rfl⟩) ‹_› ?_;refine tR 10 rfl (by kernel_rfl) (fun _ _ _=>id) (Or.inl ⟨by rfl,by rintro W ⟨o0,o1,o2,o3,o4,o5,o6,o7,o8,o9,o10,o11,o12,o13⟩;go_simp<;>with_reducible rfl⟩) ‹_› ?_;refine tR 11 rfl (by kernel_rfl) (fun _ _ _=>id) (Or.inl ⟨by rfl,by rintro W ⟨o0,o1,o2,o3,o4,o5,o6,o7,o8,o9,o10,o11,o12,o13⟩;go_simp<;>with_reducible rfl⟩) ‹_› ?_;try simp only[nA,nB,nC,nD,nE]
    refine rd1 6 fun K9 Ky=>?_;go_simp;refine(XU s1 s2 s3 n1 e1 n2 e2 n3 e3 s xn _ (HS.out.kept J.out) HL.out).mono ?_;rintro e w2 ⟨b1,k1,d1,b2,k2,d2,b3,k3,d3,rfl,hn,kk⟩;obtain⟨RV,J,JR⟩:=lH3 hn.taints (J.out.trans kk) (JR.out.trans kk);clear kk hn;unfold zC;refine Ky.out _ _ (HF.out _ J.out) (fun _=>?_);clear Ky K9;try simp only[nA,nB,nC,nD,nE]
    have hfd:=fun W=>jlc (JC s xn).name (.slice b1 k1 d1) (.slice b2 k2 d2) (.slice b3 k3 d3) (JC s xn).cordon W;refine tR 7 rfl (by kernel_rfl) (fun _ _ _=>id) (Or.inl ⟨by rfl,by rintro W ⟨o0,o1,o2,o3,o4,o5,o6,o7,o8,o9,o10,o11,o12,o13⟩;go_simp<;>with_reducible rfl⟩) ‹_› ?_;try simp only[nA,nB,nC,nD,nE]
    clear hfd;obtain⟨sf,hsf⟩:=eX (softN p.tols (JC s xn).taints)
    have NF:=lH (show (sf:Int)=jaD s p xn by unfold jaD;rw[hsf]);refine rd1 8 fun K9 Ky=>?_;go_simp;refine(jmT (HP.out.kept J.out).tols RV.out hsf).mono ?_;rintro e w3 ⟨rfl,kk⟩;have J:=lH (J.out.trans kk);have JR:=lH (JR.out.trans kk);clear kk hsf RV;refine Ky.out _ _ (HF.out _ J.out) (fun _=>?_);clear Ky K9;try simp only[nA,nB,nC,nD,nE]
    refine rd1 12 fun K9 Ky=>?_;go_simp;have TP:=jjg s1 s2 s3 n1 e1 n2 e2 n3 e3 a1 a2 a3 a4 m1 c1 m2 c2 m3 c3 m4 c4 p s xn w3 (HS.out.kept J.out) HL.out Ta.out (HP.out.kept J.out) Ud.out UH.out;unfold jw at TP;refine TP.mono ?_;rintro e w4 ⟨r,rfl,hr,hrt,kk⟩;obtain⟨HR,Rh,J,JR⟩:=lH4 hr hrt (J.out.trans kk) (JR.out.trans kk);clear kk TP hr hrt;refine Ky.out _ _ (HF.out _ J.out) (fun _=>?_);clear Ky K9;try simp only[nA,nB,nC,nD,nE]
    refine tR 13 rfl (by kernel_rfl) (fun _ _ _=>id) (Or.inl ⟨by rfl,by rintro W ⟨o0,o1,o2,o3,o4,o5,o6,o7,o8,o9,o10,o11,o12,o13⟩;go_simp<;>with_reducible rfl⟩) ‹_› ?_;try simp only[nA,nB,nC,nD,nE]
    refine rd1 14 fun K9 Ky=>?_;go_simp;refine Ky.out _ _ (HF.out _ (J.out.trans (ja _ _))) (fun _=>?_);clear Ky K9;try simp only[nA,nB,nC,nD,nE]
    obtain⟨w5,hw5⟩:=eX (w4.alloc (.cells #[.string xn,.int .i64 sf,.float .f64 r] 172))
    have k5:Kept w4 w5:=by rw[←hw5];exact ja _ _
    obtain⟨Uw,J,JR⟩:=lH3 (show w5.heap[w4.heap.size]?=some (.cells #[.string xn,.int .i64 sf,.float .f64 r] 172) by rw[←hw5];exact World.alloc_heap_new w4 _) (J.out.trans k5) (JR.out.trans k5);try rw[hw5]
    clear hw5 k5;have Vx:=lH (show w5.ownsRow w1.heap.size 172 3 u5 m (jd MkLay la) by have:=(HO.out.kept JR.out).1;rw[HT.out] at this;exact this);refine rd1 15 fun K9 Ky=>?_;refine step_append_lies _ (by rfl) _ _ _ (by rfl) w1.heap.size 172 i0 _ 3 32 Tryz.underlying102 hi hz0 hz1 hz2' rfl (by decide) u5 m (jd MkLay la) (by rfl) Vx.out ⟨w4.heap.size,0,none⟩ 1 1 (mkC (xn,(sf:Int),r)) (by rfl) (by rfl) (World.news_of_block (cs:=#[.string xn,.int .i64 sf,.float .f64 r]) (t:=172) (fr:=(0,0)) Uw.out) (jbS (xn,(sf:Int),r)) (by decide) (by unfold maxLen;omega) (by omega) (by have:=JR.out.size;omega) _ rfl ?_;intro gg cap1 w6 hown1 hgrow hat hlt1;have VL:=lH ((show Below w1.heap.size w1 _ from HK.out.trans JR.out).grown hgrow (by have:=JR.out.size;omega) (fun j hj=>(Vx.out.lt j hj).1));have VH:=lH hown1;have J6:=lH (show Kept Z w6 from J1.out.trans VL.out);clear hgrow hat hlt1 hown1;refine Ky.out _ _ (HF.out _ J6.out) (fun _=>?_);clear Ky K9;try simp only[nA,nB,nC,nD,nE]
    refine tR 16 rfl (by kernel_rfl) (fun _ _ _=>id) (Or.inl ⟨by rfl,by rintro W ⟨o0,o1,o2,o3,o4,o5,o6,o7,o8,o9,o10,o11,o12,o13⟩;go_simp<;>with_reducible rfl⟩) ‹_› ?_;try simp only[nA,nB,nC,nD,nE]
    refine wpAnyH_done (by kernel_rfl) ?_ _;go_wp2;go_roundw
    case rel=>exact⟨k+1,by omega,by go_num,la++[(xn,(sf:Int),r)],by rw[UA.out];exact HX.out.snoc NF.out HR.out,Own.snoc VH.out (by rw[HT.out]) HO.out.2 ⟨UH.out,Rh.out⟩,VL.out⟩
    case measure=>simp[intOf];omega
  · have hge:¬(k:Int)<(n9:Int):=by omega
    have HE:=lH (show ZQ s p names la by have:=hla;rw[List.take_of_length_le (by rw[TT.out];omega)] at this;exact this);clear hla ho hm hK;go_wp2;go_ret;exact⟨_,rfl,la,HO.out.reads,by rw[Rj.out];exact HE.out,K.out.trans (J1.out.trans HK.out)⟩
end Go.Proofs.YtokdjfoalkmhiaaGreat
namespace Go.Proofs.YtokdjfoalkmhiaaGreat
open Go.RowKit
attribute [local go_sem] Zg
theorem jgS (pack:Bool) (x y:Nat) (w:World):Calls Tryz.prog 171 #[.float .f64 x,.float .f64 y,.bool pack] w fun e w'=>e=.returned (.int .i64 (cpM pack x y))∧Grw w w':=by
 cases pack with
 | true =>
  have HC:=lH (jaW y x w);have HV:=lH (show cpM true x y=cp y x from rfl);go_enter Tryz.func171,Tryz.ntmps171;go_wp2_with fail
  refine HC.out.mono ?_;rintro e w1 ⟨rfl,c,t,rfl⟩;go_wp2;go_ret;exact⟨jc HV.out.symm,Grw.alloc _ _⟩
 | false =>
  have HC:=lH (jaW x y w);have HV:=lH (show cpM false x y=cp x y from rfl);go_enter Tryz.func171,Tryz.ntmps171;go_wp2_with fail
  refine HC.out.mono ?_;rintro e w1 ⟨rfl,c,t,rfl⟩;go_wp2;go_ret;exact⟨jc HV.out.symm,Grw.alloc _ _⟩
theorem jg3 (W:World) (x y z:Int) (T:TypeId) (i:Nat) (u:Int) (hi:([x,y,z]:List Int)[i]?=some u):(W.alloc (.cells #[.int .i64 x,.int .i64 y,.int .i64 z] T)).cell? ⟨W.heap.size,i,none⟩=some (.int .i64 u):=by
 refine(jb W (.int .i64 x) [.int .i64 y,.int .i64 z] T _ (Kept.refl _)).at_ i _ ?_
 match i,hi with
 | 0,h=>simpa using h
 | 1,h=>simpa using h
 | 2,h=>simpa using h
 | j+3,h=>simp at h
theorem je3 (pack:Bool) (a1 b1:ByteArray) (a2 b2:Int) (a3 b3:Nat) (w:World):Calls Tryz.prog 111 #[.agg #[.string a1,.int .i64 a2,.float .f64 a3],.agg #[.string b1,.int .i64 b2,.float .f64 b3],.bool pack] w fun e w'=>e=.returned (.int .i64 (cfM pack (a1,a2,a3) (b1,b2,b3)))∧Grw w w':=by
 obtain⟨Z,hZ⟩:=eX ((w.alloc (.cells #[.string a1,.int .i64 a2,.float .f64 a3] 172)).alloc (.cells #[.string b1,.int .i64 b2,.float .f64 b3] 172))
 have hkz:Kept w Z:=by rw[←hZ];exact jm _ _ _
 have HG:=lH (show Grw w Z by rw[←hZ];exact(Grw.alloc _ _).trans (Grw.alloc _ _));have Vi:=lH (jb w (.string a1) [.int .i64 a2,.float .f64 a3] 172 Z (by rw[←hZ];exact ja _ _));have Vg:=lH (show je (w.heap.size+1) [.string b1,.int .i64 b2,.float .f64 b3] Z by
  have dd:=jb (w.alloc (.cells #[.string a1,.int .i64 a2,.float .f64 a3] 172)) (.string b1) [.int .i64 b2,.float .f64 b3] 172 Z (by rw[hZ];exact Kept.refl _);rw[World.size_alloc] at dd;exact dd)
 have HF:=lH (show ∀W,Kept Z W→W.cell? ⟨w.heap.size,0,none⟩=some (.string a1)∧W.cell? ⟨w.heap.size,1,none⟩=some (.int .i64 a2)∧W.cell? ⟨w.heap.size,2,none⟩=some (.float .f64 a3)∧W.cell? ⟨w.heap.size+1,0,none⟩=some (.string b1)∧W.cell? ⟨w.heap.size+1,1,none⟩=some (.int .i64 b2)∧W.cell? ⟨w.heap.size+1,2,none⟩=some (.float .f64 b3) from fun W kk=>by
  have h:=Vi.out.kept kk;have q:=Vg.out.kept kk;exact⟨h.at_ 0 _ rfl,h.at_ 1 _ rfl,h.at_ 2 _ rfl,q.at_ 0 _ rfl,q.at_ 1 _ rfl,q.at_ 2 _ rfl⟩)
 obtain⟨x,hx⟩:=eX (JW a2 b2)
 obtain⟨y,hy⟩:=eX (cpM pack a3 b3)
 obtain⟨z,hz⟩:=eX (ZW a1 b1)
 have HV:=lH (show cfM pack (a1,a2,a3) (b1,b2,b3)=orL [x,y,z] by
  show (if JW a2 b2≠0 then JW a2 b2 else if cpM pack a3 b3≠0 then cpM pack a3 b3 else ZW a1 b1)=_;rw[hx,hy,hz];show _=if x≠0 then x else if y≠0 then y else if z≠0 then z else 0
  by_cases q:z=0
  · subst q;simp
  · rw[if_pos q])
 obtain⟨EI,EC,ES⟩:=lH3 (fun W=>jfc a2 b2 W) (fun W=>jgS pack a3 b3 W) (fun W=>jeM a1 b1 W);rw[hx] at EI;rw[hy] at EC;rw[hz] at ES;clear hx hy hz hkz;go_enter Tryz.func111,Tryz.ntmps111;go_upto_region 1 with fail
 try rw[hZ]
 clear hZ;have J:=lH (Grw.drewN Z 1);refine wp_region_held_drew (S:=fun W=>W.cell? ⟨w.heap.size,0,none⟩=some (.string a1)∧W.cell? ⟨w.heap.size,1,none⟩=some (.int .i64 a2)∧W.cell? ⟨w.heap.size,2,none⟩=some (.float .f64 a3)∧W.cell? ⟨w.heap.size+1,0,none⟩=some (.string b1)∧W.cell? ⟨w.heap.size+1,1,none⟩=some (.int .i64 b2)∧W.cell? ⟨w.heap.size+1,2,none⟩=some (.float .f64 b3)) (by kernel_rfl) (HF.out _ J.out.kept) (fun hHeld=>?_);obtain⟨wd,hwd⟩:=eX (Z.drew)
 rw[show Z.drewN 1=wd from hwd] at J;rw[hwd] at hHeld;try rw[hwd]
 clear hwd;refine tR 0 rfl (by kernel_rfl) (fun _ _ _=>id) (Or.inl ⟨by rfl,by rintro W ⟨o0,o1,o2,o3,o4,o5⟩;go_simp<;>with_reducible rfl⟩) ‹_› ?_;refine tR 1 rfl (by kernel_rfl) (fun _ _ _=>id) (Or.inl ⟨by rfl,by rintro W ⟨o0,o1,o2,o3,o4,o5⟩;go_simp<;>with_reducible rfl⟩) ‹_› ?_;refine tR 2 rfl (by kernel_rfl) (fun _ _ _=>id) (Or.inl ⟨by rfl,by rintro W ⟨o0,o1,o2,o3,o4,o5⟩;go_simp<;>with_reducible rfl⟩) ‹_› ?_;refine tR 3 rfl (by kernel_rfl) (fun _ _ _=>id) (Or.inl ⟨by rfl,by rintro W ⟨o0,o1,o2,o3,o4,o5⟩;go_simp<;>with_reducible rfl⟩) ‹_› ?_;refine tR 5 rfl (by kernel_rfl) (fun _ _ _=>id) (Or.inl ⟨by rfl,by rintro W ⟨o0,o1,o2,o3,o4,o5⟩;go_simp<;>with_reducible rfl⟩) ‹_› ?_;try simp only[nA,nB,nC,nD,nE]
 refine tR 6 rfl (by kernel_rfl) (fun _ _ _=>id) (Or.inl ⟨by rfl,by rintro W ⟨o0,o1,o2,o3,o4,o5⟩;go_simp<;>with_reducible rfl⟩) ‹_› ?_;refine tR 7 rfl (by kernel_rfl) (fun _ _ _=>id) (Or.inl ⟨by rfl,by rintro W ⟨o0,o1,o2,o3,o4,o5⟩;go_simp<;>with_reducible rfl⟩) ‹_› ?_;refine tR 8 rfl (by kernel_rfl) (fun _ _ _=>id) (Or.inl ⟨by rfl,by rintro W ⟨o0,o1,o2,o3,o4,o5⟩;go_simp<;>with_reducible rfl⟩) ‹_› ?_;refine tR 9 rfl (by kernel_rfl) (fun _ _ _=>id) (Or.inl ⟨by rfl,by rintro W ⟨o0,o1,o2,o3,o4,o5⟩;go_simp<;>with_reducible rfl⟩) ‹_› ?_;refine tR 11 rfl (by kernel_rfl) (fun _ _ _=>id) (Or.inl ⟨by rfl,by rintro W ⟨o0,o1,o2,o3,o4,o5⟩;go_simp<;>with_reducible rfl⟩) ‹_› ?_;try simp only[nA,nB,nC,nD,nE]
 refine tR 12 rfl (by kernel_rfl) (fun _ _ _=>id) (Or.inl ⟨by rfl,by rintro W ⟨o0,o1,o2,o3,o4,o5⟩;go_simp<;>with_reducible rfl⟩) ‹_› ?_;refine tR 13 rfl (by kernel_rfl) (fun _ _ _=>id) (Or.inl ⟨by rfl,by rintro W ⟨o0,o1,o2,o3,o4,o5⟩;go_simp<;>with_reducible rfl⟩) ‹_› ?_;refine tR 14 rfl (by kernel_rfl) (fun _ _ _=>id) (Or.inl ⟨by rfl,by rintro W ⟨o0,o1,o2,o3,o4,o5⟩;go_simp<;>with_reducible rfl⟩) ‹_› ?_;try simp only[nA,nB,nC,nD,nE]
 refine rd1 4 fun K9 Ky=>?_;go_simp;refine(EI.out _).mono ?_;rintro e w1 ⟨rfl,rfl⟩;refine Ky.out _ _ (HF.out _ J.out.kept) (fun _=>?_);clear Ky K9;try simp only[nA,nB,nC,nD,nE]
 refine rd1 10 fun K9 Ky=>?_;go_simp;refine(EC.out _).mono ?_;rintro e w2 ⟨rfl,kk⟩;have J:=lH (J.out.trans kk);clear kk;refine Ky.out _ _ (HF.out _ J.out.kept) (fun _=>?_);clear Ky K9;try simp only[nA,nB,nC,nD,nE]
 refine rd1 15 fun K9 Ky=>?_;go_simp;refine(ES.out _).mono ?_;rintro e w3 ⟨rfl,rfl⟩;refine Ky.out _ _ (HF.out _ J.out.kept) (fun _=>?_);clear Ky K9;try simp only[nA,nB,nC,nD,nE]
 refine rd1 16 fun K9 Ky=>?_;go_simp;refine Ky.out _ _ (HF.out _ (J.out.trans (Grw.alloc _ _)).kept) (fun _=>?_);clear Ky K9;try simp only[nA,nB,nC,nD,nE]
 have UJ:=lH (show Calls Tryz.prog 53 #[.slice (some ⟨w2.heap.size,0,none⟩) 3 3] (w2.alloc (.cells #[.int .i64 x,.int .i64 y,.int .i64 z] 3)) _ from jgF w2.heap.size 3 [x,y,z] _ rfl (by decide) (jg3 w2 x y z 3));obtain⟨w4,hw4⟩:=eX (w2.alloc (.cells #[.int .i64 x,.int .i64 y,.int .i64 z] 3))
 have J:=lH (show Grw Z w4 by rw[←hw4];exact J.out.trans (Grw.alloc _ _));rw[hw4] at UJ;try rw[hw4]
 clear hw4;refine rd1 17 fun K9 Ky=>?_;go_simp;refine UJ.out.mono ?_;rintro e w5 ⟨rfl,rfl⟩;refine Ky.out _ _ (HF.out _ J.out.kept) (fun _=>?_);clear Ky K9;try simp only[nA,nB,nC,nD,nE]
 refine tR 18 rfl (by kernel_rfl) (fun _ _ _=>id) (Or.inl ⟨by rfl,by rintro W ⟨o0,o1,o2,o3,o4,o5⟩;go_simp<;>with_reducible rfl⟩) ‹_› ?_;try simp only[nA,nB,nC,nD,nE]
 refine wpAnyH_done (by kernel_rfl) ?_ _;go_wp2;go_ret;exact⟨jc HV.out.symm,HG.out.trans J.out⟩
theorem jd7 (q:Nat) (pack:Bool) (a1 b1:ByteArray) (a2 b2:Int) (a3 b3:Nat) (w:World) (hq:w.cell? ⟨q,0,none⟩=some (.bool pack)):Calls Tryz.prog 110 #[.agg #[.string a1,.int .i64 a2,.float .f64 a3],.agg #[.string b1,.int .i64 b2,.float .f64 b3],.pointer (some ⟨q,0,none⟩)] w fun e w'=>e=.returned (.int .i64 (cfM pack (a1,a2,a3) (b1,b2,b3)))∧Grw w w':=by
 obtain⟨Z,hZ⟩:=eX ((w.alloc (.cells #[.string a1,.int .i64 a2,.float .f64 a3] 172)).alloc (.cells #[.string b1,.int .i64 b2,.float .f64 b3] 172))
 have hkz:Kept w Z:=by rw[←hZ];exact jm _ _ _
 have HG:=lH (show Grw w Z by rw[←hZ];exact(Grw.alloc _ _).trans (Grw.alloc _ _));have hb1:=jb w (.string a1) [.int .i64 a2,.float .f64 a3] 172 Z (by rw[←hZ];exact ja _ _);have hb2:je (w.heap.size+1) [.string b1,.int .i64 b2,.float .f64 b3] Z:=by
  have dd:=jb (w.alloc (.cells #[.string a1,.int .i64 a2,.float .f64 a3] 172)) (.string b1) [.int .i64 b2,.float .f64 b3] 172 Z (by rw[hZ];exact Kept.refl _);rw[World.size_alloc] at dd;exact dd
 have hq2:=cell_later hkz hq;have HC:=lH (je3 pack a1 b1 a2 b2 a3 b3 Z);have y0:=hb1.at_ 0 _ rfl;have y1:=hb1.at_ 1 _ rfl;have y2:=hb1.at_ 2 _ rfl;have z0:=hb2.at_ 0 _ rfl;have z1:=hb2.at_ 1 _ rfl;have z2:=hb2.at_ 2 _ rfl;clear hb1 hb2 hq hkz;go_enter Tryz.func110,Tryz.ntmps110;go_wp2_with fail
 try rw[hZ]
 clear hZ;refine HC.out.mono ?_;rintro e w1 ⟨rfl,kk⟩;have J:=lH (HG.out.trans kk);clear kk HC y0 y1 y2 z0 z1 z2 hq2;go_wp2;go_ret;exact⟨rfl,J.out⟩
end Go.Proofs.YtokdjfoalkmhiaaGreat
namespace Go.Proofs.YtokdjfoalkmhiaaGreat
open Go.Shelf
def jhv:Go.Shelf.Ren:=⟨fun | 6=>169 | 15=>219 | 14=>218 | 28=>254 | 29=>255 | 20=>246 | 21=>247 | 22=>248 | 23=>249 | 24=>250 | 25=>251 | 26=>252 | 27=>253 | 46=>270 | 47=>271 | 48=>272 | 49=>273 | 50=>274 | 57=>280 | n=>n,fun | 22=>102 | 24=>172 | 25=>177 | 3=>3 | 39=>258 | 0=>0 | 53=>315 | 55=>233 | 4=>4 | 46=>309 | 45=>308 | 50=>262 | 5=>5 | 9=>9 | 66=>331 | 70=>335 | 76=>340 | 77=>341 | n=>n,fun | n=>n⟩
theorem jik:Go.Proofs.SlLaysF0.n6 Tryz.prog jhv:={
 mixed:=by kernel_rfl
 f6:=⟨Tryz.f169.name,by decide,Tryz.func169.trans (congrArg some (by kernel_rfl))⟩
 f14:=⟨Tryz.f218.name,by decide,Tryz.func218.trans (congrArg some (by kernel_rfl))⟩
 f15:=Tryz.func219.trans (congrArg some (by kernel_rfl))
 f20:=⟨Tryz.f246.name,by decide,Tryz.func246.trans (congrArg some (by kernel_rfl))⟩
 f21:=⟨Tryz.f247.name,by decide,Tryz.func247.trans (congrArg some (by kernel_rfl))⟩
 f22:=⟨Tryz.f248.name,by decide,Tryz.func248.trans (congrArg some (by kernel_rfl))⟩
 f23:=⟨Tryz.f249.name,by decide,Tryz.func249.trans (congrArg some (by kernel_rfl))⟩
 f24:=⟨Tryz.f250.name,by decide,Tryz.func250.trans (congrArg some (by kernel_rfl))⟩
 f25:=⟨Tryz.f251.name,by decide,Tryz.func251.trans (congrArg some (by kernel_rfl))⟩
 f26:=⟨Tryz.f252.name,by decide,Tryz.func252.trans (congrArg some (by kernel_rfl))⟩
 f27:=⟨Tryz.f253.name,by decide,Tryz.func253.trans (congrArg some (by kernel_rfl))⟩
 f28:=Tryz.func254.trans (congrArg some (by kernel_rfl))
 f29:=Tryz.func255.trans (congrArg some (by kernel_rfl))
 f46:=⟨Tryz.f270.name,by decide,Tryz.func270.trans (congrArg some (by kernel_rfl))⟩
 f47:=Tryz.func271.trans (congrArg some (by kernel_rfl))
 f48:=Tryz.func272.trans (congrArg some (by kernel_rfl))
 f49:=⟨Tryz.f273.name,by decide,Tryz.func273.trans (congrArg some (by kernel_rfl))⟩
 f50:=⟨Tryz.f274.name,by decide,Tryz.func274.trans (congrArg some (by kernel_rfl))⟩
 f57:=⟨Tryz.f280.name,by decide,Tryz.func280.trans (congrArg some (by kernel_rfl))⟩
 t0:=Tryz.underlying0
 a0:=Tryz.isAgg0
 z0:=Tryz.sizeOf0
 v0:=Tryz.zeroValue0
 t3:=Tryz.underlying3
 a3:=Tryz.isAgg3
 z3:=Tryz.sizeOf3
 v3:=Tryz.zeroValue3
 t4:=Tryz.underlying4
 a4:=Tryz.isAgg4
 z4:=Tryz.sizeOf4
 v4:=Tryz.zeroValue4
 t5:=Tryz.underlying5
 a5:=Tryz.isAgg5
 z5:=Tryz.sizeOf5
 v5:=Tryz.zeroValue5
 t9:=Tryz.underlying9
 a9:=Tryz.isAgg9
 z9:=Tryz.sizeOf9
 v9:=Tryz.zeroValue9
 t22:=Tryz.underlying102
 a22:=Tryz.isAgg102
 z22:=Tryz.sizeOf102
 v22:=Tryz.zeroValue102
 t25:=Tryz.underlying177
 a25:=Tryz.isAgg177
 z25:=Tryz.sizeOf177
 v25:=Tryz.zeroValue177
 t39:=Tryz.underlying258
 a39:=Tryz.isAgg258
 z39:=Tryz.sizeOf258
 v39:=Tryz.zeroValue258
 t45:=Tryz.underlying308
 a45:=Tryz.isAgg308
 z45:=Tryz.sizeOf308
 v45:=Tryz.zeroValue308
 t46:=Tryz.underlying309
 a46:=Tryz.isAgg309
 z46:=Tryz.sizeOf309
 v46:=Tryz.zeroValue309
 t50:=Tryz.underlying262
 a50:=Tryz.isAgg262
 z50:=Tryz.sizeOf262
 v50:=Tryz.zeroValue262
 t53:=Tryz.underlying315
 a53:=Tryz.isAgg315
 z53:=Tryz.sizeOf315
 v53:=Tryz.zeroValue315
 t55:=Tryz.underlying233
 a55:=Tryz.isAgg233
 z55:=Tryz.sizeOf233
 v55:=Tryz.zeroValue233
 t66:=Tryz.underlying331
 a66:=Tryz.isAgg331
 z66:=Tryz.sizeOf331
 v66:=Tryz.zeroValue331
 t70:=Tryz.underlying335
 a70:=Tryz.isAgg335
 z70:=Tryz.sizeOf335
 v70:=Tryz.zeroValue335
 t76:=Tryz.underlying340
 a76:=Tryz.isAgg340
 z76:=Tryz.sizeOf340
 v76:=Tryz.zeroValue340
 t77:=Tryz.underlying341
 a77:=Tryz.isAgg341
 z77:=Tryz.sizeOf341
 v77:=Tryz.zeroValue341 }
open Go.RowKit Go.Shelf Go.Lib Go.Sort
theorem qb (pack:Bool) (x y:Mk):ltOf (cfM pack) x y=YF pack x y:=by
 unfold ltOf
 cases h:YF pack x y with
 | true=>exact decide_eq_true ((jgL pack x y).2 h)
 | false=>exact decide_eq_false (fun e=>by rw[(jgL pack x y).1 e] at h;cases h)
theorem jk5 (pack:Bool):SWO (ltOf (cfM pack)) where
 irrefl x:=by rw[qb];exact qP _ _ _ _
 trans x y z h1 h2:=by rw[qb] at *;exact Xo h1 h2
 ntrans x y z h1 h2:=by rw[qb] at *;exact qS h1 h2
theorem jdL:∀args w,(callFunc 110 args).run Tryz.prog w=.ok (.enter 110 args) w:=enters_of Tryz.func110 (by kernel_rfl) rfl
theorem jiL (q:Nat) (pack:Bool) (blk size:Nat) (w:World) (hq:w.cell? ⟨q,0,none⟩=some (.bool pack)) (hne:q≠blk) (hlt:q<w.heap.size):CmpLays Tryz.prog 110 #[.pointer (some ⟨q,0,none⟩)] mkC 3 (cfM pack) blk 0 size w:=fun m os dk hs x y=>by
 refine jd7 q pack x.1 y.1 x.2.1 y.2.1 x.2.2 y.2.2 _ ?_;show (grow (putRowK mkC 3 (Sort.ahead w m) blk 0 dk) os).cell? ⟨q,0,none⟩=_;rw[cell?_grow _ _ _ (by rw[size_putRowK];exact hlt),cell?_putRowK_other mkC 3 _ blk 0 dk ⟨q,0,none⟩ hne];exact hq
theorem jjv {B:Nat} {w0 w:World} {blk n:Nat} {d:Array Mk} {os:Array Obj} (h:Go.RowKit.Below B w0 w) (hg:B≤blk) (hB:B≤w.heap.size):Go.RowKit.Below B w0 (sortWorldK mkC 3 w blk 0 n d os):=by
 unfold sortWorldK;refine(below_putRow (enc:=id) (q:=n) (d:=flatK mkC 3 d) h hg).trans ?_;exact below_grow B (putRowK mkC 3 (Sort.ahead w n) blk 0 d) (by rw[size_putRowK];exact hB) 0 os
theorem jgQ {W:World} {base:Nat} {v:Value} {zs:List Mk} (h:jkp base W v zs) (hv:v≠.slice none 0 0):∃g cap,v=.slice (some ⟨g,0,none⟩) zs.length cap∧base≤g∧g<W.heap.size∧zs.length≤cap∧cap≤maxLen∧HoldsK mkC 3 W g 0 zs.toArray:=by
 rcases h.1.2 with ⟨e0,_⟩ | ⟨g,cap,cur,rfl,hb,hg,hn,hm,hs,ht⟩
 · exact absurd e0 hv
 · have hlt:g<W.heap.size:=by
    rcases Nat.lt_or_ge g W.heap.size with h' | h'
    · exact h'
    · rw[Array.getElem?_eq_none h'] at hg;cases hg
   refine⟨g,cap,rfl,hb,hlt,hn,hm,fun t htl=>?_⟩;have htl2:t<zs.length*3:=by simpa using htl
   have h3:t / 3<zs.length:=by omega
   have h4:t % 3<3:=Nat.mod_lt _ (by decide);refine⟨?_,by simp[World.frozen?,hg]⟩;rw[get_flatK _ _ _ _ (by simpa using htl2)];have e2:=ZK MkLay zs (t / 3) zs[t / 3] (t % 3) ((mkC zs[t / 3])[t % 3]'h4) (List.getElem?_eq_getElem h3) (List.getElem?_eq_getElem h4);have e1:(cur.toList.take (zs.length*3))[t]?=(jd MkLay zs)[t]?:=by rw[ht];rfl
   rw[show t / 3*MkLay.m+t % 3=t from by show t / 3*3+t % 3=t;omega] at e2;rw[e2,List.getElem?_take,if_pos htl2,Array.getElem?_toList] at e1;simp only[World.cell?,hg,Nat.zero_add];simp only[Option.isSome_none,Bool.false_eq_true,if_false];rw[e1,getElem!_pos zs.toArray (t / 3) (by simpa using h3),getElem!_pos (mkC _) (t % 3) h4];simp;rfl
theorem jht {W:World} {g:Nat} {l:List Mk} (h:HoldsK mkC 3 W g 0 l.toArray) (hg:g<W.heap.size) (hm:l.length≤maxLen) (hf:∀x ∈ l,MkLay.fine x):jn MkLay W (some ⟨g,0,none⟩) l.length l:=by
 refine⟨rfl,hm,hf,.inr ⟨g,0,rfl,hg,fun i x j u hi hj=>?_⟩⟩;obtain⟨hil,ex⟩:=List.getElem?_eq_some_iff.1 hi;have hj':(mkC x)[j]?=some u:=hj;obtain⟨hjl,eu⟩:=List.getElem?_eq_some_iff.1 hj';have hj3:j<3:=hjl;have:=(h.cell (i:=i) (c:=j) (by simpa using hil) hj3).1;rw[getElem!_pos l.toArray i (by simpa using hil)] at this;simp only[List.getElem_toArray] at this;rw[ex,getElem!_pos (mkC x) j hjl,eu] at this;exact this
def jm2 (pack:Bool) (xs:List Mk) (w:World) (e:Ending) (w':World):Prop:=∃v l,e=.returned v∧l.Perm xs∧(l.Pairwise fun a b=>YF pack b a=false)∧Reads MkLay w' v l∧Kept w w'
theorem jcx (q:Nat) (pack:Bool) (Bs:Nat) (sv:Value) (xs:List Mk) (hlen:xs.length≤1000000) (hx:∀x ∈ xs,MkLay.fine x) (w:World) (hq:w.cell? ⟨q,0,none⟩=some (.bool pack)) (hBs:Bs<w.heap.size) (hcs:w.cell? ⟨Bs,0,none⟩=some sv) (hL:Mks w.heap.size w sv xs) :
 Calls Tryz.prog 108 #[.func (.func 170) #[] #[.pointer (some ⟨Bs,0,none⟩)],.func (.func 110) #[] #[.pointer (some ⟨q,0,none⟩)]] w (jm2 pack xs w):=by
 have HC:=lH (jdI Bs sv xs hlen w hBs hcs hL);have hql:q<w.heap.size:=World.block_lt_of_cell? _ _ hq;obtain⟨HQ,RW,HX,UW⟩:=lH4 hq hql hx hlen;clear hBs hcs hL hq hql hx hlen;go_enter Tryz.func108,Tryz.ntmps108;go_wp2_with fail
 refine HC.out.mono ?_;rintro e w1 ⟨v,rfl,ho,hb⟩;by_cases hv:v=.slice none 0 0
 · have hxs:=ho.2.1 hv;have HS:=lH (AnyF.slices_SortFunc_none jik none 0 (.func (.func 110) #[] #[.pointer (some ⟨q,0,none⟩)]) w1);change Hid (Calls Tryz.prog 169 _ _ _) at HS;subst hv hxs;have HB:=lH hb;clear hb ho;go_wp2_with fail
   refine HS.out.mono ?_;rintro e w2 ⟨rfl,rfl⟩;go_wp2_with fail
   go_ret;exact⟨_,[],rfl,List.Perm.refl _,List.Pairwise.nil,Reads.nil _,HB.out⟩
 · obtain⟨g,cap,rfl,hg1,hg2,hc1,hc2,hH⟩:=jgQ ho hv;have hne:q≠g:=by have:=RW.out;omega
   have hst:=AnyQ.slices_SortFunc jik 3 Tryz.isAgg172 Tryz.sizeOf172 mkC (fun _=>rfl) jbS (cfM pack) (jk5 pack) 110 #[.pointer (some ⟨q,0,none⟩)] g 0 cap xs.toArray w1 jdL (jiL q pack g _ w1 (cell_later hb HQ.out) hne (Nat.lt_of_lt_of_le RW.out hb.size)) hH hg2 (by have:=UW.out;simp;omega);change Calls Tryz.prog 169 _ _ _ at hst;obtain⟨HB,HS,HG,Tz,HH,HP⟩:=lH6 hb hst hg1 hg2 hH (And.intro hc1 hc2);clear hb ho hst hg1 hg2 hH hc1 hc2 hv hne;simp only[List.size_toArray] at HS;go_wp2_with fail
   refine HS.out.mono ?_;rintro e w2 ⟨rfl,d',n,os,hp,hs,hw⟩;obtain⟨P1,P2,P3⟩:=lH3 hp hs hw;clear hp hs hw;go_wp2_with fail
   go_ret;have hsz:d'.size=xs.length:=by simpa using P1.out.1
   have hperm:d'.toList.Perm xs:=by
    have:=P1.out.2.2;simp only[Array.toList_extract,List.extract_eq_take_drop,List.drop_zero,Nat.sub_zero] at this;rw[List.take_of_length_le (by simp;omega),List.take_of_length_le (by simp)] at this;exact this
   have hlen:d'.toList.length=xs.length:=by simpa using hsz
   refine⟨_,d'.toList,rfl,hperm,?_,?_,?_⟩
   · rw[List.pairwise_iff_getElem];intro i j hi hj hij;have h2:=P2.out i j (Nat.zero_le _) hij (by omega);rw[qb,getElem!_pos d' j (by simpa using hj),getElem!_pos d' i (by simpa using hi)] at h2;simpa using h2
   · have hh:HoldsK mkC 3 w2 g 0 d'.toList.toArray:=by
      rw[P3.out];simp only[Array.toArray_toList];exact holdsK_sortWorldK mkC 3 w1 g 0 n xs.toArray d' os Tz.out HH.out (by simpa using hsz)
     have hg3:g<w2.heap.size:=by rw[P3.out];exact lt_sortWorldK mkC 3 w1 g 0 n d' os Tz.out
     refine⟨_,cap,by rw[hlen];rfl,by rw[hlen];exact HP.out.1,HP.out.2,jht hh hg3 (by rw[hlen];exact Nat.le_trans HP.out.1 HP.out.2) (fun x hx=>HX.out x (hperm.mem_iff.1 hx))⟩
   · rw[P3.out];exact jjv HB.out HG.out HB.out.size
open Go.RowKit
attribute [local go_sem] Zg
theorem jn.mark {w:World} {b off len:Nat} {l:List Mk} {k:Nat} (h:jn MkLay w (some ⟨b,off,none⟩) len l) (hk:k<len):∃x:Mk,l[k]?=some x∧x.1.size≤maxLen∧w.cell? ⟨b,off+k*3,none⟩=some (.string x.1)∧w.cell? ⟨b,off+k*3+1,none⟩=some (.int .i64 x.2.1)∧w.cell? ⟨b,off+k*3+2,none⟩=some (.float .f64 x.2.2):=by
 obtain⟨x,h1,-,-,h4,h5⟩:=h.cells hk;exact⟨x,h1,h4.1,h5 0 _ rfl,h5 1 _ rfl,h5 2 _ rfl⟩
theorem jhL (pack:Bool) (v:Value) (xs:List Mk) (w:World) (hr:Reads MkLay w v xs) (hlen:xs.length≤100000):Calls Tryz.prog 51 #[v,.bool pack] w fun e w'=>∃(y:Value) (l:List Mk),e=.returned y∧l.Perm xs∧(l.Pairwise fun a b=>YF pack b a=false)∧Own j5 9 w' w.heap.size y (l.map (·.1))∧Kept w w':=by
 have hmf:=hmfL (P:=Tryz.prog);obtain⟨i0,hi,hz0,hz1,hz2'⟩:=info_parts jiW;obtain⟨Z,hZ⟩:=eX (w.alloc (.cells #[.bool pack] 4))
 have hkz:Kept w Z:=by rw[←hZ];exact ja _ _
 have hq:Z.cell? ⟨w.heap.size,0,none⟩=some (.bool pack):=by rw[←hZ];simp
 obtain⟨HR,K,HF⟩:=lH3 (hr.kept hkz) hkz (hr.fine);obtain⟨a,cap,rfl,-,-,-⟩:=hr;obtain⟨nx,hnx⟩:=eX (xs.length)
 obtain⟨Y,hY⟩:=eX (Z.alloc (.cells #[.slice a nx cap] 102))
 have hky:Kept Z Y:=by rw[←hY];exact ja _ _
 have hys:Z.heap.size<Y.heap.size:=by rw[←hY];simp
 have hyc:Y.cell? ⟨Z.heap.size,0,none⟩=some (.slice a nx cap):=by rw[←hY];simp
 have HV:=lH (jeR a nx cap Z);have HS:=lH (jcx w.heap.size pack Z.heap.size (.slice a nx cap) xs (by omega) HF.out Y (cell_later hky hq) hys hyc (by have:=(HR.out.kept hky).mks;rw[hnx] at this;exact this));rw[hY] at HV;rw[hnx];have KY:=lH hky;have VC:=lH hnx;rw[hnx] at hlen;clear hq hkz hky hys hyc hnx;go_enter Tryz.func51,Tryz.ntmps51;go_wp2_with fail
 try rw[hZ]
 clear hZ;refine HV.out.mono ?_;rintro e w1 ⟨rfl,rfl⟩;clear hY;go_wp2_with fail
 refine HS.out.mono ?_;rintro e w1 ⟨v9,l,rfl,hp,hs,hv,kk⟩;obtain⟨Rm,NG,K⟩:=lH3 hp hs (K.out.trans (KY.out.trans kk));have hll:l.length=nx:=hp.length_eq.trans VC.out;obtain⟨wa,wc,rfl,-,-,hrow⟩:=hv;rw[hll] at hrow ⊢;have UX:=lH hrow;have U7:=lH hll;clear kk hp hs hrow hll HS HV;have KW:=lH (Kept.refl w1);go_wp2;go_loopw [6,15] (fun v i wr=>∃k:Nat,k≤nx∧i=.int .i64 k∧∃la:List ByteArray,(l.take k).map (·.1)=la∧Own j5 9 wr w1.heap.size v la∧Kept w1 wr) (fun _ i _=>nx-(intOf i).toNat)
 case atStart=>exact⟨0,Nat.zero_le _,rfl,[],rfl,Own.nil _ _ _,Kept.refl _⟩
 case round =>
  obtain⟨k,hk,rfl,la,hla,ho,hK⟩:=hrel;obtain⟨HX,HO,HK⟩:=lH3 hla ho hK;obtain⟨m,hm⟩:=eX (la.length)
  have hmk:m≤k:=by
   have:=congrArg List.length hla;rw[List.length_map,List.length_take,hm] at this;omega
  have HT:=lH hm;have hbase:w1.heap.size≤wr.heap.size:=hK.size;by_cases hlt:k<nx
  · obtain⟨b9,o9,rfl⟩:=UX.out.form.resolve_left (by omega);obtain⟨⟨x1,x2,x3⟩,hx,hxs,c0,c1,c2⟩:=(UX.out.kept hK).mark hlt;dsimp only at hxs c0 c1 c2;have TU:=lH hxs;have HV:=lH (show (l.take (k+1)).map (·.1)=la++[x1] by rw[List.take_add_one,hx,List.map_append,HX.out];rfl);have hkk:(k:Int)<(nx:Int):=by omega
    have hk0:¬(k:Int)<0:=by omega
    obtain⟨wx,hwx⟩:=eX (wr.alloc (.cells #[.string x1,.int .i64 x2,.float .f64 x3] 172))
    have hkx:Kept wr wx:=by rw[←hwx];exact ja _ _
    have TG:=lH (jb wr (.string x1) [.int .i64 x2,.float .f64 x3] 172 wx (by rw[hwx];exact Kept.refl _));obtain⟨bq,hbq⟩:=eX (wr.heap.size)
    rw[hbq] at TG;have KX:=lH hkx;go_upto_region 6 with fail
    try rw[hwx]
    try rw[hbq]
    clear hwx hbq hx hxs hkx hk0 hkk hla ho hm hK c0 c1 c2;have t0:=TG.out.at_ 0 _ rfl;have Vx:=lH (show wx.ownsRow w1.heap.size 9 1 u6 m (jd j5 la) by have:=(HO.out.kept KX.out).1;rw[HT.out] at this;exact this);have hs1:wr.heap.size≤wx.heap.size:=Below.size KX.out;go_wp2_with (at_builtin;refine wpList_append_lies _ rfl _ _ _ rfl w1.heap.size 9 i0 _ 1 16 Tryz.underlying34 hi hz0 hz1 hz2' rfl (by decide) u6 m (jd j5 la) rfl (Vx.out.alloc _) ⟨wx.heap.size,0,none⟩ 1 1 (j5.cs x1) rfl rfl (World.news_of_block (cs:=#[.string x1]) (t:=9) (fr:=(0,0)) (heap_alloc_new wx _)) (je7 x1) (by decide) (by unfold maxLen;omega) (by omega) (by simp;omega) (wx.heap.size+1) (by simp) ?_;intro gg cap1 w4 hown1 hgrow hat hlt1)
    have VL:=lH ((show Below w1.heap.size w1 _ from HK.out.trans (KX.out.trans (ja wx _))).grown hgrow (by simp;omega) (fun j hj=>(Vx.out.lt j hj).1));go_wp2;go_roundw
    case rel=>exact⟨k+1,by omega,by go_num,la++[x1],HV.out,Own.snoc hown1 (by rw[HT.out]) HO.out.2 TU.out,VL.out⟩
    case measure=>simp[intOf];omega
  · have hge:¬(k:Int)<(nx:Int):=by omega
    have HE:=lH (show l.map (·.1)=la by rw[←hla,List.take_of_length_le (by rw[U7.out];omega)]);clear hla ho hm hK;go_wp2;go_ret;exact⟨_,rfl,l,Rm.out,NG.out,by rw[HE.out];exact HO.out.base_le K.out.size,K.out.trans HK.out⟩
end Go.Proofs.YtokdjfoalkmhiaaGreat
namespace Go.Proofs.YtokdjfoalkmhiaaGreat
open Go.RowKit
theorem jlU {s:Clu} {p:Pd} {pack:Bool} {xs l:List Mk} (ht:ZQ s p (jO s p s.nodes) xs) (hp:l.Perm xs) (hs:l.Pairwise fun a b=>YF pack b a=false):XQ s p pack (l.map (·.1)):=by
 refine⟨by rw[←ht.1];exact hp.map _,?_⟩;rw[List.pairwise_map];refine List.Pairwise.imp_of_mem (fun {a b} ha hb h=>?_) hs;have h1:=ht.2 a (hp.mem_iff.1 ha);have h2:=ht.2 b (hp.mem_iff.1 hb);unfold Yp;rw[←h1.1,←h1.2,←h2.1,←h2.2];exact h
def jjW (s:Clu) (p:Pd) (pack:Bool) (w:World) (e:Ending) (w':World):Prop:=∃(v:Value) (l:List ByteArray),e=.returned v∧XQ s p pack l∧Own j5 9 w' w.heap.size v l∧Kept w w'
def jkz (s:Clu) (p:Pd) (pack:Bool) (w:World) (e:Ending) (w':World):Prop:=∃l:List ByteArray,XQ s p pack l∧e=.returned (.tuple #[.string (l.headD ⟨#[]⟩),.bool (!l.isEmpty)])∧Kept w w'
theorem jjm (s1 s2 s3:Option Addr) (n1 e1 n2 e2 n3 e3:Nat) (a1 a2 a3 a4:Option Addr) (m1 c1 m2 c2 m3 c3 m4 c4:Nat) (pack:Bool) (p:Pd) (s:Clu) (w:World) (hs:jB w (zP (.slice s1 n1 e1) (.slice s2 n2 e2) (.slice s3 n3 e3)) s) (hl:jA s) (hb:s.pods.length+1≤100000) (hp:ji w (.slice a1 m1 c1) (.slice a2 m2 c2) (.slice a3 m3 c3) (.slice a4 m4 c4) p) (hlp:Js p):Calls Tryz.prog 19 #[.agg #[.slice s1 n1 e1,.slice s2 n2 e2,.slice s3 n3 e3],jw p (.slice a1 m1 c1) (.slice a2 m2 c2) (.slice a3 m3 c3) (.slice a4 m4 c4),.bool pack] w (jjW s p pack w):=by
 obtain⟨Z,hZ⟩:=eX ((w.alloc (.cells #[.slice s1 n1 e1,.slice s2 n2 e2,.slice s3 n3 e3] 26)).alloc (.cells #[.string p.name,.string p.owner,.int .i64 p.prio,.slice a1 m1 c1,.slice a2 m2 c2,.slice a3 m3 c3,.slice a4 m4 c4,.string p.key,.int .i64 p.most,.string p.node,.bool p.hold] 44))
 have hkz:Kept w Z:=by rw[←hZ];exact jm _ _ _
 have Vi:=lH (jb w (.slice s1 n1 e1) [.slice s2 n2 e2,.slice s3 n3 e3] 26 Z (by rw[←hZ];exact ja _ _));have Vg:=lH (show je (w.heap.size+1) [.string p.name,.string p.owner,.int .i64 p.prio,.slice a1 m1 c1,.slice a2 m2 c2,.slice a3 m3 c3,.slice a4 m4 c4,.string p.key,.int .i64 p.most,.string p.node,.bool p.hold] Z by
  have dd:=jb (w.alloc (.cells #[.slice s1 n1 e1,.slice s2 n2 e2,.slice s3 n3 e3] 26)) (.string p.name) [.string p.owner,.int .i64 p.prio,.slice a1 m1 c1,.slice a2 m2 c2,.slice a3 m3 c3,.slice a4 m4 c4,.string p.key,.int .i64 p.most,.string p.node,.bool p.hold] 44 Z (by rw[hZ];exact Kept.refl _);rw[World.size_alloc] at dd;exact dd)
 obtain⟨K,HS,HP,HL,Ta,Ud⟩:=lH6 hkz (hs.kept hkz) (hp.kept hkz) hl hb hlp;clear hs hp hkz hl hb hlp;have UO:=lH (jie s1 s2 s3 n1 e1 n2 e2 n3 e3 a1 a2 a3 a4 m1 c1 m2 c2 m3 c3 m4 c4 p s Z HS.out HL.out Ta.out HP.out Ud.out);unfold jw at UO;have hfl:=jaz s p s.nodes;have VP:=HL.out.nodesN;obtain⟨y0,y1,y2⟩:=Vi.out.at3;obtain⟨r0,r1,r2,r3,r4,r5,r6,r7,r8,r9,r10⟩:=Vg.out.at11;unfold jw;go_enter Tryz.func19,Tryz.ntmps19;go_wp2_with fail
 try rw[hZ]
 clear hZ;refine UO.out.mono ?_;rintro e w1 ⟨v,xs,rfl,hr,ht,kk⟩;obtain⟨HN,HT,K⟩:=lH3 (jhL pack v xs w1 hr (by rw[ht.len];omega)) ht (K.out.trans kk);clear kk hr ht hfl VP UO y0 y1 y2 r0 r1 r2 r3 r4 r5 r6 r7 r8 r9 r10;go_wp2_with fail
 refine HN.out.mono ?_;rintro e w2 ⟨y,l,rfl,hp,hs,ho,kk⟩;obtain⟨HO,HD,K⟩:=lH3 (ho.base_le K.out.size) (jlU HT.out hp hs) (K.out.trans kk);clear kk ho hp hs HN;go_wp2;go_ret;exact⟨_,_,rfl,HD.out,HO.out,K.out⟩
theorem jg8 (s1 s2 s3:Option Addr) (n1 e1 n2 e2 n3 e3:Nat) (a1 a2 a3 a4:Option Addr) (m1 c1 m2 c2 m3 c3 m4 c4:Nat) (pack:Bool) (p:Pd) (s:Clu) (w:World) (hs:jB w (zP (.slice s1 n1 e1) (.slice s2 n2 e2) (.slice s3 n3 e3)) s) (hl:jA s) (hb:s.pods.length+1≤100000) (hp:ji w (.slice a1 m1 c1) (.slice a2 m2 c2) (.slice a3 m3 c3) (.slice a4 m4 c4) p) (hlp:Js p):Calls Tryz.prog 47 #[.agg #[.slice s1 n1 e1,.slice s2 n2 e2,.slice s3 n3 e3],jw p (.slice a1 m1 c1) (.slice a2 m2 c2) (.slice a3 m3 c3) (.slice a4 m4 c4),.bool pack] w (jkz s p pack w):=by
 obtain⟨Z,hZ⟩:=eX ((w.alloc (.cells #[.slice s1 n1 e1,.slice s2 n2 e2,.slice s3 n3 e3] 26)).alloc (.cells #[.string p.name,.string p.owner,.int .i64 p.prio,.slice a1 m1 c1,.slice a2 m2 c2,.slice a3 m3 c3,.slice a4 m4 c4,.string p.key,.int .i64 p.most,.string p.node,.bool p.hold] 44))
 have hkz:Kept w Z:=by rw[←hZ];exact jm _ _ _
 have Vi:=lH (jb w (.slice s1 n1 e1) [.slice s2 n2 e2,.slice s3 n3 e3] 26 Z (by rw[←hZ];exact ja _ _));have Vg:=lH (show je (w.heap.size+1) [.string p.name,.string p.owner,.int .i64 p.prio,.slice a1 m1 c1,.slice a2 m2 c2,.slice a3 m3 c3,.slice a4 m4 c4,.string p.key,.int .i64 p.most,.string p.node,.bool p.hold] Z by
  have dd:=jb (w.alloc (.cells #[.slice s1 n1 e1,.slice s2 n2 e2,.slice s3 n3 e3] 26)) (.string p.name) [.string p.owner,.int .i64 p.prio,.slice a1 m1 c1,.slice a2 m2 c2,.slice a3 m3 c3,.slice a4 m4 c4,.string p.key,.int .i64 p.most,.string p.node,.bool p.hold] 44 Z (by rw[hZ];exact Kept.refl _);rw[World.size_alloc] at dd;exact dd)
 obtain⟨K,HS,HP,HL,Ta,Ud⟩:=lH6 hkz (hs.kept hkz) (hp.kept hkz) hl hb hlp;clear hs hp hkz hl hb hlp;have UO:=lH (jjm s1 s2 s3 n1 e1 n2 e2 n3 e3 a1 a2 a3 a4 m1 c1 m2 c2 m3 c3 m4 c4 pack p s Z HS.out HL.out Ta.out HP.out Ud.out);unfold jw at UO;obtain⟨y0,y1,y2⟩:=Vi.out.at3;obtain⟨r0,r1,r2,r3,r4,r5,r6,r7,r8,r9,r10⟩:=Vg.out.at11;unfold jw;go_enter Tryz.func47,Tryz.ntmps47;go_wp2_with fail
 try rw[hZ]
 clear hZ;refine UO.out.mono ?_;rintro e w1 ⟨v,l,rfl,hd,ho,kk⟩;have HD:=lH hd;have K:=lH (K.out.trans kk);obtain⟨a,cap,rfl,-,-,hrow⟩:=ho.at_;clear kk hd ho UO y0 y1 y2 r0 r1 r2 r3 r4 r5 r6 r7 r8 r9 r10
 cases l with
 | nil =>
  have h0:(((([]:List ByteArray).length:Nat):Int)==0)=true:=rfl;go_wp2;go_ret2
  exact⟨[],HD.out,rfl,K.out⟩
 | cons x t =>
  obtain⟨b,off,rfl⟩:=hrow.form.resolve_left (by simp);obtain⟨x9,hx9,-,-,-,c0⟩:=hrow.str (k:=0) (by simp);obtain rfl:x=x9:=by simpa using hx9
  rw[Nat.add_zero] at c0;obtain⟨n,hn⟩:=eX ((x::t).length)
  have hn1:0<n:=by rw[←hn];simp
  have hn0:((n:Int)==0)=false:=by simp;omega
  have hn2:(0:Int)<(n:Int):=by omega
  rw[hn];clear hx9 hrow hn;go_wp2;go_ret2
  exact⟨x::t,HD.out,rfl,K.out⟩
theorem jkz.is {s:Clu} {p:Pd} {pack:Bool} {w w':World} {e:Ending} {l:List ByteArray} (h:jkz s p pack w e w') (ho:XQ s p pack l):Say (.tuple #[.string (l.headD ⟨#[]⟩),.bool (!l.isEmpty)]) w e w':=by
 obtain⟨m,hm,he,kk⟩:=h;rw[hm.unique ho] at he;exact⟨he,kk⟩
theorem jcz.is {x:Option Nat} {z:Nat} {w w':World} {e:Ending} (h:jcz x w e w') (hx:x=some z):Say (.float .f64 z) w e w':=by
 obtain⟨r,he,hr,-,kk⟩:=h;rw[hx] at hr;obtain⟨-,rfl⟩:=Yz.1 hr;exact⟨he,kk⟩
theorem jjW.is {s:Clu} {p:Pd} {pack:Bool} {w w':World} {e:Ending} {l:List ByteArray} (h:jjW s p pack w e w') (ho:XQ s p pack l):∃v,e=.returned v∧Own j5 9 w' w.heap.size v l∧Kept w w':=by
 obtain⟨v,m,he,hm,h2,kk⟩:=h;rw[hm.unique ho] at h2;exact⟨v,he,h2,kk⟩
def sdX:Pd:=jcp ⟨#[120]⟩ 6 ⟨#[]⟩
def sdY:Pd:={ jcp ⟨#[121]⟩ 6 ⟨#[]⟩ with prio:=5 }
def sdZ:Pd:=jcp ⟨#[122]⟩ 3 ⟨#[]⟩
def sdA:ByteArray:=⟨#[97]⟩
def sdS:Clu:=⟨[Yo ⟨#[97]⟩ 10],[sdX,sdY,sdZ],[]⟩
def sdT:Clu:=zK sdS ⟨#[121]⟩ ⟨#[97]⟩
def sdU:Clu:=zK sdT ⟨#[122]⟩ ⟨#[97]⟩
theorem jar (p:Pd) (x y:ByteArray) (c:Int) (h:p.need=(jcp x c y).need∧p.labels=[]∧p.sel=[]∧p.tols=[]):Js p:=⟨by rw[h.1];exact(by decide:(1:Nat)≤1000000),by rw[h.2.1];exact(by decide:(0:Nat)≤1000000),by rw[h.2.2.1];exact(by decide:(0:Nat)≤1000000),by rw[h.2.2.2];exact(by decide:(0:Nat)≤1000000)⟩
theorem Z9:jA sdS:=⟨fun n hn=>by
 unfold sdS at hn;obtain rfl:=List.mem_singleton.1 hn;exact⟨(by decide:(1:Nat)≤1000000),(by decide:(0:Nat)≤1000000),(by decide:(0:Nat)≤1000000)⟩,
 fun n hn=>by
  unfold sdS at hn;simp only[List.mem_cons,List.not_mem_nil,or_false] at hn;rcases hn with rfl | rfl | rfl
  · exact jar _ ⟨#[]⟩ ⟨#[]⟩ 6 ⟨rfl,rfl,rfl,rfl⟩
  · exact jar _ ⟨#[]⟩ ⟨#[]⟩ 6 ⟨rfl,rfl,rfl,rfl⟩
  · exact jar _ ⟨#[]⟩ ⟨#[]⟩ 3 ⟨rfl,rfl,rfl,rfl⟩,(fun n h=>by cases h),(by decide:(1:Nat)≤100000),(by decide:(3:Nat)≤100000),(by decide:(0:Nat)≤100000)⟩
theorem jco:Zs sdS=true:=by kernel_rfl
theorem jbB:Asc sdS.pods:=je5 jco
theorem jk7 {w:World} {v:Value} (h:jB w v sdS):zY sdS:=⟨Xg jco,jdX jco h,Z9,(by decide:(3:Nat)≤128)⟩
theorem jeO {r:Pd→Pd→Prop} {x y:Pd} (h:r x y):[x,y].Pairwise r:=List.Pairwise.cons (fun z hz=>by obtain rfl:=List.mem_singleton.1 hz;exact h) (List.Pairwise.cons (fun z hz=>by cases hz) List.Pairwise.nil)
theorem jmX:sdS.pods.filter jL=[sdX,sdY,sdZ]:=by kernel_rfl
theorem jm0:sdT.pods.filter jL=[sdX,sdZ]:=by kernel_rfl
theorem jnb:sdU.pods.filter jL=[sdX]:=by kernel_rfl
theorem jng:zi sdX sdY=false:=by kernel_rfl
theorem jnc:zi sdZ sdY=false:=by kernel_rfl
theorem jmk:zi sdZ sdX=false:=by kernel_rfl
theorem jm1:Y5 sdS.pods [sdY,sdX,sdZ]:=⟨by rw[jmX];exact List.Perm.swap _ _ _,List.Pairwise.cons (fun z hz=>by
 rcases List.mem_cons.1 hz with rfl | hz
 · exact jng
 · obtain rfl:=List.mem_singleton.1 hz;exact jnc) (jeO jmk)⟩
theorem jhn:zr sdS.pods=[sdY,sdX,sdZ]:=(qG jbB jm1).symm
theorem jmC:Asc sdT.pods:=by unfold Asc sdT;decide +kernel
theorem jk1:Asc sdU.pods:=by unfold Asc sdU;decide +kernel
theorem jmV:zr sdT.pods=[sdX,sdZ]:=(qG jmC ⟨by rw[jm0],jeO jmk⟩).symm
theorem jl1:zr sdU.pods=[sdX]:=(qG jk1 ⟨by rw[jnb],List.Pairwise.cons (fun z hz=>by cases hz) List.Pairwise.nil⟩).symm
theorem jna:jO sdS sdY sdS.nodes=[sdA]:=by kernel_rfl
theorem jm9:jO sdT sdX sdT.nodes=[]:=by kernel_rfl
theorem jnh:jO sdT sdZ sdT.nodes=[sdA]:=by kernel_rfl
theorem jmQ:jO sdU sdX sdU.nodes=[]:=by kernel_rfl
theorem jgC {s:Clu} {p:Pd} {pack:Bool} {x:ByteArray} (h:jO s p s.nodes=[x]):XV s p pack=some x :=
 (jjl (l:=[x]) ⟨by rw[h],List.Pairwise.cons (fun z hz=>by cases hz) List.Pairwise.nil⟩).symm
theorem jmg (pack:Bool):nextS sdS pack=some (⟨#[121]⟩,sdA):=by
 unfold nextS;rw[jhn,Jj,jgC jna];rfl
theorem jnf (pack:Bool):nextS sdT pack=some (⟨#[122]⟩,sdA):=by
 unfold nextS;rw[jmV,Jj,Yx.2 jm9];show Jj sdT pack [sdZ]=_;rw[Jj,jgC jnh];rfl
theorem jm3 (pack:Bool):nextS sdU pack=none:=by
 unfold nextS;rw[jl1,Jj,Yx.2 jmQ];rfl
theorem sdB (pack:Bool):JS sdS pack=[(⟨#[121]⟩,sdA),(⟨#[122]⟩,sdA)]:=by
 unfold JS;rw[jhn];show zW pack 3 sdS=_;rw[zW,jmg];show _::zW pack 2 sdT=_;rw[zW,jnf];show _::_::zW pack 1 sdU=_;rw[zW,jm3]
theorem sdG (pack:Bool):goS (JS sdS pack) sdS=sdU:=by rw[sdB];rfl
theorem jh1:ByteArray.empty.toList=[]:=by first | rfl | decide | simp | kernel_rfl
theorem noE {x:ByteArray} (h:zD x=true):x.toList.isEmpty=true:=by
 rw[jM.1 (show eqS x ByteArray.empty=true from h),jh1];rfl
theorem noF {x:ByteArray} (h:zD x=false):x.toList.isEmpty=false:=by
 cases e:x.toList.isEmpty with
 | false=>rfl
 | true =>
  have:zD x=true:=by
   unfold zD eqS;rw[List.isEmpty_iff.1 e,jh1];rfl
  rw[this] at h;cases h
theorem jaQ (n:Pd) (v1 v2 v3 v4:Value) (w:World):Calls Tryz.prog 27 #[jw n v1 v2 v3 v4] w fun e w'=>e=.returned (.bool (!jL n))∧Kept w w':=by
 have c9:=(jb w (.string n.name) [.string n.owner,.int .i64 n.prio,v1,v2,v3,v4,.string n.key,.int .i64 n.most,.string n.node,.bool n.hold] 44 _ (Kept.refl _)).at_ 9 _ rfl;have c10:=(jb w (.string n.name) [.string n.owner,.int .i64 n.prio,v1,v2,v3,v4,.string n.key,.int .i64 n.most,.string n.node,.bool n.hold] 44 _ (Kept.refl _)).at_ 10 _ rfl;have HV:=lH (show ∀a b,zD n.node=a→n.hold=b→(!jL n)=(!a||b) from fun a b ha hb=>by unfold jL;rw[ha,hb];cases a<;>cases b<;>rfl);unfold jw
 cases ha:zD n.node with
 | true =>
  have ha':n.node.toList.isEmpty=true:=noE ha;rw[HV.out true _ ha rfl];clear ha;go_enter Tryz.func27,Tryz.ntmps27;go_wp2;go_ret;exact⟨by first | rfl | simp,ja _ _⟩
 | false =>
  have ha':n.node.toList.isEmpty=false:=noF ha;rw[HV.out false _ ha rfl];clear ha;go_enter Tryz.func27,Tryz.ntmps27;go_wp2;go_ret;exact⟨by first | rfl | simp,ja _ _⟩
theorem jb7 (a:Option Addr) (len cap:Nat) (l:List Pd) (w:World) (hr:jC w a len l) :
 Calls Tryz.prog 72 #[.slice a len cap,.func (.func 27) #[] #[]] w (Say (.int .i64 (qZ (idxB (fun p=>!jL p) l))) w):=by
 have hl:=hr.1;have hm:=hr.2.1;unfold maxLen at hm;have HL:=lH hl;have HR:=lH hr;clear hr hl;go_enter Tryz.func72,Tryz.ntmps72;go_wp2;go_loopw [8] (fun i wr=>∃k:Nat,k≤len∧i=.int .i64 k∧(idxB (fun p=>!jL p) (l.drop k)).map (·+k)=idxB (fun p=>!jL p) l∧Kept w wr) (fun i _=>len-(intOf i).toNat)
 case atStart=>exact⟨0,Nat.zero_le _,rfl,by simp,Kept.refl _⟩
 case round =>
  obtain⟨k,hk,rfl,hrest,hK⟩:=hrel;have HS:=lH hrest;have HK:=lH hK;by_cases hlt:k<len
  · obtain⟨b,off,rfl⟩:=HR.out.form.resolve_left (by omega);obtain⟨n,a1,m1,c1,a2,m2,c2,a3,m3,c3,a4,m4,c4,hn,hd,hb,p0,p1,p2,p3,p4,p5,p6,p7,p8,p9,p10,hat⟩:=(HR.out.kept hK).at_ hlt;have HD:=lH hd;have Ti:=lH (jaQ n (.slice a1 m1 c1) (.slice a2 m2 c2) (.slice a3 m3 c3) (.slice a4 m4 c4) wr);obtain⟨t,ht⟩:=eX ((!jL n))
    have HT:=lH ht;unfold jw at Ti;have HC:=lH Ti.out;rw[ht] at HC;clear Ti;clear hrest hK hat hd hn ht
    cases t with
    | true =>
     have HF:=lH (jct (f:=fun p=>!jL p) HD.out HT.out HS.out);go_wp2_with fail
     refine HC.out.mono ?_;rintro e w1 ⟨rfl,k1⟩;have K1:=lH (HK.out.trans k1);clear k1;go_wp2;go_ret;exact⟨by rw[HF.out];rfl,K1.out⟩
    | false =>
     have HE:=lH (jbi (f:=fun p=>!jL p) HD.out HT.out HS.out);go_wp2_with fail
     refine HC.out.mono ?_;rintro e w1 ⟨rfl,k1⟩;have K1:=lH (HK.out.trans k1);clear k1;go_wp2;go_roundw
     case rel=>exact⟨k+1,by omega,by go_num,HE.out,K1.out⟩
     case measure=>simp[intOf];omega
  · have HF:=lH (show idxB (fun p=>!jL p) l=none by rw[←hrest,List.drop_of_length_le (by rw[HL.out];omega)];rfl);clear hrest hK;go_wp2;go_ret;exact⟨by rw[HF.out];rfl,HK.out⟩
theorem jcG (l:List PX) (k:Nat):jd PodLay0 (l.take k)=(jd PodLay0 l).take (k*11):=by
 induction l generalizing k with
 | nil=>simp[jd]
 | cons z t ih =>
  cases k with
  | zero=>simp[jd]
  | succ k =>
   have e:(PodLay0.cs z).length=11:=rfl;have ih2:=ih k;unfold jd at ih2 ⊢;rw[List.take_succ_cons,List.flatMap_cons,List.flatMap_cons,ih2,show (k+1)*11=(PodLay0.cs z).length+k*11 by rw[e];omega,List.take_length_add_append]
theorem jc6:∀{lx:List PX},idxB (fun p=>!jL p) (lx.map fun z=>z.1)=none→lx.filter (fun z=>jL z.1)=lx
 | [],_=>rfl
 | z::t,h=>by
  rw[List.map_cons,idxB] at h;split at h
  · cases h
  · rename_i g;have g2:jL z.1=true:=by simpa using g
    rw[List.filter_cons_of_pos (by exact g2),jc6 (Option.map_eq_none_iff.1 h)]
theorem jc1:∀{lx:List PX} {k:Nat},idxB (fun p=>!jL p) (lx.map fun z=>z.1)=some k→(lx.take (k+1)).filter (fun z=>jL z.1)=lx.take k
 | [],k,h=>by cases h
 | z::t,k,h=>by
  rw[List.map_cons,idxB] at h;split at h
  · rename_i g;obtain rfl:=Option.some.inj h;have g2:jL z.1=false:=by simpa using g
    rw[List.take_succ_cons,List.take_zero,List.take_zero,List.filter_cons_of_neg (by rw[g2];decide)];rfl
  · rename_i g;have g2:jL z.1=true:=by simpa using g
    cases e:idxB (fun p=>!jL p) (t.map fun z=>z.1) with
    | none=>rw[e] at h;cases h
    | some q =>
     rw[e] at h;obtain rfl:=Option.some.inj h;rw[List.take_succ_cons,List.take_succ_cons,List.filter_cons_of_pos (by exact g2),jc1 e]
structure jat (B g len cap i j:Nat) (lx:List PX) (w wr:World) (ly:List PX):Prop where
 own:Own PodLay0 44 wr B (.slice (some ⟨g,0,none⟩) len cap) ly
 len:ly.length=len
 fst:ly.take i=(lx.take j).filter fun z=>jL z.1
 snd:ly.drop j=lx.drop j
 off:jg (fun b=>b=g) w wr
theorem jat.skip {B g len cap i j:Nat} {lx ly:List PX} {w wr w1:World} {z:PX} (h:jat B g len cap i j lx w wr ly) (hz:lx[j]?=some z) (hr:jL z.1=false) (k:Kept wr w1):jat B g len cap i (j+1) lx w w1 ly:=by
 refine⟨h.own.kept k,h.len,?_,?_,h.off.trans (jg.of k)⟩
 · rw[h.fst,List.take_add_one,hz,List.filter_append];simp[hr]
 · rw[←List.drop_drop,←List.drop_drop,h.snd]
theorem jat.keep {B g len cap i j:Nat} {lx ly:List PX} {w wr w1:World} {z:PX} (h:jat B g len cap i j lx w wr ly) (hij:i<j) (hj:j<len) (hz:lx[j]?=some z) (hr:jL z.1=true) (k:Kept wr w1):jat B g len cap (i+1) (j+1) lx w (w1.setCells g (i*11) (PodLay0.cs z)) (ly.set i z):=by
 have hi:i<ly.length:=by rw[h.len];omega
 refine⟨(h.own.kept k).Zc hi z trivial,by rw[List.length_set];exact h.len,?_,?_,(h.off.trans (jg.of k)).trans (jg.cells (S:=fun b=>b=g) g rfl _ _ _)⟩
 · rw[List.take_add_one,List.getElem?_set_self hi,List.take_set_of_le (Nat.le_refl _),h.fst,List.take_add_one,hz,List.filter_append];simp[hr]
 · rw[List.drop_set_of_lt (by omega),←List.drop_drop,←List.drop_drop,h.snd]
theorem jkV (g len cap B:Nat) (lx:List PX) (w:World) (ho:Own PodLay0 44 w B (.slice (some ⟨g,0,none⟩) len cap) lx) (hat:∀z ∈ lx,At4 w z) (hlen:len≤100000) :
 Calls Tryz.prog 25 #[.slice (some ⟨g,0,none⟩) len cap,.func (.func 27) #[] #[]] w fun e w'=>∃n,e=.returned (.slice (some ⟨g,0,none⟩) n cap)∧Own PodLay0 44 w' B (.slice (some ⟨g,0,none⟩) n cap) (lx.filter fun z=>jL z.1)∧jg (fun b=>b=g) w w':=by
 have hn:len=lx.length:=by obtain⟨a,c,e,_⟩:=ho.at_;cases e;rfl
 have hr:jC w (some ⟨g,0,none⟩) len (lx.map fun z=>z.1):=jjL (X8 ho hat);obtain⟨cur,hB,hg,hlc,hm,hsz,ht,hl⟩:=Jc (show w.ownsRow B 44 11 (.slice (some ⟨g,0,none⟩) len cap) len (jd PodLay0 lx) by have:=ho.1;rw[←hn] at this;exact this);obtain⟨HI,HO,HN⟩:=lH3 (jb7 (some ⟨g,0,none⟩) len cap (lx.map fun z=>z.1) w hr) ho hn;have hm':cap≤9223372036854775807:=by unfold maxLen at hm;omega
 clear ho hr hat hn hB hg hsz ht hl hm
 cases hi:idxB (fun p=>!jL p) (lx.map fun z=>z.1) with
 | none =>
  rw[hi] at HI;have HF:=lH (jc6 hi);clear hi;unfold qZ at HI;go_enter Tryz.func25,Tryz.ntmps25;go_wp2_with fail
  refine HI.out.mono ?_;rintro e w1 ⟨rfl,k⟩;have K:=lH k;clear k;go_wp2;go_ret;exact⟨len,rfl,by rw[HF.out];exact HO.out.kept K.out,jg.of K.out⟩
 | some k0 =>
  rw[hi] at HI;have hk0:k0<len:=by have:=X5 hi;rw[List.length_map] at this;have:=HN.out;omega
  have HF:=lH (jc1 hi);clear hi;unfold qZ at HI;have hne:((k0:Int)==-1)=false:=beq_eq_false_iff_ne.2 (by omega);go_enter Tryz.func25,Tryz.ntmps25;go_wp2_with fail
  refine HI.out.mono ?_;rintro e w1 ⟨rfl,k⟩;have K:=lH k;clear k;go_wp2_with fail
  go_loopw [5,6] (fun vi vj wr=>∃(i j:Nat) (ly:List PX),vi=.int .i64 i∧vj=.int .i64 j∧i<j∧j≤len∧jat B g len cap i j lx w wr ly) (fun _ vj _=>len-(intOf vj).toNat)
  case atStart=>exact⟨k0,k0+1,lx,rfl,by first | rfl | go_num,by omega,by omega,HO.out.kept K.out,HN.out.symm,HF.out.symm,rfl,jg.of K.out⟩
  case round =>
   obtain⟨i,j,ly,rfl,rfl,hij,hj,hinv⟩:=hrel;have HV:=lH hinv;have hly:=hinv.len;by_cases hlt:j<len
   · obtain⟨z,hz⟩:∃z,ly[j]?=some z:=⟨_,List.getElem?_eq_getElem (by omega)⟩
     have hzx:lx[j]?=some z:=by
      have h0:(ly.drop j)[0]?=(lx.drop j)[0]?:=by rw[hinv.snd]
      rw[List.getElem?_drop,List.getElem?_drop,Nat.add_zero] at h0;rw[←h0];exact hz
     obtain⟨y,hy⟩:∃z,ly[i]?=some z:=⟨_,List.getElem?_eq_getElem (by omega)⟩
     have HY:=lH hy;obtain⟨n,⟨b1,n1,d1⟩,⟨b2,n2,d2⟩,⟨b3,n3,d3⟩,⟨b4,n4,d4⟩⟩:=z;have p0:wr.cell? ⟨g,j*11,none⟩=some (.string n.name):=hinv.own.cell_at hz (j:=0) rfl;have p1:wr.cell? ⟨g,j*11+1,none⟩=some (.string n.owner):=hinv.own.cell_at hz (j:=1) rfl;have p2:wr.cell? ⟨g,j*11+2,none⟩=some (.int .i64 n.prio):=hinv.own.cell_at hz (j:=2) rfl;have p3:wr.cell? ⟨g,j*11+3,none⟩=some (.slice b1 n1 d1):=hinv.own.cell_at hz (j:=3) rfl;have p4:wr.cell? ⟨g,j*11+4,none⟩=some (.slice b2 n2 d2):=hinv.own.cell_at hz (j:=4) rfl;have p5:wr.cell? ⟨g,j*11+5,none⟩=some (.slice b3 n3 d3):=hinv.own.cell_at hz (j:=5) rfl;have p6:wr.cell? ⟨g,j*11+6,none⟩=some (.slice b4 n4 d4):=hinv.own.cell_at hz (j:=6) rfl;have p7:wr.cell? ⟨g,j*11+7,none⟩=some (.string n.key):=hinv.own.cell_at hz (j:=7) rfl;have p8:wr.cell? ⟨g,j*11+8,none⟩=some (.int .i64 n.most):=hinv.own.cell_at hz (j:=8) rfl;have p9:wr.cell? ⟨g,j*11+9,none⟩=some (.string n.node):=hinv.own.cell_at hz (j:=9) rfl;have p10:wr.cell? ⟨g,j*11+10,none⟩=some (.bool n.hold):=hinv.own.cell_at hz (j:=10) rfl;have RY:=lH hzx;have hjj:(j:Int)<(len:Int):=by omega
     have HS:=lH (jaQ n (.slice b1 n1 d1) (.slice b2 n2 d2) (.slice b3 n3 d3) (.slice b4 n4 d4) (wr.alloc (.cells #[.string n.name,.string n.owner,.int .i64 n.prio,.slice b1 n1 d1,.slice b2 n2 d2,.slice b3 n3 d3,.slice b4 n4 d4,.string n.key,.int .i64 n.most,.string n.node,.bool n.hold] 44)));unfold jw at HS;obtain⟨c,hc⟩:=eX (jL n)
     have HC:=lH hc;rw[hc] at HS;clear hz hzx hy hinv hc hly
     cases c with
     | false =>
      go_wp2_with fail
      refine HS.out.mono ?_;rintro e w2 ⟨rfl,kk⟩;have HD:=lH (HV.out.skip RY.out HC.out ((ja _ _).trans kk));clear kk p0 p1 p2 p3 p4 p5 p6 p7 p8 p9 p10;go_wp2;go_roundw
      case rel=>exact⟨i,j+1,ly,rfl,by first | rfl | go_num,by omega,by omega,HD.out⟩
      case measure=>simp[intOf];omega
     | true =>
      go_wp2_with fail
      refine HS.out.mono ?_;rintro e w2 ⟨rfl,kk⟩;have KW:=lH ((ja wr (.cells #[.string n.name,.string n.owner,.int .i64 n.prio,.slice b1 n1 d1,.slice b2 n2 d2,.slice b3 n3 d3,.slice b4 n4 d4,.string n.key,.int .i64 n.most,.string n.node,.bool n.hold] 44)).trans kk);obtain⟨y0,y1,y2,y3,y4,y5,y6,y7,y8,y9,y10⟩:=(jb wr (.string n.name) [.string n.owner,.int .i64 n.prio,.slice b1 n1 d1,.slice b2 n2 d2,.slice b3 n3 d3,.slice b4 n4 d4,.string n.key,.int .i64 n.most,.string n.node,.bool n.hold] 44 w2 kk).at11;have HD:=lH (HV.out.keep hij hlt RY.out HC.out KW.out);obtain⟨u0,q0⟩:∃u,w2.cell? ⟨g,i*11,none⟩=some u:=⟨_,(HV.out.own.kept KW.out).cell_at HY.out (j:=0) rfl⟩
      obtain⟨u1,q1⟩:∃u,w2.cell? ⟨g,i*11+1,none⟩=some u:=⟨_,(HV.out.own.kept KW.out).cell_at HY.out (j:=1) rfl⟩
      obtain⟨u2,q2⟩:∃u,w2.cell? ⟨g,i*11+2,none⟩=some u:=⟨_,(HV.out.own.kept KW.out).cell_at HY.out (j:=2) rfl⟩
      obtain⟨u3,q3⟩:∃u,w2.cell? ⟨g,i*11+3,none⟩=some u:=⟨_,(HV.out.own.kept KW.out).cell_at HY.out (j:=3) rfl⟩
      obtain⟨u4,q4⟩:∃u,w2.cell? ⟨g,i*11+4,none⟩=some u:=⟨_,(HV.out.own.kept KW.out).cell_at HY.out (j:=4) rfl⟩
      obtain⟨u5,q5⟩:∃u,w2.cell? ⟨g,i*11+5,none⟩=some u:=⟨_,(HV.out.own.kept KW.out).cell_at HY.out (j:=5) rfl⟩
      obtain⟨u6,q6⟩:∃u,w2.cell? ⟨g,i*11+6,none⟩=some u:=⟨_,(HV.out.own.kept KW.out).cell_at HY.out (j:=6) rfl⟩
      obtain⟨u7,q7⟩:∃u,w2.cell? ⟨g,i*11+7,none⟩=some u:=⟨_,(HV.out.own.kept KW.out).cell_at HY.out (j:=7) rfl⟩
      obtain⟨u8,q8⟩:∃u,w2.cell? ⟨g,i*11+8,none⟩=some u:=⟨_,(HV.out.own.kept KW.out).cell_at HY.out (j:=8) rfl⟩
      obtain⟨u9,q9⟩:∃u,w2.cell? ⟨g,i*11+9,none⟩=some u:=⟨_,(HV.out.own.kept KW.out).cell_at HY.out (j:=9) rfl⟩
      obtain⟨u10,q10⟩:∃u,w2.cell? ⟨g,i*11+10,none⟩=some u:=⟨_,(HV.out.own.kept KW.out).cell_at HY.out (j:=10) rfl⟩
      have x0f:w2.frozen? ⟨g,i*11,none⟩=false:=(HV.out.own.kept KW.out).frozen_at _;have x1f:w2.frozen? ⟨g,i*11+1,none⟩=false:=(HV.out.own.kept KW.out).frozen_at _;have x2f:w2.frozen? ⟨g,i*11+2,none⟩=false:=(HV.out.own.kept KW.out).frozen_at _;have x3f:w2.frozen? ⟨g,i*11+3,none⟩=false:=(HV.out.own.kept KW.out).frozen_at _;have x4f:w2.frozen? ⟨g,i*11+4,none⟩=false:=(HV.out.own.kept KW.out).frozen_at _;have x5f:w2.frozen? ⟨g,i*11+5,none⟩=false:=(HV.out.own.kept KW.out).frozen_at _;have x6f:w2.frozen? ⟨g,i*11+6,none⟩=false:=(HV.out.own.kept KW.out).frozen_at _;have x7f:w2.frozen? ⟨g,i*11+7,none⟩=false:=(HV.out.own.kept KW.out).frozen_at _;have x8f:w2.frozen? ⟨g,i*11+8,none⟩=false:=(HV.out.own.kept KW.out).frozen_at _;have x9f:w2.frozen? ⟨g,i*11+9,none⟩=false:=(HV.out.own.kept KW.out).frozen_at _;have x10f:w2.frozen? ⟨g,i*11+10,none⟩=false:=(HV.out.own.kept KW.out).frozen_at _;have hii:(i:Int)<(len:Int):=by omega
      clear kk p0 p1 p2 p3 p4 p5 p6 p7 p8 p9 p10;go_wp2;obtain⟨WE,hWE⟩:=eX (w2.setCells g (i*11) [.string n.name,.string n.owner,.int .i64 n.prio,.slice b1 n1 d1,.slice b2 n2 d2,.slice b3 n3 d3,.slice b4 n4 d4,.string n.key,.int .i64 n.most,.string n.node,.bool n.hold])
      have hWE2:(((((((((((w2.setCell ⟨g,i*11,none⟩ (.string n.name)).setCell ⟨g,i*11+1,none⟩ (.string n.owner)).setCell ⟨g,i*11+2,none⟩ (.int .i64 n.prio)).setCell ⟨g,i*11+3,none⟩ (.slice b1 n1 d1)).setCell ⟨g,i*11+4,none⟩ (.slice b2 n2 d2)).setCell ⟨g,i*11+5,none⟩ (.slice b3 n3 d3)).setCell ⟨g,i*11+6,none⟩ (.slice b4 n4 d4)).setCell ⟨g,i*11+7,none⟩ (.string n.key)).setCell ⟨g,i*11+8,none⟩ (.int .i64 n.most)).setCell ⟨g,i*11+9,none⟩ (.string n.node)).setCell ⟨g,i*11+10,none⟩ (.bool n.hold))=WE:=hWE;have HD:=lH (show jat B g len cap (i+1) (j+1) lx w WE (ly.set i (n,(b1,n1,d1),(b2,n2,d2),(b3,n3,d3),(b4,n4,d4))) by rw[←hWE];exact HD.out);try rw[hWE2]
      clear y0 y1 y2 y3 y4 y5 y6 y7 y8 y9 y10 hWE hWE2 q0 q1 q2 q3 q4 q5 q6 q7 q8 q9 q10 x0f x1f x2f x3f x4f x5f x6f x7f x8f x9f x10f;go_roundw
      case rel=>exact⟨i+1,j+1,_,by first | rfl | go_num,by first | rfl | go_num,by omega,by omega,HD.out⟩
      case measure=>simp[intOf];omega
   · obtain rfl:j=len:=by omega
     obtain⟨i0,hi0,hz0,hz1,hz2⟩:=info_parts X1;have hxs:ly.filter (fun _=>true)=ly:=by simp
     have hrl:(jd PodLay0 ly).length=j*11:=by rw[jR,hinv.len];rfl
     have hown:wr.ownsRow B 44 11 (.slice (some ⟨g,0,none⟩) j cap) j (jd PodLay0 ly):=by have:=hinv.own.1;rw[hly] at this;exact this
     have hcell:∀t,t<j*11→(wr.cell? ⟨g,t,none⟩).isSome=true:=fun t h=>by
      rw[hown.cellAt t h,List.getElem?_eq_getElem (by rw[hrl];exact h)];rfl
     have hcl:∀ty,(Builtin.clear_ #[23] ty #[.slice (some ⟨g,i*11,none⟩) (j-i) (cap-i)]).run Tryz.prog wr=.ok (.tuple #[]) (wr.setCells g (i*11) (Builtin.zeroCells zB (j-i)).toList) :=
      fun ty=>X4 wr _ 44 ty i0 (.agg zB) Tryz.underlying23 hi0 hz0 g _ _ _ (by omega) (jcW _) (fun t h=>hcell _ (by rw[qY,JK] at h;omega)) (fun t h=>hinv.own.frozen_at _)
     have X:=lH (show Own PodLay0 44 (wr.setCells g (i*11) (Builtin.zeroCells zB (j-i)).toList) B (.slice (some ⟨g,0,none⟩) i cap) (lx.filter fun z=>jL z.1) by
      have hfl:ly.take i=lx.filter fun z=>jL z.1:=by rw[hinv.fst,List.take_of_length_le (by rw[HN.out];exact Nat.le_refl _)]
      have hli:(ly.take i).length=i:=by rw[List.length_take];omega
      have h:=jeJ (i:=i) (j:=j) (zs:=(Builtin.zeroCells zB (j-i)).toList) hown (Nat.le_of_lt hij) (Nat.le_refl _) (by rw[Array.length_toList,JK]);rw[List.drop_of_length_le (by rw[hrl];exact Nat.le_refl _),Nat.sub_self,Nat.add_zero,List.append_nil] at h;refine⟨?_,fun _ _=>trivial⟩;rw[←hfl,hli];have e2:jd PodLay0 (ly.take i)=(jd PodLay0 ly).take (i*11):=jcG ly i;rw[e2];exact h)
     have GX:=lH (show jg (fun b=>b=g) w (wr.setCells g (i*11) (Builtin.zeroCells zB (j-i)).toList) from hinv.off.trans (jg.cells (S:=fun b=>b=g) g rfl _ _ _));have hjj:¬(j:Int)<(j:Int):=by omega
     have hci:¬cap=i:=by omega
     have hic:i≤cap:=by omega
     have hil:i≤j:=by omega
     clear hinv hcell hown hrl hxs hly;go_wp2;go_ret;exact⟨i,rfl,X.out,GX.out⟩
theorem jin (w:World):Calls Tryz.prog 25 #[.slice none 0 0,.func (.func 27) #[] #[]] w fun e w'=>e=.returned (.slice none 0 0)∧Kept w w':=by
 have HI:=lH (jb7 none 0 0 [] w ⟨rfl,by decide,.inl rfl⟩);have HI:=lH (show Calls Tryz.prog 72 #[.slice none 0 0,.func (.func 27) #[] #[]] w (Say (.int .i64 (-1)) w) from HI.out);go_enter Tryz.func25,Tryz.ntmps25;go_wp2_with fail
 refine HI.out.mono ?_;rintro e w1 ⟨rfl,k⟩;have K:=lH k;clear k;go_wp2;go_ret;exact⟨rfl,K.out⟩
open Go.Sort
variable {α:Type} [Inhabited α] {lt:α→α→Bool}
structure Rot (lo i j:Nat) (d d':Array α):Prop where
 size:d'.size=d.size
 fst:∀k,lo≤k→k<lo+j→d'[k]! = d[k+i]!
 snd:∀k,lo+j≤k→k<lo+i+j→d'[k]! = d[k-j]!
 out:∀k,k<lo∨lo+i+j≤k→d'[k]! = d[k]!
structure ZJ (a b n:Nat) (d d':Array α):Prop where
 size:d'.size=d.size
 fst:∀k,a≤k→k<a+n→d'[k]! = d[k+(b-a)]!
 snd:∀k,b≤k→k<b+n→d'[k]! = d[k-(b-a)]!
 out:∀k,k<a∨(a+n≤k∧k<b)∨b+n≤k→d'[k]! = d[k]!
theorem ZJ.zero (a b:Nat) (d:Array α):ZJ a b 0 d d:=⟨rfl,fun k _ _=>by omega,fun k _ _=>by omega,fun k _=>rfl⟩
theorem ZJ.step {a b n:Nat} {d dk:Array α} (h:ZJ a b n d dk) (hab:a+(n+1)≤b) (hb:b+n<d.size):ZJ a b (n+1) d (swp dk (a+n) (b+n)):=by
 have hs:=h.size;refine⟨by rw[size_swp];exact hs,fun k h1 h2=>?_,fun k h1 h2=>?_,fun k h1=>?_⟩
 · by_cases e:k=a+n
   · rw[e,swp_left _ _ _ (by omega) (by omega),h.out (b+n) (by omega)];congr 1;omega
   · rw[swp_other _ _ _ _ e (by omega)];exact h.fst k h1 (by omega)
 · by_cases e:k=b+n
   · rw[e,swp_right _ _ _ (by omega),h.out (a+n) (by omega)];congr 1;omega
   · rw[swp_other _ _ _ _ (by omega) e];exact h.snd k h1 (by omega)
 · rw[swp_other _ _ _ _ (by omega) (by omega)];exact h.out k (by omega)
theorem Rot.of_exch {lo i:Nat} {d d':Array α} (h:ZJ lo (lo+i) i d d'):Rot lo i i d d' :=
 ⟨h.size,fun k h1 h2=>by rw[h.fst k h1 h2];congr 1;omega,fun k h1 h2=>by rw[h.snd k h1 (by omega)];congr 1;omega,fun k h1=>h.out k (by omega)⟩
theorem Rot.big {lo i j:Nat} {d d1 d':Array α} (hij:j<i) (h:ZJ lo (lo+i) j d d1) (g:Rot (lo+j) (i-j) j d1 d'):Rot lo i j d d':=by
 refine⟨g.size.trans h.size,fun k h1 h2=>?_,fun k h1 h2=>?_,fun k h1=>?_⟩
 · rw[g.out k (by omega),h.fst k h1 h2];congr 1;omega
 · by_cases e:k<lo+j+j
   · rw[g.fst k (by omega) e,h.snd _ (by omega) (by omega)];congr 1;omega
   · rw[g.snd k (by omega) (by omega),h.out _ (by omega)]
 · rw[g.out k (by omega),h.out k (by omega)]
theorem Rot.small {lo i j:Nat} {d d1 d':Array α} (hij:i<j) (h:ZJ lo (lo+j) i d d1) (g:Rot lo i (j-i) d1 d'):Rot lo i j d d':=by
 refine⟨g.size.trans h.size,fun k h1 h2=>?_,fun k h1 h2=>?_,fun k h1=>?_⟩
 · by_cases e:k<lo+(j-i)
   · rw[g.fst k h1 e,h.out _ (by omega)]
   · rw[g.snd k (by omega) (by omega),h.fst _ (by omega) (by omega)];congr 1;omega
 · rw[g.out k (by omega),h.snd k (by omega) (by omega)];congr 1;omega
 · rw[g.out k (by omega),h.out k (by omega)]
theorem Rot.triv {lo i j:Nat} {d:Array α} (h:i=0∨j=0):Rot lo i j d d :=
 ⟨rfl,fun k h1 h2=>by congr 1;omega,fun k h1 h2=>by congr 1;omega,fun _ _=>rfl⟩
theorem Rot.up {a n:Nat} {d dk:Array α} (h:Rot a 1 n d dk) (hs:a+n+1<d.size):Rot a 1 (n+1) d (swp dk (a+n) (a+n+1)):=by
 have hz:=h.size;refine⟨by rw[size_swp];exact hz,fun k h1 h2=>?_,fun k h1 h2=>?_,fun k h1=>?_⟩
 · by_cases e:k=a+n
   · rw[e,swp_left _ _ _ (by omega) (by omega),h.out _ (by omega)]
   · rw[swp_other _ _ _ _ e (by omega)];exact h.fst k h1 (by omega)
 · have e:k=a+n+1:=by omega
   rw[e,swp_right _ _ _ (by omega),h.snd _ (by omega) (by omega)];congr 1;omega
 · rw[swp_other _ _ _ _ (by omega) (by omega)];exact h.out k (by omega)
theorem Rot.down {k n:Nat} {d dk:Array α} (h:Rot (k+1) n 1 d dk) (hs:k+1+n<d.size):Rot k (n+1) 1 d (swp dk (k+1) k):=by
 have hz:=h.size;refine⟨by rw[size_swp];exact hz,fun x h1 h2=>?_,fun x h1 h2=>?_,fun x h1=>?_⟩
 · have e:x=k:=by omega
   rw[e,swp_right _ _ _ (by omega),h.fst _ (by omega) (by omega)];congr 1;omega
 · by_cases e:x=k+1
   · rw[e,swp_left _ _ _ (by omega) (by omega),h.out _ (by omega)];congr 1
   · rw[swp_other _ _ _ _ e (by omega)];exact h.snd x (by omega) (by omega)
 · rw[swp_other _ _ _ _ (by omega) (by omega)];exact h.out x (by omega)
theorem qW {β:Type} {lt:β→β→Bool} (hS:SWO lt) {x y:β} (h:lt x y=true):lt y x=false:=by
 cases g:lt y x
 · rfl
 · have:=hS.trans _ _ _ h g;rw[hS.irrefl] at this;cases this
theorem JY (hS:SWO lt) {a b:Nat} {d:Array α} (h:SortedIn lt a b d) {i j:Nat} (h1:a≤i) (h2:i≤j) (h3:j<b):lt d[j]! d[i]! = false:=by
 rcases Nat.lt_or_eq_of_le h2 with g | g
 · exact h i j h1 g h3
 · rw[g];exact hS.irrefl _
theorem jkl (hS:SWO lt) {a b n:Nat} {d d':Array α} (hr:Rot a 1 n d d') (hn:a+1+n≤b) (hs:SortedIn lt (a+1) b d)
 (h1:n=0∨lt d[a+n]! d[a]! = true) (h2:a+1+n=b∨lt d[a+1+n]! d[a]! = false):SortedIn lt a b d':=by
 intro x y hx hxy hy;have lo:∀k,a+1≤k→k≤a+n→lt d[a]! d[k]! = false:=fun k g1 g2=>by
  rcases h1 with h1 | h1
  · omega
  · exact hS.ntrans _ _ _ (qW hS h1) (JY hS hs g1 g2 (by omega))
 have hi:∀k,a+1+n≤k→k<b→lt d[k]! d[a]! = false:=fun k g1 g2=>by
  rcases h2 with h2 | h2
  · omega
  · exact hS.ntrans _ _ _ (JY hS hs (by omega) g1 g2) h2
 rcases Nat.lt_trichotomy x (a+n) with c | c | c
 · rw[hr.fst x hx c];rcases Nat.lt_trichotomy y (a+n) with e | e | e
   · rw[hr.fst y (by omega) e];exact hs _ _ (by omega) (by omega) (by omega)
   · rw[e,hr.snd (a+n) (by omega) (by omega),show a+n-n=a from by omega];exact lo _ (by omega) (by omega)
   · rw[hr.out y (by omega)];exact hs _ _ (by omega) (by omega) hy
 · rw[c,hr.snd (a+n) (by omega) (by omega),show a+n-n=a from by omega,hr.out y (by omega)];exact hi y (by omega) hy
 · rw[hr.out x (by omega),hr.out y (by omega)];exact hs _ _ (by omega) hxy hy
theorem jjh (hS:SWO lt) {a i n:Nat} {d d':Array α} (hr:Rot i n 1 d d') (ha:a≤i) (hs:SortedIn lt a (i+n) d)
 (h1:i=a∨lt d[i+n]! d[i-1]! = false) (h2:n=0∨lt d[i+n]! d[i]! = true):SortedIn lt a (i+n+1) d':=by
 intro x y hx hxy hy;have lo:∀k,a≤k→k<i→lt d[i+n]! d[k]! = false:=fun k g1 g2=>by
  rcases h1 with h1 | h1
  · omega
  · exact hS.ntrans _ _ _ h1 (JY hS hs g1 (by omega) (by omega))
 have hi:∀k,i≤k→k<i+n→lt d[k]! d[i+n]! = false:=fun k g1 g2=>by
  rcases h2 with h2 | h2
  · omega
  · exact hS.ntrans _ _ _ (JY hS hs (by omega) g1 g2) (qW hS h2)
 have ei:d'[i]! = d[i+n]!:=hr.fst i (by omega) (by omega);rcases Nat.lt_trichotomy x i with c | c | c
 · rw[hr.out x (by omega)];rcases Nat.lt_trichotomy y i with e | e | e
   · rw[hr.out y (by omega)];exact hs _ _ hx hxy (by omega)
   · rw[e,ei];exact lo x hx c
   · rw[hr.snd y (by omega) (by omega)];exact hs _ _ hx (by omega) (by omega)
 · rw[c,ei,hr.snd y (by omega) (by omega)];exact hi _ (by omega) (by omega)
 · rw[hr.snd x (by omega) (by omega),hr.snd y (by omega) (by omega)];exact hs _ _ (by omega) (by omega) (by omega)
structure Found (lt:α→α→Bool) (a m b mid s:Nat) (d:Array α):Prop where
 am:a<m
 mb:m<b
 mida:a<mid
 midb:mid<b
 sa:a≤s
 sm:s≤m
 sd:s≤mid
 em:m≤mid+m-s
 eb:mid+m-s≤b
 low:s=a∨mid+m-s=b∨lt d[mid+m-s]! d[s-1]! = false
 high:s=m∨s=mid∨lt d[mid+m-1-s]! d[s]! = true
variable {a m b mid s:Nat} {d d1:Array α}
theorem Found.parts (h:Found lt a m b mid s d) (hr:Rot s (m-s) (mid-s) d d1) (h1:SortedIn lt a m d) (h2:SortedIn lt m b d) :
 SortedIn lt a s d1∧SortedIn lt s mid d1∧SortedIn lt mid (mid+m-s) d1∧SortedIn lt (mid+m-s) b d1:=by
 obtain⟨q1,q2,q3,q4,q5,q6,q7,q8,q9,_,_⟩:=h;refine⟨fun x y hx hxy hy=>?_,fun x y hx hxy hy=>?_,fun x y hx hxy hy=>?_,fun x y hx hxy hy=>?_⟩
 · rw[hr.out x (by omega),hr.out y (by omega)];exact h1 _ _ hx hxy (by omega)
 · rw[hr.fst x hx (by omega),hr.fst y (by omega) (by omega)];exact h2 _ _ (by omega) (by omega) (by omega)
 · rw[hr.snd x (by omega) (by omega),hr.snd y (by omega) (by omega)];exact h1 _ _ (by omega) (by omega) (by omega)
 · rw[hr.out x (by omega),hr.out y (by omega)];exact h2 _ _ (by omega) hxy hy
theorem Found.cross (hS:SWO lt) (h:Found lt a m b mid s d) (hr:Rot s (m-s) (mid-s) d d1) (h1:SortedIn lt a m d) (h2:SortedIn lt m b d) :
 ∀x y,a≤x→x<mid→mid≤y→y<b→lt d1[y]! d1[x]! = false:=by
 obtain⟨q1,q2,q3,q4,q5,q6,q7,q8,q9,low,high⟩:=h;intro x y hx hx2 hy hy2;by_cases cx:x<s
 · rw[hr.out x (by omega)];by_cases cy:y<mid+m-s
   · rw[hr.snd y (by omega) (by omega)];exact h1 _ _ hx (by omega) (by omega)
   · rw[hr.out y (by omega)];rcases low with l | l | l
     · omega
     · omega
     · exact hS.ntrans _ _ _ (hS.ntrans _ _ _ (JY hS h2 (by omega) (by omega) hy2) l) (JY hS h1 hx (by omega) (by omega))
 · rw[hr.fst x (by omega) (by omega)];by_cases cy:y<mid+m-s
   · rw[hr.snd y (by omega) (by omega)];rcases high with l | l | l
     · omega
     · omega
     · exact hS.ntrans _ _ _ (hS.ntrans _ _ _ (JY hS h1 (show a≤s by omega) (show s≤y-(mid-s) by omega) (by omega)) (qW hS l)) (JY hS h2 (by omega) (by omega) (by omega))
   · rw[hr.out y (by omega)];exact h2 _ _ (by omega) (by omega) hy2
theorem XW {d2 d3:Array α} (hb:b≤d1.size) (hmb:mid≤b) (p1:PermIn a mid d1 d2) (s1:SortedIn lt a mid d2) (p2:PermIn mid b d2 d3) (s2:SortedIn lt mid b d3)
 (cross:∀x y,a≤x→x<mid→mid≤y→y<b→lt d1[y]! d1[x]! = false):SortedIn lt a b d3:=by
 have c1:∀y,mid≤y→y<b→∀x,a≤x→x<mid→lt d1[y]! d2[x]! = false:=fun y g1 g2 =>
  permIn_all d1 d2 a mid (fun v=>lt d1[y]! v=false) (by omega) p1 (fun x g3 g4=>cross x y g3 g4 g1 g2)
 have c2:∀x,a≤x→x<mid→∀y,mid≤y→y<b→lt d3[y]! d2[x]! = false:=fun x g1 g2 =>
  permIn_all d2 d3 mid b (fun v=>lt v d2[x]! = false) (by rw[p1.1];exact hb) p2 (fun y g3 g4=>by rw[p1.2.1 y (by omega)];exact c1 y g3 g4 x g1 g2)
 intro x y hx hxy hy;by_cases cx:x<mid
 · rw[p2.2.1 x (by omega)];by_cases cy:y<mid
   · rw[p2.2.1 y (by omega)];exact s1 x y hx hxy cy
   · exact c2 x hx cx y (by omega) hy
 · exact s2 x y (by omega) hxy hy
end Go.Proofs.YtokdjfoalkmhiaaGreat
namespace Go.Proofs.YtokdjfoalkmhiaaGreat
open Go.RowKit Go.Shelf Go.Lib Go.Sort
structure ZP (P:Program) (kE:Nat):Prop where
 mixed:P.follows .mixedOrders=true
 fSwap:P.funcs[224]?=some Tryz.f224
 fRot:P.funcs[192]?=some Tryz.f192
 fMrg:P.funcs[133]?=some Tryz.f133
 fIns:P.funcs[132]?=some Tryz.f132
 fStb:P.funcs[73]?=some Tryz.f73
 t0:P.underlying 0=Tryz.prog.underlying 0
 a0:∀w,(isAgg 0).run P w=.ok false w
 z0:∀w,(Go.sizeOf 0).run P w=.ok 1 w
 t3:P.underlying 3=Tryz.prog.underlying 3
 a3:∀w,(isAgg 3).run P w=.ok false w
 z3:∀w,(Go.sizeOf 3).run P w=.ok 1 w
 t4:P.underlying 4=Tryz.prog.underlying 4
 a4:∀w,(isAgg 4).run P w=.ok false w
 z4:∀w,(Go.sizeOf 4).run P w=.ok 1 w
 t39:P.underlying 258=Tryz.prog.underlying 258
 a39:∀w,(isAgg 258).run P w=.ok false w
 z39:∀w,(Go.sizeOf 258).run P w=.ok 1 w
 t22:P.underlying 23=Tryz.prog.underlying 23
 a22:∀w,(isAgg 23).run P w=.ok false w
 z22:∀w,(Go.sizeOf 23).run P w=.ok 1 w
 t25:P.underlying 76=Tryz.prog.underlying 76
 a25:∀w,(isAgg 76).run P w=.ok false w
 z25:∀w,(Go.sizeOf 76).run P w=.ok 1 w
 v0:∀w,(zeroValue 0).run P w=.ok (Value.tuple #[]) w
 v3:∀w,(zeroValue 3).run P w=.ok (Value.int IntKind.i64 0) w
 v4:∀w,(zeroValue 4).run P w=.ok (Value.bool false) w
 aE:∀w,(isAgg 44).run P w=.ok true w
 zE:∀w,(Go.sizeOf 44).run P w=.ok kE w
theorem jis:ZP Tryz.prog 11 where
 mixed:=by kernel_rfl
 fSwap:=Tryz.func224
 fRot:=Tryz.func192
 fMrg:=Tryz.func133
 fIns:=Tryz.func132
 fStb:=Tryz.func73
 t0:=rfl
 a0:=Tryz.isAgg0
 z0:=Tryz.sizeOf0
 t3:=rfl
 a3:=Tryz.isAgg3
 z3:=Tryz.sizeOf3
 t4:=rfl
 a4:=Tryz.isAgg4
 z4:=Tryz.sizeOf4
 t39:=rfl
 a39:=Tryz.isAgg258
 z39:=Tryz.sizeOf258
 t22:=rfl
 a22:=Tryz.isAgg23
 z22:=Tryz.sizeOf23
 t25:=rfl
 a25:=Tryz.isAgg76
 z25:=Tryz.sizeOf76
 v0:=Tryz.zeroValue0
 v3:=Tryz.zeroValue3
 v4:=Tryz.zeroValue4
 aE:=Tryz.isAgg44
 zE:=Tryz.sizeOf44
theorem jcw {α:Type} [Inhabited α] {P:Program} {kE:Nat} (L:ZP P kE) (enc:α→List Value) (w0:World) (blk off cap a b n:Nat) (d0 d:Array α) (w:World) (R:RowK enc kE w0 blk off d0) (hs:d0.size=d.size) (S:SWK enc kE w0 blk off d w) (hab:a+n≤b) (hb:b+n≤d.size) (hsz:d.size<4611686018427387904) (cmp:Value) :
 Calls P 224 #[.slice (some ⟨blk,off,none⟩) d.size cap,.int .i64 a,.int .i64 b,.int .i64 n,cmp] w
  fun e w'=>e=.returned (.tuple #[])∧∃d',ZJ a b n d d'∧PermIn a (b+n) d d'∧SWK enc kE w0 blk off d' w':=by
 have mixed:=L.mixed;have t0:=L.t0.trans Tryz.underlying0;have a0:=L.a0;have z0:=L.z0;have t3:=L.t3.trans Tryz.underlying3;have a3:=L.a3;have z3:=L.z3;have t4:=L.t4.trans Tryz.underlying4;have a4:=L.a4;have z4:=L.z4;have t39:=L.t39.trans Tryz.underlying258;have a39:=L.a39;have z39:=L.z39;have t22:=L.t22.trans Tryz.underlying23;have a22:=L.a22;have z22:=L.z22;have t25:=L.t25.trans Tryz.underlying76;have a25:=L.a25;have z25:=L.z25;have v0:=L.v0;have v3:=L.v3;have v4:=L.v4;have aE:=L.aE;have zE:=L.zE;have u22:=run_underlying t22;have eSwap:∀args w,(callFunc 224 args).run P w=.ok (.enter 224 args) w:=enters_of L.fSwap (by kernel_rfl) rfl;have eRot:∀args w,(callFunc 192 args).run P w=.ok (.enter 192 args) w:=enters_of L.fRot (by kernel_rfl) rfl;have eMrg:∀args w,(callFunc 133 args).run P w=.ok (.enter 133 args) w:=enters_of L.fMrg (by kernel_rfl) rfl;have eIns:∀args w,(callFunc 132 args).run P w=.ok (.enter 132 args) w:=enters_of L.fIns (by kernel_rfl) rfl;have eStb:∀args w,(callFunc 73 args).run P w=.ok (.enter 73 args) w:=enters_of L.fStb (by kernel_rfl) rfl;have HR:Aside _:=R;have S0:Aside (SWK enc kE w0 blk off d w):=S;clear S R;go_enter L.fSwap,Tryz.ntmps224;go_wp2;go_loopg [10] n (fun g1 vi wr=>∃(i:Nat) (dk:Array α),vi=.int .i64 i∧i≤n∧n-i≤g1∧dk.size=d.size∧Aside (SWK enc kE w0 blk off dk wr)∧Hid (ZJ a b i d dk∧PermIn a (b+n) d dk))
 case atStart=>exact⟨0,d,by go_num,by omega,by omega,rfl,S0,ZJ.zero _ _ _,permIn_refl _ _ _⟩
 case round =>
  clear S0;obtain⟨i,dk,rfl,hi,hg1,hsk,S1,HX⟩:=hrel;by_cases hlt:i<n
  · have hltz:(i:Int)<(n:Int):=by omega
    obtain⟨iN,hiN⟩:∃q,q=a+i:=⟨_,rfl⟩
    obtain⟨jN,hjN⟩:∃q,q=b+i:=⟨_,rfl⟩
    have ea:((a:Int)+(i:Int)).toNat=iN:=by omega
    have pa:(0:Int)≤(a:Int)+(i:Int):=by omega
    have ba:(a:Int)+(i:Int)<(d.size:Int):=by omega
    have ra:IntKind.i64.wrap ((a:Int)+(i:Int))=(a:Int)+(i:Int):=by rw[IntKind.wrap_i64];omega
    have ec:((b:Int)+(i:Int)).toNat=jN:=by omega
    have pc:(0:Int)≤(b:Int)+(i:Int):=by omega
    have bc:(b:Int)+(i:Int)<(d.size:Int):=by omega
    have rc:IntKind.i64.wrap ((b:Int)+(i:Int))=(b:Int)+(i:Int):=by rw[IntKind.wrap_i64];omega
    have S3:Aside (SWK enc kE w0 blk off (swp dk (iN) (jN)) ((wr.drew.setCells blk (off+(iN)*kE) (enc dk[jN]!)).setCells blk (off+(jN)*kE) (enc dk[iN]!))):=S1.out.swapped HR.out (iN) (jN) (by omega) (by omega);have lA:=S1.out.ld1 HR.out (by omega) P (iN) (by omega);have lB:=S1.out.ld1 HR.out (by omega) P (jN) (by omega);have sA:=S1.out.st1 HR.out (by omega) P (iN) (by omega) dk[jN]!;have sB:=S1.out.st2 HR.out (by omega) P (iN) (jN) (by omega) (by omega) dk[jN]! dk[iN]!;have nA:(enc dk[iN]!).length=kE:=HR.out.hk _;have nB:(enc dk[jN]!).length=kE:=HR.out.hk _;generalize enc dk[iN]! = cI at S3 lA sB nA
    generalize enc dk[jN]! = cJ at S3 lB sA sB nB
    have Ux:Hid (ZJ a b (i+1) d (swp dk iN jN)∧PermIn a (b+n) d (swp dk iN jN)):=by
     rw[hiN,hjN];exact⟨HX.out.1.step (by omega) (by omega),permIn_trans _ _ _ _ _ HX.out.2 (swp_permIn dk a (b+n) (a+i) (b+i) (by omega) (by omega) (by omega) (by omega) (by omega))⟩
    clear S1 hiN hjN;go_wp2_with fail
    go_big_region_o
    clear lA lB sA sB;generalize (wr.drew.setCells blk (off+(iN)*kE) cJ).setCells blk (off+(jN)*kE) cI=w3 at S3 ⊢
    clear ea ec;go_wp2;go_roundg (n-(i+1))
    case measure=>omega
    case rel=>exact⟨i+1,swp dk iN jN,by go_num,by omega,Nat.le_refl _,by rw[size_swp];exact hsk,S3,Ux⟩
  · have hltz:¬(i:Int)<(n:Int):=by omega
    have hin:i=n:=by omega
    subst hin;go_wp2;go_end0
    exact⟨rfl,dk,HX.out.1,HX.out.2,S1.out⟩
end Go.Proofs.YtokdjfoalkmhiaaGreat
