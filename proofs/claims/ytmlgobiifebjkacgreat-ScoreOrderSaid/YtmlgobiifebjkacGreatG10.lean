/- What serves all packages,and package by package the contracts of the functions that the law calls. -/
import Derived.Test.YtmlgobiifebjkacGreatG1
import Derived.Test.YtmlgobiifebjkacGreatG2
import Derived.Test.YtmlgobiifebjkacGreatG3
import Derived.Test.YtmlgobiifebjkacGreatG4
import Derived.Test.YtmlgobiifebjkacGreatG5
import Derived.Test.YtmlgobiifebjkacGreatG9
set_option linter.unusedVariables false
set_option maxRecDepth 100000
set_option maxHeartbeats 25600000
namespace Go.Proofs.YtmlgobiifebjkacGreat
open Go.RowKit
theorem CluR.nAt {w:World} {v2 v3:Value} {b:Option Addr} {m cp:Nat} {s:Clu} (h:CluR w (CluV (.slice b m cp) v2 v3) s):NodesAt w b m s.nodes∧m=s.nodes.length:=by
 obtain⟨_,_,_,e,g0⟩:=h
 cases e
 obtain⟨a',cap',e,_,_,h⟩:=g0.nodes
 cases e
 exact⟨h,rfl⟩
theorem CluR.pAt {w:World} {v1 v3:Value} {b:Option Addr} {m cp:Nat} {s:Clu} (h:CluR w (CluV v1 (.slice b m cp) v3) s):PodsAt w b m s.pods∧m=s.pods.length:=by
 obtain⟨_,_,_,e,g0⟩:=h
 cases e
 obtain⟨a',cap',e,_,_,h⟩:=g0.pods
 cases e
 exact⟨h,rfl⟩
theorem isWanted_any (p:Pd) (n:Nod) (a1 a2 a3 a4:Option Addr) (m1 c1 m2 c2 m3 c3 m4 c4:Nat) (b1 b2 b3:Option Addr) (k1 d1 k2 d2 k3 d3:Nat) (w:World) (hp:PodAt w (.slice a1 m1 c1) (.slice a2 m2 c2) (.slice a3 m3 c3) (.slice a4 m4 c4) p) (hn:NodAt w (.slice b1 k1 d1) (.slice b2 k2 d2) (.slice b3 k3 d3) n):Calls Tryz.prog 108 #[PodV p (.slice a1 m1 c1) (.slice a2 m2 c2) (.slice a3 m3 c3) (.slice a4 m4 c4),NodV n (.slice b1 k1 d1) (.slice b2 k2 d2) (.slice b3 k3 d3)] w (Say (.bool (wantedB p n)) w):=by
 obtain⟨t,ht⟩:∃t,matchT p.sel n.labels=t:=⟨_,rfl⟩
 have HM0:=lH (fun (W:World) (k:Kept w W)=>matchR (hp.sel.kept k) (hn.labels.kept k) ht);obtain⟨cd,hcd⟩:∃t,n.cordon=t:=⟨_,rfl⟩
 have HV:=lH (show wantedB p n=(!cd&&t) by unfold wantedB;rw[ht,hcd]);clear ht;obtain⟨Z,hZ⟩:∃Z,(w.alloc (.cells #[.string p.name,.string p.owner,.int .i64 p.prio,.slice a1 m1 c1,.slice a2 m2 c2,.slice a3 m3 c3,.slice a4 m4 c4,.string p.key,.int .i64 p.most,.string p.node,.bool p.hold] 35)).alloc (.cells #[.string n.name,.slice b1 k1 d1,.slice b2 k2 d2,.slice b3 k3 d3,.bool cd] 55)=Z:=⟨_,rfl⟩
 have hkz:Kept w Z:=by rw[←hZ];exact kept_two _ _ _
 have HB1:=lH (freshN w (.string p.name) [.string p.owner,.int .i64 p.prio,.slice a1 m1 c1,.slice a2 m2 c2,.slice a3 m3 c3,.slice a4 m4 c4,.string p.key,.int .i64 p.most,.string p.node,.bool p.hold] 35 Z (by rw[←hZ];exact kept_alloc _ _));have HB2:=lH (show CellsN (w.heap.size+1) [.string n.name,.slice b1 k1 d1,.slice b2 k2 d2,.slice b3 k3 d3,.bool cd] Z by
  have dd:=freshN (w.alloc (.cells #[.string p.name,.string p.owner,.int .i64 p.prio,.slice a1 m1 c1,.slice a2 m2 c2,.slice a3 m3 c3,.slice a4 m4 c4,.string p.key,.int .i64 p.most,.string p.node,.bool p.hold] 35)) (.string n.name) [.slice b1 k1 d1,.slice b2 k2 d2,.slice b3 k3 d3,.bool cd] 55 Z (by rw[hZ];exact Kept.refl _);rw[World.size_alloc] at dd;exact dd)
 have K:=lH hkz;have HM:=lH (HM0.out Z hkz);clear HM0 hp hn hkz;have r5:=HB1.out.at_ 5 _ rfl;have q2:=HB2.out.at_ 2 _ rfl;have q4:=HB2.out.at_ 4 _ rfl;unfold PodV NodV;rw[hcd];clear hcd;go_enter Tryz.func108,Tryz.ntmps108
 cases cd with
 | true =>
  go_wp2;try rw[hZ]
  go_ret;exact⟨ret_bool (by rw[HV.out];rfl),by first | exact K.out | (rw[hZ];exact K.out)⟩
 | false =>
  go_wp2_with fail
  try rw[hZ]
  refine HM.out.mono ?_;rintro e w1 ⟨rfl,kk⟩;have K:=lH (K.out.trans kk);clear kk hZ;go_wp2;go_ret;exact⟨ret_bool (by rw[HV.out];rfl),K.out⟩
theorem isBorne_any (p:Pd) (n:Nod) (a1 a2 a3 a4:Option Addr) (m1 c1 m2 c2 m3 c3 m4 c4:Nat) (b1 b2 b3:Option Addr) (k1 d1 k2 d2 k3 d3:Nat) (w:World) (hp:PodAt w (.slice a1 m1 c1) (.slice a2 m2 c2) (.slice a3 m3 c3) (.slice a4 m4 c4) p) (hn:NodAt w (.slice b1 k1 d1) (.slice b2 k2 d2) (.slice b3 k3 d3) n):Calls Tryz.prog 109 #[PodV p (.slice a1 m1 c1) (.slice a2 m2 c2) (.slice a3 m3 c3) (.slice a4 m4 c4),NodV n (.slice b1 k1 d1) (.slice b2 k2 d2) (.slice b3 k3 d3)] w (Say (.bool (borneB p n)) w):=by
 obtain⟨t,ht⟩:∃t,(worstN p.tols n.taints).isSome=t:=⟨_,rfl⟩
 obtain⟨⟨x,y,mm⟩,hx⟩:∃x,wT (worstN p.tols n.taints)=x:=⟨_,rfl⟩
 have HM0:=lH (fun (W:World) (k:Kept w W)=>worstR (hp.tols.kept k) (hn.taints.kept k) hx ht);have HV:=lH (show borneB p n=(!t) by unfold borneB;rw[ht]);clear ht hx;obtain⟨Z,hZ⟩:∃Z,(w.alloc (.cells #[.string p.name,.string p.owner,.int .i64 p.prio,.slice a1 m1 c1,.slice a2 m2 c2,.slice a3 m3 c3,.slice a4 m4 c4,.string p.key,.int .i64 p.most,.string p.node,.bool p.hold] 35)).alloc (.cells #[.string n.name,.slice b1 k1 d1,.slice b2 k2 d2,.slice b3 k3 d3,.bool n.cordon] 55)=Z:=⟨_,rfl⟩
 have hkz:Kept w Z:=by rw[←hZ];exact kept_two _ _ _
 have HB1:=lH (freshN w (.string p.name) [.string p.owner,.int .i64 p.prio,.slice a1 m1 c1,.slice a2 m2 c2,.slice a3 m3 c3,.slice a4 m4 c4,.string p.key,.int .i64 p.most,.string p.node,.bool p.hold] 35 Z (by rw[←hZ];exact kept_alloc _ _));have HB2:=lH (show CellsN (w.heap.size+1) [.string n.name,.slice b1 k1 d1,.slice b2 k2 d2,.slice b3 k3 d3,.bool n.cordon] Z by
  have dd:=freshN (w.alloc (.cells #[.string p.name,.string p.owner,.int .i64 p.prio,.slice a1 m1 c1,.slice a2 m2 c2,.slice a3 m3 c3,.slice a4 m4 c4,.string p.key,.int .i64 p.most,.string p.node,.bool p.hold] 35)) (.string n.name) [.slice b1 k1 d1,.slice b2 k2 d2,.slice b3 k3 d3,.bool n.cordon] 55 Z (by rw[hZ];exact Kept.refl _);rw[World.size_alloc] at dd;exact dd)
 have K:=lH hkz;have HM:=lH (HM0.out Z hkz);clear HM0 hp hn hkz;have r6:=HB1.out.at_ 6 _ rfl;have q3:=HB2.out.at_ 3 _ rfl;unfold PodV NodV;go_enter Tryz.func109,Tryz.ntmps109;go_wp2_with fail
 try rw[hZ]
 refine HM.out.mono ?_;rintro e w1 ⟨rfl,kk⟩;have K:=lH (K.out.trans kk);clear kk hZ;go_wp2;go_ret;exact⟨ret_bool (by rw[HV.out]),K.out.trans (kept_alloc _ _)⟩
theorem isCrowded_any (s1 s2 s3:Option Addr) (n1 e1 n2 e2 n3 e3:Nat) (a1 a2 a3 a4:Option Addr) (m1 c1 m2 c2 m3 c3 m4 c4:Nat) (p:Pd) (s:Clu) (name:ByteArray) (w:World) (hs:CluR w (CluV (.slice s1 n1 e1) (.slice s2 n2 e2) (.slice s3 n3 e3)) s) (hl:LowClu s):Calls Tryz.prog 110 #[.agg #[.slice s1 n1 e1,.slice s2 n2 e2,.slice s3 n3 e3],PodV p (.slice a1 m1 c1) (.slice a2 m2 c2) (.slice a3 m3 c3) (.slice a4 m4 c4),.string name] w (Say (.bool (crowdB s p name)) w):=by
 have hn1:=hs.nAt.2;have hn2:=hs.pAt.2;have g1:=hl.nodesN;have g2:=hl.podsN;obtain⟨Z,hZ⟩:∃Z,(w.alloc (.cells #[.slice s1 n1 e1,.slice s2 n2 e2,.slice s3 n3 e3] 26)).alloc (.cells #[.string p.name,.string p.owner,.int .i64 p.prio,.slice a1 m1 c1,.slice a2 m2 c2,.slice a3 m3 c3,.slice a4 m4 c4,.string p.key,.int .i64 p.most,.string p.node,.bool p.hold] 35)=Z:=⟨_,rfl⟩
 have hkz:Kept w Z:=by rw[←hZ];exact kept_two _ _ _
 have HB1:=lH (freshN w (.slice s1 n1 e1) [.slice s2 n2 e2,.slice s3 n3 e3] 26 Z (by rw[←hZ];exact kept_alloc _ _));have HB2:=lH (show CellsN (w.heap.size+1) [.string p.name,.string p.owner,.int .i64 p.prio,.slice a1 m1 c1,.slice a2 m2 c2,.slice a3 m3 c3,.slice a4 m4 c4,.string p.key,.int .i64 p.most,.string p.node,.bool p.hold] Z by
  have dd:=freshN (w.alloc (.cells #[.slice s1 n1 e1,.slice s2 n2 e2,.slice s3 n3 e3] 26)) (.string p.name) [.string p.owner,.int .i64 p.prio,.slice a1 m1 c1,.slice a2 m2 c2,.slice a3 m3 c3,.slice a4 m4 c4,.string p.key,.int .i64 p.most,.string p.node,.bool p.hold] 35 Z (by rw[hZ];exact Kept.refl _);rw[World.size_alloc] at dd;exact dd)
 have K:=lH hkz;have HS:=lH (skew_any s1 s2 s3 a1 a2 a3 a4 n1 e1 n2 e2 n3 e3 m1 c1 m2 c2 m3 c3 m4 c4 p s name Z (hs.nAt.1.kept hkz) (hs.pAt.1.kept hkz) (by omega) (by omega));clear hs hkz hl hn1 hn2 g1 g2;obtain⟨t7,h7⟩:∃t,(p.key.toList==([]:List UInt8))=t:=⟨_,rfl⟩
 have H7:=lH (show isNo p.key=t7 by rw[no_iff,h7]);have y0:=HB1.out.at_ 0 _ rfl;have y1:=HB1.out.at_ 1 _ rfl;have y2:=HB1.out.at_ 2 _ rfl;have r0:=HB2.out.at_ 0 _ rfl;have r1:=HB2.out.at_ 1 _ rfl;have r2:=HB2.out.at_ 2 _ rfl;have r3:=HB2.out.at_ 3 _ rfl;have r4:=HB2.out.at_ 4 _ rfl;have r5:=HB2.out.at_ 5 _ rfl;have r6:=HB2.out.at_ 6 _ rfl;have r7:=HB2.out.at_ 7 _ rfl;have r8:=HB2.out.at_ 8 _ rfl;have r9:=HB2.out.at_ 9 _ rfl;have r10:=HB2.out.at_ 10 _ rfl;unfold PodV at HS ⊢;go_enter Tryz.func110,Tryz.ntmps110
 cases t7 with
 | true =>
  have HV:=lH (show crowdB s p name=false by unfold crowdB;rw[if_pos H7.out]);go_wp2;try rw[hZ]
  go_ret;exact⟨ret_bool HV.out.symm,by first | exact K.out | (rw[hZ];exact K.out)⟩
 | false =>
  have HV:=lH (show crowdB s p name=(!(skewS p s name).2||decide (p.most<(skewS p s name).1)) by unfold crowdB;rw[if_neg (by rw[H7.out];decide)]);obtain⟨z,hz⟩:∃z,(skewS p s name).1=z:=⟨_,rfl⟩
  obtain⟨b,hb⟩:∃z,(skewS p s name).2=z:=⟨_,rfl⟩
  rw[hz,hb] at HS HV;clear hz hb;go_upto_region 3 with fail
  try rw[hZ]
  clear hZ;go_wp2_with fail
  refine HS.out.mono ?_;rintro e w1 ⟨rfl,kk⟩;have K:=lH (K.out.trans kk);have r8:=(HB2.out.kept kk).at_ 8 _ rfl;clear kk y0 y1 y2 r0 r1 r2 r3 r4 r5 r6 r7 r9 r10
  cases b with
  | false =>
   go_wp2;go_ret;exact⟨ret_bool (by rw[HV.out];rfl),K.out⟩
  | true =>
   by_cases hlt:p.most<z
   · have HLT:=lH hlt;go_wp2;go_ret;exact⟨ret_bool (by rw[HV.out,decide_eq_true HLT.out];rfl),K.out⟩
   · have HLT:=lH hlt;have hle:z≤p.most:=by omega
     clear hlt;go_wp2;go_ret;exact⟨ret_bool (by rw[HV.out,decide_eq_false (by have:=HLT.out;omega)];rfl),K.out⟩
theorem hasRoom_any (s1 s2 s3:Option Addr) (n1 e1 n2 e2 n3 e3:Nat) (a1 a2 a3 a4:Option Addr) (m1 c1 m2 c2 m3 c3 m4 c4:Nat) (p:Pd) (s:Clu) (name:ByteArray) (w:World) (hs:CluR w (CluV (.slice s1 n1 e1) (.slice s2 n2 e2) (.slice s3 n3 e3)) s) (hl:LowClu s) (hp:PodAt w (.slice a1 m1 c1) (.slice a2 m2 c2) (.slice a3 m3 c3) (.slice a4 m4 c4) p):Calls Tryz.prog 111 #[.agg #[.slice s1 n1 e1,.slice s2 n2 e2,.slice s3 n3 e3],PodV p (.slice a1 m1 c1) (.slice a2 m2 c2) (.slice a3 m3 c3) (.slice a4 m4 c4),.string name] w (Say (.bool (roomB s p name)) w):=by
 obtain⟨Z,hZ⟩:∃Z,(w.alloc (.cells #[.slice s1 n1 e1,.slice s2 n2 e2,.slice s3 n3 e3] 26)).alloc (.cells #[.string p.name,.string p.owner,.int .i64 p.prio,.slice a1 m1 c1,.slice a2 m2 c2,.slice a3 m3 c3,.slice a4 m4 c4,.string p.key,.int .i64 p.most,.string p.node,.bool p.hold] 35)=Z:=⟨_,rfl⟩
 have hkz:Kept w Z:=by rw[←hZ];exact kept_two _ _ _
 have HB1:=lH (freshN w (.slice s1 n1 e1) [.slice s2 n2 e2,.slice s3 n3 e3] 26 Z (by rw[←hZ];exact kept_alloc _ _));have HB2:=lH (show CellsN (w.heap.size+1) [.string p.name,.string p.owner,.int .i64 p.prio,.slice a1 m1 c1,.slice a2 m2 c2,.slice a3 m3 c3,.slice a4 m4 c4,.string p.key,.int .i64 p.most,.string p.node,.bool p.hold] Z by
  have dd:=freshN (w.alloc (.cells #[.slice s1 n1 e1,.slice s2 n2 e2,.slice s3 n3 e3] 26)) (.string p.name) [.string p.owner,.int .i64 p.prio,.slice a1 m1 c1,.slice a2 m2 c2,.slice a3 m3 c3,.slice a4 m4 c4,.string p.key,.int .i64 p.most,.string p.node,.bool p.hold] 35 Z (by rw[hZ];exact Kept.refl _);rw[World.size_alloc] at dd;exact dd)
 have K:=lH hkz;have HF:=lH (freeR (hs.kept hkz) name hl);unfold CluV at HF;have HP:=lH (hp.need.kept hkz);clear hs hkz hl hp;have y0:=HB1.out.at_ 0 _ rfl;have y1:=HB1.out.at_ 1 _ rfl;have y2:=HB1.out.at_ 2 _ rfl;unfold PodV;obtain⟨c,hc⟩:∃c,(freeSt s name).1=c:=⟨_,rfl⟩
 obtain⟨fl,hfl⟩:∃c,(freeSt s name).2=c:=⟨_,rfl⟩
 obtain⟨q,hq⟩:∃q,Vec.fitsFrom fl p.need=q:=⟨_,rfl⟩
 have HV:=lH (show roomB s p name=(decide (c=0)&&q) by unfold roomB;rw[hc,hfl,hq]);have HQ:=lH hq;go_enter Tryz.func111,Tryz.ntmps111;go_wp2_with fail
 try rw[hZ]
 refine HF.out.mono ?_;rintro e w1 ⟨y,rfl,hy,kk⟩;rw[hc];rw[hfl] at hy;have HY:=lH hy;have K:=lH (K.out.trans kk);have HP:=lH (HP.out.kept kk);have r3:=(HB2.out.kept kk).at_ 3 _ rfl;clear kk hZ hc hfl hq hy HF y0 y1 y2;by_cases h0:c=0
 · subst h0;go_wp2_with fail
   refine(Vec.fitsR HP.out HY.out HQ.out).mono ?_;rintro e w2 ⟨rfl,kk⟩;have K:=lH (K.out.trans kk);clear kk;go_wp2;go_ret;exact⟨ret_bool (by rw[HV.out];rfl),K.out⟩
 · have h0b:(c==0)=false:=by simpa using h0
   have H0:=lH h0;clear h0;go_wp2;go_ret;exact⟨ret_bool (by rw[HV.out,decide_eq_false H0.out];rfl),K.out⟩
def FitO (c:Int) (w:World) (e:Ending) (w':World):Prop:=(c=0→∃x i1 j1 l1 i2 j2 l2 i3 j3 l3 b,e=.returned (.agg #[.string x,.slice i1 j1 l1,.slice i2 j2 l2,.slice i3 j3 l3,.bool b]))∧(c≠0→e=.panicked [perr c])∧Kept w w'
theorem FitO.bad {c d:Int} {w w':World} (h:d=c) (hc:c≠0) (k:Kept w w'):FitO d w (.panicked [perr c]) w':=⟨fun g=>absurd (h.symm.trans g) hc,fun _=>by rw[h],k⟩
theorem fitting_any (s1 s2 s3:Option Addr) (n1 e1 n2 e2 n3 e3:Nat) (a1 a2 a3 a4:Option Addr) (m1 c1 m2 c2 m3 c3 m4 c4:Nat) (p:Pd) (s:Clu) (name:ByteArray) (w:World) (hs:CluR w (CluV (.slice s1 n1 e1) (.slice s2 n2 e2) (.slice s3 n3 e3)) s) (hl:LowClu s) (hp:PodAt w (.slice a1 m1 c1) (.slice a2 m2 c2) (.slice a3 m3 c3) (.slice a4 m4 c4) p):Calls Tryz.prog 74 #[.agg #[.slice s1 n1 e1,.slice s2 n2 e2,.slice s3 n3 e3],PodV p (.slice a1 m1 c1) (.slice a2 m2 c2) (.slice a3 m3 c3) (.slice a4 m4 c4),.string name] w (FitO (reasonS s p name) w):=by
 obtain⟨Y,hY⟩:∃Y,(w.alloc (.cells #[.slice s1 n1 e1,.slice s2 n2 e2,.slice s3 n3 e3] 26)).alloc (.cells #[.string p.name,.string p.owner,.int .i64 p.prio,.slice a1 m1 c1,.slice a2 m2 c2,.slice a3 m3 c3,.slice a4 m4 c4,.string p.key,.int .i64 p.most,.string p.node,.bool p.hold] 35)=Y:=⟨_,rfl⟩
 have hky:Kept w Y:=by rw[←hY];exact kept_two _ _ _
 have hys:Y.heap.size=w.heap.size+2:=by rw[←hY];simp
 have hsb:=freshN w (.slice s1 n1 e1) [.slice s2 n2 e2,.slice s3 n3 e3] 26 Y (by rw[←hY];exact kept_alloc _ _);have hpb:CellsN (w.heap.size+1) [.string p.name,.string p.owner,.int .i64 p.prio,.slice a1 m1 c1,.slice a2 m2 c2,.slice a3 m3 c3,.slice a4 m4 c4,.string p.key,.int .i64 p.most,.string p.node,.bool p.hold] Y:=by
  have dd:=freshN (w.alloc (.cells #[.slice s1 n1 e1,.slice s2 n2 e2,.slice s3 n3 e3] 26)) (.string p.name) [.string p.owner,.int .i64 p.prio,.slice a1 m1 c1,.slice a2 m2 c2,.slice a3 m3 c3,.slice a4 m4 c4,.string p.key,.int .i64 p.most,.string p.node,.bool p.hold] 35 Y (by rw[hY];exact Kept.refl _);rw[World.size_alloc] at dd;exact dd
 obtain⟨Z,hZ⟩:∃Z,Y.alloc (.cells #[.string ⟨#[]⟩,.slice none 0 0,.slice none 0 0,.slice none 0 0,.bool false] 55)=Z:=⟨_,rfl⟩
 have hkz:Kept Y Z:=by rw[←hZ];exact kept_alloc _ _
 have hnb:CellsN (w.heap.size+2) [.string ⟨#[]⟩,.slice none 0 0,.slice none 0 0,.slice none 0 0,.bool false] Z:=by
  have dd:=freshN Y (.string ⟨#[]⟩) [.slice none 0 0,.slice none 0 0,.slice none 0 0,.bool false] 55 Z (by rw[hZ];exact Kept.refl _);rw[hys] at dd;exact dd
 have hYZ:((w.alloc (.cells #[.slice s1 n1 e1,.slice s2 n2 e2,.slice s3 n3 e3] 26)).alloc (.cells #[.string p.name,.string p.owner,.int .i64 p.prio,.slice a1 m1 c1,.slice a2 m2 c2,.slice a3 m3 c3,.slice a4 m4 c4,.string p.key,.int .i64 p.most,.string p.node,.bool p.hold] 35)).alloc (.cells #[.string ⟨#[]⟩,.slice none 0 0,.slice none 0 0,.slice none 0 0,.bool false] 55)=Z:=by rw[hY];exact hZ
 have HSB:=lH (hsb.kept hkz);have HPB:=lH (hpb.kept hkz);have HNB:=lH hnb;have K:=lH (hky.trans hkz);have HSR:=lH (hs.kept (hky.trans hkz));have HPR:=lH (hp.kept (hky.trans hkz));have HL:=lH hl;have HNO:=lH (fnodeOf_any s1 s2 s3 n1 e1 n2 e2 n3 e3 s.nodes name Z ((hs.kept (hky.trans hkz)).nAt.1) (by have:=hl.nodesN;have:=hs.nAt.2;omega));clear hs hp hl hky hkz hys hsb hpb hnb hY hZ;unfold PodV;have y0:=HSB.out.at_ 0 _ rfl;have y1:=HSB.out.at_ 1 _ rfl;have y2:=HSB.out.at_ 2 _ rfl;go_enter Tryz.func74,Tryz.ntmps74;go_wp2_with fail
 try rw[hYZ]
 clear hYZ;refine HNO.out.mono ?_;rintro e w1 ⟨h1,h2,kk⟩;have K:=lH (K.out.trans kk);have HSB:=lH (HSB.out.kept kk);have HPB:=lH (HPB.out.kept kk);have HNB:=lH (HNB.out.kept kk);have HSR:=lH (HSR.out.kept kk);have HPR:=lH (HPR.out.kept kk);clear HNO y0 y1 y2
 cases ho:findN s.nodes name with
 | none =>
  obtain rfl:=h2 ho;have HE:=lH (show reasonS s p name=3 from reason_none ho);clear h1 h2 ho kk;go_wp2;exact⟨rfl,FitO.bad HE.out (by decide) K.out⟩
 | some n =>
  obtain⟨b1,k1,d1,b2,k2,d2,b3,k3,d3,rfl,hn⟩:=h1 n ho;have HE:=lH (show reasonS s p name=reasonN s p n name from reason_some ho);clear h1 h2 ho;obtain⟨w2,hw2⟩:∃W,w1.alloc (.cells #[.string n.name,.slice b1 k1 d1,.slice b2 k2 d2,.slice b3 k3 d3,.bool n.cordon] 55)=W:=⟨_,rfl⟩
  have kx:Kept w1 w2:=by rw[←hw2];exact kept_alloc _ _
  have HND:=lH (freshN w1 (.string n.name) [.slice b1 k1 d1,.slice b2 k2 d2,.slice b3 k3 d3,.bool n.cordon] 55 w2 (by rw[hw2];exact Kept.refl _));have HNR:=lH (hn.kept kx);have K:=lH (K.out.trans kx);have HSB:=lH (HSB.out.kept kx);have HPB:=lH (HPB.out.kept kx);have HNB:=lH (HNB.out.kept kx);have HSR:=lH (HSR.out.kept kx);have HPR:=lH (HPR.out.kept kx);obtain⟨gn,hgn⟩:∃g,w1.heap.size=g:=⟨_,rfl⟩
  rw[hgn] at HND;clear hn kk kx;unfold NodV;go_upto_region 2 with fail
  try rw[hw2]
  try rw[hgn]
  clear hw2 hgn;have r0:=HPB.out.at_ 0 _ rfl;have r1:=HPB.out.at_ 1 _ rfl;have r2:=HPB.out.at_ 2 _ rfl;have r3:=HPB.out.at_ 3 _ rfl;have r4:=HPB.out.at_ 4 _ rfl;have r5:=HPB.out.at_ 5 _ rfl;have r6:=HPB.out.at_ 6 _ rfl;have r7:=HPB.out.at_ 7 _ rfl;have r8:=HPB.out.at_ 8 _ rfl;have r9:=HPB.out.at_ 9 _ rfl;have r10:=HPB.out.at_ 10 _ rfl;have t0:=HND.out.at_ 0 _ rfl;have t1:=HND.out.at_ 1 _ rfl;have t2:=HND.out.at_ 2 _ rfl;have t3:=HND.out.at_ 3 _ rfl;have t4:=HND.out.at_ 4 _ rfl;obtain⟨bb,hbb⟩:∃b,wantedB p n=b:=⟨_,rfl⟩
  have HC:=lH (isWanted_any p n a1 a2 a3 a4 m1 c1 m2 c2 m3 c3 m4 c4 b1 b2 b3 k1 d1 k2 d2 k3 d3 _ HPR.out HNR.out);unfold PodV at HC;unfold NodV at HC;rw[hbb] at HC;go_wp2_with fail
  refine HC.out.mono ?_;rintro e w3 ⟨rfl,kk⟩;have HBB:=lH hbb;have HSB:=lH (HSB.out.kept kk);have HPB:=lH (HPB.out.kept kk);have HNB:=lH (HNB.out.kept kk);have HSR:=lH (HSR.out.kept kk);have HPR:=lH (HPR.out.kept kk);have HND:=lH (HND.out.kept kk);have HNR:=lH (HNR.out.kept kk);have K:=lH (K.out.trans kk);clear kk;clear hbb HC r0 r1 r2 r3 r4 r5 r6 r7 r8 r9 r10 t0 t1 t2 t3 t4
  cases bb with
  | false =>
   go_wp2_with fail
   refine(refuse_yes 8 _).mono ?_;rintro e w4 ⟨rfl,rfl⟩;go_wp2;exact⟨rfl,FitO.bad (HE.out.trans (reasonN_sel HBB.out)) (by decide) K.out⟩
  | true =>
   have HB1:=HBB;clear HBB;go_wp2_with fail
   refine(refuse_no 8 _).mono ?_;rintro e w4 ⟨rfl,rfl⟩;have r0:=HPB.out.at_ 0 _ rfl;have r1:=HPB.out.at_ 1 _ rfl;have r2:=HPB.out.at_ 2 _ rfl;have r3:=HPB.out.at_ 3 _ rfl;have r4:=HPB.out.at_ 4 _ rfl;have r5:=HPB.out.at_ 5 _ rfl;have r6:=HPB.out.at_ 6 _ rfl;have r7:=HPB.out.at_ 7 _ rfl;have r8:=HPB.out.at_ 8 _ rfl;have r9:=HPB.out.at_ 9 _ rfl;have r10:=HPB.out.at_ 10 _ rfl;have t0:=HND.out.at_ 0 _ rfl;have t1:=HND.out.at_ 1 _ rfl;have t2:=HND.out.at_ 2 _ rfl;have t3:=HND.out.at_ 3 _ rfl;have t4:=HND.out.at_ 4 _ rfl;obtain⟨bb,hbb⟩:∃b,borneB p n=b:=⟨_,rfl⟩
   have HC:=lH (isBorne_any p n a1 a2 a3 a4 m1 c1 m2 c2 m3 c3 m4 c4 b1 b2 b3 k1 d1 k2 d2 k3 d3 _ HPR.out HNR.out);unfold PodV at HC;unfold NodV at HC;rw[hbb] at HC;go_wp2_with fail
   refine HC.out.mono ?_;rintro e w3 ⟨rfl,kk⟩;have HBB:=lH hbb;have HSB:=lH (HSB.out.kept kk);have HPB:=lH (HPB.out.kept kk);have HNB:=lH (HNB.out.kept kk);have HSR:=lH (HSR.out.kept kk);have HPR:=lH (HPR.out.kept kk);have HND:=lH (HND.out.kept kk);have HNR:=lH (HNR.out.kept kk);have K:=lH (K.out.trans kk);clear kk;clear hbb HC r0 r1 r2 r3 r4 r5 r6 r7 r8 r9 r10 t0 t1 t2 t3 t4
   cases bb with
   | false =>
    go_wp2_with fail
    refine(refuse_yes 9 _).mono ?_;rintro e w4 ⟨rfl,rfl⟩;go_wp2;exact⟨rfl,FitO.bad (HE.out.trans (reasonN_taint HB1.out HBB.out)) (by decide) K.out⟩
   | true =>
    have HB2:=HBB;clear HBB;go_wp2_with fail
    refine(refuse_no 9 _).mono ?_;rintro e w4 ⟨rfl,rfl⟩;have y0:=HSB.out.at_ 0 _ rfl;have y1:=HSB.out.at_ 1 _ rfl;have y2:=HSB.out.at_ 2 _ rfl;have r0:=HPB.out.at_ 0 _ rfl;have r1:=HPB.out.at_ 1 _ rfl;have r2:=HPB.out.at_ 2 _ rfl;have r3:=HPB.out.at_ 3 _ rfl;have r4:=HPB.out.at_ 4 _ rfl;have r5:=HPB.out.at_ 5 _ rfl;have r6:=HPB.out.at_ 6 _ rfl;have r7:=HPB.out.at_ 7 _ rfl;have r8:=HPB.out.at_ 8 _ rfl;have r9:=HPB.out.at_ 9 _ rfl;have r10:=HPB.out.at_ 10 _ rfl;obtain⟨bb,hbb⟩:∃b,crowdB s p name=b:=⟨_,rfl⟩
    have HC:=lH (isCrowded_any s1 s2 s3 n1 e1 n2 e2 n3 e3 a1 a2 a3 a4 m1 c1 m2 c2 m3 c3 m4 c4 p s name _ HSR.out HL.out);unfold PodV at HC;rw[hbb] at HC;go_wp2_with fail
    refine HC.out.mono ?_;rintro e w3 ⟨rfl,kk⟩;have HBB:=lH hbb;have HSB:=lH (HSB.out.kept kk);have HPB:=lH (HPB.out.kept kk);have HNB:=lH (HNB.out.kept kk);have HSR:=lH (HSR.out.kept kk);have HPR:=lH (HPR.out.kept kk);have HND:=lH (HND.out.kept kk);have HNR:=lH (HNR.out.kept kk);have K:=lH (K.out.trans kk);clear kk;clear hbb HC y0 y1 y2 r0 r1 r2 r3 r4 r5 r6 r7 r8 r9 r10
    cases bb with
    | true =>
     go_wp2_with fail
     refine(refuse_yes 10 _).mono ?_;rintro e w4 ⟨rfl,rfl⟩;go_wp2;exact⟨rfl,FitO.bad (HE.out.trans (reasonN_skew HB1.out HB2.out HBB.out)) (by decide) K.out⟩
    | false =>
     have HB3:=HBB;clear HBB;go_wp2_with fail
     refine(refuse_no 10 _).mono ?_;rintro e w4 ⟨rfl,rfl⟩;have y0:=HSB.out.at_ 0 _ rfl;have y1:=HSB.out.at_ 1 _ rfl;have y2:=HSB.out.at_ 2 _ rfl;have r0:=HPB.out.at_ 0 _ rfl;have r1:=HPB.out.at_ 1 _ rfl;have r2:=HPB.out.at_ 2 _ rfl;have r3:=HPB.out.at_ 3 _ rfl;have r4:=HPB.out.at_ 4 _ rfl;have r5:=HPB.out.at_ 5 _ rfl;have r6:=HPB.out.at_ 6 _ rfl;have r7:=HPB.out.at_ 7 _ rfl;have r8:=HPB.out.at_ 8 _ rfl;have r9:=HPB.out.at_ 9 _ rfl;have r10:=HPB.out.at_ 10 _ rfl;obtain⟨bb,hbb⟩:∃b,roomB s p name=b:=⟨_,rfl⟩
     have HC:=lH (hasRoom_any s1 s2 s3 n1 e1 n2 e2 n3 e3 a1 a2 a3 a4 m1 c1 m2 c2 m3 c3 m4 c4 p s name _ HSR.out HL.out HPR.out);unfold PodV at HC;rw[hbb] at HC;go_wp2_with fail
     refine HC.out.mono ?_;rintro e w3 ⟨rfl,kk⟩;have HBB:=lH hbb;have HSB:=lH (HSB.out.kept kk);have HPB:=lH (HPB.out.kept kk);have HNB:=lH (HNB.out.kept kk);have HSR:=lH (HSR.out.kept kk);have HPR:=lH (HPR.out.kept kk);have HND:=lH (HND.out.kept kk);have HNR:=lH (HNR.out.kept kk);have K:=lH (K.out.trans kk);clear kk;clear hbb HC y0 y1 y2 r0 r1 r2 r3 r4 r5 r6 r7 r8 r9 r10
     cases bb with
     | false =>
      go_wp2_with fail
      refine(refuse_yes 7 _).mono ?_;rintro e w4 ⟨rfl,rfl⟩;go_wp2;exact⟨rfl,FitO.bad (HE.out.trans (reasonN_room HB1.out HB2.out HB3.out HBB.out)) (by decide) K.out⟩
     | true =>
      go_wp2_with fail
      refine(refuse_no 7 _).mono ?_;rintro e w4 ⟨rfl,rfl⟩;have t0:=HND.out.at_ 0 _ rfl;have t1:=HND.out.at_ 1 _ rfl;have t2:=HND.out.at_ 2 _ rfl;have t3:=HND.out.at_ 3 _ rfl;have t4:=HND.out.at_ 4 _ rfl;have z0:=HNB.out.at_ 0 _ rfl;have z1:=HNB.out.at_ 1 _ rfl;have z2:=HNB.out.at_ 2 _ rfl;have z3:=HNB.out.at_ 3 _ rfl;have z4:=HNB.out.at_ 4 _ rfl;have f0:=HNB.out.free 0;have f1:=HNB.out.free 1;have f2:=HNB.out.free 2;have f3:=HNB.out.free 3;have f4:=HNB.out.free 4;have P:=lH (put_at ⟨z0,z1,z2,z3,z4⟩ n.name b1 b2 b3 k1 d1 k2 d2 k3 d3 n.cordon);obtain⟨x9,hx9⟩:∃x,n.name=x:=⟨_,rfl⟩
      obtain⟨c9,hc9⟩:∃x,n.cordon=x:=⟨_,rfl⟩
      rw[hx9] at t0;rw[hc9] at t4;rw[hx9,hc9] at P;have HRZ:=lH (HE.out.trans (reasonN_ok HB1.out HB2.out HB3.out HBB.out));clear hx9 hc9 HE HND HNR HSR HPR;go_wp2;obtain⟨WE,hWE⟩:∃W,(((((w3.setCell ⟨w.heap.size+2,0,none⟩ (.string x9)).setCell ⟨w.heap.size+2,1,none⟩ (.slice b1 k1 d1)).setCell ⟨w.heap.size+2,2,none⟩ (.slice b2 k2 d2)).setCell ⟨w.heap.size+2,3,none⟩ (.slice b3 k3 d3)).setCell ⟨w.heap.size+2,4,none⟩ (.bool c9))=W:=⟨_,rfl⟩
      rw[hWE] at P ⊢;clear hWE z0 z1 z2 z3 z4 t0 t1 t2 t3 t4 f0 f1 f2 f3 f4;obtain⟨⟨q0,q1,q2,q3,q4⟩,hsz,hbl,hkp⟩:=P.out;refine bodyPost_ret (by simp[results,Tryz.results74,go_sem,q0,q1,q2,q3,q4];try rfl) rfl ?_;have KE:=hkp _ _ (by omega) K.out;exact⟨fun _=>⟨_,_,_,_,_,_,_,_,_,_,_,rfl⟩,fun g=>absurd HRZ.out g,KE⟩
def TellsS (s:Clu) (w:World) (e:Ending) (w':World):Prop:=∃y,e=.returned y∧CluR w' y s∧Kept w w'
theorem putStR {v u:Value} {s:Clu} {p:Pd} {w:World} (h:CluR w v s) (g:PodR w u p) (hl:LowClu s) (hp:LowPd p):Calls Tryz.prog 48 #[v,u] w (TellsS (putSt s p) w):=by
 obtain⟨v1,v2,v3,rfl,⟨a,cap,rfl,l1,m1,h1⟩,⟨b,cp,rfl,l2,m2,h2⟩,⟨d,cb,rfl,l3,m3,h3⟩⟩:=h;obtain⟨u1,u2,u3,u4,rfl,hat⟩:=g;have g1:=hat.need;have g2:=hat.labels;have g3:=hat.sel;have g4:=hat.tols;obtain⟨b1,d1,rfl,-,-,-⟩:=g1;obtain⟨b2,d2,rfl,-,-,-⟩:=g2;obtain⟨b3,d3,rfl,-,-,-⟩:=g3;obtain⟨b4,d4,rfl,-,-,-⟩:=g4;refine(putSt_any a b d _ cap _ cp _ cb s.nodes s.pods s.buds p b1 b2 b3 b4 _ d1 _ d2 _ d3 _ d4 w h1 h2 h3 l1 m1 l2 m2 l3 m3 hl hat hp).mono ?_;rintro e w' ⟨_,_,_,_,_,_,_,_,_,rfl,ho,kk⟩;exact⟨_,rfl,ho.toR,kk⟩
theorem dropStR {v:Value} {s:Clu} {w:World} (h:CluR w v s) (x:ByteArray) (hl:LowClu s):Calls Tryz.prog 42 #[v,.string x] w (TellsS (dropSt s x) w):=by
 obtain⟨v1,v2,v3,rfl,⟨a,cap,rfl,l1,m1,h1⟩,⟨b,cp,rfl,l2,m2,h2⟩,⟨d,cb,rfl,l3,m3,h3⟩⟩:=h;refine(dropSt_any a b d _ cap _ cp _ cb s.nodes s.pods s.buds x w h1 h2 h3 l1 m1 l2 m2 l3 m3 hl).mono ?_;rintro e w' ⟨_,_,_,_,_,_,_,_,_,rfl,ho,kk⟩;exact⟨_,rfl,ho.toR,kk⟩
theorem drop_low {s:Clu} (h:LowClu s) (x:ByteArray):LowClu (dropSt s x) :=
 ⟨h.nodes,fun q hq=>h.pods q (drop_mem hq),h.buds,h.nodesN,by
  have h2:=drop_len' s x;have:=h.podsN;omega,h.budsN⟩
def CaughtF (c:Int) (w:World) (e:Ending) (w':World):Prop:=(∃x i1 j1 l1 i2 j2 l2 i3 j3 l3 b,e=.returned (.tuple #[.agg #[.string x,.slice i1 j1 l1,.slice i2 j2 l2,.slice i3 j3 l3,.bool b],.int .i64 c]))∧Kept w w'
theorem closureFit (Q1 Q2 Q3:Nat) (s1 s2 s3:Option Addr) (n1 e1 n2 e2 n3 e3:Nat) (a1 a2 a3 a4:Option Addr) (m1 c1 m2 c2 m3 c3 m4 c4:Nat) (p:Pd) (s:Clu) (name:ByteArray) (w:World) (hq1:CellsN Q1 [.slice s1 n1 e1,.slice s2 n2 e2,.slice s3 n3 e3] w) (hq2:CellsN Q2 [.string p.name,.string p.owner,.int .i64 p.prio,.slice a1 m1 c1,.slice a2 m2 c2,.slice a3 m3 c3,.slice a4 m4 c4,.string p.key,.int .i64 p.most,.string p.node,.bool p.hold] w) (hq3:CellsN Q3 [.string name] w) (hs:CluR w (CluV (.slice s1 n1 e1) (.slice s2 n2 e2) (.slice s3 n3 e3)) s) (hl:LowClu s) (hp:PodAt w (.slice a1 m1 c1) (.slice a2 m2 c2) (.slice a3 m3 c3) (.slice a4 m4 c4) p) :
 Calls Tryz.prog 73 #[.pointer (some ⟨Q1,0,none⟩),.pointer (some ⟨Q2,0,none⟩),.pointer (some ⟨Q3,0,none⟩)] w (FitO (reasonS s p name) w):=by
 obtain⟨Z,hZ⟩:∃Z,w.alloc (.cells #[.string ⟨#[]⟩,.slice none 0 0,.slice none 0 0,.slice none 0 0,.bool false] 55)=Z:=⟨_,rfl⟩
 have hkz:Kept w Z:=by rw[←hZ];exact kept_alloc _ _
 have HNB:=lH (freshN w (.string ⟨#[]⟩) [.slice none 0 0,.slice none 0 0,.slice none 0 0,.bool false] 55 Z (by rw[hZ];exact Kept.refl _));have HS:=lH (fitting_any s1 s2 s3 n1 e1 n2 e2 n3 e3 a1 a2 a3 a4 m1 c1 m2 c2 m3 c3 m4 c4 p s name Z (hs.kept hkz) hl (hp.kept hkz));unfold PodV at HS;have K:=lH hkz;have y0:=(hq1.kept hkz).at_ 0 _ rfl;have y1:=(hq1.kept hkz).at_ 1 _ rfl;have y2:=(hq1.kept hkz).at_ 2 _ rfl;have r0:=(hq2.kept hkz).at_ 0 _ rfl;have r1:=(hq2.kept hkz).at_ 1 _ rfl;have r2:=(hq2.kept hkz).at_ 2 _ rfl;have r3:=(hq2.kept hkz).at_ 3 _ rfl;have r4:=(hq2.kept hkz).at_ 4 _ rfl;have r5:=(hq2.kept hkz).at_ 5 _ rfl;have r6:=(hq2.kept hkz).at_ 6 _ rfl;have r7:=(hq2.kept hkz).at_ 7 _ rfl;have r8:=(hq2.kept hkz).at_ 8 _ rfl;have r9:=(hq2.kept hkz).at_ 9 _ rfl;have r10:=(hq2.kept hkz).at_ 10 _ rfl;have x0:=(hq3.kept hkz).at_ 0 _ rfl;clear hq1 hq2 hq3 hs hp hl hkz;obtain⟨c,hc⟩:∃c,reasonS s p name=c:=⟨_,rfl⟩
 rw[hc] at HS ⊢;clear hc;go_enter Tryz.func73,Tryz.ntmps73;go_wp2_with fail
 try rw[hZ]
 refine HS.out.mono ?_;rintro e w1 ⟨h1,h2,kk⟩;have K:=lH (K.out.trans kk);have HNB:=lH (HNB.out.kept kk);clear kk hZ HS y0 y1 y2 r0 r1 r2 r3 r4 r5 r6 r7 r8 r9 r10 x0;by_cases hc:c=0
 · obtain⟨x9,i1,j1,l1,i2,j2,l2,i3,j3,l3,b9,rfl⟩:=h1 hc;have HCC:=lH hc;clear h1 h2 hc;have z0:=HNB.out.at_ 0 _ rfl;have z1:=HNB.out.at_ 1 _ rfl;have z2:=HNB.out.at_ 2 _ rfl;have z3:=HNB.out.at_ 3 _ rfl;have z4:=HNB.out.at_ 4 _ rfl;have f0:=HNB.out.free 0;have f1:=HNB.out.free 1;have f2:=HNB.out.free 2;have f3:=HNB.out.free 3;have f4:=HNB.out.free 4;have g0:=set5_cells (u0:=.string x9) (u1:=.slice i1 j1 l1) (u2:=.slice i2 j2 l2) (u3:=.slice i3 j3 l3) (u4:=.bool b9) z0 z1 z2 z3 z4;go_wp2;obtain⟨WE,hWE⟩:∃W,(((((w1.setCell ⟨w.heap.size,0,none⟩ (.string x9)).setCell ⟨w.heap.size,1,none⟩ (.slice i1 j1 l1)).setCell ⟨w.heap.size,2,none⟩ (.slice i2 j2 l2)).setCell ⟨w.heap.size,3,none⟩ (.slice i3 j3 l3)).setCell ⟨w.heap.size,4,none⟩ (.bool b9))=W:=⟨_,rfl⟩
   obtain⟨q0,q1,q2,q3,q4⟩:=g0 WE hWE;have KE:Kept w WE:=by rw[←hWE];exact((((K.out.setCell (p:=⟨w.heap.size,0,none⟩) (Nat.le_refl _) _).setCell (p:=⟨w.heap.size,1,none⟩) (Nat.le_refl _) _).setCell (p:=⟨w.heap.size,2,none⟩) (Nat.le_refl _) _).setCell (p:=⟨w.heap.size,3,none⟩) (Nat.le_refl _) _).setCell (p:=⟨w.heap.size,4,none⟩) (Nat.le_refl _) _
   rw[hWE];clear hWE z0 z1 z2 z3 z4 f0 f1 f2 f3 f4;refine bodyPost_ret (by simp[results,Tryz.results73,go_sem,q0,q1,q2,q3,q4];try rfl) rfl ?_;exact⟨fun _=>⟨_,_,_,_,_,_,_,_,_,_,_,rfl⟩,fun g=>absurd HCC.out g,KE⟩
 · obtain rfl:=h2 hc;have HCC:=lH hc;clear h1 h2 hc;go_wp2;exact⟨rfl,FitO.bad rfl HCC.out K.out⟩
theorem caughtF_any (Q1 Q2 Q3:Nat) (c:Int) (w:World) (hk:∀W,Kept w W→Calls Tryz.prog 73 #[.pointer (some ⟨Q1,0,none⟩),.pointer (some ⟨Q2,0,none⟩),.pointer (some ⟨Q3,0,none⟩)] W (FitO c W)) :
 Calls Tryz.prog 72 #[.func (.func 73) #[] #[.pointer (some ⟨Q1,0,none⟩),.pointer (some ⟨Q2,0,none⟩),.pointer (some ⟨Q3,0,none⟩)]] w (CaughtF c w):=by
 have hmf:=hmfL (P:=Tryz.prog);obtain⟨Z,hZ⟩:∃Z,(w.alloc (.cells #[.string ⟨#[]⟩,.slice none 0 0,.slice none 0 0,.slice none 0 0,.bool false] 55)).alloc (.cells #[.int .i64 0] 50)=Z:=⟨_,rfl⟩
 have hkz:Kept w Z:=by rw[←hZ];exact kept_two _ _ _
 have HNB:=lH (freshN w (.string ⟨#[]⟩) [.slice none 0 0,.slice none 0 0,.slice none 0 0,.bool false] 55 Z (by rw[←hZ];exact kept_alloc _ _));have HEB:=lH (show CellsN (w.heap.size+1) [.int .i64 0] Z by
  have dd:=freshN (w.alloc (.cells #[.string ⟨#[]⟩,.slice none 0 0,.slice none 0 0,.slice none 0 0,.bool false] 55)) (.int .i64 0) [] 50 Z (by rw[hZ];exact Kept.refl _);rw[World.size_alloc] at dd;exact dd)
 have HK:=lH hkz;have HKC:=lH (hk Z hkz);clear hk hkz;go_enter_defers Tryz.func72,Tryz.ntmps72
 go_wp2_with fail
 try rw[hZ]
 refine HKC.out.mono ?_;rintro e1 w1 ⟨h0,h1,hb⟩;have KK:=lH (HK.out.trans hb);have HNB:=lH (HNB.out.kept hb);have HEB:=lH (HEB.out.kept hb);have z0:=HNB.out.at_ 0 _ rfl;have z1:=HNB.out.at_ 1 _ rfl;have z2:=HNB.out.at_ 2 _ rfl;have z3:=HNB.out.at_ 3 _ rfl;have z4:=HNB.out.at_ 4 _ rfl;have f0:=HNB.out.free 0;have f1:=HNB.out.free 1;have f2:=HNB.out.free 2;have f3:=HNB.out.free 3;have f4:=HNB.out.free 4;have ez:=HEB.out.at_ 0 _ rfl;have ef:=HEB.out.free 0;clear HKC;by_cases hx:c=0
 · obtain⟨x9,i1,j1,l1,i2,j2,l2,i3,j3,l3,b9,rfl⟩:=h0 hx;subst hx;clear h0 h1 hb hZ;have g0:=set5_cells (u0:=.string x9) (u1:=.slice i1 j1 l1) (u2:=.slice i2 j2 l2) (u3:=.slice i3 j3 l3) (u4:=.bool b9) z0 z1 z2 z3 z4;have HG0:=lH g0;clear g0;go_wp2_with fail
   obtain⟨WE,hWE⟩:∃W,(((((w1.setCell ⟨w.heap.size,0,none⟩ (.string x9)).setCell ⟨w.heap.size,1,none⟩ (.slice i1 j1 l1)).setCell ⟨w.heap.size,2,none⟩ (.slice i2 j2 l2)).setCell ⟨w.heap.size,3,none⟩ (.slice i3 j3 l3)).setCell ⟨w.heap.size,4,none⟩ (.bool b9))=W:=⟨_,rfl⟩
   obtain⟨q0,q1,q2,q3,q4⟩:=HG0.out WE hWE;have KE:Kept w WE:=by rw[←hWE];exact((((KK.out.setCell (p:=⟨w.heap.size,0,none⟩) (Nat.le_refl _) _).setCell (p:=⟨w.heap.size,1,none⟩) (Nat.le_refl _) _).setCell (p:=⟨w.heap.size,2,none⟩) (Nat.le_refl _) _).setCell (p:=⟨w.heap.size,3,none⟩) (Nat.le_refl _) _).setCell (p:=⟨w.heap.size,4,none⟩) (Nat.le_refl _) _
   have ee:WE.cell? ⟨w.heap.size+1,0,none⟩=some (.int .i64 0):=by rw[←hWE];exact(((((HEB.out.other (by omega)).other (by omega)).other (by omega)).other (by omega)).other (by omega)).at_ 0 _ rfl
   rw[hWE];clear hWE z0 z1 z2 z3 z4 f0 f1 f2 f3 f4 HG0;have ff:∀j v,WE.cell? ⟨w.heap.size,j,none⟩=some v→(WE.setCell ⟨w.heap.size+1,0,none⟩ (.int .i64 0)).cell? ⟨w.heap.size,j,none⟩=some v:=fun j v h=>(World.cell?_of_block (a:=⟨w.heap.size,j,none⟩) (Below.heap_setCell WE ⟨w.heap.size+1,0,none⟩ _ w.heap.size (by show w.heap.size≠w.heap.size+1;omega))).trans h;have g0:=ff 0 _ q0;have g1:=ff 1 _ q1;have g2:=ff 2 _ q2;have g3:=ff 3 _ q3;have g4:=ff 4 _ q4;have fe:=World.cell?_setCell_same' WE ⟨w.heap.size+1,0,none⟩ (.int .i64 0) (by rw[ee];rfl);have KF:=lH (show Kept w (WE.setCell ⟨w.heap.size+1,0,none⟩ (.int .i64 0)) from KE.setCell (p:=⟨w.heap.size+1,0,none⟩) (Nat.le_succ _) _);obtain⟨WF,hWF⟩:∃W,WE.setCell ⟨w.heap.size+1,0,none⟩ (.int .i64 0)=W:=⟨_,rfl⟩
   rw[hWF] at fe g0 g1 g2 g3 g4 KF ⊢;clear hWF ff ee q0 q1 q2 q3 q4 ez ef;refine leaves_cons (f:=105) (args:=#[.pointer (some ⟨w.heap.size+1,0,none⟩)]) (by simp) (by simp[go_sem]) ?_;refine(caughtN_idle ⟨w.heap.size+1,0,none⟩ _).mono ?_;rintro e u' w'' ⟨rfl,rfl,rfl⟩;simp[Leaves,settle,results,Tryz.results72,go_sem,fe,g0,g1,g2,g3,g4];exact⟨⟨_,_,_,_,_,_,_,_,_,_,_,rfl⟩,KF.out⟩
 · obtain rfl:=h1 hx;have HX:=lH hx;clear h0 h1 hb hZ hx;go_wp2_with fail
   refine leaves_cons (f:=105) (args:=#[.pointer (some ⟨w.heap.size+1,0,none⟩)]) (by simp) (by simp[go_sem]) ?_;refine(caughtN_panicking w.heap.size (w.heap.size+1) c 0 _ ez ef (Nat.le_succ _)).mono ?_;rintro e u' w'' ⟨rfl,rfl,rfl,q2,q3⟩;have KF:=lH (show Kept w _ from Below.trans KK.out q3);have ff:∀j v,w1.cell? ⟨w.heap.size,j,none⟩=some v→(w1.setCell ⟨w.heap.size+1,0,none⟩ (.int .i64 c)).cell? ⟨w.heap.size,j,none⟩=some v:=fun j v h=>(World.cell?_of_block (a:=⟨w.heap.size,j,none⟩) (Below.heap_setCell w1 ⟨w.heap.size+1,0,none⟩ _ w.heap.size (by show w.heap.size≠w.heap.size+1;omega))).trans h;have g0:=ff 0 _ z0;have g1:=ff 1 _ z1;have g2:=ff 2 _ z2;have g3:=ff 3 _ z3;have g4:=ff 4 _ z4;obtain⟨WF,hWF⟩:∃W,w1.setCell ⟨w.heap.size+1,0,none⟩ (.int .i64 c)=W:=⟨_,rfl⟩
   rw[hWF] at q2 g0 g1 g2 g3 g4 KF ⊢;clear hWF ff q3 z0 z1 z2 z3 z4 ez ef f0 f1 f2 f3 f4;simp[Leaves,settle,results,Tryz.results72,go_sem,q2,g0,g1,g2,g3,g4];exact⟨⟨_,_,_,_,_,_,_,_,_,_,_,rfl⟩,KF.out⟩
theorem reason_any (s1 s2 s3:Option Addr) (n1 e1 n2 e2 n3 e3:Nat) (a1 a2 a3 a4:Option Addr) (m1 c1 m2 c2 m3 c3 m4 c4:Nat) (p:Pd) (s:Clu) (name:ByteArray) (w:World) (hs:CluR w (CluV (.slice s1 n1 e1) (.slice s2 n2 e2) (.slice s3 n3 e3)) s) (hl:LowClu s) (hp:PodAt w (.slice a1 m1 c1) (.slice a2 m2 c2) (.slice a3 m3 c3) (.slice a4 m4 c4) p):Calls Tryz.prog 41 #[.agg #[.slice s1 n1 e1,.slice s2 n2 e2,.slice s3 n3 e3],PodV p (.slice a1 m1 c1) (.slice a2 m2 c2) (.slice a3 m3 c3) (.slice a4 m4 c4),.string name] w (Say (.int .i64 (reasonS s p name)) w):=by
 have hmf:=hmfL (P:=Tryz.prog);obtain⟨Y,hY⟩:∃Y,(w.alloc (.cells #[.slice s1 n1 e1,.slice s2 n2 e2,.slice s3 n3 e3] 26)).alloc (.cells #[.string p.name,.string p.owner,.int .i64 p.prio,.slice a1 m1 c1,.slice a2 m2 c2,.slice a3 m3 c3,.slice a4 m4 c4,.string p.key,.int .i64 p.most,.string p.node,.bool p.hold] 35)=Y:=⟨_,rfl⟩
 have hky:Kept w Y:=by rw[←hY];exact kept_two _ _ _
 have hys:Y.heap.size=w.heap.size+2:=by rw[←hY];simp
 have hsb:=freshN w (.slice s1 n1 e1) [.slice s2 n2 e2,.slice s3 n3 e3] 26 Y (by rw[←hY];exact kept_alloc _ _);have hpb:CellsN (w.heap.size+1) [.string p.name,.string p.owner,.int .i64 p.prio,.slice a1 m1 c1,.slice a2 m2 c2,.slice a3 m3 c3,.slice a4 m4 c4,.string p.key,.int .i64 p.most,.string p.node,.bool p.hold] Y:=by
  have dd:=freshN (w.alloc (.cells #[.slice s1 n1 e1,.slice s2 n2 e2,.slice s3 n3 e3] 26)) (.string p.name) [.string p.owner,.int .i64 p.prio,.slice a1 m1 c1,.slice a2 m2 c2,.slice a3 m3 c3,.slice a4 m4 c4,.string p.key,.int .i64 p.most,.string p.node,.bool p.hold] 35 Y (by rw[hY];exact Kept.refl _);rw[World.size_alloc] at dd;exact dd
 obtain⟨Z,hZ⟩:∃Z,Y.alloc (.cells #[.string name] 9)=Z:=⟨_,rfl⟩
 have hkz:Kept Y Z:=by rw[←hZ];exact kept_alloc _ _
 have hnb:CellsN (w.heap.size+2) [.string name] Z:=by
  have dd:=freshN Y (.string name) [] 9 Z (by rw[hZ];exact Kept.refl _);rw[hys] at dd;exact dd
 have hYZ:((w.alloc (.cells #[.slice s1 n1 e1,.slice s2 n2 e2,.slice s3 n3 e3] 26)).alloc (.cells #[.string p.name,.string p.owner,.int .i64 p.prio,.slice a1 m1 c1,.slice a2 m2 c2,.slice a3 m3 c3,.slice a4 m4 c4,.string p.key,.int .i64 p.most,.string p.node,.bool p.hold] 35)).alloc (.cells #[.string name] 9)=Z:=by rw[hY];exact hZ
 have HC:=lH (caughtF_any w.heap.size (w.heap.size+1) (w.heap.size+2) (reasonS s p name) Z fun W k=>closureFit w.heap.size (w.heap.size+1) (w.heap.size+2) s1 s2 s3 n1 e1 n2 e2 n3 e3 a1 a2 a3 a4 m1 c1 m2 c2 m3 c3 m4 c4 p s name W ((hsb.kept hkz).kept k) ((hpb.kept hkz).kept k) (hnb.kept k) (hs.kept ((hky.trans hkz).trans k)) hl (hp.kept ((hky.trans hkz).trans k)));have K:=lH (hky.trans hkz);clear hs hp hl hky hkz hys hsb hpb hnb hY hZ;obtain⟨c,hc⟩:∃c,reasonS s p name=c:=⟨_,rfl⟩
 rw[hc] at HC ⊢;clear hc;unfold PodV;go_enter Tryz.func41,Tryz.ntmps41;go_wp2_with fail
 try rw[hYZ]
 clear hYZ;refine HC.out.mono ?_;rintro e w1 ⟨⟨x9,i1,j1,l1,i2,j2,l2,i3,j3,l3,b9,rfl⟩,kk⟩;have K:=lH (K.out.trans kk);clear kk;go_wp2;go_ret;exact⟨rfl,K.out.trans (kept_alloc _ _)⟩
theorem LowClu.drop {s:Clu} (h:LowClu s) (x:ByteArray):LowClu (dropSt s x):=drop_low h x
theorem CluR.spelt {w:World} {y:Value} {s:Clu} (h:CluR w y s):∃s1 n1 e1 s2 n2 e2 s3 n3 e3,y=CluV (.slice s1 n1 e1) (.slice s2 n2 e2) (.slice s3 n3 e3):=by
 obtain⟨_,_,_,rfl,⟨a,c,rfl,-⟩,⟨b,d,rfl,-⟩,⟨e,f,rfl,-⟩⟩:=h;exact⟨a,_,c,b,_,d,e,_,f,rfl⟩
theorem one_i0 (x:Int) (u:Value) (h:u ∈ [Value.int .i64 x]):u.oneCell'=true:=by
 have e:u=Value.int .i64 x:=by simpa using h
 rw[e];rfl
def ErrLay:Lay Int:={ m:=1,cs:=fun x=>[.int .i64 x],fine:=fun x=>-9223372036854775808≤x∧x≤9223372036854775807,len:=fun _=>rfl,one:=one_i0,pos:=by decide }
theorem RowAt.err {w:World} {b off len:Nat} {l:List Int} {k:Nat} (h:RowAt ErrLay w (some ⟨b,off,none⟩) len l) (hk:k<len):∃x:Int,l[k]?=some x∧l.drop k=x::l.drop (k+1)∧b<w.heap.size∧w.cell? ⟨b,off+k,none⟩=some (.int .i64 x):=by
 obtain⟨x,h1,h2,h3,h4,h5⟩:=h.cells hk;exact⟨x,h1,h2,h3,by have:=h5 0 _ rfl;simpa [ErrLay] using this⟩
theorem infoEr:(Tryz.prog.info? 50).map (fun i=>(i.zero,i.size,i.bytes))=some (some (.int .i64 0),1,8):=by kernel_rfl
theorem fit_any (s1 s2 s3:Option Addr) (n1 e1 n2 e2 n3 e3:Nat) (a1 a2 a3 a4:Option Addr) (m1 c1 m2 c2 m3 c3 m4 c4:Nat) (p:Pd) (s:Clu) (name:ByteArray) (w:World) (hs:CluR w (CluV (.slice s1 n1 e1) (.slice s2 n2 e2) (.slice s3 n3 e3)) s) (hl:LowClu s) (hp:PodAt w (.slice a1 m1 c1) (.slice a2 m2 c2) (.slice a3 m3 c3) (.slice a4 m4 c4) p):Calls Tryz.prog 12 #[.agg #[.slice s1 n1 e1,.slice s2 n2 e2,.slice s3 n3 e3],PodV p (.slice a1 m1 c1) (.slice a2 m2 c2) (.slice a3 m3 c3) (.slice a4 m4 c4),.string name] w (Say (.int .i64 (fitS s p name)) w):=by
 obtain⟨Z,hZ⟩:∃Z,(w.alloc (.cells #[.slice s1 n1 e1,.slice s2 n2 e2,.slice s3 n3 e3] 26)).alloc (.cells #[.string p.name,.string p.owner,.int .i64 p.prio,.slice a1 m1 c1,.slice a2 m2 c2,.slice a3 m3 c3,.slice a4 m4 c4,.string p.key,.int .i64 p.most,.string p.node,.bool p.hold] 35)=Z:=⟨_,rfl⟩
 have hkz:Kept w Z:=by rw[←hZ];exact kept_two _ _ _
 have HB1:=lH (freshN w (.slice s1 n1 e1) [.slice s2 n2 e2,.slice s3 n3 e3] 26 Z (by rw[←hZ];exact kept_alloc _ _));have HB2:=lH (show CellsN (w.heap.size+1) [.string p.name,.string p.owner,.int .i64 p.prio,.slice a1 m1 c1,.slice a2 m2 c2,.slice a3 m3 c3,.slice a4 m4 c4,.string p.key,.int .i64 p.most,.string p.node,.bool p.hold] Z by
  have dd:=freshN (w.alloc (.cells #[.slice s1 n1 e1,.slice s2 n2 e2,.slice s3 n3 e3] 26)) (.string p.name) [.string p.owner,.int .i64 p.prio,.slice a1 m1 c1,.slice a2 m2 c2,.slice a3 m3 c3,.slice a4 m4 c4,.string p.key,.int .i64 p.most,.string p.node,.bool p.hold] 35 Z (by rw[hZ];exact Kept.refl _);rw[World.size_alloc] at dd;exact dd)
 have K:=lH hkz;have HS:=lH (hs.kept hkz);have HP:=lH (hp.kept hkz);have HL:=lH hl;clear hs hp hkz hl;have HF:=lH (show ∀W,Kept Z W→W.cell? ⟨w.heap.size,0,none⟩=some (.slice s1 n1 e1)∧W.cell? ⟨w.heap.size,1,none⟩=some (.slice s2 n2 e2)∧W.cell? ⟨w.heap.size,2,none⟩=some (.slice s3 n3 e3)∧W.cell? ⟨w.heap.size+1,0,none⟩=some (.string p.name)∧W.cell? ⟨w.heap.size+1,1,none⟩=some (.string p.owner)∧W.cell? ⟨w.heap.size+1,2,none⟩=some (.int .i64 p.prio)∧W.cell? ⟨w.heap.size+1,3,none⟩=some (.slice a1 m1 c1)∧W.cell? ⟨w.heap.size+1,4,none⟩=some (.slice a2 m2 c2)∧W.cell? ⟨w.heap.size+1,5,none⟩=some (.slice a3 m3 c3)∧W.cell? ⟨w.heap.size+1,6,none⟩=some (.slice a4 m4 c4)∧W.cell? ⟨w.heap.size+1,7,none⟩=some (.string p.key)∧W.cell? ⟨w.heap.size+1,8,none⟩=some (.int .i64 p.most)∧W.cell? ⟨w.heap.size+1,9,none⟩=some (.string p.node)∧W.cell? ⟨w.heap.size+1,10,none⟩=some (.bool p.hold) from fun W kk=>by
  have h:=HB1.out.kept kk;have q:=HB2.out.kept kk;exact⟨h.at_ 0 _ rfl,h.at_ 1 _ rfl,h.at_ 2 _ rfl,q.at_ 0 _ rfl,q.at_ 1 _ rfl,q.at_ 2 _ rfl,q.at_ 3 _ rfl,q.at_ 4 _ rfl,q.at_ 5 _ rfl,q.at_ 6 _ rfl,q.at_ 7 _ rfl,q.at_ 8 _ rfl,q.at_ 9 _ rfl,q.at_ 10 _ rfl⟩)
 have HV:=lH (show fitS s p name=reasonS (dropSt s p.name) p name from rfl);unfold PodV;go_enter Tryz.func12,Tryz.ntmps12;go_upto_region 1 with fail
 try rw[hZ]
 clear hZ;have J:=lH (Kept.drew Z);refine wp_region_held_drew (S:=fun W=>W.cell? ⟨w.heap.size,0,none⟩=some (.slice s1 n1 e1)∧W.cell? ⟨w.heap.size,1,none⟩=some (.slice s2 n2 e2)∧W.cell? ⟨w.heap.size,2,none⟩=some (.slice s3 n3 e3)∧W.cell? ⟨w.heap.size+1,0,none⟩=some (.string p.name)∧W.cell? ⟨w.heap.size+1,1,none⟩=some (.string p.owner)∧W.cell? ⟨w.heap.size+1,2,none⟩=some (.int .i64 p.prio)∧W.cell? ⟨w.heap.size+1,3,none⟩=some (.slice a1 m1 c1)∧W.cell? ⟨w.heap.size+1,4,none⟩=some (.slice a2 m2 c2)∧W.cell? ⟨w.heap.size+1,5,none⟩=some (.slice a3 m3 c3)∧W.cell? ⟨w.heap.size+1,6,none⟩=some (.slice a4 m4 c4)∧W.cell? ⟨w.heap.size+1,7,none⟩=some (.string p.key)∧W.cell? ⟨w.heap.size+1,8,none⟩=some (.int .i64 p.most)∧W.cell? ⟨w.heap.size+1,9,none⟩=some (.string p.node)∧W.cell? ⟨w.heap.size+1,10,none⟩=some (.bool p.hold)) (by kernel_rfl) (HF.out _ J.out) (fun hHeld=>?_);obtain⟨wd,hwd⟩:∃W,Z.drew=W:=⟨_,rfl⟩
 rw[hwd] at J hHeld;try rw[hwd]
 clear hwd;refine wpAnyH_take  (i:=0) (v:=?_) (by rw[List.getElem?_toArray];exact rfl) (by kernel_rfl) (by kernel_rfl) (by kernel_rfl) (by exact fun _ _ _ h=>h) (Or.inl ⟨by rfl,(by rintro W ⟨o0,o1,o2,o3,o4,o5,o6,o7,o8,o9,o10,o11,o12,o13⟩;go_simp<;>with_reducible rfl)⟩) (by assumption) ?_;try simp only  [Act.put,List.setIfInBounds_toArray,List.set_cons_zero,List.set_cons_succ]
 refine wpAnyH_take  (i:=1) (v:=?_) (by rw[List.getElem?_toArray];exact rfl) (by kernel_rfl) (by kernel_rfl) (by kernel_rfl) (by exact fun _ _ _ h=>h) (Or.inl ⟨by rfl,(by rintro W ⟨o0,o1,o2,o3,o4,o5,o6,o7,o8,o9,o10,o11,o12,o13⟩;go_simp<;>with_reducible rfl)⟩) (by assumption) ?_;try simp only  [Act.put,List.setIfInBounds_toArray,List.set_cons_zero,List.set_cons_succ]
 refine wpAnyH_take  (i:=2) (v:=?_) (by rw[List.getElem?_toArray];exact rfl) (by kernel_rfl) (by kernel_rfl) (by kernel_rfl) (by exact fun _ _ _ h=>h) (Or.inl ⟨by rfl,(by rintro W ⟨o0,o1,o2,o3,o4,o5,o6,o7,o8,o9,o10,o11,o12,o13⟩;go_simp<;>with_reducible rfl)⟩) (by assumption) ?_;try simp only  [Act.put,List.setIfInBounds_toArray,List.set_cons_zero,List.set_cons_succ]
 refine wpAnyH_take  (i:=4) (v:=?_) (by rw[List.getElem?_toArray];exact rfl) (by kernel_rfl) (by kernel_rfl) (by kernel_rfl) (by exact fun _ _ _ h=>h) (Or.inl ⟨by rfl,(by rintro W ⟨o0,o1,o2,o3,o4,o5,o6,o7,o8,o9,o10,o11,o12,o13⟩;go_simp<;>with_reducible rfl)⟩) (by assumption) ?_;try simp only  [Act.put,List.setIfInBounds_toArray,List.set_cons_zero,List.set_cons_succ]
 refine wpAnyH_take  (i:=5) (v:=?_) (by rw[List.getElem?_toArray];exact rfl) (by kernel_rfl) (by kernel_rfl) (by kernel_rfl) (by exact fun _ _ _ h=>h) (Or.inl ⟨by rfl,(by rintro W ⟨o0,o1,o2,o3,o4,o5,o6,o7,o8,o9,o10,o11,o12,o13⟩;go_simp<;>with_reducible rfl)⟩) (by assumption) ?_;try simp only  [Act.put,List.setIfInBounds_toArray,List.set_cons_zero,List.set_cons_succ]
 refine wpAnyH_ready  (rs:=[3]) (by kernel_rfl) (by simp) (AllReadyH.cons  (by rw[List.getElem?_toArray];exact rfl) (fun K9 Ky=>?_) AllReadyH.nil);go_simp;refine(dropStR (HS.out.kept J.out) p.name HL.out).mono ?_;rintro e w1 ⟨y,rfl,hy,kk⟩;obtain⟨t1,k1,d1,t2,k2,d2,t3,k3,d3,rfl⟩:=hy.spelt;have HY:=lH hy;have J:=lH (J.out.trans kk);clear kk hy;refine Ky.out _ _ (HF.out _ J.out) (fun _=>?_);clear Ky K9;try simp only  [Act.put,List.setIfInBounds_toArray,List.set_cons_zero,List.set_cons_succ]
 refine wpAnyH_ready  (rs:=[6]) (by kernel_rfl) (by simp) (AllReadyH.cons  (by rw[List.getElem?_toArray];exact rfl) (fun K9 Ky=>?_) AllReadyH.nil);go_simp;have HRE:=reason_any t1 t2 t3 k1 d1 k2 d2 k3 d3 a1 a2 a3 a4 m1 c1 m2 c2 m3 c3 m4 c4 p (dropSt s p.name) name w1 HY.out (drop_low HL.out p.name) (HP.out.kept J.out);unfold PodV at HRE;try unfold CluV at HRE
 refine HRE.mono ?_;rintro e w2 ⟨rfl,kk⟩;have J:=lH (J.out.trans kk);clear kk HRE;refine Ky.out _ _ (HF.out _ J.out) (fun _=>?_);clear Ky K9;try simp only  [Act.put,List.setIfInBounds_toArray,List.set_cons_zero,List.set_cons_succ]
 refine wpAnyH_take  (i:=7) (v:=?_) (by rw[List.getElem?_toArray];exact rfl) (by kernel_rfl) (by kernel_rfl) (by kernel_rfl) (by exact fun _ _ _ h=>h) (Or.inl ⟨by rfl,(by rintro W ⟨o0,o1,o2,o3,o4,o5,o6,o7,o8,o9,o10,o11,o12,o13⟩;go_simp<;>with_reducible rfl)⟩) (by assumption) ?_;try simp only  [Act.put,List.setIfInBounds_toArray,List.set_cons_zero,List.set_cons_succ]
 refine wpAnyH_done (by kernel_rfl) ?_ _;go_wp2;go_ret;exact⟨ret_i64 HV.out.symm,K.out.trans J.out⟩
theorem why_any (s1 s2 s3:Option Addr) (n1 e1 n2 e2 n3 e3:Nat) (a1 a2 a3 a4:Option Addr) (m1 c1 m2 c2 m3 c3 m4 c4:Nat) (p:Pd) (s:Clu) (w:World) (hs:CluR w (CluV (.slice s1 n1 e1) (.slice s2 n2 e2) (.slice s3 n3 e3)) s) (hl:LowClu s) (hp:PodAt w (.slice a1 m1 c1) (.slice a2 m2 c2) (.slice a3 m3 c3) (.slice a4 m4 c4) p):Calls Tryz.prog 40 #[.agg #[.slice s1 n1 e1,.slice s2 n2 e2,.slice s3 n3 e3],PodV p (.slice a1 m1 c1) (.slice a2 m2 c2) (.slice a3 m3 c3) (.slice a4 m4 c4)] w fun e w'=>∃v,e=.returned v∧Own ErrLay 50 w' w.heap.size v (whyL s p s.nodes)∧Kept w w':=by
 obtain⟨i0,hi,hz0,hz1,hz2'⟩:=info_parts infoEr;obtain⟨Z,hZ⟩:∃Z,(w.alloc (.cells #[.slice s1 n1 e1,.slice s2 n2 e2,.slice s3 n3 e3] 26)).alloc (.cells #[.string p.name,.string p.owner,.int .i64 p.prio,.slice a1 m1 c1,.slice a2 m2 c2,.slice a3 m3 c3,.slice a4 m4 c4,.string p.key,.int .i64 p.most,.string p.node,.bool p.hold] 35)=Z:=⟨_,rfl⟩
 have hkz:Kept w Z:=by rw[←hZ];exact kept_two _ _ _
 have HB1:=lH (freshN w (.slice s1 n1 e1) [.slice s2 n2 e2,.slice s3 n3 e3] 26 Z (by rw[←hZ];exact kept_alloc _ _));have HB2:=lH (show CellsN (w.heap.size+1) [.string p.name,.string p.owner,.int .i64 p.prio,.slice a1 m1 c1,.slice a2 m2 c2,.slice a3 m3 c3,.slice a4 m4 c4,.string p.key,.int .i64 p.most,.string p.node,.bool p.hold] Z by
  have dd:=freshN (w.alloc (.cells #[.slice s1 n1 e1,.slice s2 n2 e2,.slice s3 n3 e3] 26)) (.string p.name) [.string p.owner,.int .i64 p.prio,.slice a1 m1 c1,.slice a2 m2 c2,.slice a3 m3 c3,.slice a4 m4 c4,.string p.key,.int .i64 p.most,.string p.node,.bool p.hold] 35 Z (by rw[hZ];exact Kept.refl _);rw[World.size_alloc] at dd;exact dd)
 have K:=lH hkz;have HS:=lH (hs.kept hkz);have HP:=lH (hp.kept hkz);have HL:=lH hl;clear hs hp hkz hl;have HNL:=lH HS.out.nAt.2;have hb1:n1≤100000:=by have:=HL.out.nodesN;have:=HNL.out;omega
 have HN:=lH HS.out.nAt.1;have HD0:=lH (dropStR HS.out p.name HL.out);try unfold CluV at HD0
 have y0:=HB1.out.at_ 0 _ rfl;have y1:=HB1.out.at_ 1 _ rfl;have y2:=HB1.out.at_ 2 _ rfl;have r0:=HB2.out.at_ 0 _ rfl;unfold PodV;go_enter Tryz.func40,Tryz.ntmps40;go_upto_region 1 with fail
 try rw[hZ]
 clear hZ;go_wp2_with fail
 refine HD0.out.mono ?_;rintro e w1 ⟨y,rfl,hy,kk⟩;obtain⟨t1,k1,d1,t2,k2,d2,t3,k3,d3,rfl⟩:=hy.spelt;obtain⟨w2,hw2⟩:∃W,w1.alloc (.cells #[.slice t1 k1 d1,.slice t2 k2 d2,.slice t3 k3 d3] 26)=W:=⟨_,rfl⟩
 have kx:Kept w1 w2:=by rw[←hw2];exact kept_alloc _ _
 have HQB:=lH (freshN w1 (.slice t1 k1 d1) [.slice t2 k2 d2,.slice t3 k3 d3] 26 w2 (by rw[hw2];exact Kept.refl _));have HY:=lH (hy.kept kx);have HB1:=lH (HB1.out.kept (kk.trans kx));have HB2:=lH (HB2.out.kept (kk.trans kx));have HP:=lH (HP.out.kept (kk.trans kx));have HN:=lH (HN.out.kept (kk.trans kx));have K:=lH (K.out.trans (kk.trans kx));obtain⟨gd,hgd⟩:∃g,w1.heap.size=g:=⟨_,rfl⟩
 rw[hgd] at HQB;clear kk kx hy HD0 y0 y1 y2 r0;have y0:=HB1.out.at_ 0 _ rfl;go_upto_region 3 with fail
 try rw[hw2]
 try rw[hgd]
 clear hw2 hgd;go_wp2;clear y0;go_loopw [6,16] (fun v i wr=>∃k:Nat,k≤n1∧i=.int .i64 k∧∃la:List Int,whyL s p (s.nodes.take k)=la∧Own ErrLay 50 wr w2.heap.size v la∧Kept w2 wr) (fun _ i _=>n1-(intOf i).toNat)
 case atStart=>exact⟨0,Nat.zero_le _,rfl,[],rfl,Own.nil _ _ _,Kept.refl _⟩
 case round =>
  obtain⟨k,hk,rfl,la,hla,ho,hK⟩:=hrel;have HX:=lH hla;have HO:=lH ho;have HK:=lH hK;obtain⟨m,hm⟩:∃m,la.length=m:=⟨_,rfl⟩
  have hmk:m≤k:=by
   have:=whyL_len s p (s.nodes.take k);rw[hla,hm,List.length_take] at this;omega
  have HT:=lH hm;have hbase:w2.heap.size≤wr.heap.size:=hK.size;by_cases hlt:k<n1
  · obtain⟨g,off,rfl⟩:=HN.out.form.resolve_left (by omega);obtain⟨n,b1,q1,f1,b2,q2,f2,b3,q3,f3,hn,hd,hb,u0,u1,u2,u3,u4,hat⟩:=(HN.out.kept hK).at_ hlt;have HWT:=lH (whyL_take (s:=s) (p:=p) hn);have hkk:(k:Int)<(n1:Int):=by omega
    have hk0:¬(k:Int)<0:=by omega
    obtain⟨wx,hwx⟩:∃W,wr.alloc (.cells #[.string n.name,.slice b1 q1 f1,.slice b2 q2 f2,.slice b3 q3 f3,.bool n.cordon] 55)=W:=⟨_,rfl⟩
    have hkx:Kept wr wx:=by rw[←hwx];exact kept_alloc _ _
    have HNX:=lH (freshN wr (.string n.name) [.slice b1 q1 f1,.slice b2 q2 f2,.slice b3 q3 f3,.bool n.cordon] 55 wx (by rw[hwx];exact Kept.refl _));obtain⟨bq,hbq⟩:∃z,wr.heap.size=z:=⟨_,rfl⟩
    rw[hbq] at HNX;have HQX:=lH (HQB.out.kept (hK.trans hkx));have HPX:=lH (HB2.out.kept (hK.trans hkx));have HRE:=lH (reason_any t1 t2 t3 k1 d1 k2 d2 k3 d3 a1 a2 a3 a4 m1 c1 m2 c2 m3 c3 m4 c4 p (dropSt s p.name) n.name wx (HY.out.kept (hK.trans hkx)) (drop_low HL.out p.name) (HP.out.kept (hK.trans hkx)));unfold PodV at HRE;obtain⟨c,hc⟩:∃c,reasonS (dropSt s p.name) p n.name=c:=⟨_,rfl⟩
    have HCB:=lH (show -9223372036854775808≤c∧c≤9223372036854775807 by have:=reason_bd (dropSt s p.name) p n.name;omega);have HV:=lH (show whyL s p (s.nodes.take (k+1))=la++[c] by rw[HWT.out,HX.out];unfold fitS;rw[hc]);rw[hc] at HRE;have KX:=lH hkx;go_upto_region 6 with fail
    try rw[hwx]
    try rw[hbq]
    clear hwx hbq hd hb hn hkx hk0 hkk hat hla ho hm hK hc u0 u1 u2 u3 u4;have y0:=HQX.out.at_ 0 _ rfl;have y1:=HQX.out.at_ 1 _ rfl;have y2:=HQX.out.at_ 2 _ rfl;have r0:=HPX.out.at_ 0 _ rfl;have r1:=HPX.out.at_ 1 _ rfl;have r2:=HPX.out.at_ 2 _ rfl;have r3:=HPX.out.at_ 3 _ rfl;have r4:=HPX.out.at_ 4 _ rfl;have r5:=HPX.out.at_ 5 _ rfl;have r6:=HPX.out.at_ 6 _ rfl;have r7:=HPX.out.at_ 7 _ rfl;have r8:=HPX.out.at_ 8 _ rfl;have r9:=HPX.out.at_ 9 _ rfl;have r10:=HPX.out.at_ 10 _ rfl;have t0:=HNX.out.at_ 0 _ rfl;go_wp2_with fail
    refine HRE.out.mono ?_;rintro e w3 ⟨rfl,kk⟩;have KW:=lH (KX.out.trans kk);clear kk HRE t0 y0 y1 y2 r0 r1 r2 r3 r4 r5 r6 r7 r8 r9 r10;have HOW2:=lH (show w3.ownsRow w2.heap.size 50 1 u6 m (rowCells ErrLay la) by have:=(HO.out.kept KW.out).1;rw[HT.out] at this;exact this);have hs1:wr.heap.size≤w3.heap.size:=Below.size KW.out;go_wp2_with (at_builtin;refine wpList_append_lies _ rfl _ _ _ rfl w2.heap.size 50 i0 _ 1 8 Tryz.underlying92 hi hz0 hz1 hz2' rfl (by decide) u6 m (rowCells ErrLay la) rfl (HOW2.out.alloc _) ⟨w3.heap.size,0,none⟩ 1 1 (ErrLay.cs c) rfl rfl (World.news_of_block (cs:=#[.int .i64 c]) (t:=50) (fr:=(0,0)) (heap_alloc_new w3 _)) (one_i0 c) (by decide) (by unfold maxLen;omega) (by omega) (by simp;omega) (w3.heap.size+1) (by simp) ?_;intro gg cap1 w4 hown1 hgrow hat hlt1)
    have HBW:=lH ((show Below w2.heap.size w2 _ from HK.out.trans (KW.out.trans (kept_alloc w3 _))).grown hgrow (by simp;omega) (fun j hj=>(HOW2.out.lt j hj).1));go_wp2;go_roundw
    case rel=>exact⟨k+1,by omega,by go_num,la++[c],HV.out,Own.snoc hown1 (by rw[HT.out]) HO.out.2 HCB.out,HBW.out⟩
    case measure=>simp[intOf];omega
  · have hge:¬(k:Int)<(n1:Int):=by omega
    have HE:=lH (show whyL s p s.nodes=la by rw[←hla,List.take_of_length_le (by rw[←HNL.out];omega)]);clear hla ho hm hK;go_wp2;go_ret;exact⟨_,rfl,by rw[HE.out];exact HO.out.base_le K.out.size,K.out.trans HK.out⟩
theorem fits_any (s1 s2 s3:Option Addr) (n1 e1 n2 e2 n3 e3:Nat) (a1 a2 a3 a4:Option Addr) (m1 c1 m2 c2 m3 c3 m4 c4:Nat) (p:Pd) (s:Clu) (w:World) (hs:CluR w (CluV (.slice s1 n1 e1) (.slice s2 n2 e2) (.slice s3 n3 e3)) s) (hl:LowClu s) (hp:PodAt w (.slice a1 m1 c1) (.slice a2 m2 c2) (.slice a3 m3 c3) (.slice a4 m4 c4) p):Calls Tryz.prog 11 #[.agg #[.slice s1 n1 e1,.slice s2 n2 e2,.slice s3 n3 e3],PodV p (.slice a1 m1 c1) (.slice a2 m2 c2) (.slice a3 m3 c3) (.slice a4 m4 c4)] w fun e w'=>∃v,e=.returned v∧Own StrLay 9 w' w.heap.size v (fitsL s p s.nodes)∧Kept w w':=by
 obtain⟨i0,hi,hz0,hz1,hz2'⟩:=info_parts infoSt;obtain⟨Z,hZ⟩:∃Z,(w.alloc (.cells #[.slice s1 n1 e1,.slice s2 n2 e2,.slice s3 n3 e3] 26)).alloc (.cells #[.string p.name,.string p.owner,.int .i64 p.prio,.slice a1 m1 c1,.slice a2 m2 c2,.slice a3 m3 c3,.slice a4 m4 c4,.string p.key,.int .i64 p.most,.string p.node,.bool p.hold] 35)=Z:=⟨_,rfl⟩
 have hkz:Kept w Z:=by rw[←hZ];exact kept_two _ _ _
 have HB1:=lH (freshN w (.slice s1 n1 e1) [.slice s2 n2 e2,.slice s3 n3 e3] 26 Z (by rw[←hZ];exact kept_alloc _ _));have HB2:=lH (show CellsN (w.heap.size+1) [.string p.name,.string p.owner,.int .i64 p.prio,.slice a1 m1 c1,.slice a2 m2 c2,.slice a3 m3 c3,.slice a4 m4 c4,.string p.key,.int .i64 p.most,.string p.node,.bool p.hold] Z by
  have dd:=freshN (w.alloc (.cells #[.slice s1 n1 e1,.slice s2 n2 e2,.slice s3 n3 e3] 26)) (.string p.name) [.string p.owner,.int .i64 p.prio,.slice a1 m1 c1,.slice a2 m2 c2,.slice a3 m3 c3,.slice a4 m4 c4,.string p.key,.int .i64 p.most,.string p.node,.bool p.hold] 35 Z (by rw[hZ];exact Kept.refl _);rw[World.size_alloc] at dd;exact dd)
 have K:=lH hkz;have HS:=lH (hs.kept hkz);have HP:=lH (hp.kept hkz);have HL:=lH hl;clear hs hp hkz hl;have HNL:=lH HS.out.nAt.2;have hb1:n1≤100000:=by have:=HL.out.nodesN;have:=HNL.out;omega
 have HN:=lH HS.out.nAt.1;have HWY:=lH (why_any s1 s2 s3 n1 e1 n2 e2 n3 e3 a1 a2 a3 a4 m1 c1 m2 c2 m3 c3 m4 c4 p s Z HS.out HL.out HP.out);unfold PodV at HWY;have y0:=HB1.out.at_ 0 _ rfl;have y1:=HB1.out.at_ 1 _ rfl;have y2:=HB1.out.at_ 2 _ rfl;have r0:=HB2.out.at_ 0 _ rfl;have r1:=HB2.out.at_ 1 _ rfl;have r2:=HB2.out.at_ 2 _ rfl;have r3:=HB2.out.at_ 3 _ rfl;have r4:=HB2.out.at_ 4 _ rfl;have r5:=HB2.out.at_ 5 _ rfl;have r6:=HB2.out.at_ 6 _ rfl;have r7:=HB2.out.at_ 7 _ rfl;have r8:=HB2.out.at_ 8 _ rfl;have r9:=HB2.out.at_ 9 _ rfl;have r10:=HB2.out.at_ 10 _ rfl;unfold PodV;go_enter Tryz.func11,Tryz.ntmps11;go_wp2_with fail
 try rw[hZ]
 clear hZ;refine HWY.out.mono ?_;rintro e w1 ⟨v9,rfl,hr,kk⟩;have HB1:=lH (HB1.out.kept kk);have HN:=lH (HN.out.kept kk);have K:=lH (K.out.trans kk);obtain⟨wa,wc,rfl,-,-,hrow⟩:=hr.reads;rw[whyL_len,←HNL.out] at hrow;rw[whyL_len,←HNL.out];have HWR:=lH hrow;clear kk hrow HWY HP HB2 y0 y1 y2 r0 r1 r2 r3 r4 r5 r6 r7 r8 r9 r10;go_wp2;go_loopw [5,12] (fun v i wr=>∃k:Nat,k≤n1∧i=.int .i64 k∧∃la:List ByteArray,fitsL s p (s.nodes.take k)=la∧Own StrLay 9 wr w1.heap.size v la∧Kept w1 wr) (fun _ i _=>n1-(intOf i).toNat)
 case atStart=>exact⟨0,Nat.zero_le _,rfl,[],rfl,Own.nil _ _ _,Kept.refl _⟩
 case round =>
  obtain⟨k,hk,rfl,la,hla,ho,hK⟩:=hrel;have HX:=lH hla;have HO:=lH ho;have HK:=lH hK;obtain⟨m,hm⟩:∃m,la.length=m:=⟨_,rfl⟩
  have hmk:m≤k:=by
   have:=fitsL_len s p (s.nodes.take k);rw[hla,hm,List.length_take] at this;omega
  have HT:=lH hm;have hbase:w1.heap.size≤wr.heap.size:=hK.size;by_cases hlt:k<n1
  · obtain⟨g,off,rfl⟩:=HN.out.form.resolve_left (by omega);obtain⟨n,b1,q1,f1,b2,q2,f2,b3,q3,f3,hn,hd,hb,u0,u1,u2,u3,u4,hat⟩:=(HN.out.kept hK).at_ hlt;obtain⟨bw,offw,rfl⟩:=HWR.out.form.resolve_left (by omega);obtain⟨c,hc,-,-,cw⟩:=(HWR.out.kept hK).err hlt;have HNM:=lH hat.size;have HWT:=lH (fitsL_take (s:=s) (p:=p) hn);have HCF:=lH (show fitS s p n.name=c by rw[whyL_at hn] at hc;exact Option.some.inj hc);have hkk:(k:Int)<(n1:Int):=by omega
    have hk0:¬(k:Int)<0:=by omega
    have y0:=(HB1.out.kept hK).at_ 0 _ rfl;clear hd hb hn hc hat hla ho hm hK;obtain⟨xn,hxn⟩:∃x,n.name=x:=⟨_,rfl⟩
    rw[hxn] at u0 HNM HWT HCF;clear hxn;by_cases h0:c=0
    · subst h0;have HV:=lH (show fitsL s p (s.nodes.take (k+1))=la++[xn] by rw[HWT.out,HX.out,if_pos HCF.out]);have HOW2:=lH (show wr.ownsRow w1.heap.size 9 1 u5 m (rowCells StrLay la) by have:=HO.out.1;rw[HT.out] at this;exact this);go_wp2_with (at_builtin;refine wpList_append_lies _ rfl _ _ _ rfl w1.heap.size 9 i0 _ 1 16 Tryz.underlying47 hi hz0 hz1 hz2' rfl (by decide) u5 m (rowCells StrLay la) rfl (HOW2.out.alloc _) ⟨wr.heap.size,0,none⟩ 1 1 (StrLay.cs xn) rfl rfl (World.news_of_block (cs:=#[.string xn]) (t:=9) (fr:=(0,0)) (heap_alloc_new wr _)) (one_str0 xn) (by decide) (by unfold maxLen;omega) (by omega) (by simp;omega) (wr.heap.size+1) (by simp) ?_;intro gg cap1 w4 hown1 hgrow hat hlt1)
      have HBW:=lH ((show Below w1.heap.size w1 _ from HK.out.trans (kept_alloc wr _)).grown hgrow (by simp;omega) (fun j hj=>(HOW2.out.lt j hj).1));go_wp2;go_roundw
      case rel=>exact⟨k+1,by omega,by go_num,la++[xn],HV.out,Own.snoc hown1 (by rw[HT.out]) HO.out.2 HNM.out,HBW.out⟩
      case measure=>simp[intOf];omega
    · have h0b:(c==0)=false:=by simpa using h0
      have HV:=lH (show fitsL s p (s.nodes.take (k+1))=la by rw[HWT.out,HX.out,if_neg (by rw[HCF.out];exact h0),List.append_nil]);clear h0;go_wp2;go_roundw
      case rel=>exact⟨k+1,by omega,by go_num,la,HV.out,HO.out,HK.out⟩
      case measure=>simp[intOf];omega
  · have hge:¬(k:Int)<(n1:Int):=by omega
    have HE:=lH (show fitsL s p s.nodes=la by rw[←hla,List.take_of_length_le (by rw[←HNL.out];omega)]);clear hla ho hm hK;go_wp2;go_ret;exact⟨_,rfl,by rw[HE.out];exact HO.out.base_le K.out.size,K.out.trans HK.out⟩
theorem nodAt_zero (w:World):NodAt w (.slice none 0 0) (.slice none 0 0) (.slice none 0 0) Nod.zero:=⟨(by decide:(0:Nat)≤maxLen),⟨none,0,rfl,Nat.le_refl _,by decide,Vec.VecAt.nil w⟩,Reads.nil _,Reads.nil _⟩
theorem nodeZ_low {s:Clu} (h:LowClu s) (x:ByteArray):LowNod (nodeZ s x):=by
 unfold nodeZ
 cases hf:findN s.nodes x with
 | none=>exact⟨(by decide:(0:Nat)≤1000000),(by decide:(0:Nat)≤1000000),(by decide:(0:Nat)≤1000000)⟩
 | some n=>exact h.nodes n (findN_mem hf).1
theorem nfield1 (x:ByteArray) (v1 v2 v3:Value) (c:Bool) (W:World):(Instr.field 55 (.agg #[.string x,v1,v2,v3,.bool c]) 1).run Tryz.prog W=.ok v1 W:=by kernel_rfl
theorem nfield3 (x:ByteArray) (v1 v2 v3:Value) (c:Bool) (W:World):(Instr.field 55 (.agg #[.string x,v1,v2,v3,.bool c]) 3).run Tryz.prog W=.ok v3 W:=by kernel_rfl
def NodS (n:Nod) (w:World) (e:Ending) (w':World):Prop:=∃b1 k1 d1 b2 k2 d2 b3 k3 d3,e=.returned (NodV n (.slice b1 k1 d1) (.slice b2 k2 d2) (.slice b3 k3 d3))∧NodAt w' (.slice b1 k1 d1) (.slice b2 k2 d2) (.slice b3 k3 d3) n∧Kept w w'
theorem snodeOf_any (s1 s2 s3:Option Addr) (n1 e1 n2 e2 n3 e3:Nat) (s:Clu) (name:ByteArray) (w:World) (hs:CluR w (CluV (.slice s1 n1 e1) (.slice s2 n2 e2) (.slice s3 n3 e3)) s) (hl:LowClu s) :
 Calls Tryz.prog 52 #[.agg #[.slice s1 n1 e1,.slice s2 n2 e2,.slice s3 n3 e3],.string name] w (NodS (nodeZ s name) w):=by
 have hn:=hs.nAt.1;have hb1:n1≤100000:=by have:=hs.nAt.2;have:=hl.nodesN;omega
 have HZN:=lH (show nodeZ s name=(findN s.nodes name).getD Nod.zero from rfl);generalize s.nodes=nodes at hn HZN
 clear hs hl;obtain⟨Z,hZ⟩:∃Z,(w.alloc (.cells #[.slice s1 n1 e1,.slice s2 n2 e2,.slice s3 n3 e3] 26)).alloc (.cells #[.string ⟨#[]⟩,.slice none 0 0,.slice none 0 0,.slice none 0 0,.bool false] 55)=Z:=⟨_,rfl⟩
 have hkz:Kept w Z:=by rw[←hZ];exact kept_two _ _ _
 have HSB:=lH (freshN w (.slice s1 n1 e1) [.slice s2 n2 e2,.slice s3 n3 e3] 26 Z (by rw[←hZ];exact kept_alloc _ _));have hyb:CellsN (w.heap.size+1) [.string ⟨#[]⟩,.slice none 0 0,.slice none 0 0,.slice none 0 0,.bool false] Z:=by
  have dd:=freshN (w.alloc (.cells #[.slice s1 n1 e1,.slice s2 n2 e2,.slice s3 n3 e3] 26)) (.string ⟨#[]⟩) [.slice none 0 0,.slice none 0 0,.slice none 0 0,.bool false] 55 Z (by rw[hZ];exact Kept.refl _);rw[World.size_alloc] at dd;exact dd
 have HYB:=lH hyb;have HN:=lH hn;have HNL:=lH hn.1;have HKZ:=lH hkz;clear hn hkz hyb;go_enter Tryz.func52,Tryz.ntmps52;have y0:=HSB.out.at_ 0 _ rfl;go_upto_region 1 with fail
 try rw[hZ]
 clear hZ;go_wp2;clear y0;go_loopw [10] (fun i wr=>∃k:Nat,k≤n1∧i=.int .i64 k∧findN (nodes.drop k) name=findN nodes name∧Kept Z wr) (fun i _=>n1-(intOf i).toNat)
 case atStart=>exact⟨0,Nat.zero_le _,rfl,rfl,Kept.refl _⟩
 case round =>
  obtain⟨k,hk,rfl,hR,hK⟩:=hrel;have HR:=lH hR;have HK:=lH (HKZ.out.trans hK);have HKR:=lH hK;by_cases hlt:k<n1
  · obtain⟨g,off,rfl⟩:=HN.out.form.resolve_left (by omega);obtain⟨n,b1,k1,d1,b2,k2,d2,b3,k3,d3,hn,hd,hb,u0,u1,u2,u3,u4,hat⟩:=HN.out.at_ hlt;have HAT:=lH hat;have HD:=lH hd;have u0:=cell_later HK.out u0;have u1:=cell_later HK.out u1;have u2:=cell_later HK.out u2;have u3:=cell_later HK.out u3;have u4:=cell_later HK.out u4;have hkk:(k:Int)<(n1:Int):=by omega
    have hk0:¬(k:Int)<0:=by omega
    obtain⟨wx,hwx⟩:∃W,wr.alloc (.cells #[.string n.name,.slice b1 k1 d1,.slice b2 k2 d2,.slice b3 k3 d3,.bool n.cordon] 55)=W:=⟨_,rfl⟩
    have hkx:Kept wr wx:=by rw[←hwx];exact kept_alloc _ _
    have HQB:=lH (freshN wr (.string n.name) [.slice b1 k1 d1,.slice b2 k2 d2,.slice b3 k3 d3,.bool n.cordon] 55 wx (by rw[hwx];exact Kept.refl _));obtain⟨bq,hbq⟩:∃z,wr.heap.size=z:=⟨_,rfl⟩
    rw[hbq] at HQB;have KX:=lH hkx;go_upto_region 4 with fail
    try rw[hwx]
    try rw[hbq]
    clear hwx hbq hd hb hn hR hK hkx hk0 hkk hat u0 u1 u2 u3 u4;have t0:=HQB.out.at_ 0 _ rfl;have t1:=HQB.out.at_ 1 _ rfl;have t2:=HQB.out.at_ 2 _ rfl;have t3:=HQB.out.at_ 3 _ rfl;have t4:=HQB.out.at_ 4 _ rfl;obtain⟨t,ht⟩:∃t,(n.name.toList==name.toList)=t:=⟨_,rfl⟩
    have HT:=lH (show eqS n.name name=t from ht)
    cases t with
    | false =>
     have HX:=lH (show findN (nodes.drop (k+1)) name=findN nodes name by rw[←HR.out,HD.out];unfold findN;rw[List.find?_cons,HT.out]);go_wp2;go_roundw
     case rel=>exact⟨k+1,by omega,by go_num,HX.out,HKR.out.trans KX.out⟩
     case measure=>simp[intOf];omega
    | true =>
     have HX:=lH (show nodeZ s name=n by rw[HZN.out,show findN nodes name=some n by rw[←HR.out,HD.out];unfold findN;rw[List.find?_cons,HT.out]];rfl);have HYX:=lH (HYB.out.kept (HKR.out.trans KX.out));have z0:=HYX.out.at_ 0 _ rfl;have z1:=HYX.out.at_ 1 _ rfl;have z2:=HYX.out.at_ 2 _ rfl;have z3:=HYX.out.at_ 3 _ rfl;have z4:=HYX.out.at_ 4 _ rfl;have f0:=HYX.out.free 0;have f1:=HYX.out.free 1;have f2:=HYX.out.free 2;have f3:=HYX.out.free 3;have f4:=HYX.out.free 4;have P:=lH (put_at ⟨z0,z1,z2,z3,z4⟩ n.name b1 b2 b3 k1 d1 k2 d2 k3 d3 n.cordon);go_wp2;obtain⟨WE,hWE⟩:∃W,(((((wx.setCell ⟨w.heap.size+1,0,none⟩ (.string n.name)).setCell ⟨w.heap.size+1,1,none⟩ (.slice b1 k1 d1)).setCell ⟨w.heap.size+1,2,none⟩ (.slice b2 k2 d2)).setCell ⟨w.heap.size+1,3,none⟩ (.slice b3 k3 d3)).setCell ⟨w.heap.size+1,4,none⟩ (.bool n.cordon))=W:=⟨_,rfl⟩
     rw[hWE] at P ⊢;clear hWE z0 z1 z2 z3 z4 t0 t1 t2 t3 t4 f0 f1 f2 f3 f4;obtain⟨⟨d0,d1,d2,d3,d4⟩,hsz,hbl,hkp⟩:=P.out;refine bodyPost_ret (by simp[results,Tryz.results52,go_sem,d0,d1,d2,d3,d4];try rfl) rfl ?_;have KE:=hkp _ _ (Nat.le_succ _) (HK.out.trans KX.out);rw[HX.out];exact⟨_,_,_,_,_,_,_,_,_,rfl,HAT.out.kept KE,KE⟩
  · have hge:¬(k:Int)<(n1:Int):=by omega
    have HX:=lH (show nodeZ s name=Nod.zero by rw[HZN.out,show findN nodes name=none by rw[←HR.out,List.drop_of_length_le (by rw[HNL.out];omega)];rfl];rfl);clear hR hK;have HYX:=lH (HYB.out.kept HKR.out);have z0:=HYX.out.at_ 0 _ rfl;have z1:=HYX.out.at_ 1 _ rfl;have z2:=HYX.out.at_ 2 _ rfl;have z3:=HYX.out.at_ 3 _ rfl;have z4:=HYX.out.at_ 4 _ rfl;have f0:=HYX.out.free 0;have f1:=HYX.out.free 1;have f2:=HYX.out.free 2;have f3:=HYX.out.free 3;have f4:=HYX.out.free 4;have P:=lH (put_at ⟨z0,z1,z2,z3,z4⟩ ⟨#[]⟩ none none none 0 0 0 0 0 0 false);go_wp2;obtain⟨WE,hWE⟩:∃W,(((((wr.setCell ⟨w.heap.size+1,0,none⟩ (.string ⟨#[]⟩)).setCell ⟨w.heap.size+1,1,none⟩ (.slice none 0 0)).setCell ⟨w.heap.size+1,2,none⟩ (.slice none 0 0)).setCell ⟨w.heap.size+1,3,none⟩ (.slice none 0 0)).setCell ⟨w.heap.size+1,4,none⟩ (.bool false))=W:=⟨_,rfl⟩
    rw[hWE] at P ⊢;clear hWE z0 z1 z2 z3 z4 f0 f1 f2 f3 f4;obtain⟨⟨d0,d1,d2,d3,d4⟩,hsz,hbl,hkp⟩:=P.out;refine bodyPost_ret (by simp[results,Tryz.results52,go_sem,d0,d1,d2,d3,d4];try rfl) rfl ?_;have KE:=hkp _ _ (Nat.le_succ _) HK.out;rw[HX.out];exact⟨_,_,_,_,_,_,_,_,_,rfl,nodAt_zero _,KE⟩
theorem usedOn_any (s1 s2 s3:Option Addr) (n1 e1 n2 e2 n3 e3:Nat) (s:Clu) (name:ByteArray) (w:World) (hs:CluR w (CluV (.slice s1 n1 e1) (.slice s2 n2 e2) (.slice s3 n3 e3)) s) (hl:LowClu s):Calls Tryz.prog 51 #[.agg #[.slice s1 n1 e1,.slice s2 n2 e2,.slice s3 n3 e3],.string name] w fun e w'=>∃v,e=.returned v∧Vec.Reads w' v (usedSt s name).2∧Kept w w':=by
 obtain⟨Z,hZ⟩:∃Z,w.alloc (.cells #[.slice s1 n1 e1,.slice s2 n2 e2,.slice s3 n3 e3] 26)=Z:=⟨_,rfl⟩
 have hkz:Kept w Z:=by rw[←hZ];exact kept_alloc _ _
 have HB1:=lH (freshN w (.slice s1 n1 e1) [.slice s2 n2 e2,.slice s3 n3 e3] 26 Z (by rw[hZ];exact Kept.refl _));have HU:=lH (usedR (hs.kept hkz) name hl);try unfold CluV at HU
 have K:=lH hkz;clear hs hl hkz;have y0:=HB1.out.at_ 0 _ rfl;have y1:=HB1.out.at_ 1 _ rfl;have y2:=HB1.out.at_ 2 _ rfl;go_enter Tryz.func51,Tryz.ntmps51;go_wp2_with fail
 try rw[hZ]
 clear hZ;refine HU.out.mono ?_;rintro e w1 ⟨y,rfl,hy,kk⟩;have HY:=lH hy;have K:=lH (K.out.trans kk);clear kk hy HU y0 y1 y2;go_wp2;go_ret;exact⟨_,rfl,HY.out,K.out⟩
def FltS (x:Option Nat) (w:World) (e:Ending) (w':World):Prop:=∃r,e=.returned (.float .f64 r)∧nrm r=x∧r<TOP∧Kept w w'
theorem floatS {r:Nat} {x:Option Nat} {w w':World} (h:nrm r=x) (t:r<TOP) (k:Kept w w'):FltS x w (.returned (.float .f64 r)) w':=⟨r,rfl,h,t,k⟩
theorem susage_any (u c:Value) (lu lc:Vec.V) (what:ByteArray) (w:World) (hu:Vec.Reads w u lu) (hc:Vec.Reads w c lc):Calls Tryz.prog 50 #[u,c,.string what] w (FltS (ratN (Vec.getV lu what) (Vec.getV lc what)) w):=by
 obtain⟨a,ha⟩:∃a,Vec.getV lu what=a:=⟨_,rfl⟩
 obtain⟨b,hb⟩:∃a,Vec.getV lc what=a:=⟨_,rfl⟩
 have HU:=lH (fun (W:World) (k:Kept w W)=>Vec.getR (hu.kept k) ha);have HC:=lH (fun (W:World) (k:Kept w W)=>Vec.getR (hc.kept k) hb);rw[ha,hb];clear ha hb hu hc;have K:=lH (Kept.refl w);go_enter Tryz.func50,Tryz.ntmps50;go_wp2_with fail
 refine(HU.out _ K.out).mono ?_;rintro e w1 ⟨rfl,kk⟩;have K:=lH (K.out.trans kk);clear kk;go_wp2_with fail
 refine(HC.out _ K.out).mono ?_;rintro e w2 ⟨rfl,kk⟩;have K:=lH (K.out.trans kk);clear kk;go_wp2_with fail
 refine(rtof_any a b _).mono ?_;rintro e w3 ⟨r,n,rfl,rfl,hr,ht⟩;have HR:=lH hr;have K:=lH (K.out.trans (Kept.drewN w2 n));clear hr;go_wp2;go_ret;exact floatS HR.out ht K.out
theorem one_flt (x:Nat) (u:Value) (h:u ∈ [Value.float .f64 x]):u.oneCell'=true:=by
 have e:u=Value.float .f64 x:=by simpa using h
 rw[e];rfl
def FltLay:Lay Nat:={ m:=1,cs:=fun x=>[.float .f64 x],fine:=fun x=>x<TOP,len:=fun _=>rfl,one:=one_flt,pos:=by decide }
theorem infoFl:(Tryz.prog.info? 58).map (fun i=>(i.zero,i.size,i.bytes))=some (some (.float .f64 0),1,8):=by kernel_rfl
theorem row_frow {w:World} {a:Option Addr} {len:Nat} {l:List Nat} (h:RowAt FltLay w a len l):FRow w a len l:=by
 obtain⟨h0,h1,h2,h3⟩:=h;refine⟨h0,h1,h2,h3.imp id ?_⟩;rintro ⟨b,off,e,hb,hc⟩;refine⟨b,off,e,hb,fun i hi=>?_⟩;have hil:i<l.length:=by omega
 have:=hc i l[i] 0 (.float .f64 l[i]) (List.getElem?_eq_getElem hil) rfl;rw[show l.getD i 0=l[i] by simp[List.getD,hil]];simpa [FltLay] using this
theorem meanS_take {s:Clu} {x:ByteArray} {l:Vec.V} {k:Nat} (h:k<l.length):(l.take (k+1)).map (fun a=>usageS s x a.1)=(l.take k).map (fun a=>usageS s x a.1)++[usageS s x (Vec.nm l k)]:=by
 rw[List.take_add_one,List.getElem?_eq_getElem h,List.map_append];simp[Vec.nm,List.getD,h]
theorem smean_any (s1 s2 s3:Option Addr) (n1 e1 n2 e2 n3 e3:Nat) (s:Clu) (name:ByteArray) (w:World) (hs:CluR w (CluV (.slice s1 n1 e1) (.slice s2 n2 e2) (.slice s3 n3 e3)) s) (hl:LowClu s):Calls Tryz.prog 47 #[.agg #[.slice s1 n1 e1,.slice s2 n2 e2,.slice s3 n3 e3],.string name] w (FltS (meanS s name) w):=by
 obtain⟨i0,hi,hz0,hz1,hz2'⟩:=info_parts infoFl;obtain⟨Z,hZ⟩:∃Z,w.alloc (.cells #[.slice s1 n1 e1,.slice s2 n2 e2,.slice s3 n3 e3] 26)=Z:=⟨_,rfl⟩
 have hkz:Kept w Z:=by rw[←hZ];exact kept_alloc _ _
 have HB1:=lH (freshN w (.slice s1 n1 e1) [.slice s2 n2 e2,.slice s3 n3 e3] 26 Z (by rw[hZ];exact Kept.refl _));have HS:=lH (hs.kept hkz);have K:=lH hkz;have HL:=lH hl;have HF:=lH (show ∀W,Kept Z W→W.cell? ⟨w.heap.size,0,none⟩=some (.slice s1 n1 e1)∧W.cell? ⟨w.heap.size,1,none⟩=some (.slice s2 n2 e2)∧W.cell? ⟨w.heap.size,2,none⟩=some (.slice s3 n3 e3) from fun W kk=>by
  have h:=HB1.out.kept kk;exact⟨h.at_ 0 _ rfl,h.at_ 1 _ rfl,h.at_ 2 _ rfl⟩)
 clear hs hl hkz;have HM:=lH (show meanS s name=meanO ((nodeZ s name).cap.map fun a=>usageS s name a.1) from rfl);go_enter Tryz.func47,Tryz.ntmps47;go_upto_region 1 with fail
 try rw[hZ]
 clear hZ;have J:=lH (Kept.drew Z);refine wp_region_held_drew (S:=fun W=>W.cell? ⟨w.heap.size,0,none⟩=some (.slice s1 n1 e1)∧W.cell? ⟨w.heap.size,1,none⟩=some (.slice s2 n2 e2)∧W.cell? ⟨w.heap.size,2,none⟩=some (.slice s3 n3 e3)) (by kernel_rfl) (HF.out _ J.out) (fun hHeld=>?_);obtain⟨wd,hwd⟩:∃W,Z.drew=W:=⟨_,rfl⟩
 rw[hwd] at J hHeld;try rw[hwd]
 clear hwd;refine wpAnyH_take  (i:=0) (v:=?_) (by rw[List.getElem?_toArray];exact rfl) (by kernel_rfl) (by kernel_rfl) (by kernel_rfl) (by exact fun _ _ _ h=>h) (Or.inl ⟨by rfl,(by rintro W ⟨o0,o1,o2⟩;go_simp<;>with_reducible rfl)⟩) (by assumption) ?_;try simp only  [Act.put,List.setIfInBounds_toArray,List.set_cons_zero,List.set_cons_succ]
 refine wpAnyH_take  (i:=1) (v:=?_) (by rw[List.getElem?_toArray];exact rfl) (by kernel_rfl) (by kernel_rfl) (by kernel_rfl) (by exact fun _ _ _ h=>h) (Or.inl ⟨by rfl,(by rintro W ⟨o0,o1,o2⟩;go_simp<;>with_reducible rfl)⟩) (by assumption) ?_;try simp only  [Act.put,List.setIfInBounds_toArray,List.set_cons_zero,List.set_cons_succ]
 refine wpAnyH_take  (i:=3) (v:=?_) (by rw[List.getElem?_toArray];exact rfl) (by kernel_rfl) (by kernel_rfl) (by kernel_rfl) (by exact fun _ _ _ h=>h) (Or.inl ⟨by rfl,(by rintro W ⟨o0,o1,o2⟩;go_simp<;>with_reducible rfl)⟩) (by assumption) ?_;try simp only  [Act.put,List.setIfInBounds_toArray,List.set_cons_zero,List.set_cons_succ]
 refine wpAnyH_take  (i:=4) (v:=?_) (by rw[List.getElem?_toArray];exact rfl) (by kernel_rfl) (by kernel_rfl) (by kernel_rfl) (by exact fun _ _ _ h=>h) (Or.inl ⟨by rfl,(by rintro W ⟨o0,o1,o2⟩;go_simp<;>with_reducible rfl)⟩) (by assumption) ?_;try simp only  [Act.put,List.setIfInBounds_toArray,List.set_cons_zero,List.set_cons_succ]
 refine wpAnyH_ready  (rs:=[2]) (by kernel_rfl) (by simp) (AllReadyH.cons  (by rw[List.getElem?_toArray];exact rfl) (fun K9 Ky=>?_) AllReadyH.nil);go_simp;refine(usedOn_any s1 s2 s3 n1 e1 n2 e2 n3 e3 s name _ (HS.out.kept J.out) HL.out).mono ?_;rintro e w1 ⟨vu,rfl,hu,kk⟩;have HU:=lH hu;have J:=lH (J.out.trans kk);clear kk hu;refine Ky.out _ _ (HF.out _ J.out) (fun _=>?_);clear Ky K9;try simp only  [Act.put,List.setIfInBounds_toArray,List.set_cons_zero,List.set_cons_succ]
 refine wpAnyH_ready  (rs:=[5]) (by kernel_rfl) (by simp) (AllReadyH.cons  (by rw[List.getElem?_toArray];exact rfl) (fun K9 Ky=>?_) AllReadyH.nil);go_simp;refine(snodeOf_any s1 s2 s3 n1 e1 n2 e2 n3 e3 s name _ (HS.out.kept J.out) HL.out).mono ?_;rintro e w2 ⟨b1,k1,d1,b2,k2,d2,b3,k3,d3,rfl,hn,kk⟩;have HU:=lH (HU.out.kept kk);have HC:=lH hn.cap;have J:=lH (J.out.trans kk);clear kk hn;unfold NodV;refine Ky.out _ _ (HF.out _ J.out) (fun _=>?_);clear Ky K9;try simp only  [Act.put,List.setIfInBounds_toArray,List.set_cons_zero,List.set_cons_succ]
 have hfd:=fun W=>nfield1 (nodeZ s name).name (.slice b1 k1 d1) (.slice b2 k2 d2) (.slice b3 k3 d3) (nodeZ s name).cordon W;refine wpAnyH_take  (i:=6) (v:=?_) (by rw[List.getElem?_toArray];exact rfl) (by kernel_rfl) (by kernel_rfl) (by kernel_rfl) (by exact fun _ _ _ h=>h) (Or.inl ⟨by rfl,(by rintro W ⟨o0,o1,o2⟩;go_simp<;>with_reducible rfl)⟩) (by assumption) ?_;try simp only  [Act.put,List.setIfInBounds_toArray,List.set_cons_zero,List.set_cons_succ]
 refine wpAnyH_take  (i:=7) (v:=?_) (by rw[List.getElem?_toArray];exact rfl) (by kernel_rfl) (by kernel_rfl) (by kernel_rfl) (by exact fun _ _ _ h=>h) (Or.inl ⟨by rfl,(by rintro W ⟨o0,o1,o2⟩;go_simp<;>with_reducible rfl)⟩) (by assumption) ?_;try simp only  [Act.put,List.setIfInBounds_toArray,List.set_cons_zero,List.set_cons_succ]
 refine wpAnyH_take  (i:=8) (v:=?_) (by rw[List.getElem?_toArray];exact rfl) (by kernel_rfl) (by kernel_rfl) (by kernel_rfl) (by exact fun _ _ _ h=>h) (Or.inl ⟨by rfl,(by rintro W ⟨o0,o1,o2⟩;go_simp<;>with_reducible rfl)⟩) (by assumption) ?_;try simp only  [Act.put,List.setIfInBounds_toArray,List.set_cons_zero,List.set_cons_succ]
 refine wpAnyH_done (by kernel_rfl) ?_ _;clear hfd;have HLZ:=(nodeZ_low HL.out name).cap;have K:=lH (K.out.trans J.out);clear J HF HB1 HS HL;have KW:=lH (Kept.refl w2);obtain⟨cap,hcap⟩:∃q,(nodeZ s name).cap=q:=⟨_,rfl⟩
 have HUS:=lH (show ∀x,usageS s name x=ratN (Vec.getV (usedSt s name).2 x) (Vec.getV cap x) from fun x=>by unfold usageS;rw[hcap]);rw[hcap] at HC HM HLZ;clear hcap;obtain⟨aC,cC,eC,-,-,hCA⟩:=HC.out;injection eC with e4 e5 e6;obtain rfl:=e4;obtain rfl:=e6;have HCA:=lH hCA;obtain⟨n9,hn9⟩:∃q,cap.length=q:=⟨_,rfl⟩
 rw[hn9] at HCA HLZ e5;obtain rfl:=e5;have HN9:=lH hn9;clear hCA hn9;go_wp2;go_loopw [7,19] (fun v i wr=>∃k:Nat,k≤k1∧i=.int .i64 k∧∃la:List Nat,la.map nrm=(cap.take k).map (fun a=>usageS s name a.1)∧Own FltLay 58 wr w2.heap.size v la∧Kept w2 wr) (fun _ i _=>k1-(intOf i).toNat)
 case atStart=>exact⟨0,Nat.zero_le _,rfl,[],rfl,Own.nil _ _ _,Kept.refl _⟩
 case round =>
  obtain⟨k,hk,rfl,la,hla,ho,hK⟩:=hrel;have HX:=lH hla;have HO:=lH ho;have HK:=lH hK;obtain⟨m,hm⟩:∃m,la.length=m:=⟨_,rfl⟩
  have hmk:m≤k:=by
   have:=congrArg List.length hla;simp only[List.length_map,List.length_take] at this;omega
  have HT:=lH hm;have hbase:w2.heap.size≤wr.heap.size:=hK.size;by_cases hlt:k<k1
  · obtain⟨b,off,rfl⟩:=HCA.out.form.resolve_left (by omega);obtain⟨-,u0,u1⟩:=(HCA.out.kept hK).cells hlt;have HWT:=lH (meanS_take (s:=s) (x:=name) (l:=cap) (k:=k) (by have:=HN9.out;omega));obtain⟨xn,hxn⟩:∃x,Vec.nm cap k=x:=⟨_,rfl⟩
    obtain⟨qn,hqn⟩:∃x,Vec.qn cap k=x:=⟨_,rfl⟩
    rw[hxn] at u0 HWT;rw[hqn] at u1;have hkk:(k:Int)<(k1:Int):=by omega
    have hk0:¬(k:Int)<0:=by omega
    obtain⟨wx,hwx⟩:∃W,wr.alloc (.cells #[.string xn,.int .i64 qn] 103)=W:=⟨_,rfl⟩
    have hkx:Kept wr wx:=by rw[←hwx];exact kept_alloc _ _
    have HNX:=lH (freshN wr (.string xn) [.int .i64 qn] 103 wx (by rw[hwx];exact Kept.refl _));obtain⟨bq,hbq⟩:∃z,wr.heap.size=z:=⟨_,rfl⟩
    rw[hbq] at HNX;have HRE:=lH (susage_any vu (.slice (some ⟨b,off,none⟩) k1 d1) (usedSt s name).2 cap xn wx (HU.out.kept (hK.trans hkx)) (HC.out.kept (hK.trans hkx)));rw[←HUS.out] at HRE;have KX:=lH hkx;go_upto_region 6 with fail
    try rw[hwx]
    try rw[hbq]
    clear hwx hbq hkx hk0 hkk hla ho hm hK hxn hqn u0 u1;have t0:=HNX.out.at_ 0 _ rfl;go_wp2_with fail
    refine HRE.out.mono ?_;rintro e w3 ⟨r,rfl,hr,hrt,kk⟩;have HV:=lH (show (la++[r]).map nrm=(cap.take (k+1)).map (fun a=>usageS s name a.1) by rw[HWT.out,List.map_append,HX.out];simp[hr]);have HRT:=lH hrt;have KW:=lH (KX.out.trans kk);clear kk HRE t0 hr hrt;have HOW2:=lH (show w3.ownsRow w2.heap.size 58 1 u7 m (rowCells FltLay la) by have:=(HO.out.kept KW.out).1;rw[HT.out] at this;exact this);have hs1:wr.heap.size≤w3.heap.size:=Below.size KW.out;go_wp2_with (at_builtin;refine wpList_append_lies _ rfl _ _ _ rfl w2.heap.size 58 i0 _ 1 8 Tryz.underlying156 hi hz0 hz1 hz2' rfl (by decide) u7 m (rowCells FltLay la) rfl (HOW2.out.alloc _) ⟨w3.heap.size,0,none⟩ 1 1 (FltLay.cs r) rfl rfl (World.news_of_block (cs:=#[.float .f64 r]) (t:=58) (fr:=(0,0)) (heap_alloc_new w3 _)) (one_flt r) (by decide) (by unfold maxLen;omega) (by omega) (by simp;omega) (w3.heap.size+1) (by simp) ?_;intro gg cap1 w4 hown1 hgrow hat hlt1)
    have HBW:=lH ((show Below w2.heap.size w2 _ from HK.out.trans (KW.out.trans (kept_alloc w3 _))).grown hgrow (by simp;omega) (fun j hj=>(HOW2.out.lt j hj).1));go_wp2;go_roundw
    case rel=>exact⟨k+1,by omega,by go_num,la++[r],HV.out,Own.snoc hown1 (by rw[HT.out]) HO.out.2 HRT.out,HBW.out⟩
    case measure=>simp[intOf];omega
  · have hge:¬(k:Int)<(k1:Int):=by omega
    have HE:=lH (show la.map nrm=cap.map (fun a=>usageS s name a.1) by rw[hla,List.take_of_length_le (by have:=HN9.out;omega)]);obtain⟨aL,cL,rfl,-,-,hrow⟩:=ho.at_;have HME:=lH (mean_any aL la.length cL la wr (row_frow hrow));rw[hm] at HME;try rw[hm]
    clear hla ho hm hK hrow;go_wp2_with fail
    refine HME.out.mono ?_;rintro e w5 ⟨r,rfl,hr,hrt,kk⟩;have HR:=lH (show nrm r=meanS s name by rw[hr,meanN_nrm,HE.out,HM.out]);have K:=lH (K.out.trans (HK.out.trans kk));clear kk hr HME;go_wp2;go_ret;exact floatS HR.out hrt K.out
theorem alone_any (s1 s2 s3:Option Addr) (n1 e1 n2 e2 n3 e3:Nat) (s:Clu) (name:ByteArray) (w:World) (hs:CluR w (CluV (.slice s1 n1 e1) (.slice s2 n2 e2) (.slice s3 n3 e3)) s) (hl:LowClu s):Calls Tryz.prog 49 #[.agg #[.slice s1 n1 e1,.slice s2 n2 e2,.slice s3 n3 e3],.string name] w (TellsS (aloneS s name) w):=by
 obtain⟨Z,hZ⟩:∃Z,(w.alloc (.cells #[.slice s1 n1 e1,.slice s2 n2 e2,.slice s3 n3 e3] 26)).alloc (.cells #[.slice none 0 0,.slice none 0 0,.slice none 0 0] 26)=Z:=⟨_,rfl⟩
 have hkz:Kept w Z:=by rw[←hZ];exact kept_two _ _ _
 have HB1:=lH (freshN w (.slice s1 n1 e1) [.slice s2 n2 e2,.slice s3 n3 e3] 26 Z (by rw[←hZ];exact kept_alloc _ _));have hq2:CellsN (w.heap.size+1) [.slice none 0 0,.slice none 0 0,.slice none 0 0] Z:=by
  have dd:=freshN (w.alloc (.cells #[.slice s1 n1 e1,.slice s2 n2 e2,.slice s3 n3 e3] 26)) (.slice none 0 0) [.slice none 0 0,.slice none 0 0] 26 Z (by rw[hZ];exact Kept.refl _);rw[World.size_alloc] at dd;exact dd
 have hh2:Z.heap[w.heap.size+1]?=some (.cells #[.slice none 0 0,.slice none 0 0,.slice none 0 0] 26):=by
  have:=World.alloc_heap_new (w.alloc (.cells #[.slice s1 n1 e1,.slice s2 n2 e2,.slice s3 n3 e3] 26)) (.cells #[.slice none 0 0,.slice none 0 0,.slice none 0 0] 26);rw[World.size_alloc,hZ] at this;exact this
 have HQ:=lH hq2;have HH:=lH hh2;have HQ0:=lH hq2.lt;have HS:=lH (hs.kept hkz);have HKZ:=lH hkz;have HL:=lH hl;clear hs hl hkz hq2 hh2;have HF:=lH (show ∀W,CellsN w.heap.size [.slice s1 n1 e1,.slice s2 n2 e2,.slice s3 n3 e3] W→W.cell? ⟨w.heap.size,0,none⟩=some (.slice s1 n1 e1)∧W.cell? ⟨w.heap.size,1,none⟩=some (.slice s2 n2 e2)∧W.cell? ⟨w.heap.size,2,none⟩=some (.slice s3 n3 e3) from fun W h=>⟨h.at_ 0 _ rfl,h.at_ 1 _ rfl,h.at_ 2 _ rfl⟩);go_enter Tryz.func49,Tryz.ntmps49;go_upto_region 1 with fail
 try rw[hZ]
 clear hZ;have J:=lH (Kept.drew Z);refine wp_region_held_drew (S:=fun W=>W.cell? ⟨w.heap.size,0,none⟩=some (.slice s1 n1 e1)∧W.cell? ⟨w.heap.size,1,none⟩=some (.slice s2 n2 e2)∧W.cell? ⟨w.heap.size,2,none⟩=some (.slice s3 n3 e3)) (by kernel_rfl) (HF.out _ (HB1.out.kept J.out)) (fun hHeld=>?_);obtain⟨wd,hwd⟩:∃W,Z.drew=W:=⟨_,rfl⟩
 rw[hwd] at J hHeld;try rw[hwd]
 clear hwd;refine wpAnyH_take  (i:=0) (v:=?_) (by rw[List.getElem?_toArray];exact rfl) (by kernel_rfl) (by kernel_rfl) (by kernel_rfl) (by exact fun _ _ _ h=>h) (Or.inl ⟨by rfl,(by rintro W ⟨o0,o1,o2⟩;go_simp<;>with_reducible rfl)⟩) (by assumption) ?_;try simp only  [Act.put,List.setIfInBounds_toArray,List.set_cons_zero,List.set_cons_succ]
 refine wpAnyH_take  (i:=1) (v:=?_) (by rw[List.getElem?_toArray];exact rfl) (by kernel_rfl) (by kernel_rfl) (by kernel_rfl) (by exact fun _ _ _ h=>h) (Or.inl ⟨by rfl,(by rintro W ⟨o0,o1,o2⟩;go_simp<;>with_reducible rfl)⟩) (by assumption) ?_;try simp only  [Act.put,List.setIfInBounds_toArray,List.set_cons_zero,List.set_cons_succ]
 refine wpAnyH_take  (i:=4) (v:=?_) (by rw[List.getElem?_toArray];exact rfl) (by kernel_rfl) (by kernel_rfl) (by kernel_rfl) (by exact fun _ _ _ h=>h) (Or.inl ⟨by rfl,(by rintro W ⟨o0,o1,o2⟩;go_simp<;>with_reducible rfl)⟩) (by assumption) ?_;try simp only  [Act.put,List.setIfInBounds_toArray,List.set_cons_zero,List.set_cons_succ]
 refine wpAnyH_take  (i:=5) (v:=?_) (by rw[List.getElem?_toArray];exact rfl) (by kernel_rfl) (by kernel_rfl) (by kernel_rfl) (by exact fun _ _ _ h=>h) (Or.inl ⟨by rfl,(by rintro W ⟨o0,o1,o2⟩;go_simp<;>with_reducible rfl)⟩) (by assumption) ?_;try simp only  [Act.put,List.setIfInBounds_toArray,List.set_cons_zero,List.set_cons_succ]
 refine wpAnyH_ready  (rs:=[2]) (by kernel_rfl) (by simp) (AllReadyH.cons  (by rw[List.getElem?_toArray];exact rfl) (fun K9 Ky=>?_) AllReadyH.nil);go_simp;refine(snodeOf_any s1 s2 s3 n1 e1 n2 e2 n3 e3 s name _ (HS.out.kept J.out) HL.out).mono ?_;rintro e w2 ⟨b1,k1,d1,b2,k2,d2,b3,k3,d3,rfl,hn,kk⟩;have HN:=lH hn;have J:=lH (J.out.trans kk);clear kk hn;unfold NodV;refine Ky.out _ _ (HF.out _ (HB1.out.kept J.out)) (fun _=>?_);clear Ky K9;try simp only  [Act.put,List.setIfInBounds_toArray,List.set_cons_zero,List.set_cons_succ]
 obtain⟨nz,hnz⟩:∃q,nodeZ s name=q:=⟨_,rfl⟩
 rw[hnz] at HN;have HNZ:=lH hnz;try rw[hnz]
 clear hnz;refine wpAnyH_ready  (rs:=[3,6]) (by kernel_rfl) (by simp) (AllReadyH.cons  (by rw[List.getElem?_toArray];exact rfl) (fun K9 Ky=>?_) (AllReadyH.cons  (by rw[List.getElem?_toArray];exact rfl) (fun K9 Ky=>?_) AllReadyH.nil))
 · go_simp;refine Ky.out _ _ (HF.out _ (HB1.out.kept (J.out.trans (kept_alloc _ _)))) (fun _=>?_);clear Ky K9;try simp only  [Act.put,List.setIfInBounds_toArray,List.set_cons_zero,List.set_cons_succ]
   obtain⟨wb,hw⟩:∃W,w2.alloc (.cells #[.string nz.name,.slice b1 k1 d1,.slice b2 k2 d2,.slice b3 k3 d3,.bool nz.cordon] 55)=W:=⟨_,rfl⟩
   have kk:Kept w2 wb:=by rw[←hw];exact kept_alloc _ _
   obtain⟨gB,hgB⟩:∃g,w2.heap.size=g:=⟨_,rfl⟩
   have HRN:=lH (show NodesAt wb (some ⟨gB,0,none⟩) 1 [nz] from by
    have c:=freshN w2 (.string nz.name) [.slice b1 k1 d1,.slice b2 k2 d2,.slice b3 k3 d3,.bool nz.cordon] 55 wb (by rw[hw];exact Kept.refl _);rw[hgB] at c;exact nodes_row (lx:=[(nz,(b1,k1,d1),(b2,k2,d2),(b3,k3,d3))]) (row_fresh rfl c (fun _ _=>trivial) (by decide:(1:Nat)≤maxLen)) (fun z hz=>by
     obtain rfl:=List.mem_singleton.1 hz;exact HN.out.kept kk))
   have J:=lH (J.out.trans kk);try rw[hw]
   try rw[hgB]
   clear hw kk hgB;have hHeldB:=HF.out _ (HB1.out.kept J.out);refine wpAnyH_ready  (rs:=[6]) (by kernel_rfl) (by simp) (AllReadyH.cons  (by rw[List.getElem?_toArray];exact rfl) (fun K9 Ky=>?_) AllReadyH.nil);go_simp;refine(onR (HS.out.kept J.out) name HL.out).mono ?_;rintro e wo ⟨y,rfl,⟨aP,cP,rfl,hp1,hp2,hp⟩,kk⟩;have HPO:=lH (show PodsR wo (.slice aP (onP name s.pods).length cP) (onP name s.pods) from⟨aP,cP,rfl,hp1,hp2,hp⟩);have J:=lH (J.out.trans kk);have HRN:=lH (HRN.out.kept kk);clear kk hp hp1 hp2;refine Ky.out _ _ (HF.out _ (HB1.out.kept J.out)) (fun _=>?_);clear Ky K9;try simp only  [Act.put,List.setIfInBounds_toArray,List.set_cons_zero,List.set_cons_succ]
   obtain⟨lP,hlP⟩:∃q,(onP name s.pods).length=q:=⟨_,rfl⟩
   rw[hlP] at HPO;try rw[hlP]
   clear hlP;refine wpAnyH_take  (i:=7) (v:=?_) (by rw[List.getElem?_toArray];exact rfl) (by kernel_rfl) (by kernel_rfl) (by kernel_rfl) (by exact fun _ _ _ h=>h) (Or.inl ⟨by rfl,(by rintro W ⟨o0,o1,o2⟩;go_simp<;>with_reducible rfl)⟩) (by assumption) ?_;try simp only  [Act.put,List.setIfInBounds_toArray,List.set_cons_zero,List.set_cons_succ]
   have HQX:=lH (HQ.out.kept J.out);have HHX:=lH ((J.out.block _ HQ0.out).trans HH.out);have z0:=HQX.out.at_ 0 _ rfl;have z1:=HQX.out.at_ 1 _ rfl;have z2:=HQX.out.at_ 2 _ rfl;have f0:=HQX.out.free 0;have f1:=HQX.out.free 1;have f2:=HQX.out.free 2;have PP:=lH (putN (vs:=[.slice (some ⟨gB,0,none⟩) 1 1,.slice aP lP cP,.slice none 0 0]) HQX.out rfl);refine wpAnyH_ready  (rs:=[8]) (by kernel_rfl) (by simp) (AllReadyH.cons  (by rw[List.getElem?_toArray];exact rfl) (fun K9 Ky=>?_) AllReadyH.nil);go_simp;obtain⟨WE,hWE⟩:∃W,wo.setCells (w.heap.size+1) 0 [.slice (some ⟨gB,0,none⟩) 1 1,.slice aP lP cP,.slice none 0 0]=W:=⟨_,rfl⟩
   have hWE2:(((wo.setCell ⟨w.heap.size+1,0,none⟩ (.slice (some ⟨gB,0,none⟩) 1 1)).setCell ⟨w.heap.size+1,1,none⟩ (.slice aP lP cP)).setCell ⟨w.heap.size+1,2,none⟩ (.slice none 0 0))=WE:=hWE;rw[hWE] at PP;try rw[hWE2]
   have RE:=lH (show CluR WE (.agg #[.slice (some ⟨gB,0,none⟩) 1 1,.slice aP lP cP,.slice none 0 0]) (aloneS s name) from clu_pastS (w:=wo) (N:=w.heap.size+1) PP.out.size PP.out.far (all_sl HHX.out) ⟨_,_,_,rfl,⟨⟨_,_,rfl,(by decide:(1:Nat)≤1),(by decide:(1:Nat)≤maxLen),by unfold aloneS;rw[HNZ.out];exact HRN.out⟩,HPO.out,⟨_,_,rfl,Nat.le_refl _,(by decide:(0:Nat)≤maxLen),buds_none _⟩⟩⟩);have JE:=lH (show Kept w WE by rw[←hWE];exact setCells_below _ _ _ _ _ _ (Nat.le_succ _) (HKZ.out.trans J.out));have HBE:=lH (show CellsN w.heap.size [.slice s1 n1 e1,.slice s2 n2 e2,.slice s3 n3 e3] WE from(HB1.out.kept J.out).block (PP.out.far _ (by omega)));clear hWE hWE2 z0 f0 z1 f1 z2 f2;refine Ky.out _ _ (HF.out _ HBE.out) (fun _=>?_);clear Ky K9;try simp only  [Act.put,List.setIfInBounds_toArray,List.set_cons_zero,List.set_cons_succ]
   refine wpAnyH_done (by kernel_rfl) ?_ _;have d0:=PP.out.cells.at_ 0 _ rfl;have d1:=PP.out.cells.at_ 1 _ rfl;have d2:=PP.out.cells.at_ 2 _ rfl;go_wp2;refine bodyPost_ret (by simp[results,Tryz.results49,go_sem,d0,d1,d2];try rfl) rfl ?_;exact⟨_,rfl,RE.out,JE.out⟩
 · go_simp;refine(onR (HS.out.kept J.out) name HL.out).mono ?_;rintro e wo ⟨y,rfl,⟨aP,cP,rfl,hp1,hp2,hp⟩,kk⟩;have HPO:=lH (show PodsR wo (.slice aP (onP name s.pods).length cP) (onP name s.pods) from⟨aP,cP,rfl,hp1,hp2,hp⟩);have J:=lH (J.out.trans kk);have HN:=lH (HN.out.kept kk);clear kk hp hp1 hp2;refine Ky.out _ _ (HF.out _ (HB1.out.kept J.out)) (fun _=>?_);clear Ky K9;try simp only  [Act.put,List.setIfInBounds_toArray,List.set_cons_zero,List.set_cons_succ]
   refine wpAnyH_ready  (rs:=[3]) (by kernel_rfl) (by simp) (AllReadyH.cons  (by rw[List.getElem?_toArray];exact rfl) (fun K9 Ky=>?_) AllReadyH.nil);go_simp;refine Ky.out _ _ (HF.out _ (HB1.out.kept (J.out.trans (kept_alloc _ _)))) (fun _=>?_);clear Ky K9;try simp only  [Act.put,List.setIfInBounds_toArray,List.set_cons_zero,List.set_cons_succ]
   obtain⟨wb,hw⟩:∃W,wo.alloc (.cells #[.string nz.name,.slice b1 k1 d1,.slice b2 k2 d2,.slice b3 k3 d3,.bool nz.cordon] 55)=W:=⟨_,rfl⟩
   have kk:Kept wo wb:=by rw[←hw];exact kept_alloc _ _
   obtain⟨gB,hgB⟩:∃g,wo.heap.size=g:=⟨_,rfl⟩
   have HRN:=lH (show NodesAt wb (some ⟨gB,0,none⟩) 1 [nz] from by
    have c:=freshN wo (.string nz.name) [.slice b1 k1 d1,.slice b2 k2 d2,.slice b3 k3 d3,.bool nz.cordon] 55 wb (by rw[hw];exact Kept.refl _);rw[hgB] at c;exact nodes_row (lx:=[(nz,(b1,k1,d1),(b2,k2,d2),(b3,k3,d3))]) (row_fresh rfl c (fun _ _=>trivial) (by decide:(1:Nat)≤maxLen)) (fun z hz=>by
     obtain rfl:=List.mem_singleton.1 hz;exact HN.out.kept kk))
   have HPO:=lH (HPO.out.kept kk);have J:=lH (J.out.trans kk);try rw[hw]
   try rw[hgB]
   clear hw kk hgB;have hHeldB:=HF.out _ (HB1.out.kept J.out);obtain⟨lP,hlP⟩:∃q,(onP name s.pods).length=q:=⟨_,rfl⟩
   rw[hlP] at HPO;try rw[hlP]
   clear hlP;refine wpAnyH_take  (i:=7) (v:=?_) (by rw[List.getElem?_toArray];exact rfl) (by kernel_rfl) (by kernel_rfl) (by kernel_rfl) (by exact fun _ _ _ h=>h) (Or.inl ⟨by rfl,(by rintro W ⟨o0,o1,o2⟩;go_simp<;>with_reducible rfl)⟩) (by assumption) ?_;try simp only  [Act.put,List.setIfInBounds_toArray,List.set_cons_zero,List.set_cons_succ]
   have HQX:=lH (HQ.out.kept J.out);have HHX:=lH ((J.out.block _ HQ0.out).trans HH.out);have z0:=HQX.out.at_ 0 _ rfl;have z1:=HQX.out.at_ 1 _ rfl;have z2:=HQX.out.at_ 2 _ rfl;have f0:=HQX.out.free 0;have f1:=HQX.out.free 1;have f2:=HQX.out.free 2;have PP:=lH (putN (vs:=[.slice (some ⟨gB,0,none⟩) 1 1,.slice aP lP cP,.slice none 0 0]) HQX.out rfl);refine wpAnyH_ready  (rs:=[8]) (by kernel_rfl) (by simp) (AllReadyH.cons  (by rw[List.getElem?_toArray];exact rfl) (fun K9 Ky=>?_) AllReadyH.nil);go_simp;obtain⟨WE,hWE⟩:∃W,wb.setCells (w.heap.size+1) 0 [.slice (some ⟨gB,0,none⟩) 1 1,.slice aP lP cP,.slice none 0 0]=W:=⟨_,rfl⟩
   have hWE2:(((wb.setCell ⟨w.heap.size+1,0,none⟩ (.slice (some ⟨gB,0,none⟩) 1 1)).setCell ⟨w.heap.size+1,1,none⟩ (.slice aP lP cP)).setCell ⟨w.heap.size+1,2,none⟩ (.slice none 0 0))=WE:=hWE;rw[hWE] at PP;try rw[hWE2]
   have RE:=lH (show CluR WE (.agg #[.slice (some ⟨gB,0,none⟩) 1 1,.slice aP lP cP,.slice none 0 0]) (aloneS s name) from clu_pastS (w:=wb) (N:=w.heap.size+1) PP.out.size PP.out.far (all_sl HHX.out) ⟨_,_,_,rfl,⟨⟨_,_,rfl,(by decide:(1:Nat)≤1),(by decide:(1:Nat)≤maxLen),by unfold aloneS;rw[HNZ.out];exact HRN.out⟩,HPO.out,⟨_,_,rfl,Nat.le_refl _,(by decide:(0:Nat)≤maxLen),buds_none _⟩⟩⟩);have JE:=lH (show Kept w WE by rw[←hWE];exact setCells_below _ _ _ _ _ _ (Nat.le_succ _) (HKZ.out.trans J.out));have HBE:=lH (show CellsN w.heap.size [.slice s1 n1 e1,.slice s2 n2 e2,.slice s3 n3 e3] WE from(HB1.out.kept J.out).block (PP.out.far _ (by omega)));clear hWE hWE2 z0 f0 z1 f1 z2 f2;refine Ky.out _ _ (HF.out _ HBE.out) (fun _=>?_);clear Ky K9;try simp only  [Act.put,List.setIfInBounds_toArray,List.set_cons_zero,List.set_cons_succ]
   refine wpAnyH_done (by kernel_rfl) ?_ _;have d0:=PP.out.cells.at_ 0 _ rfl;have d1:=PP.out.cells.at_ 1 _ rfl;have d2:=PP.out.cells.at_ 2 _ rfl;go_wp2;refine bodyPost_ret (by simp[results,Tryz.results49,go_sem,d0,d1,d2];try rfl) rfl ?_;exact⟨_,rfl,RE.out,JE.out⟩
theorem alone_low {s:Clu} (h:LowClu s) (x:ByteArray):LowClu (aloneS s x):=⟨fun n hn=>by
 obtain rfl:=List.mem_singleton.1 hn;exact nodeZ_low h x,fun n hn=>by
 unfold aloneS onP at hn;split at hn
 · cases hn
 · exact h.pods n (List.mem_filter.1 hn).1,(fun n hn=>by cases hn),(by decide:(1:Nat)≤100000),by
 unfold aloneS onP;split
 · exact(by decide:(0:Nat)≤100000)
 · exact Nat.le_trans (List.length_filter_le _ _) h.podsN,(by decide:(0:Nat)≤100000)⟩
theorem on_len (x:ByteArray) (l:List Pd):(onP x l).length≤l.length:=by
 unfold onP;split
 · exact Nat.zero_le _
 · exact List.length_filter_le _ _
theorem nodePd_low {p:Pd} (h:LowPd p) (x:ByteArray):LowPd { p with node:=x }:=⟨h.need,h.labels,h.sel,h.tols⟩
theorem put_lowS {s:Clu} {p:Pd} (h:LowClu s) (hp:LowPd p) (hn:s.pods.length+1≤100000):LowClu (putSt s p):=⟨h.nodes,fun q hq=>by
 rcases ins_mem hq with rfl | hq
 · exact hp
 · exact h.pods q (drop_mem hq),h.buds,h.nodesN,by
 show (insP p (dropP p.name s.pods)).length≤100000;rw[ins_len];exact Nat.le_trans (Nat.succ_le_succ (drop_len _ _)) hn,h.budsN⟩
theorem score_any (s1 s2 s3:Option Addr) (n1 e1 n2 e2 n3 e3:Nat) (a1 a2 a3 a4:Option Addr) (m1 c1 m2 c2 m3 c3 m4 c4:Nat) (p:Pd) (s:Clu) (name:ByteArray) (w:World) (hs:CluR w (CluV (.slice s1 n1 e1) (.slice s2 n2 e2) (.slice s3 n3 e3)) s) (hl:LowClu s) (hb:s.pods.length+1≤100000) (hp:PodAt w (.slice a1 m1 c1) (.slice a2 m2 c2) (.slice a3 m3 c3) (.slice a4 m4 c4) p) (hlp:LowPd p) (hx:name.size≤maxLen):Calls Tryz.prog 15 #[.agg #[.slice s1 n1 e1,.slice s2 n2 e2,.slice s3 n3 e3],PodV p (.slice a1 m1 c1) (.slice a2 m2 c2) (.slice a3 m3 c3) (.slice a4 m4 c4),.string name] w (FltS (scoreS s p name) w):=by
 obtain⟨Z,hZ⟩:∃Z,(w.alloc (.cells #[.slice s1 n1 e1,.slice s2 n2 e2,.slice s3 n3 e3] 26)).alloc (.cells #[.string p.name,.string p.owner,.int .i64 p.prio,.slice a1 m1 c1,.slice a2 m2 c2,.slice a3 m3 c3,.slice a4 m4 c4,.string p.key,.int .i64 p.most,.string p.node,.bool p.hold] 35)=Z:=⟨_,rfl⟩
 have hkz:Kept w Z:=by rw[←hZ];exact kept_two _ _ _
 have hzs:Z.heap.size=w.heap.size+2:=by rw[←hZ];simp
 have hq1:=freshN w (.slice s1 n1 e1) [.slice s2 n2 e2,.slice s3 n3 e3] 26 Z (by rw[←hZ];exact kept_alloc _ _);have hq2:CellsN (w.heap.size+1) [.string p.name,.string p.owner,.int .i64 p.prio,.slice a1 m1 c1,.slice a2 m2 c2,.slice a3 m3 c3,.slice a4 m4 c4,.string p.key,.int .i64 p.most,.string p.node,.bool p.hold] Z:=by
  have dd:=freshN (w.alloc (.cells #[.slice s1 n1 e1,.slice s2 n2 e2,.slice s3 n3 e3] 26)) (.string p.name) [.string p.owner,.int .i64 p.prio,.slice a1 m1 c1,.slice a2 m2 c2,.slice a3 m3 c3,.slice a4 m4 c4,.string p.key,.int .i64 p.most,.string p.node,.bool p.hold] 35 Z (by rw[hZ];exact Kept.refl _);rw[World.size_alloc] at dd;exact dd
 obtain⟨Y,hY⟩:∃W,Z.setCell ⟨w.heap.size+1,9,none⟩ (.string name)=W:=⟨_,rfl⟩
 have hky:Kept w Y:=by rw[←hY];exact hkz.setCell (p:=⟨w.heap.size+1,9,none⟩) (by show w.heap.size≤w.heap.size+1;omega) _
 have HB2:=lH (show CellsN (w.heap.size+1) [.string p.name,.string p.owner,.int .i64 p.prio,.slice a1 m1 c1,.slice a2 m2 c2,.slice a3 m3 c3,.slice a4 m4 c4,.string p.key,.int .i64 p.most,.string name,.bool p.hold] Y by rw[←hY];exact hq2.set (j:=9) (u:=.string name) (by simp));have HB1:=lH (show CellsN w.heap.size [.slice s1 n1 e1,.slice s2 n2 e2,.slice s3 n3 e3] Y by rw[←hY];exact hq1.other (by omega));have HS:=lH (hs.kept hky);have HP:=lH (show PodAt Y (.slice a1 m1 c1) (.slice a2 m2 c2) (.slice a3 m3 c3) (.slice a4 m4 c4) { p with node:=name } from by have h:=hp.kept hky;exact⟨h.name,h.owner,h.key,hx,h.prio,h.most,h.need,h.labels,h.sel,h.tols⟩);have K:=lH hky;have HL:=lH hl;have HLP:=lH (nodePd_low hlp name);have HLB:=lH hb;have HV:=lH (show scoreS s p name=meanS (putSt (aloneS s name) { p with node:=name }) name from rfl);have u9:=hq2.at_ 9 _ rfl;have f9:=hq2.free 9;have HF:=lH (show ∀W,Kept Y W→W.cell? ⟨w.heap.size,0,none⟩=some (.slice s1 n1 e1)∧W.cell? ⟨w.heap.size,1,none⟩=some (.slice s2 n2 e2)∧W.cell? ⟨w.heap.size,2,none⟩=some (.slice s3 n3 e3)∧W.cell? ⟨w.heap.size+1,0,none⟩=some (.string p.name)∧W.cell? ⟨w.heap.size+1,1,none⟩=some (.string p.owner)∧W.cell? ⟨w.heap.size+1,2,none⟩=some (.int .i64 p.prio)∧W.cell? ⟨w.heap.size+1,3,none⟩=some (.slice a1 m1 c1)∧W.cell? ⟨w.heap.size+1,4,none⟩=some (.slice a2 m2 c2)∧W.cell? ⟨w.heap.size+1,5,none⟩=some (.slice a3 m3 c3)∧W.cell? ⟨w.heap.size+1,6,none⟩=some (.slice a4 m4 c4)∧W.cell? ⟨w.heap.size+1,7,none⟩=some (.string p.key)∧W.cell? ⟨w.heap.size+1,8,none⟩=some (.int .i64 p.most)∧W.cell? ⟨w.heap.size+1,9,none⟩=some (.string name)∧W.cell? ⟨w.heap.size+1,10,none⟩=some (.bool p.hold) from fun W kk=>by
  have h:=HB1.out.kept kk;have q:=HB2.out.kept kk;exact⟨h.at_ 0 _ rfl,h.at_ 1 _ rfl,h.at_ 2 _ rfl,q.at_ 0 _ rfl,q.at_ 1 _ rfl,q.at_ 2 _ rfl,q.at_ 3 _ rfl,q.at_ 4 _ rfl,q.at_ 5 _ rfl,q.at_ 6 _ rfl,q.at_ 7 _ rfl,q.at_ 8 _ rfl,q.at_ 9 _ rfl,q.at_ 10 _ rfl⟩)
 clear hs hp hkz hky hl hlp hb hq1 hq2;unfold PodV;go_enter Tryz.func15,Tryz.ntmps15;go_upto_region 1 with fail
 try rw[hZ]
 clear hZ;go_upto_region 2 with fail
 try rw[hY]
 clear hY u9 f9 hzs;have J:=lH (Kept.drew Y);refine wp_region_held_drew (S:=fun W=>W.cell? ⟨w.heap.size,0,none⟩=some (.slice s1 n1 e1)∧W.cell? ⟨w.heap.size,1,none⟩=some (.slice s2 n2 e2)∧W.cell? ⟨w.heap.size,2,none⟩=some (.slice s3 n3 e3)∧W.cell? ⟨w.heap.size+1,0,none⟩=some (.string p.name)∧W.cell? ⟨w.heap.size+1,1,none⟩=some (.string p.owner)∧W.cell? ⟨w.heap.size+1,2,none⟩=some (.int .i64 p.prio)∧W.cell? ⟨w.heap.size+1,3,none⟩=some (.slice a1 m1 c1)∧W.cell? ⟨w.heap.size+1,4,none⟩=some (.slice a2 m2 c2)∧W.cell? ⟨w.heap.size+1,5,none⟩=some (.slice a3 m3 c3)∧W.cell? ⟨w.heap.size+1,6,none⟩=some (.slice a4 m4 c4)∧W.cell? ⟨w.heap.size+1,7,none⟩=some (.string p.key)∧W.cell? ⟨w.heap.size+1,8,none⟩=some (.int .i64 p.most)∧W.cell? ⟨w.heap.size+1,9,none⟩=some (.string name)∧W.cell? ⟨w.heap.size+1,10,none⟩=some (.bool p.hold)) (by kernel_rfl) (HF.out _ J.out) (fun hHeld=>?_);obtain⟨wd,hwd⟩:∃W,Y.drew=W:=⟨_,rfl⟩
 rw[hwd] at J hHeld;try rw[hwd]
 clear hwd;refine wpAnyH_take  (i:=0) (v:=?_) (by rw[List.getElem?_toArray];exact rfl) (by kernel_rfl) (by kernel_rfl) (by kernel_rfl) (by exact fun _ _ _ h=>h) (Or.inl ⟨by rfl,(by rintro W ⟨o0,o1,o2,o3,o4,o5,o6,o7,o8,o9,o10,o11,o12,o13⟩;go_simp<;>with_reducible rfl)⟩) (by assumption) ?_;try simp only  [Act.put,List.setIfInBounds_toArray,List.set_cons_zero,List.set_cons_succ]
 refine wpAnyH_take  (i:=1) (v:=?_) (by rw[List.getElem?_toArray];exact rfl) (by kernel_rfl) (by kernel_rfl) (by kernel_rfl) (by exact fun _ _ _ h=>h) (Or.inl ⟨by rfl,(by rintro W ⟨o0,o1,o2,o3,o4,o5,o6,o7,o8,o9,o10,o11,o12,o13⟩;go_simp<;>with_reducible rfl)⟩) (by assumption) ?_;try simp only  [Act.put,List.setIfInBounds_toArray,List.set_cons_zero,List.set_cons_succ]
 refine wpAnyH_take  (i:=3) (v:=?_) (by rw[List.getElem?_toArray];exact rfl) (by kernel_rfl) (by kernel_rfl) (by kernel_rfl) (by exact fun _ _ _ h=>h) (Or.inl ⟨by rfl,(by rintro W ⟨o0,o1,o2,o3,o4,o5,o6,o7,o8,o9,o10,o11,o12,o13⟩;go_simp<;>with_reducible rfl)⟩) (by assumption) ?_;try simp only  [Act.put,List.setIfInBounds_toArray,List.set_cons_zero,List.set_cons_succ]
 refine wpAnyH_take  (i:=5) (v:=?_) (by rw[List.getElem?_toArray];exact rfl) (by kernel_rfl) (by kernel_rfl) (by kernel_rfl) (by exact fun _ _ _ h=>h) (Or.inl ⟨by rfl,(by rintro W ⟨o0,o1,o2,o3,o4,o5,o6,o7,o8,o9,o10,o11,o12,o13⟩;go_simp<;>with_reducible rfl)⟩) (by assumption) ?_;try simp only  [Act.put,List.setIfInBounds_toArray,List.set_cons_zero,List.set_cons_succ]
 refine wpAnyH_ready  (rs:=[2]) (by kernel_rfl) (by simp) (AllReadyH.cons  (by rw[List.getElem?_toArray];exact rfl) (fun K9 Ky=>?_) AllReadyH.nil);go_simp;refine(alone_any s1 s2 s3 n1 e1 n2 e2 n3 e3 s name _ (HS.out.kept J.out) HL.out).mono ?_;rintro e w1 ⟨y,rfl,hy,kk⟩;have HY:=lH hy;have J:=lH (J.out.trans kk);clear kk hy;refine Ky.out _ _ (HF.out _ J.out) (fun _=>?_);clear Ky K9;try simp only  [Act.put,List.setIfInBounds_toArray,List.set_cons_zero,List.set_cons_succ]
 refine wpAnyH_ready  (rs:=[4]) (by kernel_rfl) (by simp) (AllReadyH.cons  (by rw[List.getElem?_toArray];exact rfl) (fun K9 Ky=>?_) AllReadyH.nil);go_simp;refine(putStR HY.out (p:={ p with node:=name }) ⟨_,_,_,_,rfl,HP.out.kept J.out⟩ (alone_low HL.out name) HLP.out).mono ?_;rintro e w2 ⟨y2,rfl,hy,kk⟩;obtain⟨t1,k1,d1,t2,k2,d2,t3,k3,d3,rfl⟩:=hy.spelt;have HY2:=lH hy;have J:=lH (J.out.trans kk);clear kk hy HY;refine Ky.out _ _ (HF.out _ J.out) (fun _=>?_);clear Ky K9;try simp only  [Act.put,List.setIfInBounds_toArray,List.set_cons_zero,List.set_cons_succ]
 refine wpAnyH_ready  (rs:=[6]) (by kernel_rfl) (by simp) (AllReadyH.cons  (by rw[List.getElem?_toArray];exact rfl) (fun K9 Ky=>?_) AllReadyH.nil);go_simp;have HME:=smean_any t1 t2 t3 k1 d1 k2 d2 k3 d3 _ name w2 HY2.out (put_lowS (alone_low HL.out name) HLP.out (by have:=HLB.out;have:(aloneS s name).pods.length≤s.pods.length:=on_len name s.pods;omega));try unfold CluV at HME
 refine HME.mono ?_;rintro e w3 ⟨r,rfl,hr,hrt,kk⟩;have HR:=lH (hr.trans HV.out.symm);have J:=lH (J.out.trans kk);clear kk hr HME HY2;refine Ky.out _ _ (HF.out _ J.out) (fun _=>?_);clear Ky K9;try simp only  [Act.put,List.setIfInBounds_toArray,List.set_cons_zero,List.set_cons_succ]
 refine wpAnyH_take  (i:=7) (v:=?_) (by rw[List.getElem?_toArray];exact rfl) (by kernel_rfl) (by kernel_rfl) (by kernel_rfl) (by exact fun _ _ _ h=>h) (Or.inl ⟨by rfl,(by rintro W ⟨o0,o1,o2,o3,o4,o5,o6,o7,o8,o9,o10,o11,o12,o13⟩;go_simp<;>with_reducible rfl)⟩) (by assumption) ?_;try simp only  [Act.put,List.setIfInBounds_toArray,List.set_cons_zero,List.set_cons_succ]
 refine wpAnyH_done (by kernel_rfl) ?_ _;go_wp2;go_ret;exact floatS HR.out hrt (K.out.trans J.out)
theorem usageF_any (s1 s2 s3:Option Addr) (n1 e1 n2 e2 n3 e3:Nat) (s:Clu) (name what:ByteArray) (w:World) (hs:CluR w (CluV (.slice s1 n1 e1) (.slice s2 n2 e2) (.slice s3 n3 e3)) s) (hl:LowClu s):Calls Tryz.prog 19 #[.agg #[.slice s1 n1 e1,.slice s2 n2 e2,.slice s3 n3 e3],.string name,.string what] w (FltS (usageS s name what) w):=by
 obtain⟨Z,hZ⟩:∃Z,w.alloc (.cells #[.slice s1 n1 e1,.slice s2 n2 e2,.slice s3 n3 e3] 26)=Z:=⟨_,rfl⟩
 have hkz:Kept w Z:=by rw[←hZ];exact kept_alloc _ _
 have HB1:=lH (freshN w (.slice s1 n1 e1) [.slice s2 n2 e2,.slice s3 n3 e3] 26 Z (by rw[hZ];exact Kept.refl _));have HS:=lH (hs.kept hkz);have K:=lH hkz;have HL:=lH hl;have HF:=lH (show ∀W,Kept Z W→W.cell? ⟨w.heap.size,0,none⟩=some (.slice s1 n1 e1)∧W.cell? ⟨w.heap.size,1,none⟩=some (.slice s2 n2 e2)∧W.cell? ⟨w.heap.size,2,none⟩=some (.slice s3 n3 e3) from fun W kk=>by
  have h:=HB1.out.kept kk;exact⟨h.at_ 0 _ rfl,h.at_ 1 _ rfl,h.at_ 2 _ rfl⟩)
 clear hs hl hkz;have HV:=lH (show usageS s name what=ratN (Vec.getV (usedSt s name).2 what) (Vec.getV (nodeZ s name).cap what) from rfl);go_enter Tryz.func19,Tryz.ntmps19;go_upto_region 1 with fail
 try rw[hZ]
 clear hZ;have J:=lH (Kept.drew Z);refine wp_region_held_drew (S:=fun W=>W.cell? ⟨w.heap.size,0,none⟩=some (.slice s1 n1 e1)∧W.cell? ⟨w.heap.size,1,none⟩=some (.slice s2 n2 e2)∧W.cell? ⟨w.heap.size,2,none⟩=some (.slice s3 n3 e3)) (by kernel_rfl) (HF.out _ J.out) (fun hHeld=>?_);obtain⟨wd,hwd⟩:∃W,Z.drew=W:=⟨_,rfl⟩
 rw[hwd] at J hHeld;try rw[hwd]
 clear hwd;refine wpAnyH_take  (i:=0) (v:=?_) (by rw[List.getElem?_toArray];exact rfl) (by kernel_rfl) (by kernel_rfl) (by kernel_rfl) (by exact fun _ _ _ h=>h) (Or.inl ⟨by rfl,(by rintro W ⟨o0,o1,o2⟩;go_simp<;>with_reducible rfl)⟩) (by assumption) ?_;try simp only  [Act.put,List.setIfInBounds_toArray,List.set_cons_zero,List.set_cons_succ]
 refine wpAnyH_take  (i:=1) (v:=?_) (by rw[List.getElem?_toArray];exact rfl) (by kernel_rfl) (by kernel_rfl) (by kernel_rfl) (by exact fun _ _ _ h=>h) (Or.inl ⟨by rfl,(by rintro W ⟨o0,o1,o2⟩;go_simp<;>with_reducible rfl)⟩) (by assumption) ?_;try simp only  [Act.put,List.setIfInBounds_toArray,List.set_cons_zero,List.set_cons_succ]
 refine wpAnyH_take  (i:=3) (v:=?_) (by rw[List.getElem?_toArray];exact rfl) (by kernel_rfl) (by kernel_rfl) (by kernel_rfl) (by exact fun _ _ _ h=>h) (Or.inl ⟨by rfl,(by rintro W ⟨o0,o1,o2⟩;go_simp<;>with_reducible rfl)⟩) (by assumption) ?_;try simp only  [Act.put,List.setIfInBounds_toArray,List.set_cons_zero,List.set_cons_succ]
 refine wpAnyH_take  (i:=4) (v:=?_) (by rw[List.getElem?_toArray];exact rfl) (by kernel_rfl) (by kernel_rfl) (by kernel_rfl) (by exact fun _ _ _ h=>h) (Or.inl ⟨by rfl,(by rintro W ⟨o0,o1,o2⟩;go_simp<;>with_reducible rfl)⟩) (by assumption) ?_;try simp only  [Act.put,List.setIfInBounds_toArray,List.set_cons_zero,List.set_cons_succ]
 refine wpAnyH_take  (i:=7) (v:=?_) (by rw[List.getElem?_toArray];exact rfl) (by kernel_rfl) (by kernel_rfl) (by kernel_rfl) (by exact fun _ _ _ h=>h) (Or.inl ⟨by rfl,(by rintro W ⟨o0,o1,o2⟩;go_simp<;>with_reducible rfl)⟩) (by assumption) ?_;try simp only  [Act.put,List.setIfInBounds_toArray,List.set_cons_zero,List.set_cons_succ]
 refine wpAnyH_ready  (rs:=[2]) (by kernel_rfl) (by simp) (AllReadyH.cons  (by rw[List.getElem?_toArray];exact rfl) (fun K9 Ky=>?_) AllReadyH.nil);go_simp;refine(usedOn_any s1 s2 s3 n1 e1 n2 e2 n3 e3 s name _ (HS.out.kept J.out) HL.out).mono ?_;rintro e w1 ⟨vu,rfl,hu,kk⟩;have HU:=lH hu;have J:=lH (J.out.trans kk);clear kk hu;refine Ky.out _ _ (HF.out _ J.out) (fun _=>?_);clear Ky K9;try simp only  [Act.put,List.setIfInBounds_toArray,List.set_cons_zero,List.set_cons_succ]
 refine wpAnyH_ready  (rs:=[5]) (by kernel_rfl) (by simp) (AllReadyH.cons  (by rw[List.getElem?_toArray];exact rfl) (fun K9 Ky=>?_) AllReadyH.nil);go_simp;refine(snodeOf_any s1 s2 s3 n1 e1 n2 e2 n3 e3 s name _ (HS.out.kept J.out) HL.out).mono ?_;rintro e w2 ⟨b1,k1,d1,b2,k2,d2,b3,k3,d3,rfl,hn,kk⟩;have HU:=lH (HU.out.kept kk);have HC:=lH hn.cap;have J:=lH (J.out.trans kk);clear kk hn;unfold NodV;refine Ky.out _ _ (HF.out _ J.out) (fun _=>?_);clear Ky K9;try simp only  [Act.put,List.setIfInBounds_toArray,List.set_cons_zero,List.set_cons_succ]
 have hfd:=fun W=>nfield1 (nodeZ s name).name (.slice b1 k1 d1) (.slice b2 k2 d2) (.slice b3 k3 d3) (nodeZ s name).cordon W;refine wpAnyH_take  (i:=6) (v:=?_) (by rw[List.getElem?_toArray];exact rfl) (by kernel_rfl) (by kernel_rfl) (by kernel_rfl) (by exact fun _ _ _ h=>h) (Or.inl ⟨by rfl,(by rintro W ⟨o0,o1,o2⟩;go_simp<;>with_reducible rfl)⟩) (by assumption) ?_;try simp only  [Act.put,List.setIfInBounds_toArray,List.set_cons_zero,List.set_cons_succ]
 refine wpAnyH_ready  (rs:=[8]) (by kernel_rfl) (by simp) (AllReadyH.cons  (by rw[List.getElem?_toArray];exact rfl) (fun K9 Ky=>?_) AllReadyH.nil);go_simp;refine(susage_any vu _ _ _ what _ HU.out HC.out).mono ?_;rintro e w3 ⟨r,rfl,hr,hrt,kk⟩;have HR:=lH (hr.trans HV.out.symm);have J:=lH (J.out.trans kk);clear kk hr;refine Ky.out _ _ (HF.out _ J.out) (fun _=>?_);clear Ky K9;try simp only  [Act.put,List.setIfInBounds_toArray,List.set_cons_zero,List.set_cons_succ]
 refine wpAnyH_take  (i:=9) (v:=?_) (by rw[List.getElem?_toArray];exact rfl) (by kernel_rfl) (by kernel_rfl) (by kernel_rfl) (by exact fun _ _ _ h=>h) (Or.inl ⟨by rfl,(by rintro W ⟨o0,o1,o2⟩;go_simp<;>with_reducible rfl)⟩) (by assumption) ?_;try simp only  [Act.put,List.setIfInBounds_toArray,List.set_cons_zero,List.set_cons_succ]
 refine wpAnyH_done (by kernel_rfl) ?_ _;go_wp2;go_ret;exact floatS HR.out hrt (K.out.trans J.out)
end Go.Proofs.YtmlgobiifebjkacGreat
