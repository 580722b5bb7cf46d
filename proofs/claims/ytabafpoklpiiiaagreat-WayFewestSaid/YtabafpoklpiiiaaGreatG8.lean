/- C. -/
import Derived.Test.YtabafpoklpiiiaaGreatG0
import Derived.Test.YtabafpoklpiiiaaGreatG1
import Derived.Test.YtabafpoklpiiiaaGreatG3
import Derived.Test.YtabafpoklpiiiaaGreatG6
import Derived.Test.YtabafpoklpiiiaaGreatG7
set_option linter.unusedVariables false
set_option maxRecDepth 100000
set_option maxHeartbeats 25600000
namespace Go.Proofs.YtabafpoklpiiiaaGreat
open Go.RowKit
theorem jC.nAt {w:World} {v2 v3:Value} {b:Option Addr} {m cp:Nat} {s:Clu} (h:jC w (j9 (.slice b m cp) v2 v3) s):jt w b m s.nodes∧m=s.nodes.length:=by
 obtain⟨_,_,_,e,g0⟩:=h
 cases e
 obtain⟨a',cap',e,_,_,h⟩:=g0.nodes
 cases e
 exact⟨h,rfl⟩
theorem jC.pAt {w:World} {v1 v3:Value} {b:Option Addr} {m cp:Nat} {s:Clu} (h:jC w (j9 v1 (.slice b m cp) v3) s):jv w b m s.pods∧m=s.pods.length:=by
 obtain⟨_,_,_,e,g0⟩:=h
 cases e
 obtain⟨a',cap',e,_,_,h⟩:=g0.pods
 cases e
 exact⟨h,rfl⟩
theorem ja2 (p:Pd) (n:Nod) (a1 a2 a3 a4:Option Addr) (m1 c1 m2 c2 m3 c3 m4 c4:Nat) (b1 b2 b3:Option Addr) (k1 d1 k2 d2 k3 d3:Nat) (w:World) (hp:jq w (.slice a1 m1 c1) (.slice a2 m2 c2) (.slice a3 m3 c3) (.slice a4 m4 c4) p) (hn:zA w (.slice b1 k1 d1) (.slice b2 k2 d2) (.slice b3 k3 d3) n):Calls Tryz.prog 151 #[jo p (.slice a1 m1 c1) (.slice a2 m2 c2) (.slice a3 m3 c3) (.slice a4 m4 c4),Zh n (.slice b1 k1 d1) (.slice b2 k2 d2) (.slice b3 k3 d3)] w (Say (.bool (zS p n)) w):=by
 obtain⟨t,ht⟩:=eX (JG p.sel n.labels)
 have V6:=lH (fun (W:World) (k:Kept w W)=>jgI (hp.sel.kept k) (hn.labels.kept k) ht);obtain⟨cd,hcd⟩:=eX (n.cordon)
 have HV:=lH (show zS p n=(!cd&&t) by unfold zS;rw[ht,hcd]);clear ht;obtain⟨Z,hZ⟩:=eX ((w.alloc (.cells #[.string p.name,.string p.owner,.int .i64 p.prio,.slice a1 m1 c1,.slice a2 m2 c2,.slice a3 m3 c3,.slice a4 m4 c4,.string p.key,.int .i64 p.most,.string p.node,.bool p.hold] 41)).alloc (.cells #[.string n.name,.slice b1 k1 d1,.slice b2 k2 d2,.slice b3 k3 d3,.bool cd] 29))
 have hkz:Kept w Z:=by rw[←hZ];exact ji _ _ _
 have Vg:=lH (jc w (.string p.name) [.string p.owner,.int .i64 p.prio,.slice a1 m1 c1,.slice a2 m2 c2,.slice a3 m3 c3,.slice a4 m4 c4,.string p.key,.int .i64 p.most,.string p.node,.bool p.hold] 41 Z (by rw[←hZ];exact ja _ _));have Vb:=lH (show je (w.heap.size+1) [.string n.name,.slice b1 k1 d1,.slice b2 k2 d2,.slice b3 k3 d3,.bool cd] Z by
  have dd:=jc (w.alloc (.cells #[.string p.name,.string p.owner,.int .i64 p.prio,.slice a1 m1 c1,.slice a2 m2 c2,.slice a3 m3 c3,.slice a4 m4 c4,.string p.key,.int .i64 p.most,.string p.node,.bool p.hold] 41)) (.string n.name) [.slice b1 k1 d1,.slice b2 k2 d2,.slice b3 k3 d3,.bool cd] 29 Z (by rw[hZ];exact Kept.refl _);rw[World.size_alloc] at dd;exact dd)
 have K:=lH hkz;have HM:=lH (V6.out Z hkz);clear V6 hp hn hkz;have r5:=Vg.out.at_ 5 _ rfl;have q2:=Vb.out.at_ 2 _ rfl;have q4:=Vb.out.at_ 4 _ rfl;unfold jo Zh;rw[hcd];clear hcd;go_enter Tryz.func151,Tryz.ntmps151
 cases cd with
 | true =>
  go_wp2;try rw[hZ]
  go_ret;exact⟨jr (by rw[HV.out];rfl),by first | exact K.out | (rw[hZ];exact K.out)⟩
 | false =>
  go_wp2_with fail
  try rw[hZ]
  refine HM.out.mono ?_;rintro e w1 ⟨rfl,kk⟩;have K:=lH (K.out.trans kk);clear kk hZ;go_wp2;go_ret;exact⟨jr (by rw[HV.out];rfl),K.out⟩
theorem jbP (p:Pd) (n:Nod) (a1 a2 a3 a4:Option Addr) (m1 c1 m2 c2 m3 c3 m4 c4:Nat) (b1 b2 b3:Option Addr) (k1 d1 k2 d2 k3 d3:Nat) (w:World) (hp:jq w (.slice a1 m1 c1) (.slice a2 m2 c2) (.slice a3 m3 c3) (.slice a4 m4 c4) p) (hn:zA w (.slice b1 k1 d1) (.slice b2 k2 d2) (.slice b3 k3 d3) n):Calls Tryz.prog 152 #[jo p (.slice a1 m1 c1) (.slice a2 m2 c2) (.slice a3 m3 c3) (.slice a4 m4 c4),Zh n (.slice b1 k1 d1) (.slice b2 k2 d2) (.slice b3 k3 d3)] w (Say (.bool (Jy p n)) w):=by
 obtain⟨t,ht⟩:=eX ((zk p.tols n.taints).isSome)
 obtain⟨⟨x,y,mm⟩,hx⟩:∃x,wT (zk p.tols n.taints)=x:=⟨_,rfl⟩
 have V6:=lH (fun (W:World) (k:Kept w W)=>jgr (hp.tols.kept k) (hn.taints.kept k) hx ht);have HV:=lH (show Jy p n=(!t) by unfold Jy;rw[ht]);clear ht hx;obtain⟨Z,hZ⟩:=eX ((w.alloc (.cells #[.string p.name,.string p.owner,.int .i64 p.prio,.slice a1 m1 c1,.slice a2 m2 c2,.slice a3 m3 c3,.slice a4 m4 c4,.string p.key,.int .i64 p.most,.string p.node,.bool p.hold] 41)).alloc (.cells #[.string n.name,.slice b1 k1 d1,.slice b2 k2 d2,.slice b3 k3 d3,.bool n.cordon] 29))
 have hkz:Kept w Z:=by rw[←hZ];exact ji _ _ _
 have Vg:=lH (jc w (.string p.name) [.string p.owner,.int .i64 p.prio,.slice a1 m1 c1,.slice a2 m2 c2,.slice a3 m3 c3,.slice a4 m4 c4,.string p.key,.int .i64 p.most,.string p.node,.bool p.hold] 41 Z (by rw[←hZ];exact ja _ _));have Vb:=lH (show je (w.heap.size+1) [.string n.name,.slice b1 k1 d1,.slice b2 k2 d2,.slice b3 k3 d3,.bool n.cordon] Z by
  have dd:=jc (w.alloc (.cells #[.string p.name,.string p.owner,.int .i64 p.prio,.slice a1 m1 c1,.slice a2 m2 c2,.slice a3 m3 c3,.slice a4 m4 c4,.string p.key,.int .i64 p.most,.string p.node,.bool p.hold] 41)) (.string n.name) [.slice b1 k1 d1,.slice b2 k2 d2,.slice b3 k3 d3,.bool n.cordon] 29 Z (by rw[hZ];exact Kept.refl _);rw[World.size_alloc] at dd;exact dd)
 have K:=lH hkz;have HM:=lH (V6.out Z hkz);clear V6 hp hn hkz;have r6:=Vg.out.at_ 6 _ rfl;have q3:=Vb.out.at_ 3 _ rfl;unfold jo Zh;go_enter Tryz.func152,Tryz.ntmps152;go_wp2_with fail
 try rw[hZ]
 refine HM.out.mono ?_;rintro e w1 ⟨rfl,kk⟩;have K:=lH (K.out.trans kk);clear kk hZ;go_wp2;go_ret;exact⟨jr (by rw[HV.out]),K.out.trans (ja _ _)⟩
theorem jaJ (s1 s2 s3:Option Addr) (n1 e1 n2 e2 n3 e3:Nat) (a1 a2 a3 a4:Option Addr) (m1 c1 m2 c2 m3 c3 m4 c4:Nat) (p:Pd) (s:Clu) (name:ByteArray) (w:World) (hs:jC w (j9 (.slice s1 n1 e1) (.slice s2 n2 e2) (.slice s3 n3 e3)) s) (hl:jn s):Calls Tryz.prog 153 #[.agg #[.slice s1 n1 e1,.slice s2 n2 e2,.slice s3 n3 e3],jo p (.slice a1 m1 c1) (.slice a2 m2 c2) (.slice a3 m3 c3) (.slice a4 m4 c4),.string name] w (Say (.bool (Js s p name)) w):=by
 have hn1:=hs.nAt.2;have hn2:=hs.pAt.2;have g1:=hl.nodesN;have g2:=hl.podsN;obtain⟨Z,hZ⟩:=eX ((w.alloc (.cells #[.slice s1 n1 e1,.slice s2 n2 e2,.slice s3 n3 e3] 35)).alloc (.cells #[.string p.name,.string p.owner,.int .i64 p.prio,.slice a1 m1 c1,.slice a2 m2 c2,.slice a3 m3 c3,.slice a4 m4 c4,.string p.key,.int .i64 p.most,.string p.node,.bool p.hold] 41))
 have hkz:Kept w Z:=by rw[←hZ];exact ji _ _ _
 have Vg:=lH (jc w (.slice s1 n1 e1) [.slice s2 n2 e2,.slice s3 n3 e3] 35 Z (by rw[←hZ];exact ja _ _));have Vb:=lH (show je (w.heap.size+1) [.string p.name,.string p.owner,.int .i64 p.prio,.slice a1 m1 c1,.slice a2 m2 c2,.slice a3 m3 c3,.slice a4 m4 c4,.string p.key,.int .i64 p.most,.string p.node,.bool p.hold] Z by
  have dd:=jc (w.alloc (.cells #[.slice s1 n1 e1,.slice s2 n2 e2,.slice s3 n3 e3] 35)) (.string p.name) [.string p.owner,.int .i64 p.prio,.slice a1 m1 c1,.slice a2 m2 c2,.slice a3 m3 c3,.slice a4 m4 c4,.string p.key,.int .i64 p.most,.string p.node,.bool p.hold] 41 Z (by rw[hZ];exact Kept.refl _);rw[World.size_alloc] at dd;exact dd)
 have K:=lH hkz;have HS:=lH (jeZ s1 s2 s3 a1 a2 a3 a4 n1 e1 n2 e2 n3 e3 m1 c1 m2 c2 m3 c3 m4 c4 p s name Z (hs.nAt.1.kept hkz) (hs.pAt.1.kept hkz) (by omega) (by omega));clear hs hkz hl hn1 hn2 g1 g2;obtain⟨t7,h7⟩:=eX ((p.key.toList==([]:List UInt8)))
 have H7:=lH (show zq p.key=t7 by rw[Xb,h7]);obtain⟨y0,y1,y2⟩:=Vg.out.at3;obtain⟨r0,r1,r2,r3,r4,r5,r6,r7,r8,r9,r10⟩:=Vb.out.at11;unfold jo at HS ⊢;go_enter Tryz.func153,Tryz.ntmps153
 cases t7 with
 | true =>
  have HV:=lH (show Js s p name=false by unfold Js;rw[if_pos H7.out]);go_wp2;try rw[hZ]
  go_ret;exact⟨jr HV.out.symm,by first | exact K.out | (rw[hZ];exact K.out)⟩
 | false =>
  have HV:=lH (show Js s p name=(!(Jv p s name).2||decide (p.most<(Jv p s name).1)) by unfold Js;rw[if_neg (by rw[H7.out];decide)]);obtain⟨z,hz⟩:=eX ((Jv p s name).1)
  obtain⟨b,hb⟩:=eX ((Jv p s name).2)
  rw[hz,hb] at HS HV;clear hz hb;go_upto_region 3 with fail
  try rw[hZ]
  clear hZ;go_wp2_with fail
  refine HS.out.mono ?_;rintro e w1 ⟨rfl,kk⟩;have K:=lH (K.out.trans kk);have r8:=(Vb.out.kept kk).at_ 8 _ rfl;clear kk y0 y1 y2 r0 r1 r2 r3 r4 r5 r6 r7 r9 r10
  cases b with
  | false =>
   go_wp2;go_ret;exact⟨jr (by rw[HV.out];rfl),K.out⟩
  | true =>
   by_cases hlt:p.most<z
   · have U3:=lH hlt;go_wp2;go_ret;exact⟨jr (by rw[HV.out,decide_eq_true U3.out];rfl),K.out⟩
   · have U3:=lH hlt;have hle:z≤p.most:=by omega
     clear hlt;go_wp2;go_ret;exact⟨jr (by rw[HV.out,decide_eq_false (by have:=U3.out;omega)];rfl),K.out⟩
theorem jb3 (s1 s2 s3:Option Addr) (n1 e1 n2 e2 n3 e3:Nat) (a1 a2 a3 a4:Option Addr) (m1 c1 m2 c2 m3 c3 m4 c4:Nat) (p:Pd) (s:Clu) (name:ByteArray) (w:World) (hs:jC w (j9 (.slice s1 n1 e1) (.slice s2 n2 e2) (.slice s3 n3 e3)) s) (hl:jn s) (hp:jq w (.slice a1 m1 c1) (.slice a2 m2 c2) (.slice a3 m3 c3) (.slice a4 m4 c4) p):Calls Tryz.prog 154 #[.agg #[.slice s1 n1 e1,.slice s2 n2 e2,.slice s3 n3 e3],jo p (.slice a1 m1 c1) (.slice a2 m2 c2) (.slice a3 m3 c3) (.slice a4 m4 c4),.string name] w (Say (.bool (Zf s p name)) w):=by
 obtain⟨Z,hZ⟩:=eX ((w.alloc (.cells #[.slice s1 n1 e1,.slice s2 n2 e2,.slice s3 n3 e3] 35)).alloc (.cells #[.string p.name,.string p.owner,.int .i64 p.prio,.slice a1 m1 c1,.slice a2 m2 c2,.slice a3 m3 c3,.slice a4 m4 c4,.string p.key,.int .i64 p.most,.string p.node,.bool p.hold] 41))
 have hkz:Kept w Z:=by rw[←hZ];exact ji _ _ _
 have Vg:=lH (jc w (.slice s1 n1 e1) [.slice s2 n2 e2,.slice s3 n3 e3] 35 Z (by rw[←hZ];exact ja _ _));have Vb:=lH (show je (w.heap.size+1) [.string p.name,.string p.owner,.int .i64 p.prio,.slice a1 m1 c1,.slice a2 m2 c2,.slice a3 m3 c3,.slice a4 m4 c4,.string p.key,.int .i64 p.most,.string p.node,.bool p.hold] Z by
  have dd:=jc (w.alloc (.cells #[.slice s1 n1 e1,.slice s2 n2 e2,.slice s3 n3 e3] 35)) (.string p.name) [.string p.owner,.int .i64 p.prio,.slice a1 m1 c1,.slice a2 m2 c2,.slice a3 m3 c3,.slice a4 m4 c4,.string p.key,.int .i64 p.most,.string p.node,.bool p.hold] 41 Z (by rw[hZ];exact Kept.refl _);rw[World.size_alloc] at dd;exact dd)
 have K:=lH hkz;have HF:=lH (jgT (hs.kept hkz) name hl);unfold j9 at HF;have HP:=lH (hp.need.kept hkz);clear hs hkz hl hp;obtain⟨y0,y1,y2⟩:=Vg.out.at3;unfold jo;obtain⟨c,hc⟩:=eX ((JA s name).1)
 obtain⟨fl,hfl⟩:=eX ((JA s name).2)
 obtain⟨q,hq⟩:=eX (Vec.jy fl p.need)
 have HV:=lH (show Zf s p name=(decide (c=0)&&q) by unfold Zf;rw[hc,hfl,hq]);have HQ:=lH hq;go_enter Tryz.func154,Tryz.ntmps154;go_wp2_with fail
 try rw[hZ]
 refine HF.out.mono ?_;rintro e w1 ⟨y,rfl,hy,kk⟩;rw[hc];rw[hfl] at hy;obtain⟨HY,K,HP⟩:=lH3 hy (K.out.trans kk) (HP.out.kept kk);have r3:=(Vb.out.kept kk).at_ 3 _ rfl;clear kk hZ hc hfl hq hy HF y0 y1 y2;by_cases h0:c=0
 · subst h0;go_wp2_with fail
   refine(Vec.jgW HP.out HY.out HQ.out).mono ?_;rintro e w2 ⟨rfl,kk⟩;have K:=lH (K.out.trans kk);clear kk;go_wp2;go_ret;exact⟨jr (by rw[HV.out];rfl),K.out⟩
 · have h0b:(c==0)=false:=by simpa using h0
   have H0:=lH h0;clear h0;go_wp2;go_ret;exact⟨jr (by rw[HV.out,decide_eq_false H0.out];rfl),K.out⟩
def ZX (c:Int) (w:World) (e:Ending) (w':World):Prop:=(c=0→∃x i1 j1 l1 i2 j2 l2 i3 j3 l3 b,e=.returned (.agg #[.string x,.slice i1 j1 l1,.slice i2 j2 l2,.slice i3 j3 l3,.bool b]))∧(c≠0→e=.panicked [jV c])∧Kept w w'
theorem ZX.bad {c d:Int} {w w':World} (h:d=c) (hc:c≠0) (k:Kept w w'):ZX d w (.panicked [jV c]) w':=⟨fun g=>absurd (h.symm.trans g) hc,fun _=>by rw[h],k⟩
theorem jbS (s1 s2 s3:Option Addr) (n1 e1 n2 e2 n3 e3:Nat) (a1 a2 a3 a4:Option Addr) (m1 c1 m2 c2 m3 c3 m4 c4:Nat) (p:Pd) (s:Clu) (name:ByteArray) (w:World) (hs:jC w (j9 (.slice s1 n1 e1) (.slice s2 n2 e2) (.slice s3 n3 e3)) s) (hl:jn s) (hp:jq w (.slice a1 m1 c1) (.slice a2 m2 c2) (.slice a3 m3 c3) (.slice a4 m4 c4) p):Calls Tryz.prog 109 #[.agg #[.slice s1 n1 e1,.slice s2 n2 e2,.slice s3 n3 e3],jo p (.slice a1 m1 c1) (.slice a2 m2 c2) (.slice a3 m3 c3) (.slice a4 m4 c4),.string name] w (ZX (jZ s p name) w):=by
 obtain⟨Y,hY⟩:=eX ((w.alloc (.cells #[.slice s1 n1 e1,.slice s2 n2 e2,.slice s3 n3 e3] 35)).alloc (.cells #[.string p.name,.string p.owner,.int .i64 p.prio,.slice a1 m1 c1,.slice a2 m2 c2,.slice a3 m3 c3,.slice a4 m4 c4,.string p.key,.int .i64 p.most,.string p.node,.bool p.hold] 41))
 have hky:Kept w Y:=by rw[←hY];exact ji _ _ _
 have hys:Y.heap.size=w.heap.size+2:=by rw[←hY];simp
 have hsb:=jc w (.slice s1 n1 e1) [.slice s2 n2 e2,.slice s3 n3 e3] 35 Y (by rw[←hY];exact ja _ _);have hpb:je (w.heap.size+1) [.string p.name,.string p.owner,.int .i64 p.prio,.slice a1 m1 c1,.slice a2 m2 c2,.slice a3 m3 c3,.slice a4 m4 c4,.string p.key,.int .i64 p.most,.string p.node,.bool p.hold] Y:=by
  have dd:=jc (w.alloc (.cells #[.slice s1 n1 e1,.slice s2 n2 e2,.slice s3 n3 e3] 35)) (.string p.name) [.string p.owner,.int .i64 p.prio,.slice a1 m1 c1,.slice a2 m2 c2,.slice a3 m3 c3,.slice a4 m4 c4,.string p.key,.int .i64 p.most,.string p.node,.bool p.hold] 41 Y (by rw[hY];exact Kept.refl _);rw[World.size_alloc] at dd;exact dd
 obtain⟨Z,hZ⟩:=eX (Y.alloc (.cells #[.string ⟨#[]⟩,.slice none 0 0,.slice none 0 0,.slice none 0 0,.bool false] 29))
 have hkz:Kept Y Z:=by rw[←hZ];exact ja _ _
 have hnb:je (w.heap.size+2) [.string ⟨#[]⟩,.slice none 0 0,.slice none 0 0,.slice none 0 0,.bool false] Z:=by
  have dd:=jc Y (.string ⟨#[]⟩) [.slice none 0 0,.slice none 0 0,.slice none 0 0,.bool false] 29 Z (by rw[hZ];exact Kept.refl _);rw[hys] at dd;exact dd
 have hYZ:((w.alloc (.cells #[.slice s1 n1 e1,.slice s2 n2 e2,.slice s3 n3 e3] 35)).alloc (.cells #[.string p.name,.string p.owner,.int .i64 p.prio,.slice a1 m1 c1,.slice a2 m2 c2,.slice a3 m3 c3,.slice a4 m4 c4,.string p.key,.int .i64 p.most,.string p.node,.bool p.hold] 41)).alloc (.cells #[.string ⟨#[]⟩,.slice none 0 0,.slice none 0 0,.slice none 0 0,.bool false] 29)=Z:=by rw[hY];exact hZ
 obtain⟨Vh,Vk,Vl,K,VQ,VJ,HL,To⟩:=lH8 (hsb.kept hkz) (hpb.kept hkz) hnb (hky.trans hkz) (hs.kept (hky.trans hkz)) (hp.kept (hky.trans hkz)) hl (jb6 s1 s2 s3 n1 e1 n2 e2 n3 e3 s.nodes name Z ((hs.kept (hky.trans hkz)).nAt.1) (by have:=hl.nodesN;have:=hs.nAt.2;omega));clear hs hp hl hky hkz hys hsb hpb hnb hY hZ;unfold jo;obtain⟨y0,y1,y2⟩:=Vh.out.at3;go_enter Tryz.func109,Tryz.ntmps109;go_wp2_with fail
 try rw[hYZ]
 clear hYZ;refine To.out.mono ?_;rintro e w1 ⟨h1,h2,kk⟩;obtain⟨K,Vh,Vk,Vl,VQ,VJ⟩:=lH6 (K.out.trans kk) (Vh.out.kept kk) (Vk.out.kept kk) (Vl.out.kept kk) (VQ.out.kept kk) (VJ.out.kept kk);clear To y0 y1 y2
 cases ho:jl s.nodes name with
 | none =>
  obtain rfl:=h2 ho;have HE:=lH (show jZ s p name=3 from XH ho);clear h1 h2 ho kk;go_wp2;exact⟨rfl,ZX.bad HE.out (by decide) K.out⟩
 | some n =>
  obtain⟨b1,k1,d1,b2,k2,d2,b3,k3,d3,rfl,hn⟩:=h1 n ho;have HE:=lH (show jZ s p name=j7 s p n name from XL ho);clear h1 h2 ho;obtain⟨w2,hw2⟩:=eX (w1.alloc (.cells #[.string n.name,.slice b1 k1 d1,.slice b2 k2 d2,.slice b3 k3 d3,.bool n.cordon] 29))
  have kx:Kept w1 w2:=by rw[←hw2];exact ja _ _
  obtain⟨VI,Uc,K,Vh,Vk,Vl,VQ,VJ⟩:=lH8 (jc w1 (.string n.name) [.slice b1 k1 d1,.slice b2 k2 d2,.slice b3 k3 d3,.bool n.cordon] 29 w2 (by rw[hw2];exact Kept.refl _)) (hn.kept kx) (K.out.trans kx) (Vh.out.kept kx) (Vk.out.kept kx) (Vl.out.kept kx) (VQ.out.kept kx) (VJ.out.kept kx);obtain⟨gn,hgn⟩:=eX (w1.heap.size)
  rw[hgn] at VI;clear hn kk kx;unfold Zh;go_upto_region 2 with fail
  try rw[hw2]
  try rw[hgn]
  clear hw2 hgn;obtain⟨r0,r1,r2,r3,r4,r5,r6,r7,r8,r9,r10⟩:=Vk.out.at11;obtain⟨t0,t1,t2,t3,t4⟩:=VI.out.at5;obtain⟨bb,hbb⟩:=eX (zS p n)
  have HC:=lH (ja2 p n a1 a2 a3 a4 m1 c1 m2 c2 m3 c3 m4 c4 b1 b2 b3 k1 d1 k2 d2 k3 d3 _ VJ.out Uc.out);unfold jo at HC;unfold Zh at HC;rw[hbb] at HC;go_wp2_with fail
  refine HC.out.mono ?_;rintro e w3 ⟨rfl,kk⟩;obtain⟨Va,Vh,Vk,Vl,VQ,VJ,VI,Uc⟩:=lH8 hbb (Vh.out.kept kk) (Vk.out.kept kk) (Vl.out.kept kk) (VQ.out.kept kk) (VJ.out.kept kk) (VI.out.kept kk) (Uc.out.kept kk);have K:=lH (K.out.trans kk);clear kk;clear hbb HC r0 r1 r2 r3 r4 r5 r6 r7 r8 r9 r10 t0 t1 t2 t3 t4
  cases bb with
  | false =>
   go_wp2_with fail
   refine(ZJ 8 _).mono ?_;rintro e w4 ⟨rfl,rfl⟩;go_wp2;exact⟨rfl,ZX.bad (HE.out.trans (XJ Va.out)) (by decide) K.out⟩
  | true =>
   have Vg:=Va;clear Va;go_wp2_with fail
   refine(Yk 8 _).mono ?_;rintro e w4 ⟨rfl,rfl⟩;obtain⟨r0,r1,r2,r3,r4,r5,r6,r7,r8,r9,r10⟩:=Vk.out.at11;obtain⟨t0,t1,t2,t3,t4⟩:=VI.out.at5;obtain⟨bb,hbb⟩:=eX (Jy p n)
   have HC:=lH (jbP p n a1 a2 a3 a4 m1 c1 m2 c2 m3 c3 m4 c4 b1 b2 b3 k1 d1 k2 d2 k3 d3 _ VJ.out Uc.out);unfold jo at HC;unfold Zh at HC;rw[hbb] at HC;go_wp2_with fail
   refine HC.out.mono ?_;rintro e w3 ⟨rfl,kk⟩;obtain⟨Va,Vh,Vk,Vl,VQ,VJ,VI,Uc⟩:=lH8 hbb (Vh.out.kept kk) (Vk.out.kept kk) (Vl.out.kept kk) (VQ.out.kept kk) (VJ.out.kept kk) (VI.out.kept kk) (Uc.out.kept kk);have K:=lH (K.out.trans kk);clear kk;clear hbb HC r0 r1 r2 r3 r4 r5 r6 r7 r8 r9 r10 t0 t1 t2 t3 t4
   cases bb with
   | false =>
    go_wp2_with fail
    refine(ZJ 9 _).mono ?_;rintro e w4 ⟨rfl,rfl⟩;go_wp2;exact⟨rfl,ZX.bad (HE.out.trans (Y1 Vg.out Va.out)) (by decide) K.out⟩
   | true =>
    have Vb:=Va;clear Va;go_wp2_with fail
    refine(Yk 9 _).mono ?_;rintro e w4 ⟨rfl,rfl⟩;obtain⟨y0,y1,y2⟩:=Vh.out.at3;obtain⟨r0,r1,r2,r3,r4,r5,r6,r7,r8,r9,r10⟩:=Vk.out.at11;obtain⟨bb,hbb⟩:=eX (Js s p name)
    have HC:=lH (jaJ s1 s2 s3 n1 e1 n2 e2 n3 e3 a1 a2 a3 a4 m1 c1 m2 c2 m3 c3 m4 c4 p s name _ VQ.out HL.out);unfold jo at HC;rw[hbb] at HC;go_wp2_with fail
    refine HC.out.mono ?_;rintro e w3 ⟨rfl,kk⟩;obtain⟨Va,Vh,Vk,Vl,VQ,VJ,VI,Uc⟩:=lH8 hbb (Vh.out.kept kk) (Vk.out.kept kk) (Vl.out.kept kk) (VQ.out.kept kk) (VJ.out.kept kk) (VI.out.kept kk) (Uc.out.kept kk);have K:=lH (K.out.trans kk);clear kk;clear hbb HC y0 y1 y2 r0 r1 r2 r3 r4 r5 r6 r7 r8 r9 r10
    cases bb with
    | true =>
     go_wp2_with fail
     refine(ZJ 10 _).mono ?_;rintro e w4 ⟨rfl,rfl⟩;go_wp2;exact⟨rfl,ZX.bad (HE.out.trans (Xn Vg.out Vb.out Va.out)) (by decide) K.out⟩
    | false =>
     have VK:=Va;clear Va;go_wp2_with fail
     refine(Yk 10 _).mono ?_;rintro e w4 ⟨rfl,rfl⟩;obtain⟨y0,y1,y2⟩:=Vh.out.at3;obtain⟨r0,r1,r2,r3,r4,r5,r6,r7,r8,r9,r10⟩:=Vk.out.at11;obtain⟨bb,hbb⟩:=eX (Zf s p name)
     have HC:=lH (jb3 s1 s2 s3 n1 e1 n2 e2 n3 e3 a1 a2 a3 a4 m1 c1 m2 c2 m3 c3 m4 c4 p s name _ VQ.out HL.out VJ.out);unfold jo at HC;rw[hbb] at HC;go_wp2_with fail
     refine HC.out.mono ?_;rintro e w3 ⟨rfl,kk⟩;obtain⟨Va,Vh,Vk,Vl,VQ,VJ,VI,Uc⟩:=lH8 hbb (Vh.out.kept kk) (Vk.out.kept kk) (Vl.out.kept kk) (VQ.out.kept kk) (VJ.out.kept kk) (VI.out.kept kk) (Uc.out.kept kk);have K:=lH (K.out.trans kk);clear kk;clear hbb HC y0 y1 y2 r0 r1 r2 r3 r4 r5 r6 r7 r8 r9 r10
     cases bb with
     | false =>
      go_wp2_with fail
      refine(ZJ 7 _).mono ?_;rintro e w4 ⟨rfl,rfl⟩;go_wp2;exact⟨rfl,ZX.bad (HE.out.trans (Xq Vg.out Vb.out VK.out Va.out)) (by decide) K.out⟩
     | true =>
      go_wp2_with fail
      refine(Yk 7 _).mono ?_;rintro e w4 ⟨rfl,rfl⟩;obtain⟨t0,t1,t2,t3,t4⟩:=VI.out.at5;obtain⟨z0,z1,z2,z3,z4⟩:=Vl.out.at5;have f0:=Vl.out.free 0;have f1:=Vl.out.free 1;have f2:=Vl.out.free 2;have f3:=Vl.out.free 3;have f4:=Vl.out.free 4;have P:=lH (Zz ⟨z0,z1,z2,z3,z4⟩ n.name b1 b2 b3 k1 d1 k2 d2 k3 d3 n.cordon);obtain⟨x9,hx9⟩:=eX (n.name)
      obtain⟨c9,hc9⟩:=eX (n.cordon)
      rw[hx9] at t0;rw[hc9] at t4;rw[hx9,hc9] at P;have U0:=lH (HE.out.trans (jcR Vg.out Vb.out VK.out Va.out));clear hx9 hc9 HE VI Uc VQ VJ;go_wp2;obtain⟨WE,hWE⟩:=eX ((((((w3.setCell ⟨w.heap.size+2,0,none⟩ (.string x9)).setCell ⟨w.heap.size+2,1,none⟩ (.slice b1 k1 d1)).setCell ⟨w.heap.size+2,2,none⟩ (.slice b2 k2 d2)).setCell ⟨w.heap.size+2,3,none⟩ (.slice b3 k3 d3)).setCell ⟨w.heap.size+2,4,none⟩ (.bool c9)))
      rw[hWE] at P ⊢;clear hWE z0 z1 z2 z3 z4 t0 t1 t2 t3 t4 f0 f1 f2 f3 f4;obtain⟨⟨q0,q1,q2,q3,q4⟩,hsz,hbl,hkp⟩:=P.out;refine bodyPost_ret (by simp[results,Tryz.results109,go_sem,q0,q1,q2,q3,q4];try rfl) rfl ?_;have KE:=hkp _ _ (by omega) K.out;exact⟨fun _=>⟨_,_,_,_,_,_,_,_,_,_,_,rfl⟩,fun g=>absurd U0.out g,KE⟩
def jf8 (c:Int) (w:World) (e:Ending) (w':World):Prop:=(∃x i1 j1 l1 i2 j2 l2 i3 j3 l3 b,e=.returned (.tuple #[.agg #[.string x,.slice i1 j1 l1,.slice i2 j2 l2,.slice i3 j3 l3,.bool b],.int .i64 c]))∧Kept w w'
theorem jcE (Q1 Q2 Q3:Nat) (s1 s2 s3:Option Addr) (n1 e1 n2 e2 n3 e3:Nat) (a1 a2 a3 a4:Option Addr) (m1 c1 m2 c2 m3 c3 m4 c4:Nat) (p:Pd) (s:Clu) (name:ByteArray) (w:World) (hq1:je Q1 [.slice s1 n1 e1,.slice s2 n2 e2,.slice s3 n3 e3] w) (hq2:je Q2 [.string p.name,.string p.owner,.int .i64 p.prio,.slice a1 m1 c1,.slice a2 m2 c2,.slice a3 m3 c3,.slice a4 m4 c4,.string p.key,.int .i64 p.most,.string p.node,.bool p.hold] w) (hq3:je Q3 [.string name] w) (hs:jC w (j9 (.slice s1 n1 e1) (.slice s2 n2 e2) (.slice s3 n3 e3)) s) (hl:jn s) (hp:jq w (.slice a1 m1 c1) (.slice a2 m2 c2) (.slice a3 m3 c3) (.slice a4 m4 c4) p) :
 Calls Tryz.prog 108 #[.pointer (some ⟨Q1,0,none⟩),.pointer (some ⟨Q2,0,none⟩),.pointer (some ⟨Q3,0,none⟩)] w (ZX (jZ s p name) w):=by
 obtain⟨Z,hZ⟩:=eX (w.alloc (.cells #[.string ⟨#[]⟩,.slice none 0 0,.slice none 0 0,.slice none 0 0,.bool false] 29))
 have hkz:Kept w Z:=by rw[←hZ];exact ja _ _
 have Vl:=lH (jc w (.string ⟨#[]⟩) [.slice none 0 0,.slice none 0 0,.slice none 0 0,.bool false] 29 Z (by rw[hZ];exact Kept.refl _));have HS:=lH (jbS s1 s2 s3 n1 e1 n2 e2 n3 e3 a1 a2 a3 a4 m1 c1 m2 c2 m3 c3 m4 c4 p s name Z (hs.kept hkz) hl (hp.kept hkz));unfold jo at HS;have K:=lH hkz;have y0:=(hq1.kept hkz).at_ 0 _ rfl;have y1:=(hq1.kept hkz).at_ 1 _ rfl;have y2:=(hq1.kept hkz).at_ 2 _ rfl;have r0:=(hq2.kept hkz).at_ 0 _ rfl;have r1:=(hq2.kept hkz).at_ 1 _ rfl;have r2:=(hq2.kept hkz).at_ 2 _ rfl;have r3:=(hq2.kept hkz).at_ 3 _ rfl;have r4:=(hq2.kept hkz).at_ 4 _ rfl;have r5:=(hq2.kept hkz).at_ 5 _ rfl;have r6:=(hq2.kept hkz).at_ 6 _ rfl;have r7:=(hq2.kept hkz).at_ 7 _ rfl;have r8:=(hq2.kept hkz).at_ 8 _ rfl;have r9:=(hq2.kept hkz).at_ 9 _ rfl;have r10:=(hq2.kept hkz).at_ 10 _ rfl;have x0:=(hq3.kept hkz).at_ 0 _ rfl;clear hq1 hq2 hq3 hs hp hl hkz;obtain⟨c,hc⟩:=eX (jZ s p name)
 rw[hc] at HS ⊢;clear hc;go_enter Tryz.func108,Tryz.ntmps108;go_wp2_with fail
 try rw[hZ]
 refine HS.out.mono ?_;rintro e w1 ⟨h1,h2,kk⟩;have K:=lH (K.out.trans kk);have Vl:=lH (Vl.out.kept kk);clear kk hZ HS y0 y1 y2 r0 r1 r2 r3 r4 r5 r6 r7 r8 r9 r10 x0;by_cases hc:c=0
 · obtain⟨x9,i1,j1,l1,i2,j2,l2,i3,j3,l3,b9,rfl⟩:=h1 hc;have VG:=lH hc;clear h1 h2 hc;obtain⟨z0,z1,z2,z3,z4⟩:=Vl.out.at5;have f0:=Vl.out.free 0;have f1:=Vl.out.free 1;have f2:=Vl.out.free 2;have f3:=Vl.out.free 3;have f4:=Vl.out.free 4;have g0:=YF (u0:=.string x9) (u1:=.slice i1 j1 l1) (u2:=.slice i2 j2 l2) (u3:=.slice i3 j3 l3) (u4:=.bool b9) z0 z1 z2 z3 z4;go_wp2;obtain⟨WE,hWE⟩:=eX ((((((w1.setCell ⟨w.heap.size,0,none⟩ (.string x9)).setCell ⟨w.heap.size,1,none⟩ (.slice i1 j1 l1)).setCell ⟨w.heap.size,2,none⟩ (.slice i2 j2 l2)).setCell ⟨w.heap.size,3,none⟩ (.slice i3 j3 l3)).setCell ⟨w.heap.size,4,none⟩ (.bool b9)))
   obtain⟨q0,q1,q2,q3,q4⟩:=g0 WE hWE;have KE:Kept w WE:=by rw[←hWE];exact((((K.out.setCell (p:=⟨w.heap.size,0,none⟩) (Nat.le_refl _) _).setCell (p:=⟨w.heap.size,1,none⟩) (Nat.le_refl _) _).setCell (p:=⟨w.heap.size,2,none⟩) (Nat.le_refl _) _).setCell (p:=⟨w.heap.size,3,none⟩) (Nat.le_refl _) _).setCell (p:=⟨w.heap.size,4,none⟩) (Nat.le_refl _) _
   rw[hWE];clear hWE z0 z1 z2 z3 z4 f0 f1 f2 f3 f4;refine bodyPost_ret (by simp[results,Tryz.results108,go_sem,q0,q1,q2,q3,q4];try rfl) rfl ?_;exact⟨fun _=>⟨_,_,_,_,_,_,_,_,_,_,_,rfl⟩,fun g=>absurd VG.out g,KE⟩
 · obtain rfl:=h2 hc;have VG:=lH hc;clear h1 h2 hc;go_wp2;exact⟨rfl,ZX.bad rfl VG.out K.out⟩
theorem jbL (Q1 Q2 Q3:Nat) (c:Int) (w:World) (hk:∀W,Kept w W→Calls Tryz.prog 108 #[.pointer (some ⟨Q1,0,none⟩),.pointer (some ⟨Q2,0,none⟩),.pointer (some ⟨Q3,0,none⟩)] W (ZX c W)) :
 Calls Tryz.prog 107 #[.func (.func 108) #[] #[.pointer (some ⟨Q1,0,none⟩),.pointer (some ⟨Q2,0,none⟩),.pointer (some ⟨Q3,0,none⟩)]] w (jf8 c w):=by
 have hmf:=hmfL (P:=Tryz.prog);obtain⟨Z,hZ⟩:=eX ((w.alloc (.cells #[.string ⟨#[]⟩,.slice none 0 0,.slice none 0 0,.slice none 0 0,.bool false] 29)).alloc (.cells #[.int .i64 0] 53))
 have hkz:Kept w Z:=by rw[←hZ];exact ji _ _ _
 have Vl:=lH (jc w (.string ⟨#[]⟩) [.slice none 0 0,.slice none 0 0,.slice none 0 0,.bool false] 29 Z (by rw[←hZ];exact ja _ _));have Tr:=lH (show je (w.heap.size+1) [.int .i64 0] Z by
  have dd:=jc (w.alloc (.cells #[.string ⟨#[]⟩,.slice none 0 0,.slice none 0 0,.slice none 0 0,.bool false] 29)) (.int .i64 0) [] 53 Z (by rw[hZ];exact Kept.refl _);rw[World.size_alloc] at dd;exact dd)
 have HK:=lH hkz;have TH:=lH (hk Z hkz);clear hk hkz;go_enter_defers Tryz.func107,Tryz.ntmps107
 go_wp2_with fail
 try rw[hZ]
 refine TH.out.mono ?_;rintro e1 w1 ⟨h0,h1,hb⟩;obtain⟨KK,Vl,Tr⟩:=lH3 (HK.out.trans hb) (Vl.out.kept hb) (Tr.out.kept hb);obtain⟨z0,z1,z2,z3,z4⟩:=Vl.out.at5;have f0:=Vl.out.free 0;have f1:=Vl.out.free 1;have f2:=Vl.out.free 2;have f3:=Vl.out.free 3;have f4:=Vl.out.free 4;have ez:=Tr.out.at_ 0 _ rfl;have ef:=Tr.out.free 0;clear TH;by_cases hx:c=0
 · obtain⟨x9,i1,j1,l1,i2,j2,l2,i3,j3,l3,b9,rfl⟩:=h0 hx;subst hx;clear h0 h1 hb hZ;have g0:=YF (u0:=.string x9) (u1:=.slice i1 j1 l1) (u2:=.slice i2 j2 l2) (u3:=.slice i3 j3 l3) (u4:=.bool b9) z0 z1 z2 z3 z4;have RS:=lH g0;clear g0;go_wp2_with fail
   obtain⟨WE,hWE⟩:=eX ((((((w1.setCell ⟨w.heap.size,0,none⟩ (.string x9)).setCell ⟨w.heap.size,1,none⟩ (.slice i1 j1 l1)).setCell ⟨w.heap.size,2,none⟩ (.slice i2 j2 l2)).setCell ⟨w.heap.size,3,none⟩ (.slice i3 j3 l3)).setCell ⟨w.heap.size,4,none⟩ (.bool b9)))
   obtain⟨q0,q1,q2,q3,q4⟩:=RS.out WE hWE;have KE:Kept w WE:=by rw[←hWE];exact((((KK.out.setCell (p:=⟨w.heap.size,0,none⟩) (Nat.le_refl _) _).setCell (p:=⟨w.heap.size,1,none⟩) (Nat.le_refl _) _).setCell (p:=⟨w.heap.size,2,none⟩) (Nat.le_refl _) _).setCell (p:=⟨w.heap.size,3,none⟩) (Nat.le_refl _) _).setCell (p:=⟨w.heap.size,4,none⟩) (Nat.le_refl _) _
   have ee:WE.cell? ⟨w.heap.size+1,0,none⟩=some (.int .i64 0):=by rw[←hWE];exact(((((Tr.out.other (by omega)).other (by omega)).other (by omega)).other (by omega)).other (by omega)).at_ 0 _ rfl
   rw[hWE];clear hWE z0 z1 z2 z3 z4 f0 f1 f2 f3 f4 RS;have ff:∀j v,WE.cell? ⟨w.heap.size,j,none⟩=some v→(WE.setCell ⟨w.heap.size+1,0,none⟩ (.int .i64 0)).cell? ⟨w.heap.size,j,none⟩=some v:=fun j v h=>(World.cell?_of_block (a:=⟨w.heap.size,j,none⟩) (Below.heap_setCell WE ⟨w.heap.size+1,0,none⟩ _ w.heap.size (by show w.heap.size≠w.heap.size+1;omega))).trans h;have g0:=ff 0 _ q0;have g1:=ff 1 _ q1;have g2:=ff 2 _ q2;have g3:=ff 3 _ q3;have g4:=ff 4 _ q4;have fe:=World.cell?_setCell_same' WE ⟨w.heap.size+1,0,none⟩ (.int .i64 0) (by rw[ee];rfl);have KF:=lH (show Kept w (WE.setCell ⟨w.heap.size+1,0,none⟩ (.int .i64 0)) from KE.setCell (p:=⟨w.heap.size+1,0,none⟩) (Nat.le_succ _) _);obtain⟨WF,hWF⟩:=eX (WE.setCell ⟨w.heap.size+1,0,none⟩ (.int .i64 0))
   rw[hWF] at fe g0 g1 g2 g3 g4 KF ⊢;clear hWF ff ee q0 q1 q2 q3 q4 ez ef;refine leaves_cons (f:=148) (args:=#[.pointer (some ⟨w.heap.size+1,0,none⟩)]) (by simp) (by simp[go_sem]) ?_;refine(jbh ⟨w.heap.size+1,0,none⟩ _).mono ?_;rintro e u' w'' ⟨rfl,rfl,rfl⟩;simp[Leaves,settle,results,Tryz.results107,go_sem,fe,g0,g1,g2,g3,g4];exact⟨⟨_,_,_,_,_,_,_,_,_,_,_,rfl⟩,KF.out⟩
 · obtain rfl:=h1 hx;have HX:=lH hx;clear h0 h1 hb hZ hx;go_wp2_with fail
   refine leaves_cons (f:=148) (args:=#[.pointer (some ⟨w.heap.size+1,0,none⟩)]) (by simp) (by simp[go_sem]) ?_;refine(XC w.heap.size (w.heap.size+1) c 0 _ ez ef (Nat.le_succ _)).mono ?_;rintro e u' w'' ⟨rfl,rfl,rfl,q2,q3⟩;have KF:=lH (show Kept w _ from Below.trans KK.out q3);have ff:∀j v,w1.cell? ⟨w.heap.size,j,none⟩=some v→(w1.setCell ⟨w.heap.size+1,0,none⟩ (.int .i64 c)).cell? ⟨w.heap.size,j,none⟩=some v:=fun j v h=>(World.cell?_of_block (a:=⟨w.heap.size,j,none⟩) (Below.heap_setCell w1 ⟨w.heap.size+1,0,none⟩ _ w.heap.size (by show w.heap.size≠w.heap.size+1;omega))).trans h;have g0:=ff 0 _ z0;have g1:=ff 1 _ z1;have g2:=ff 2 _ z2;have g3:=ff 3 _ z3;have g4:=ff 4 _ z4;obtain⟨WF,hWF⟩:=eX (w1.setCell ⟨w.heap.size+1,0,none⟩ (.int .i64 c))
   rw[hWF] at q2 g0 g1 g2 g3 g4 KF ⊢;clear hWF ff q3 z0 z1 z2 z3 z4 ez ef f0 f1 f2 f3 f4;simp[Leaves,settle,results,Tryz.results107,go_sem,q2,g0,g1,g2,g3,g4];exact⟨⟨_,_,_,_,_,_,_,_,_,_,_,rfl⟩,KF.out⟩
theorem X8 (s1 s2 s3:Option Addr) (n1 e1 n2 e2 n3 e3:Nat) (a1 a2 a3 a4:Option Addr) (m1 c1 m2 c2 m3 c3 m4 c4:Nat) (p:Pd) (s:Clu) (name:ByteArray) (w:World) (hs:jC w (j9 (.slice s1 n1 e1) (.slice s2 n2 e2) (.slice s3 n3 e3)) s) (hl:jn s) (hp:jq w (.slice a1 m1 c1) (.slice a2 m2 c2) (.slice a3 m3 c3) (.slice a4 m4 c4) p):Calls Tryz.prog 49 #[.agg #[.slice s1 n1 e1,.slice s2 n2 e2,.slice s3 n3 e3],jo p (.slice a1 m1 c1) (.slice a2 m2 c2) (.slice a3 m3 c3) (.slice a4 m4 c4),.string name] w (Say (.int .i64 (jZ s p name)) w):=by
 have hmf:=hmfL (P:=Tryz.prog);obtain⟨Y,hY⟩:=eX ((w.alloc (.cells #[.slice s1 n1 e1,.slice s2 n2 e2,.slice s3 n3 e3] 35)).alloc (.cells #[.string p.name,.string p.owner,.int .i64 p.prio,.slice a1 m1 c1,.slice a2 m2 c2,.slice a3 m3 c3,.slice a4 m4 c4,.string p.key,.int .i64 p.most,.string p.node,.bool p.hold] 41))
 have hky:Kept w Y:=by rw[←hY];exact ji _ _ _
 have hys:Y.heap.size=w.heap.size+2:=by rw[←hY];simp
 have hsb:=jc w (.slice s1 n1 e1) [.slice s2 n2 e2,.slice s3 n3 e3] 35 Y (by rw[←hY];exact ja _ _);have hpb:je (w.heap.size+1) [.string p.name,.string p.owner,.int .i64 p.prio,.slice a1 m1 c1,.slice a2 m2 c2,.slice a3 m3 c3,.slice a4 m4 c4,.string p.key,.int .i64 p.most,.string p.node,.bool p.hold] Y:=by
  have dd:=jc (w.alloc (.cells #[.slice s1 n1 e1,.slice s2 n2 e2,.slice s3 n3 e3] 35)) (.string p.name) [.string p.owner,.int .i64 p.prio,.slice a1 m1 c1,.slice a2 m2 c2,.slice a3 m3 c3,.slice a4 m4 c4,.string p.key,.int .i64 p.most,.string p.node,.bool p.hold] 41 Y (by rw[hY];exact Kept.refl _);rw[World.size_alloc] at dd;exact dd
 obtain⟨Z,hZ⟩:=eX (Y.alloc (.cells #[.string name] 9))
 have hkz:Kept Y Z:=by rw[←hZ];exact ja _ _
 have hnb:je (w.heap.size+2) [.string name] Z:=by
  have dd:=jc Y (.string name) [] 9 Z (by rw[hZ];exact Kept.refl _);rw[hys] at dd;exact dd
 have hYZ:((w.alloc (.cells #[.slice s1 n1 e1,.slice s2 n2 e2,.slice s3 n3 e3] 35)).alloc (.cells #[.string p.name,.string p.owner,.int .i64 p.prio,.slice a1 m1 c1,.slice a2 m2 c2,.slice a3 m3 c3,.slice a4 m4 c4,.string p.key,.int .i64 p.most,.string p.node,.bool p.hold] 41)).alloc (.cells #[.string name] 9)=Z:=by rw[hY];exact hZ
 have HC:=lH (jbL w.heap.size (w.heap.size+1) (w.heap.size+2) (jZ s p name) Z fun W k=>jcE w.heap.size (w.heap.size+1) (w.heap.size+2) s1 s2 s3 n1 e1 n2 e2 n3 e3 a1 a2 a3 a4 m1 c1 m2 c2 m3 c3 m4 c4 p s name W ((hsb.kept hkz).kept k) ((hpb.kept hkz).kept k) (hnb.kept k) (hs.kept ((hky.trans hkz).trans k)) hl (hp.kept ((hky.trans hkz).trans k)));have K:=lH (hky.trans hkz);clear hs hp hl hky hkz hys hsb hpb hnb hY hZ;obtain⟨c,hc⟩:=eX (jZ s p name)
 rw[hc] at HC ⊢;clear hc;unfold jo;go_enter Tryz.func49,Tryz.ntmps49;go_wp2_with fail
 try rw[hYZ]
 clear hYZ;refine HC.out.mono ?_;rintro e w1 ⟨⟨x9,i1,j1,l1,i2,j2,l2,i3,j3,l3,b9,rfl⟩,kk⟩;have K:=lH (K.out.trans kk);clear kk;go_wp2;go_ret;exact⟨rfl,K.out.trans (ja _ _)⟩
theorem jn.drop {s:Clu} (h:jn s) (x:ByteArray):jn (jw s x):=Z6 h x
theorem jC.spelt {w:World} {y:Value} {s:Clu} (h:jC w y s):∃s1 n1 e1 s2 n2 e2 s3 n3 e3,y=j9 (.slice s1 n1 e1) (.slice s2 n2 e2) (.slice s3 n3 e3):=by
 obtain⟨_,_,_,rfl,⟨a,c,rfl,-⟩,⟨b,d,rfl,-⟩,⟨e,f,rfl,-⟩⟩:=h;exact⟨a,_,c,b,_,d,e,_,f,rfl⟩
theorem jev (x:Int) (u:Value) (h:u ∈ [Value.int .i64 x]):u.oneCell'=true:=by
 have e:u=Value.int .i64 x:=by simpa using h
 rw[e];rfl
def Z7:Lay Int:={ m:=1,cs:=fun x=>[.int .i64 x],fine:=fun x=>-9223372036854775808≤x∧x≤9223372036854775807,len:=fun _=>rfl,one:=jev,pos:=by decide }
theorem jk.err {w:World} {b off len:Nat} {l:List Int} {k:Nat} (h:jk Z7 w (some ⟨b,off,none⟩) len l) (hk:k<len):∃x:Int,l[k]?=some x∧l.drop k=x::l.drop (k+1)∧b<w.heap.size∧w.cell? ⟨b,off+k,none⟩=some (.int .i64 x):=by
 obtain⟨x,h1,h2,h3,h4,h5⟩:=h.cells hk;exact⟨x,h1,h2,h3,by have:=h5 0 _ rfl;simpa [Z7] using this⟩
theorem jgx:(Tryz.prog.info? 53).map (fun i=>(i.zero,i.size,i.bytes))=some (some (.int .i64 0),1,8):=by kernel_rfl
theorem jfK (s1 s2 s3:Option Addr) (n1 e1 n2 e2 n3 e3:Nat) (a1 a2 a3 a4:Option Addr) (m1 c1 m2 c2 m3 c3 m4 c4:Nat) (p:Pd) (s:Clu) (name:ByteArray) (w:World) (hs:jC w (j9 (.slice s1 n1 e1) (.slice s2 n2 e2) (.slice s3 n3 e3)) s) (hl:jn s) (hp:jq w (.slice a1 m1 c1) (.slice a2 m2 c2) (.slice a3 m3 c3) (.slice a4 m4 c4) p):Calls Tryz.prog 16 #[.agg #[.slice s1 n1 e1,.slice s2 n2 e2,.slice s3 n3 e3],jo p (.slice a1 m1 c1) (.slice a2 m2 c2) (.slice a3 m3 c3) (.slice a4 m4 c4),.string name] w (Say (.int .i64 (Zd s p name)) w):=by
 obtain⟨Z,hZ⟩:=eX ((w.alloc (.cells #[.slice s1 n1 e1,.slice s2 n2 e2,.slice s3 n3 e3] 35)).alloc (.cells #[.string p.name,.string p.owner,.int .i64 p.prio,.slice a1 m1 c1,.slice a2 m2 c2,.slice a3 m3 c3,.slice a4 m4 c4,.string p.key,.int .i64 p.most,.string p.node,.bool p.hold] 41))
 have hkz:Kept w Z:=by rw[←hZ];exact ji _ _ _
 have Vg:=lH (jc w (.slice s1 n1 e1) [.slice s2 n2 e2,.slice s3 n3 e3] 35 Z (by rw[←hZ];exact ja _ _));have Vb:=lH (show je (w.heap.size+1) [.string p.name,.string p.owner,.int .i64 p.prio,.slice a1 m1 c1,.slice a2 m2 c2,.slice a3 m3 c3,.slice a4 m4 c4,.string p.key,.int .i64 p.most,.string p.node,.bool p.hold] Z by
  have dd:=jc (w.alloc (.cells #[.slice s1 n1 e1,.slice s2 n2 e2,.slice s3 n3 e3] 35)) (.string p.name) [.string p.owner,.int .i64 p.prio,.slice a1 m1 c1,.slice a2 m2 c2,.slice a3 m3 c3,.slice a4 m4 c4,.string p.key,.int .i64 p.most,.string p.node,.bool p.hold] 41 Z (by rw[hZ];exact Kept.refl _);rw[World.size_alloc] at dd;exact dd)
 obtain⟨K,HS,HP,HL⟩:=lH4 hkz (hs.kept hkz) (hp.kept hkz) hl;clear hs hp hkz hl;have HF:=lH (show ∀W,Kept Z W→W.cell? ⟨w.heap.size,0,none⟩=some (.slice s1 n1 e1)∧W.cell? ⟨w.heap.size,1,none⟩=some (.slice s2 n2 e2)∧W.cell? ⟨w.heap.size,2,none⟩=some (.slice s3 n3 e3)∧W.cell? ⟨w.heap.size+1,0,none⟩=some (.string p.name)∧W.cell? ⟨w.heap.size+1,1,none⟩=some (.string p.owner)∧W.cell? ⟨w.heap.size+1,2,none⟩=some (.int .i64 p.prio)∧W.cell? ⟨w.heap.size+1,3,none⟩=some (.slice a1 m1 c1)∧W.cell? ⟨w.heap.size+1,4,none⟩=some (.slice a2 m2 c2)∧W.cell? ⟨w.heap.size+1,5,none⟩=some (.slice a3 m3 c3)∧W.cell? ⟨w.heap.size+1,6,none⟩=some (.slice a4 m4 c4)∧W.cell? ⟨w.heap.size+1,7,none⟩=some (.string p.key)∧W.cell? ⟨w.heap.size+1,8,none⟩=some (.int .i64 p.most)∧W.cell? ⟨w.heap.size+1,9,none⟩=some (.string p.node)∧W.cell? ⟨w.heap.size+1,10,none⟩=some (.bool p.hold) from fun W kk=>by
  have h:=Vg.out.kept kk;have q:=Vb.out.kept kk;exact⟨h.at_ 0 _ rfl,h.at_ 1 _ rfl,h.at_ 2 _ rfl,q.at_ 0 _ rfl,q.at_ 1 _ rfl,q.at_ 2 _ rfl,q.at_ 3 _ rfl,q.at_ 4 _ rfl,q.at_ 5 _ rfl,q.at_ 6 _ rfl,q.at_ 7 _ rfl,q.at_ 8 _ rfl,q.at_ 9 _ rfl,q.at_ 10 _ rfl⟩)
 have HV:=lH (show Zd s p name=jZ (jw s p.name) p name from rfl);unfold jo;go_enter Tryz.func16,Tryz.ntmps16;go_upto_region 1 with fail
 try rw[hZ]
 clear hZ;have J:=lH (Kept.drew Z);refine wp_region_held_drew (S:=fun W=>W.cell? ⟨w.heap.size,0,none⟩=some (.slice s1 n1 e1)∧W.cell? ⟨w.heap.size,1,none⟩=some (.slice s2 n2 e2)∧W.cell? ⟨w.heap.size,2,none⟩=some (.slice s3 n3 e3)∧W.cell? ⟨w.heap.size+1,0,none⟩=some (.string p.name)∧W.cell? ⟨w.heap.size+1,1,none⟩=some (.string p.owner)∧W.cell? ⟨w.heap.size+1,2,none⟩=some (.int .i64 p.prio)∧W.cell? ⟨w.heap.size+1,3,none⟩=some (.slice a1 m1 c1)∧W.cell? ⟨w.heap.size+1,4,none⟩=some (.slice a2 m2 c2)∧W.cell? ⟨w.heap.size+1,5,none⟩=some (.slice a3 m3 c3)∧W.cell? ⟨w.heap.size+1,6,none⟩=some (.slice a4 m4 c4)∧W.cell? ⟨w.heap.size+1,7,none⟩=some (.string p.key)∧W.cell? ⟨w.heap.size+1,8,none⟩=some (.int .i64 p.most)∧W.cell? ⟨w.heap.size+1,9,none⟩=some (.string p.node)∧W.cell? ⟨w.heap.size+1,10,none⟩=some (.bool p.hold)) (by kernel_rfl) (HF.out _ J.out) (fun hHeld=>?_);obtain⟨wd,hwd⟩:=eX (Z.drew)
 rw[hwd] at J hHeld;try rw[hwd]
 clear hwd;refine tR 0 rfl (by kernel_rfl) (fun _ _ _=>id) (Or.inl ⟨by rfl,by rintro W ⟨o0,o1,o2,o3,o4,o5,o6,o7,o8,o9,o10,o11,o12,o13⟩;go_simp<;>with_reducible rfl⟩) ‹_› ?_;refine tR 1 rfl (by kernel_rfl) (fun _ _ _=>id) (Or.inl ⟨by rfl,by rintro W ⟨o0,o1,o2,o3,o4,o5,o6,o7,o8,o9,o10,o11,o12,o13⟩;go_simp<;>with_reducible rfl⟩) ‹_› ?_;refine tR 2 rfl (by kernel_rfl) (fun _ _ _=>id) (Or.inl ⟨by rfl,by rintro W ⟨o0,o1,o2,o3,o4,o5,o6,o7,o8,o9,o10,o11,o12,o13⟩;go_simp<;>with_reducible rfl⟩) ‹_› ?_;refine tR 4 rfl (by kernel_rfl) (fun _ _ _=>id) (Or.inl ⟨by rfl,by rintro W ⟨o0,o1,o2,o3,o4,o5,o6,o7,o8,o9,o10,o11,o12,o13⟩;go_simp<;>with_reducible rfl⟩) ‹_› ?_;refine tR 5 rfl (by kernel_rfl) (fun _ _ _=>id) (Or.inl ⟨by rfl,by rintro W ⟨o0,o1,o2,o3,o4,o5,o6,o7,o8,o9,o10,o11,o12,o13⟩;go_simp<;>with_reducible rfl⟩) ‹_› ?_;try simp only[nA,nB,nC,nD,nE]
 refine rd1 3 fun K9 Ky=>?_;go_simp;refine(jcs (HS.out.kept J.out) p.name HL.out).mono ?_;rintro e w1 ⟨y,rfl,hy,kk⟩;obtain⟨t1,k1,d1,t2,k2,d2,t3,k3,d3,rfl⟩:=hy.spelt;have HY:=lH hy;have J:=lH (J.out.trans kk);clear kk hy;refine Ky.out _ _ (HF.out _ J.out) (fun _=>?_);clear Ky K9;try simp only[nA,nB,nC,nD,nE]
 refine rd1 6 fun K9 Ky=>?_;go_simp;have Vy:=X8 t1 t2 t3 k1 d1 k2 d2 k3 d3 a1 a2 a3 a4 m1 c1 m2 c2 m3 c3 m4 c4 p (jw s p.name) name w1 HY.out (Z6 HL.out p.name) (HP.out.kept J.out);unfold jo at Vy;try unfold j9 at Vy
 refine Vy.mono ?_;rintro e w2 ⟨rfl,kk⟩;have J:=lH (J.out.trans kk);clear kk Vy;refine Ky.out _ _ (HF.out _ J.out) (fun _=>?_);clear Ky K9;try simp only[nA,nB,nC,nD,nE]
 refine tR 7 rfl (by kernel_rfl) (fun _ _ _=>id) (Or.inl ⟨by rfl,by rintro W ⟨o0,o1,o2,o3,o4,o5,o6,o7,o8,o9,o10,o11,o12,o13⟩;go_simp<;>with_reducible rfl⟩) ‹_› ?_;try simp only[nA,nB,nC,nD,nE]
 refine wpAnyH_done (by kernel_rfl) ?_ _;go_wp2;go_ret;exact⟨zL HV.out.symm,K.out.trans J.out⟩
theorem jfY (s1 s2 s3:Option Addr) (n1 e1 n2 e2 n3 e3:Nat) (a1 a2 a3 a4:Option Addr) (m1 c1 m2 c2 m3 c3 m4 c4:Nat) (p:Pd) (s:Clu) (w:World) (hs:jC w (j9 (.slice s1 n1 e1) (.slice s2 n2 e2) (.slice s3 n3 e3)) s) (hl:jn s) (hp:jq w (.slice a1 m1 c1) (.slice a2 m2 c2) (.slice a3 m3 c3) (.slice a4 m4 c4) p):Calls Tryz.prog 48 #[.agg #[.slice s1 n1 e1,.slice s2 n2 e2,.slice s3 n3 e3],jo p (.slice a1 m1 c1) (.slice a2 m2 c2) (.slice a3 m3 c3) (.slice a4 m4 c4)] w fun e w'=>∃v,e=.returned v∧Own Z7 53 w' w.heap.size v (Z1 s p s.nodes)∧Kept w w':=by
 obtain⟨i0,hi,hz0,hz1,hz2'⟩:=info_parts jgx;obtain⟨Z,hZ⟩:=eX ((w.alloc (.cells #[.slice s1 n1 e1,.slice s2 n2 e2,.slice s3 n3 e3] 35)).alloc (.cells #[.string p.name,.string p.owner,.int .i64 p.prio,.slice a1 m1 c1,.slice a2 m2 c2,.slice a3 m3 c3,.slice a4 m4 c4,.string p.key,.int .i64 p.most,.string p.node,.bool p.hold] 41))
 have hkz:Kept w Z:=by rw[←hZ];exact ji _ _ _
 have Vg:=lH (jc w (.slice s1 n1 e1) [.slice s2 n2 e2,.slice s3 n3 e3] 35 Z (by rw[←hZ];exact ja _ _));have Vb:=lH (show je (w.heap.size+1) [.string p.name,.string p.owner,.int .i64 p.prio,.slice a1 m1 c1,.slice a2 m2 c2,.slice a3 m3 c3,.slice a4 m4 c4,.string p.key,.int .i64 p.most,.string p.node,.bool p.hold] Z by
  have dd:=jc (w.alloc (.cells #[.slice s1 n1 e1,.slice s2 n2 e2,.slice s3 n3 e3] 35)) (.string p.name) [.string p.owner,.int .i64 p.prio,.slice a1 m1 c1,.slice a2 m2 c2,.slice a3 m3 c3,.slice a4 m4 c4,.string p.key,.int .i64 p.most,.string p.node,.bool p.hold] 41 Z (by rw[hZ];exact Kept.refl _);rw[World.size_alloc] at dd;exact dd)
 obtain⟨K,HS,HP,HL⟩:=lH4 hkz (hs.kept hkz) (hp.kept hkz) hl;clear hs hp hkz hl;have VN:=lH HS.out.nAt.2;have hb1:n1≤100000:=by have:=HL.out.nodesN;have:=VN.out;omega
 have HN:=lH HS.out.nAt.1;have Rm:=lH (jcs HS.out p.name HL.out);try unfold j9 at Rm
 obtain⟨y0,y1,y2⟩:=Vg.out.at3;have r0:=Vb.out.at_ 0 _ rfl;unfold jo;go_enter Tryz.func48,Tryz.ntmps48;go_upto_region 1 with fail
 try rw[hZ]
 clear hZ;go_wp2_with fail
 refine Rm.out.mono ?_;rintro e w1 ⟨y,rfl,hy,kk⟩;obtain⟨t1,k1,d1,t2,k2,d2,t3,k3,d3,rfl⟩:=hy.spelt;obtain⟨w2,hw2⟩:=eX (w1.alloc (.cells #[.slice t1 k1 d1,.slice t2 k2 d2,.slice t3 k3 d3] 35))
 have kx:Kept w1 w2:=by rw[←hw2];exact ja _ _
 obtain⟨Vt,HY,Vg,Vb,HP,HN,K⟩:=lH7 (jc w1 (.slice t1 k1 d1) [.slice t2 k2 d2,.slice t3 k3 d3] 35 w2 (by rw[hw2];exact Kept.refl _)) (hy.kept kx) (Vg.out.kept (kk.trans kx)) (Vb.out.kept (kk.trans kx)) (HP.out.kept (kk.trans kx)) (HN.out.kept (kk.trans kx)) (K.out.trans (kk.trans kx));obtain⟨gd,hgd⟩:=eX (w1.heap.size)
 rw[hgd] at Vt;clear kk kx hy Rm y0 y1 y2 r0;have y0:=Vg.out.at_ 0 _ rfl;go_upto_region 3 with fail
 try rw[hw2]
 try rw[hgd]
 clear hw2 hgd;go_wp2;clear y0;go_loopw [6,16] (fun v i wr=>∃k:Nat,k≤n1∧i=.int .i64 k∧∃la:List Int,Z1 s p (s.nodes.take k)=la∧Own Z7 53 wr w2.heap.size v la∧Kept w2 wr) (fun _ i _=>n1-(intOf i).toNat)
 case atStart=>exact⟨0,Nat.zero_le _,rfl,[],rfl,Own.nil _ _ _,Kept.refl _⟩
 case round =>
  obtain⟨k,hk,rfl,la,hla,ho,hK⟩:=hrel;obtain⟨HX,HO,HK⟩:=lH3 hla ho hK;obtain⟨m,hm⟩:=eX (la.length)
  have hmk:m≤k:=by
   have:=X2 s p (s.nodes.take k);rw[hla,hm,List.length_take] at this;omega
  have HT:=lH hm;have hbase:w2.heap.size≤wr.heap.size:=hK.size;by_cases hlt:k<n1
  · obtain⟨g,off,rfl⟩:=HN.out.form.resolve_left (by omega);obtain⟨n,b1,q1,f1,b2,q2,f2,b3,q3,f3,hn,hd,hb,u0,u1,u2,u3,u4,hat⟩:=(HN.out.kept hK).at_ hlt;have Ts:=lH (jeb (s:=s) (p:=p) hn);have hkk:(k:Int)<(n1:Int):=by omega
    have hk0:¬(k:Int)<0:=by omega
    obtain⟨wx,hwx⟩:=eX (wr.alloc (.cells #[.string n.name,.slice b1 q1 f1,.slice b2 q2 f2,.slice b3 q3 f3,.bool n.cordon] 29))
    have hkx:Kept wr wx:=by rw[←hwx];exact ja _ _
    have Vz:=lH (jc wr (.string n.name) [.slice b1 q1 f1,.slice b2 q2 f2,.slice b3 q3 f3,.bool n.cordon] 29 wx (by rw[hwx];exact Kept.refl _));obtain⟨bq,hbq⟩:=eX (wr.heap.size)
    rw[hbq] at Vz;obtain⟨Ua,VF,Vy⟩:=lH3 (Vt.out.kept (hK.trans hkx)) (Vb.out.kept (hK.trans hkx)) (X8 t1 t2 t3 k1 d1 k2 d2 k3 d3 a1 a2 a3 a4 m1 c1 m2 c2 m3 c3 m4 c4 p (jw s p.name) n.name wx (HY.out.kept (hK.trans hkx)) (Z6 HL.out p.name) (HP.out.kept (hK.trans hkx)));unfold jo at Vy;obtain⟨c,hc⟩:=eX (jZ (jw s p.name) p n.name)
    have ND:=lH (show -9223372036854775808≤c∧c≤9223372036854775807 by have:=jdG (jw s p.name) p n.name;omega);have HV:=lH (show Z1 s p (s.nodes.take (k+1))=la++[c] by rw[Ts.out,HX.out];unfold Zd;rw[hc]);rw[hc] at Vy;have KX:=lH hkx;go_upto_region 6 with fail
    try rw[hwx]
    try rw[hbq]
    clear hwx hbq hd hb hn hkx hk0 hkk hat hla ho hm hK hc u0 u1 u2 u3 u4;obtain⟨y0,y1,y2⟩:=Ua.out.at3;obtain⟨r0,r1,r2,r3,r4,r5,r6,r7,r8,r9,r10⟩:=VF.out.at11;have t0:=Vz.out.at_ 0 _ rfl;go_wp2_with fail
    refine Vy.out.mono ?_;rintro e w3 ⟨rfl,kk⟩;have KW:=lH (KX.out.trans kk);clear kk Vy t0 y0 y1 y2 r0 r1 r2 r3 r4 r5 r6 r7 r8 r9 r10;have VH:=lH (show w3.ownsRow w2.heap.size 53 1 u6 m (jd Z7 la) by have:=(HO.out.kept KW.out).1;rw[HT.out] at this;exact this);have hs1:wr.heap.size≤w3.heap.size:=Below.size KW.out;go_wp2_with (at_builtin;refine wpList_append_lies _ rfl _ _ _ rfl w2.heap.size 53 i0 _ 1 8 Tryz.underlying100 hi hz0 hz1 hz2' rfl (by decide) u6 m (jd Z7 la) rfl (VH.out.alloc _) ⟨w3.heap.size,0,none⟩ 1 1 (Z7.cs c) rfl rfl (World.news_of_block (cs:=#[.int .i64 c]) (t:=53) (fr:=(0,0)) (heap_alloc_new w3 _)) (jev c) (by decide) (by unfold maxLen;omega) (by omega) (by simp;omega) (w3.heap.size+1) (by simp) ?_;intro gg cap1 w4 hown1 hgrow hat hlt1)
    have Tt:=lH ((show Below w2.heap.size w2 _ from HK.out.trans (KW.out.trans (ja w3 _))).grown hgrow (by simp;omega) (fun j hj=>(VH.out.lt j hj).1));go_wp2;go_roundw
    case rel=>exact⟨k+1,by omega,by go_num,la++[c],HV.out,Own.snoc hown1 (by rw[HT.out]) HO.out.2 ND.out,Tt.out⟩
    case measure=>simp[intOf];omega
  · have hge:¬(k:Int)<(n1:Int):=by omega
    have HE:=lH (show Z1 s p s.nodes=la by rw[←hla,List.take_of_length_le (by rw[←VN.out];omega)]);clear hla ho hm hK;go_wp2;go_ret;exact⟨_,rfl,by rw[HE.out];exact HO.out.base_le K.out.size,K.out.trans HK.out⟩
theorem XO (s1 s2 s3:Option Addr) (n1 e1 n2 e2 n3 e3:Nat) (a1 a2 a3 a4:Option Addr) (m1 c1 m2 c2 m3 c3 m4 c4:Nat) (p:Pd) (s:Clu) (w:World) (hs:jC w (j9 (.slice s1 n1 e1) (.slice s2 n2 e2) (.slice s3 n3 e3)) s) (hl:jn s) (hp:jq w (.slice a1 m1 c1) (.slice a2 m2 c2) (.slice a3 m3 c3) (.slice a4 m4 c4) p):Calls Tryz.prog 15 #[.agg #[.slice s1 n1 e1,.slice s2 n2 e2,.slice s3 n3 e3],jo p (.slice a1 m1 c1) (.slice a2 m2 c2) (.slice a3 m3 c3) (.slice a4 m4 c4)] w fun e w'=>∃v,e=.returned v∧Own jK 9 w' w.heap.size v (j4 s p s.nodes)∧Kept w w':=by
 obtain⟨i0,hi,hz0,hz1,hz2'⟩:=info_parts jgw;obtain⟨Z,hZ⟩:=eX ((w.alloc (.cells #[.slice s1 n1 e1,.slice s2 n2 e2,.slice s3 n3 e3] 35)).alloc (.cells #[.string p.name,.string p.owner,.int .i64 p.prio,.slice a1 m1 c1,.slice a2 m2 c2,.slice a3 m3 c3,.slice a4 m4 c4,.string p.key,.int .i64 p.most,.string p.node,.bool p.hold] 41))
 have hkz:Kept w Z:=by rw[←hZ];exact ji _ _ _
 have Vg:=lH (jc w (.slice s1 n1 e1) [.slice s2 n2 e2,.slice s3 n3 e3] 35 Z (by rw[←hZ];exact ja _ _));have Vb:=lH (show je (w.heap.size+1) [.string p.name,.string p.owner,.int .i64 p.prio,.slice a1 m1 c1,.slice a2 m2 c2,.slice a3 m3 c3,.slice a4 m4 c4,.string p.key,.int .i64 p.most,.string p.node,.bool p.hold] Z by
  have dd:=jc (w.alloc (.cells #[.slice s1 n1 e1,.slice s2 n2 e2,.slice s3 n3 e3] 35)) (.string p.name) [.string p.owner,.int .i64 p.prio,.slice a1 m1 c1,.slice a2 m2 c2,.slice a3 m3 c3,.slice a4 m4 c4,.string p.key,.int .i64 p.most,.string p.node,.bool p.hold] 41 Z (by rw[hZ];exact Kept.refl _);rw[World.size_alloc] at dd;exact dd)
 obtain⟨K,HS,HP,HL⟩:=lH4 hkz (hs.kept hkz) (hp.kept hkz) hl;clear hs hp hkz hl;have VN:=lH HS.out.nAt.2;have hb1:n1≤100000:=by have:=HL.out.nodesN;have:=VN.out;omega
 have HN:=lH HS.out.nAt.1;have VU:=lH (jfY s1 s2 s3 n1 e1 n2 e2 n3 e3 a1 a2 a3 a4 m1 c1 m2 c2 m3 c3 m4 c4 p s Z HS.out HL.out HP.out);unfold jo at VU;obtain⟨y0,y1,y2⟩:=Vg.out.at3;obtain⟨r0,r1,r2,r3,r4,r5,r6,r7,r8,r9,r10⟩:=Vb.out.at11;unfold jo;go_enter Tryz.func15,Tryz.ntmps15;go_wp2_with fail
 try rw[hZ]
 clear hZ;refine VU.out.mono ?_;rintro e w1 ⟨v9,rfl,hr,kk⟩;obtain⟨Vg,HN,K⟩:=lH3 (Vg.out.kept kk) (HN.out.kept kk) (K.out.trans kk);obtain⟨wa,wc,rfl,-,-,hrow⟩:=hr.reads;rw[X2,←VN.out] at hrow;rw[X2,←VN.out];have RT:=lH hrow;clear kk hrow VU HP Vb y0 y1 y2 r0 r1 r2 r3 r4 r5 r6 r7 r8 r9 r10;go_wp2;go_loopw [5,12] (fun v i wr=>∃k:Nat,k≤n1∧i=.int .i64 k∧∃la:List ByteArray,j4 s p (s.nodes.take k)=la∧Own jK 9 wr w1.heap.size v la∧Kept w1 wr) (fun _ i _=>n1-(intOf i).toNat)
 case atStart=>exact⟨0,Nat.zero_le _,rfl,[],rfl,Own.nil _ _ _,Kept.refl _⟩
 case round =>
  obtain⟨k,hk,rfl,la,hla,ho,hK⟩:=hrel;obtain⟨HX,HO,HK⟩:=lH3 hla ho hK;obtain⟨m,hm⟩:=eX (la.length)
  have hmk:m≤k:=by
   have:=jeA s p (s.nodes.take k);rw[hla,hm,List.length_take] at this;omega
  have HT:=lH hm;have hbase:w1.heap.size≤wr.heap.size:=hK.size;by_cases hlt:k<n1
  · obtain⟨g,off,rfl⟩:=HN.out.form.resolve_left (by omega);obtain⟨n,b1,q1,f1,b2,q2,f2,b3,q3,f3,hn,hd,hb,u0,u1,u2,u3,u4,hat⟩:=(HN.out.kept hK).at_ hlt;obtain⟨bw,offw,rfl⟩:=RT.out.form.resolve_left (by omega);obtain⟨c,hc,-,-,cw⟩:=(RT.out.kept hK).err hlt;obtain⟨UN,Ts,U4⟩:=lH3 hat.size (jcT (s:=s) (p:=p) hn) (show Zd s p n.name=c by rw[jf7 hn] at hc;exact Option.some.inj hc);have hkk:(k:Int)<(n1:Int):=by omega
    have hk0:¬(k:Int)<0:=by omega
    have y0:=(Vg.out.kept hK).at_ 0 _ rfl;clear hd hb hn hc hat hla ho hm hK;obtain⟨xn,hxn⟩:=eX (n.name)
    rw[hxn] at u0 UN Ts U4;clear hxn;by_cases h0:c=0
    · subst h0;have HV:=lH (show j4 s p (s.nodes.take (k+1))=la++[xn] by rw[Ts.out,HX.out,if_pos U4.out]);have VH:=lH (show wr.ownsRow w1.heap.size 9 1 u5 m (jd jK la) by have:=HO.out.1;rw[HT.out] at this;exact this);go_wp2_with (at_builtin;refine wpList_append_lies _ rfl _ _ _ rfl w1.heap.size 9 i0 _ 1 16 Tryz.underlying44 hi hz0 hz1 hz2' rfl (by decide) u5 m (jd jK la) rfl (VH.out.alloc _) ⟨wr.heap.size,0,none⟩ 1 1 (jK.cs xn) rfl rfl (World.news_of_block (cs:=#[.string xn]) (t:=9) (fr:=(0,0)) (heap_alloc_new wr _)) (jfi xn) (by decide) (by unfold maxLen;omega) (by omega) (by simp;omega) (wr.heap.size+1) (by simp) ?_;intro gg cap1 w4 hown1 hgrow hat hlt1)
      have Tt:=lH ((show Below w1.heap.size w1 _ from HK.out.trans (ja wr _)).grown hgrow (by simp;omega) (fun j hj=>(VH.out.lt j hj).1));go_wp2;go_roundw
      case rel=>exact⟨k+1,by omega,by go_num,la++[xn],HV.out,Own.snoc hown1 (by rw[HT.out]) HO.out.2 UN.out,Tt.out⟩
      case measure=>simp[intOf];omega
    · have h0b:(c==0)=false:=by simpa using h0
      have HV:=lH (show j4 s p (s.nodes.take (k+1))=la by rw[Ts.out,HX.out,if_neg (by rw[U4.out];exact h0),List.append_nil]);clear h0;go_wp2;go_roundw
      case rel=>exact⟨k+1,by omega,by go_num,la,HV.out,HO.out,HK.out⟩
      case measure=>simp[intOf];omega
  · have hge:¬(k:Int)<(n1:Int):=by omega
    have HE:=lH (show j4 s p s.nodes=la by rw[←hla,List.take_of_length_le (by rw[←VN.out];omega)]);clear hla ho hm hK;go_wp2;go_ret;exact⟨_,rfl,by rw[HE.out];exact HO.out.base_le K.out.size,K.out.trans HK.out⟩
theorem jgm:(Tryz.prog.info? 153).map (fun i=>(i.zero,i.size,i.bytes))=some (some (.agg #[.string ByteArray.empty,.slice none 0 0,.slice none 0 0,.slice none 0 0,.slice none 0 0]),5,112):=by kernel_rfl
def JC (s:Clu) (a b c:Option Addr×Nat×Nat) (x:ByteArray):PlX:=((x,[],s),(none,0,0),a,b,c)
theorem jcS (s1 s2 s3:Option Addr) (n1 e1 n2 e2 n3 e3:Nat) (a1 a2 a3 a4:Option Addr) (m1 c1 m2 c2 m3 c3 m4 c4:Nat) (p:Pd) (s:Clu) (w:World) (hs:jC w (j9 (.slice s1 n1 e1) (.slice s2 n2 e2) (.slice s3 n3 e3)) s) (hl:jn s) (hp:jq w (.slice a1 m1 c1) (.slice a2 m2 c2) (.slice a3 m3 c3) (.slice a4 m4 c4) p):Calls Tryz.prog 92 #[.agg #[.slice s1 n1 e1,.slice s2 n2 e2,.slice s3 n3 e3],jo p (.slice a1 m1 c1) (.slice a2 m2 c2) (.slice a3 m3 c3) (.slice a4 m4 c4)] w fun e w'=>∃v,e=.returned v∧Own Jq 153 w' w.heap.size v ((j4 (JM s) p s.nodes).map (JC s (s1,n1,e1) (s2,n2,e2) (s3,n3,e3)))∧Kept w w':=by
 obtain⟨i0,hi,hz0,hz1,hz2'⟩:=info_parts jgm;obtain⟨Z,hZ⟩:=eX ((w.alloc (.cells #[.slice s1 n1 e1,.slice s2 n2 e2,.slice s3 n3 e3] 35)).alloc (.cells #[.string p.name,.string p.owner,.int .i64 p.prio,.slice a1 m1 c1,.slice a2 m2 c2,.slice a3 m3 c3,.slice a4 m4 c4,.string p.key,.int .i64 p.most,.string p.node,.bool p.hold] 41))
 have hkz:Kept w Z:=by rw[←hZ];exact ji _ _ _
 have Vg:=lH (jc w (.slice s1 n1 e1) [.slice s2 n2 e2,.slice s3 n3 e3] 35 Z (by rw[←hZ];exact ja _ _));have Vb:=lH (show je (w.heap.size+1) [.string p.name,.string p.owner,.int .i64 p.prio,.slice a1 m1 c1,.slice a2 m2 c2,.slice a3 m3 c3,.slice a4 m4 c4,.string p.key,.int .i64 p.most,.string p.node,.bool p.hold] Z by
  have dd:=jc (w.alloc (.cells #[.slice s1 n1 e1,.slice s2 n2 e2,.slice s3 n3 e3] 35)) (.string p.name) [.string p.owner,.int .i64 p.prio,.slice a1 m1 c1,.slice a2 m2 c2,.slice a3 m3 c3,.slice a4 m4 c4,.string p.key,.int .i64 p.most,.string p.node,.bool p.hold] 41 Z (by rw[hZ];exact Kept.refl _);rw[World.size_alloc] at dd;exact dd)
 obtain⟨K,HS,HP,HL⟩:=lH4 hkz (hs.kept hkz) (hp.kept hkz) hl;clear hs hp hkz hl;have HF:=lH (show ∀W,Kept Z W→W.cell? ⟨w.heap.size,0,none⟩=some (.slice s1 n1 e1)∧W.cell? ⟨w.heap.size,1,none⟩=some (.slice s2 n2 e2)∧W.cell? ⟨w.heap.size,2,none⟩=some (.slice s3 n3 e3)∧W.cell? ⟨w.heap.size+1,0,none⟩=some (.string p.name)∧W.cell? ⟨w.heap.size+1,1,none⟩=some (.string p.owner)∧W.cell? ⟨w.heap.size+1,2,none⟩=some (.int .i64 p.prio)∧W.cell? ⟨w.heap.size+1,3,none⟩=some (.slice a1 m1 c1)∧W.cell? ⟨w.heap.size+1,4,none⟩=some (.slice a2 m2 c2)∧W.cell? ⟨w.heap.size+1,5,none⟩=some (.slice a3 m3 c3)∧W.cell? ⟨w.heap.size+1,6,none⟩=some (.slice a4 m4 c4)∧W.cell? ⟨w.heap.size+1,7,none⟩=some (.string p.key)∧W.cell? ⟨w.heap.size+1,8,none⟩=some (.int .i64 p.most)∧W.cell? ⟨w.heap.size+1,9,none⟩=some (.string p.node)∧W.cell? ⟨w.heap.size+1,10,none⟩=some (.bool p.hold) from fun W kk=>by
  have h:=Vg.out.kept kk;have q:=Vb.out.kept kk;exact⟨h.at_ 0 _ rfl,h.at_ 1 _ rfl,h.at_ 2 _ rfl,q.at_ 0 _ rfl,q.at_ 1 _ rfl,q.at_ 2 _ rfl,q.at_ 3 _ rfl,q.at_ 4 _ rfl,q.at_ 5 _ rfl,q.at_ 6 _ rfl,q.at_ 7 _ rfl,q.at_ 8 _ rfl,q.at_ 9 _ rfl,q.at_ 10 _ rfl⟩)
 unfold jo;go_enter Tryz.func92,Tryz.ntmps92;go_upto_region 2 with fail
 try rw[hZ]
 clear hZ;have J:=lH (Kept.drew Z);refine wp_region_held_drew (S:=fun W=>W.cell? ⟨w.heap.size,0,none⟩=some (.slice s1 n1 e1)∧W.cell? ⟨w.heap.size,1,none⟩=some (.slice s2 n2 e2)∧W.cell? ⟨w.heap.size,2,none⟩=some (.slice s3 n3 e3)∧W.cell? ⟨w.heap.size+1,0,none⟩=some (.string p.name)∧W.cell? ⟨w.heap.size+1,1,none⟩=some (.string p.owner)∧W.cell? ⟨w.heap.size+1,2,none⟩=some (.int .i64 p.prio)∧W.cell? ⟨w.heap.size+1,3,none⟩=some (.slice a1 m1 c1)∧W.cell? ⟨w.heap.size+1,4,none⟩=some (.slice a2 m2 c2)∧W.cell? ⟨w.heap.size+1,5,none⟩=some (.slice a3 m3 c3)∧W.cell? ⟨w.heap.size+1,6,none⟩=some (.slice a4 m4 c4)∧W.cell? ⟨w.heap.size+1,7,none⟩=some (.string p.key)∧W.cell? ⟨w.heap.size+1,8,none⟩=some (.int .i64 p.most)∧W.cell? ⟨w.heap.size+1,9,none⟩=some (.string p.node)∧W.cell? ⟨w.heap.size+1,10,none⟩=some (.bool p.hold)) (by kernel_rfl) (HF.out _ J.out) (fun hHeld=>?_);obtain⟨wd,hwd⟩:=eX (Z.drew)
 rw[hwd] at J hHeld;try rw[hwd]
 clear hwd;refine tR 0 rfl (by kernel_rfl) (fun _ _ _=>id) (Or.inl ⟨by rfl,by rintro W ⟨o0,o1,o2,o3,o4,o5,o6,o7,o8,o9,o10,o11,o12,o13⟩;go_simp<;>with_reducible rfl⟩) ‹_› ?_;refine tR 2 rfl (by kernel_rfl) (fun _ _ _=>id) (Or.inl ⟨by rfl,by rintro W ⟨o0,o1,o2,o3,o4,o5,o6,o7,o8,o9,o10,o11,o12,o13⟩;go_simp<;>with_reducible rfl⟩) ‹_› ?_;refine tR 5 rfl (by kernel_rfl) (fun _ _ _=>id) (Or.inl ⟨by rfl,by rintro W ⟨o0,o1,o2,o3,o4,o5,o6,o7,o8,o9,o10,o11,o12,o13⟩;go_simp<;>with_reducible rfl⟩) ‹_› ?_;try simp only[nA,nB,nC,nD,nE]
 refine rd1 1 fun K9 Ky=>?_;go_simp;refine(jgX (HS.out.kept J.out) HL.out).mono ?_;rintro e w1 ⟨y,rfl,hy,kk⟩;obtain⟨t1,k1,d1,t2,k2,d2,t3,k3,d3,rfl⟩:=hy.spelt;have HY:=lH hy;have J:=lH (J.out.trans kk);clear kk hy;refine Ky.out _ _ (HF.out _ J.out) (fun _=>?_);clear Ky K9;try simp only[nA,nB,nC,nD,nE]
 refine rd1 3 fun K9 Ky=>?_;go_simp;have Vy:=XO t1 t2 t3 k1 d1 k2 d2 k3 d3 a1 a2 a3 a4 m1 c1 m2 c2 m3 c3 m4 c4 p (JM s) w1 HY.out (jfv HL.out) (HP.out.kept J.out);unfold jo at Vy;try unfold j9 at Vy
 refine Vy.mono ?_;rintro e w2 ⟨v9,rfl,ho,kk⟩;obtain⟨fa,fc,rfl,-,-,hfr⟩:=ho.at_;have hfl:j4 (JM s) p (JM s).nodes=j4 (JM s) p s.nodes:=rfl;rw[hfl] at hfr;have J:=lH (J.out.trans kk);have Tq:=lH (show (j4 (JM s) p s.nodes).length≤100000 from by
  have h1:=HL.out.nodesN;unfold j4;rw[List.length_map];exact Nat.le_trans (List.length_filter_le _ _) h1)
 obtain⟨fl,hfl2⟩:=eX (j4 (JM s) p s.nodes)
 rw[hfl2] at hfr Tq;have Rn:=lH hfl2;try rw[hfl]
 try rw[hfl2]
 obtain⟨pn,hpn⟩:=eX (fl.length)
 rw[hpn] at hfr Tq;try rw[hpn]
 have VY:=lH hpn;have RU:=lH hfr;clear kk Vy ho hfl hfr hfl2 hpn;refine Ky.out _ _ (HF.out _ J.out) (fun _=>?_);clear Ky K9;try simp only[nA,nB,nC,nD,nE]
 refine rd1 4 fun K9 Ky=>?_;go_simp;refine Ky.out _ _ (HF.out _ J.out) (fun _=>?_);clear Ky K9;try simp only[nA,nB,nC,nD,nE]
 refine wpAnyH_done (by kernel_rfl) ?_ _;have Ro:=lH (K.out.trans J.out);have Rj:=lH (show ∀W,Kept w2 W→_ from fun W kk=>HF.out W (J.out.trans kk));have hpb:pn≤100000:=Tq.out;have hkw:w.heap.size≤w2.heap.size:=Ro.out.size;clear HF J;go_wp2;go_loopw [13,5] (fun iv dv wr=>∃k:Nat,k≤pn∧iv=.int .i64 k∧Own Jq 153 wr w2.heap.size dv ((fl.take k).map (JC s (s1,n1,e1) (s2,n2,e2) (s3,n3,e3)))∧Kept w2 wr) (fun iv _ _=>pn-(intOf iv).toNat)
 case atStart=>exact⟨0,Nat.zero_le _,rfl,Own.nil _ _ _,Kept.refl _⟩
 case round =>
  obtain⟨k,hk,rfl,ho,hK⟩:=hrel;have HO:=lH ho;have HK:=lH hK;have hml:((fl.take k).map (JC s (s1,n1,e1) (s2,n2,e2) (s3,n3,e3))).length=k:=by
   have:=VY.out;rw[List.length_map,List.length_take];omega
  have RV:=lH hml;have hbase:w2.heap.size≤wr.heap.size:=hK.size;by_cases hlt:k<pn
  · obtain⟨g,off,rfl⟩:=RU.out.form.resolve_left (by omega);obtain⟨x,hx,hd,hb,hxs,u0⟩:=(RU.out.kept hK).str hlt;have hkk:(k:Int)<(pn:Int):=by omega
    have hk0:¬(k:Int)<0:=by omega
    obtain⟨o0,o1,o2,-⟩:=Rj.out _ hK;have VP:=lH (show (fl.take (k+1)).map (JC s (s1,n1,e1) (s2,n2,e2) (s3,n3,e3))=(fl.take k).map (JC s (s1,n1,e1) (s2,n2,e2) (s3,n3,e3))++[JC s (s1,n1,e1) (s2,n2,e2) (s3,n3,e3) x] by rw[List.take_add_one,hx,List.map_append];rfl);have VH:=lH (show wr.ownsRow w2.heap.size 153 5 u5 k (jd Jq ((fl.take k).map (JC s (s1,n1,e1) (s2,n2,e2) (s3,n3,e3)))) by have:=HO.out.1;rw[RV.out] at this;exact this);clear hx hd hb ho hK hml;go_wp2_with (at_builtin;refine wpList_append_lies _ rfl _ _ _ rfl w2.heap.size 153 i0 _ 5 112 Tryz.underlying149 hi hz0 hz1 hz2' rfl (by decide) u5 k (jd Jq ((fl.take k).map (JC s (s1,n1,e1) (s2,n2,e2) (s3,n3,e3)))) rfl (VH.out.alloc _) ⟨wr.heap.size,0,none⟩ 1 1 (Jq.cs (JC s (s1,n1,e1) (s2,n2,e2) (s3,n3,e3) x)) rfl rfl (World.news_of_block (cs:=#[.string x,.slice none 0 0,.slice s1 n1 e1,.slice s2 n2 e2,.slice s3 n3 e3]) (t:=153) (fr:=(0,0)) (heap_alloc_new wr _)) (qQ (JC s (s1,n1,e1) (s2,n2,e2) (s3,n3,e3) x)) (by decide) (by unfold maxLen;omega) (by omega) (by simp;omega) (wr.heap.size+1) (by simp) ?_;intro gg cap1 w4 hown1 hgrow hat hlt1)
    have Tt:=lH ((show Below w2.heap.size w2 _ from HK.out.trans (ja wr _)).grown hgrow (by simp;omega) (fun j hj=>(VH.out.lt j hj).1));go_wp2;go_roundw
    case rel=>exact⟨k+1,by omega,by go_num,by rw[VP.out];exact Own.snoc hown1 (by rw[RV.out]) HO.out.2 trivial,Tt.out⟩
    case measure=>simp[intOf];omega
  · have hge:¬(k:Int)<(pn:Int):=by omega
    have HE:=lH (show fl.take k=fl from List.take_of_length_le (by rw[VY.out];omega));clear ho hK hml;go_wp2;go_ret;exact⟨_,rfl,by have h9:=HO.out;rw[HE.out,←Rn.out] at h9;exact h9.base_le Ro.out.size,Ro.out.trans HK.out⟩
def qD (p:Pd) (o:Option Pl) (B:Nat) (w1 wr:World) (lv:Value):Prop:=∃a n cap lx Ch N,lv=.slice a n cap∧lx.length=n∧n≤100000∧Jr B wr (.slice a n cap) lx Ch∧j8 p (N+1) (lx.map fun z=>z.1)=o∧(∀z ∈ lx,z.1.2.2.pods.length=N∧jn z.1.2.2∧z.1.2.1.length+N≤100000)∧Go.RowKit.Below B w1 wr
def Zu (lv:Value) (w:World):Nat:=match lv with
 | .slice (some a) (_+1) _=>match w.cell? ⟨a.block,a.off+3,none⟩ with
  | some (.slice _ m _)=>m+1
  | _=>0
 | _=>0
theorem jbW (a:Option Addr) (cap:Nat) (w:World):Zu (.slice a 0 cap) w=0:=by
 unfold Zu
 cases a<;>rfl
theorem Yd {B:Nat} {w:World} {a:Option Addr} {n cap N:Nat} {lx:List PlX} {Ch:Nat→Prop} (h:Jr B w (.slice a n cap) lx Ch) (hn:0<n) (hp:∀z ∈ lx,z.1.2.2.pods.length=N):Zu (.slice a n cap) w=N+1:=by
 have hr:=Own.Yb h.row;obtain⟨g,off,rfl⟩:=hr.form.resolve_left (by omega);obtain⟨z,hz,-,-,-,hc⟩:=hr.cells hn;obtain⟨⟨x,gl,sz⟩,⟨ga,gn,gc⟩,⟨t1,k1,d1⟩,⟨t2,k2,d2⟩,⟨t3,k3,d3⟩⟩:=z;have hm:=List.mem_of_getElem? hz;have c3:w.cell? ⟨g,off+0*5+3,none⟩=some (.slice t2 k2 d2):=hc 3 _ rfl;have hk:k2=N:=by
  have h1:jC w (.agg #[.slice t1 k1 d1,.slice t2 k2 d2,.slice t3 k3 d3]) sz:=(h.hold.rest _ hm).here;obtain⟨x1,x2,x3,hu,hat⟩:=h1
  cases hu
  obtain⟨a9,c9,e9,-⟩:=hat.pods
  cases e9
  exact hp _ hm
 obtain⟨m,rfl⟩:∃m,n=m+1:=⟨n-1,by omega⟩
 unfold Zu;show (match w.cell? ⟨g,off+3,none⟩ with | some (.slice _ m _)=>m+1 | _=>0)=N+1;rw[show off+3=off+0*5+3 by omega,c3,hk]
theorem qD.next {p:Pd} {o:Option Pl} {B n cap N:Nat} {w1 wr w':World} {a:Option Addr} {lx:List PlX} {Ch:Nat→Prop} {v':Value} (hn:lx.length=n) (hnb:n≤100000) (hpos:0<n) (ht:Jr B wr (.slice a n cap) lx Ch) (hsk:j8 p (N+1) (lx.map fun z=>z.1)=o)
 (hall:∀z ∈ lx,z.1.2.2.pods.length=N∧jn z.1.2.2∧z.1.2.1.length+N≤100000) (hbl:Go.RowKit.Below B w1 wr) (hB:B≤w1.heap.size) (hmiss:(lx.map fun z=>z.1).find? (ZN p)=none) (hm:jfC B lx wr v' w') :
 qD p o B w1 w' v'∧Zu v' w'<Zu (.slice a n cap) wr:=by
 obtain⟨ly,Ch2,hmap,ht2,hb2⟩:=hm;have hst:∀z ∈ ly,∃y ∈ lx,zt y.1=some z.1:=fun z hz=>by
  have h1:z.1 ∈ Jf (lx.map fun z=>z.1):=by rw[←hmap];exact List.mem_map.2 ⟨z,hz,rfl⟩
  obtain⟨y,hy,e⟩:=jdZ h1;obtain⟨x,hx,rfl⟩:=List.mem_map.1 hy;exact⟨x,hx,e⟩
 have hlen:∀z ∈ ly,z.1.2.2.pods.length+1=N∧jn z.1.2.2∧z.1.2.1.length+z.1.2.2.pods.length≤100000:=fun z hz=>by
  obtain⟨y,hy,e⟩:=hst z hz;obtain⟨h1,h2,h3⟩:=hall y hy;have h4:=jc9 e;refine⟨by omega,jfr e h2,?_⟩;have h5:z.1.2.1.length=y.1.2.1.length+1:=by
   unfold zt at e
   cases q:JD y.1.1 y.1.2.2 with
   | none=>rw[q] at e;cases e
   | some r =>
    rw[q] at e;have e2:=Option.some.inj e;rw[←e2];simp
  omega
 have hly:ly.length≤100000:=by
  have h1:=congrArg List.length hmap;rw[List.length_map] at h1;have h2:(Jf (lx.map fun z=>z.1)).length≤(lx.map fun z=>z.1).length:=List.length_filterMap_le _ _;rw[List.length_map] at h2;omega
 obtain⟨a2,c2,rfl,-⟩:=ht2.row.at_;have hs2:j8 p N (ly.map fun z=>z.1)=o:=by rw[←hsk,jch hmiss,hmap]
 have hm0:=Yd ht hpos fun z hz=>(hall z hz).1;have hbl2:Go.RowKit.Below B w1 w':=hbl.trans (Below.mono hb2 (Nat.le_refl _));by_cases h0:ly=[]
 · subst h0;refine⟨⟨a2,0,c2,[],Ch2,N,rfl,rfl,by omega,ht2,?_,(fun z hz=>by cases hz),hbl2⟩,?_⟩
   · rw[←hs2];show j8 p (N+1) []=j8 p N [];rw[ZH,ZH]
   · rw[hm0];show Zu (.slice a2 0 c2) w'<_;rw[jbW];omega
 · obtain⟨z0,hz0⟩:=List.exists_mem_of_ne_nil _ h0;obtain⟨M,rfl⟩:∃M,N=M+1:=⟨z0.1.2.2.pods.length,by have:=(hlen z0 hz0).1;omega⟩
   refine⟨⟨a2,ly.length,c2,ly,Ch2,M,rfl,rfl,hly,ht2,hs2,fun z hz=>?_,hbl2⟩,?_⟩
   · obtain⟨h1,h2,h3⟩:=hlen z hz;exact⟨by omega,h2,by omega⟩
   · rw[hm0,Yd ht2 (List.length_pos_of_mem hz0) (N:=M) fun z hz=>by have:=(hlen z hz).1;omega];omega
abbrev jaW (x y:ByteArray) (v:Value):PanicEntry:={ v:=.iface 46 (.agg #[.string x,.string y,v]),recovered:=false }
def jdo (p:Pd) (o:Option Pl) (w:World) (e:Ending) (w':World):Prop:=(∀z,o=some z→∃a n c,e=.panicked [jaW p.name z.1 (.slice a n c)]∧Off (fun b=>b<w.heap.size) w' fun u=>Reads jK u (.slice a n c) z.2.1)∧(o=none→e=.returned (.tuple #[]))∧Kept w w'
theorem qP {f:Pl→Bool} {l:List Pl} {k:Nat} {z:Pl} (h:(l.take k).find? f=none) (hz:l[k]?=some z) (hf:f z=false):(l.take (k+1)).find? f=none:=by
 rw[List.take_add_one,hz,List.find?_append,h];simp[hf]
theorem qU {f:Pl→Bool} {l:List Pl} {k:Nat} {z:Pl} (h:(l.take k).find? f=none) (hz:l[k]?=some z) (hf:f z=true):l.find? f=some z:=by
 have e:l=l.take k++l.drop k:=(List.take_append_drop k l).symm;have hd:l.drop k=z::l.drop (k+1):=by
  obtain⟨h1,rfl⟩:=List.getElem?_eq_some_iff.1 hz;exact List.drop_eq_getElem_cons h1
 rw[e,hd,List.find?_append,h];simp[hf]
open Go.RowKit Go.Shelf
abbrev Jb:=ByteArray×ByteArray×List ByteArray
def wzP:Jb:=(⟨#[]⟩,⟨#[]⟩,[])
def YK (o:Option Jb) (w:World) (e:Ending) (w':World):Prop:=(∀x y h,o=some (x,y,h)→∃a n c,e=.panicked [jaW x y (.slice a n c)]∧Off (fun b=>b<w.heap.size) w' fun u=>Reads jK u (.slice a n c) h)∧(o=none→e=.returned (.tuple #[]))∧Kept w w'
def Jt (o:Option Jb) (w:World) (e:Ending) (w':World):Prop:=∃v,e=.returned (.tuple #[v,.bool o.isSome])∧(∃a n c,v=.agg #[.string (o.getD wzP).1,.string (o.getD wzP).2.1,.slice a n c]∧Off (fun b=>b<w.heap.size) w' fun u=>Reads jK u (.slice a n c) (o.getD wzP).2.2)∧Kept w w'
theorem Zv (q:Nat) (x y:ByteArray) (a:Option Addr) (n c:Nat) (w:World) (hq:je q [.string ⟨#[]⟩,.string ⟨#[]⟩,.slice none 0 0] w) (hr:je (q+1) [.bool false] w) :
 CallsD Tryz.prog 91 #[.pointer (some ⟨q,0,none⟩),.pointer (some ⟨q+1,0,none⟩)] (.panicking [jaW x y (.slice a n c)]) w fun e u' w' =>
  e=.returned (.tuple #[])∧u'=.panicking [{ jaW x y (.slice a n c) with recovered:=true }]∧w'=(((w.setCell ⟨q,0,none⟩ (.string x)).setCell ⟨q,1,none⟩ (.string y)).setCell ⟨q,2,none⟩ (.slice a n c)).setCell ⟨q+1,0,none⟩ (.bool true):=by
 have hta:∀W,(Instr.typeAssert (.iface 46 (.agg #[.string x,.string y,.slice a n c])) 20 46 false).run Tryz.prog W=.ok (.agg #[.string x,.string y,.slice a n c]) W:=fun _=>by kernel_rfl
 have c0:=hq.at_ 0 _ rfl;have c1:=hq.at_ 1 _ rfl;have c3:=hq.at_ 2 _ rfl;have f0:=hq.free 0;have f1:=hq.free 1;have f3:=hq.free 2;have c2:=hr.at_ 0 _ rfl;have f2:=hr.free 0;refine callsD_of_wpS Tryz.func91 rfl fun c₀ cs hu=>?_;apply wpS_seq;apply wpS_region;simp[wpOpsS,go_sem,recoverD,hu,Tryz.ntmps91,Exit.thenS];apply wpS_seq;apply wpS_region;simp[wpOpsS,go_sem,recoverD,Exit.thenS];refine wpS_cond (t:=true) (by simp[Act.eval,Array.replicate]) ?_;simp only[if_true];refine wpS_of_wp ?_;simp[Array.replicate];go_wp2;simp[bodyPostS,results,Tryz.results91]
theorem YZ (p q:Addr) (w:World) :
 CallsD Tryz.prog 91 #[.pointer (some p),.pointer (some q)] .returning w fun e u' w'=>e=.returned (.tuple #[])∧u'=.returning∧w'=w:=by
 refine callsD_of_wpS Tryz.func91 rfl fun c₀ cs hu=>?_;apply wpS_seq;apply wpS_region;simp[wpOpsS,go_sem,recoverD,hu,Tryz.ntmps91,Exit.thenS];apply wpS_seq;apply wpS_region;simp[wpOpsS,go_sem,recoverD,hu,Exit.thenS];refine wpS_cond (t:=false) (by simp[Act.eval,Array.replicate]) ?_;simp only[Bool.false_eq_true,if_false];refine wpS_of_wp (wp_skip ?_)
 cases c₀
 simp_all [bodyPostS,results,Tryz.results91]
theorem jaP (q r:Nat) (o:Option Jb) (w:World) (hC:∀W,Kept w W→Calls Tryz.prog 39 #[.pointer (some ⟨q,0,none⟩),.pointer (some ⟨r,0,none⟩)] W (YK o W)) :
 Calls Tryz.prog 38 #[.func (.func 39) #[] #[.pointer (some ⟨q,0,none⟩),.pointer (some ⟨r,0,none⟩)]] w (Jt o w):=by
 have hmf:=hmfL (P:=Tryz.prog);obtain⟨Z,hZ⟩:=eX ((w.alloc (.cells #[.string ⟨#[]⟩,.string ⟨#[]⟩,.slice none 0 0] 46)).alloc (.cells #[.bool false] 4))
 have hkz:Kept w Z:=by rw[←hZ];exact ji _ _ _
 have Va:=lH (jc w (.string ⟨#[]⟩) [.string ⟨#[]⟩,.slice none 0 0] 46 Z (by rw[←hZ];exact ja _ _));have Vx:=lH (show je (w.heap.size+1) [.bool false] Z by
  have dd:=jc (w.alloc (.cells #[.string ⟨#[]⟩,.string ⟨#[]⟩,.slice none 0 0] 46)) (.bool false) [] 4 Z (by rw[hZ];exact Kept.refl _);rw[World.size_alloc] at dd;exact dd)
 have HK:=lH hkz;have HC:=lH (hC Z hkz);clear hC hkz;unfold Jt;obtain⟨bq,hbq⟩:=eX (w.heap.size)
 rw[hbq] at Va Vx;have Vn:=lH (show w.heap.size≤bq by omega);have Vj:=lH (show bq<Z.heap.size∧bq+1<Z.heap.size by
  have h1:Z.heap.size=w.heap.size+2:=by rw[←hZ];simp
  omega)
 go_enter_defers Tryz.func38,Tryz.ntmps38
 go_wp2_with fail
 try rw[hZ]
 try rw[hbq]
 go_wp2_with fail
 try rw[hZ]
 try rw[hbq]
 clear hZ hbq;refine HC.out.mono ?_;rintro e1 w1 ⟨g1,g0,kk⟩;obtain⟨K,Va,Vx⟩:=lH3 (HK.out.trans kk) (Va.out.kept kk) (Vx.out.kept kk);clear kk HC
 cases hn:o with
 | none =>
  obtain rfl:=g0 hn;clear g0 g1;subst hn;have c0:=Va.out.at_ 0 _ rfl;have c1:=Va.out.at_ 1 _ rfl;have c3:=Va.out.at_ 2 _ rfl;have f0:=Va.out.free 0;have f1:=Va.out.free 1;have f3:=Va.out.free 2;have c2:=Vx.out.at_ 0 _ rfl;have f2:=Vx.out.free 0;have P:=lH (jW (vs:=[.string ⟨#[]⟩,.string ⟨#[]⟩,.slice none 0 0]) Va.out rfl);have KF:=lH (show Kept w ((w1.setCells bq 0 [.string ⟨#[]⟩,.string ⟨#[]⟩,.slice none 0 0]).setCell ⟨bq+1,0,none⟩ (.bool false)) from jA (jm bq _ _ _ _ _ Vn.out K.out) (a:=⟨bq+1,0,none⟩) (by show w.heap.size≤bq+1;have:=Vn.out;omega) _);go_wp2_with fail
  obtain⟨WE,hWE⟩:=eX (w1.setCells bq 0 [.string ⟨#[]⟩,.string ⟨#[]⟩,.slice none 0 0])
  have hWE2:(((w1.setCell ⟨bq,0,none⟩ (.string ⟨#[]⟩)).setCell ⟨bq,1,none⟩ (.string ⟨#[]⟩)).setCell ⟨bq,2,none⟩ (.slice none 0 0))=WE:=hWE;rw[hWE] at P KF;try rw[hWE2]
  have FQ:=lH (P.out.cells.other (p:=bq+1) (j:=0) (u:=.bool false) (by omega));have FE:=lH (show je (bq+1) [.bool false] (WE.setCell ⟨bq+1,0,none⟩ (.bool false)) by
   have h1:je (bq+1) [.bool false] WE:=by rw[←hWE2];exact((Vx.out.other (by omega)).other (by omega)).other (by omega)
   exact h1.set (j:=0) (u:=.bool false) (by simp))
  obtain⟨WF,hWF⟩:=eX (WE.setCell ⟨bq+1,0,none⟩ (.bool false))
  rw[hWF] at FQ FE KF;try rw[hWF]
  clear hWE hWE2 hWF c0 c1 c2 c3 f0 f1 f2 f3;refine leaves_cons (f:=91) (args:=#[.pointer (some ⟨bq,0,none⟩),.pointer (some ⟨bq+1,0,none⟩)]) (by simp) (by simp[go_sem]) ?_;refine(YZ ⟨bq,0,none⟩ ⟨bq+1,0,none⟩ _).mono ?_;rintro e u' w'' ⟨rfl,rfl,rfl⟩;simp[Leaves,settle,results,Tryz.results38,go_sem,FE.out.at_ 0 _ rfl,FQ.out.at_ 0 _ rfl,FQ.out.at_ 1 _ rfl,FQ.out.at_ 2 _ rfl];exact⟨⟨none,0,0,(by simp[wzP]),fun u _=>Reads.nil _⟩,KF.out⟩
 | some b =>
  obtain⟨x,y,h⟩:=b;obtain⟨a,n,c,rfl,hrd⟩:=g1 x y h hn;have Vm:=lH hrd;clear g0 g1 hrd;subst hn;go_wp2_with fail
  refine leaves_cons (f:=91) (args:=#[.pointer (some ⟨bq,0,none⟩),.pointer (some ⟨bq+1,0,none⟩)]) (by simp) (by simp[go_sem]) ?_;refine(Zv bq x y a n c _ Va.out Vx.out).mono ?_;rintro e u' w'' ⟨rfl,rfl,rfl⟩;obtain⟨FQ,FE,KF⟩:=lH3 ((((Va.out.set (j:=0) (u:=.string x) (by simp)).set (j:=1) (u:=.string y) (by simp)).set (j:=2) (u:=.slice a n c) (by simp)).other (p:=bq+1) (j:=0) (u:=.bool true) (by omega)) ((((Vx.out.other (p:=bq) (j:=0) (u:=.string x) (by omega)).other (p:=bq) (j:=1) (u:=.string y) (by omega)).other (p:=bq) (j:=2) (u:=.slice a n c) (by omega)).set (j:=0) (u:=.bool true) (by simp)) (show Kept w ((((w1.setCell ⟨bq,0,none⟩ (.string x)).setCell ⟨bq,1,none⟩ (.string y)).setCell ⟨bq,2,none⟩ (.slice a n c)).setCell ⟨bq+1,0,none⟩ (.bool true)) from jA (jA (jA (jA K.out (a:=⟨bq,0,none⟩) Vn.out _) (a:=⟨bq,1,none⟩) Vn.out _) (a:=⟨bq,2,none⟩) Vn.out _) (a:=⟨bq+1,0,none⟩) (by show w.heap.size≤bq+1;have:=Vn.out;omega) _)
  have Ub:=lH (show Off (fun b=>b<w.heap.size) ((((w1.setCell ⟨bq,0,none⟩ (.string x)).setCell ⟨bq,1,none⟩ (.string y)).setCell ⟨bq,2,none⟩ (.slice a n c)).setCell ⟨bq+1,0,none⟩ (.bool true)) fun u=>Reads jK u (.slice a n c) h from
   (Vm.out.step ((((jb.cell (S:=fun b=>b<Z.heap.size) bq 0 (.string x) Vj.out.1).trans (jb.cell (S:=fun b=>b<Z.heap.size) bq 1 (.string y) Vj.out.1)).trans (jb.cell (S:=fun b=>b<Z.heap.size) bq 2 (.slice a n c) Vj.out.1)).trans (jb.cell (S:=fun b=>b<Z.heap.size) (bq+1) 0 (.bool true) Vj.out.2))).less fun b e=>Nat.lt_of_lt_of_le e HK.out.size)
  obtain⟨WF,hWF⟩:=eX ((((w1.setCell ⟨bq,0,none⟩ (.string x)).setCell ⟨bq,1,none⟩ (.string y)).setCell ⟨bq,2,none⟩ (.slice a n c)).setCell ⟨bq+1,0,none⟩ (.bool true))
  rw[hWF] at FQ FE KF Ub ⊢;clear hWF;simp[Leaves,settle,results,Tryz.results38,go_sem,FE.out.at_ 0 _ rfl,FQ.out.at_ 0 _ rfl,FQ.out.at_ 1 _ rfl,FQ.out.at_ 2 _ rfl];exact⟨⟨a,n,c,(by simp),Ub.out⟩,KF.out⟩
theorem qJ (q:Nat) (o:Option Jb) (w:World) (hC:∀W,Kept w W→Calls Tryz.prog 77 #[.pointer (some ⟨q,0,none⟩)] W (YK o W)) :
 Calls Tryz.prog 38 #[.func (.func 77) #[] #[.pointer (some ⟨q,0,none⟩)]] w (Jt o w):=by
 have hmf:=hmfL (P:=Tryz.prog);obtain⟨Z,hZ⟩:=eX ((w.alloc (.cells #[.string ⟨#[]⟩,.string ⟨#[]⟩,.slice none 0 0] 46)).alloc (.cells #[.bool false] 4))
 have hkz:Kept w Z:=by rw[←hZ];exact ji _ _ _
 have Va:=lH (jc w (.string ⟨#[]⟩) [.string ⟨#[]⟩,.slice none 0 0] 46 Z (by rw[←hZ];exact ja _ _));have Vx:=lH (show je (w.heap.size+1) [.bool false] Z by
  have dd:=jc (w.alloc (.cells #[.string ⟨#[]⟩,.string ⟨#[]⟩,.slice none 0 0] 46)) (.bool false) [] 4 Z (by rw[hZ];exact Kept.refl _);rw[World.size_alloc] at dd;exact dd)
 have HK:=lH hkz;have HC:=lH (hC Z hkz);clear hC hkz;unfold Jt;obtain⟨bq,hbq⟩:=eX (w.heap.size)
 rw[hbq] at Va Vx;have Vn:=lH (show w.heap.size≤bq by omega);have Vj:=lH (show bq<Z.heap.size∧bq+1<Z.heap.size by
  have h1:Z.heap.size=w.heap.size+2:=by rw[←hZ];simp
  omega)
 go_enter_defers Tryz.func38,Tryz.ntmps38
 go_wp2_with fail
 try rw[hZ]
 try rw[hbq]
 go_wp2_with fail
 try rw[hZ]
 try rw[hbq]
 clear hZ hbq;refine HC.out.mono ?_;rintro e1 w1 ⟨g1,g0,kk⟩;obtain⟨K,Va,Vx⟩:=lH3 (HK.out.trans kk) (Va.out.kept kk) (Vx.out.kept kk);clear kk HC
 cases hn:o with
 | none =>
  obtain rfl:=g0 hn;clear g0 g1;subst hn;have c0:=Va.out.at_ 0 _ rfl;have c1:=Va.out.at_ 1 _ rfl;have c3:=Va.out.at_ 2 _ rfl;have f0:=Va.out.free 0;have f1:=Va.out.free 1;have f3:=Va.out.free 2;have c2:=Vx.out.at_ 0 _ rfl;have f2:=Vx.out.free 0;have P:=lH (jW (vs:=[.string ⟨#[]⟩,.string ⟨#[]⟩,.slice none 0 0]) Va.out rfl);have KF:=lH (show Kept w ((w1.setCells bq 0 [.string ⟨#[]⟩,.string ⟨#[]⟩,.slice none 0 0]).setCell ⟨bq+1,0,none⟩ (.bool false)) from jA (jm bq _ _ _ _ _ Vn.out K.out) (a:=⟨bq+1,0,none⟩) (by show w.heap.size≤bq+1;have:=Vn.out;omega) _);go_wp2_with fail
  obtain⟨WE,hWE⟩:=eX (w1.setCells bq 0 [.string ⟨#[]⟩,.string ⟨#[]⟩,.slice none 0 0])
  have hWE2:(((w1.setCell ⟨bq,0,none⟩ (.string ⟨#[]⟩)).setCell ⟨bq,1,none⟩ (.string ⟨#[]⟩)).setCell ⟨bq,2,none⟩ (.slice none 0 0))=WE:=hWE;rw[hWE] at P KF;try rw[hWE2]
  have FQ:=lH (P.out.cells.other (p:=bq+1) (j:=0) (u:=.bool false) (by omega));have FE:=lH (show je (bq+1) [.bool false] (WE.setCell ⟨bq+1,0,none⟩ (.bool false)) by
   have h1:je (bq+1) [.bool false] WE:=by rw[←hWE2];exact((Vx.out.other (by omega)).other (by omega)).other (by omega)
   exact h1.set (j:=0) (u:=.bool false) (by simp))
  obtain⟨WF,hWF⟩:=eX (WE.setCell ⟨bq+1,0,none⟩ (.bool false))
  rw[hWF] at FQ FE KF;try rw[hWF]
  clear hWE hWE2 hWF c0 c1 c2 c3 f0 f1 f2 f3;refine leaves_cons (f:=91) (args:=#[.pointer (some ⟨bq,0,none⟩),.pointer (some ⟨bq+1,0,none⟩)]) (by simp) (by simp[go_sem]) ?_;refine(YZ ⟨bq,0,none⟩ ⟨bq+1,0,none⟩ _).mono ?_;rintro e u' w'' ⟨rfl,rfl,rfl⟩;simp[Leaves,settle,results,Tryz.results38,go_sem,FE.out.at_ 0 _ rfl,FQ.out.at_ 0 _ rfl,FQ.out.at_ 1 _ rfl,FQ.out.at_ 2 _ rfl];exact⟨⟨none,0,0,(by simp[wzP]),fun u _=>Reads.nil _⟩,KF.out⟩
 | some b =>
  obtain⟨x,y,h⟩:=b;obtain⟨a,n,c,rfl,hrd⟩:=g1 x y h hn;have Vm:=lH hrd;clear g0 g1 hrd;subst hn;go_wp2_with fail
  refine leaves_cons (f:=91) (args:=#[.pointer (some ⟨bq,0,none⟩),.pointer (some ⟨bq+1,0,none⟩)]) (by simp) (by simp[go_sem]) ?_;refine(Zv bq x y a n c _ Va.out Vx.out).mono ?_;rintro e u' w'' ⟨rfl,rfl,rfl⟩;obtain⟨FQ,FE,KF⟩:=lH3 ((((Va.out.set (j:=0) (u:=.string x) (by simp)).set (j:=1) (u:=.string y) (by simp)).set (j:=2) (u:=.slice a n c) (by simp)).other (p:=bq+1) (j:=0) (u:=.bool true) (by omega)) ((((Vx.out.other (p:=bq) (j:=0) (u:=.string x) (by omega)).other (p:=bq) (j:=1) (u:=.string y) (by omega)).other (p:=bq) (j:=2) (u:=.slice a n c) (by omega)).set (j:=0) (u:=.bool true) (by simp)) (show Kept w ((((w1.setCell ⟨bq,0,none⟩ (.string x)).setCell ⟨bq,1,none⟩ (.string y)).setCell ⟨bq,2,none⟩ (.slice a n c)).setCell ⟨bq+1,0,none⟩ (.bool true)) from jA (jA (jA (jA K.out (a:=⟨bq,0,none⟩) Vn.out _) (a:=⟨bq,1,none⟩) Vn.out _) (a:=⟨bq,2,none⟩) Vn.out _) (a:=⟨bq+1,0,none⟩) (by show w.heap.size≤bq+1;have:=Vn.out;omega) _)
  have Ub:=lH (show Off (fun b=>b<w.heap.size) ((((w1.setCell ⟨bq,0,none⟩ (.string x)).setCell ⟨bq,1,none⟩ (.string y)).setCell ⟨bq,2,none⟩ (.slice a n c)).setCell ⟨bq+1,0,none⟩ (.bool true)) fun u=>Reads jK u (.slice a n c) h from
   (Vm.out.step ((((jb.cell (S:=fun b=>b<Z.heap.size) bq 0 (.string x) Vj.out.1).trans (jb.cell (S:=fun b=>b<Z.heap.size) bq 1 (.string y) Vj.out.1)).trans (jb.cell (S:=fun b=>b<Z.heap.size) bq 2 (.slice a n c) Vj.out.1)).trans (jb.cell (S:=fun b=>b<Z.heap.size) (bq+1) 0 (.bool true) Vj.out.2))).less fun b e=>Nat.lt_of_lt_of_le e HK.out.size)
  obtain⟨WF,hWF⟩:=eX ((((w1.setCell ⟨bq,0,none⟩ (.string x)).setCell ⟨bq,1,none⟩ (.string y)).setCell ⟨bq,2,none⟩ (.slice a n c)).setCell ⟨bq+1,0,none⟩ (.bool true))
  rw[hWF] at FQ FE KF Ub ⊢;clear hWF;simp[Leaves,settle,results,Tryz.results38,go_sem,FE.out.at_ 0 _ rfl,FQ.out.at_ 0 _ rfl,FQ.out.at_ 1 _ rfl,FQ.out.at_ 2 _ rfl];exact⟨⟨a,n,c,(by simp),Ub.out⟩,KF.out⟩
end Go.Proofs.YtabafpoklpiiiaaGreat
