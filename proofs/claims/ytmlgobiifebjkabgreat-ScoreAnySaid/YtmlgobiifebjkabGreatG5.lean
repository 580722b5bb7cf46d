/- C. -/
import Derived.Test.YtmlgobiifebjkabGreatG0
import Derived.Test.YtmlgobiifebjkabGreatG1
import Derived.Test.YtmlgobiifebjkabGreatG2
import Derived.Test.YtmlgobiifebjkabGreatG4
set_option linter.unusedVariables false
set_option maxRecDepth 100000
set_option maxHeartbeats 25600000
namespace Go.Proofs.YtmlgobiifebjkabGreat
open Go.RowKit Go.Shelf
def SkR (o:Option Int) (w:World) (e:Ending) (w':World):Prop:=(∀z,o=some z→e=.returned (.int .i64 z))∧(o=none→e=.panicked [zL 3])∧Kept w w'
theorem ja2 (B:Nat) (q:Nat) (x y:Int) (w:World) (hq:w.cell? ⟨q,0,none⟩=some (.int .i64 y)) (hzq:w.frozen? ⟨q,0,none⟩=false) (hBq:B≤q) :
 CallsD Tryz.prog 223 #[.pointer (some ⟨q,0,none⟩)] (.panicking [zL x]) w fun e u' w' =>
  e=.returned (.tuple #[])∧u'=.panicking [{ zL x with recovered:=true }]∧w'=w.setCell ⟨q,0,none⟩ (.int .i64 x)∧w'.cell? ⟨q,0,none⟩=some (.int .i64 x)∧Below B w w':=by
 have hta:∀W,(Instr.typeAssert (.iface 155 (.int .i64 x)) 20 155 false).run Tryz.prog W=.ok (.int .i64 x) W:=fun _=>by kernel_rfl
 refine callsD_of_wpS Tryz.func223 rfl fun c₀ cs hu=>?_;apply wpS_seq;apply wpS_region;simp[wpOpsS,go_sem,recoverD,hu,Tryz.ntmps223,Exit.thenS];apply wpS_seq;apply wpS_region;simp[wpOpsS,go_sem,recoverD,Exit.thenS];refine wpS_cond (t:=true) (by simp[Act.eval,Array.replicate]) ?_;simp only[if_true];refine wpS_of_wp ?_;simp[Array.replicate];go_wp2;simp[bodyPostS,results,Tryz.results223];exact⟨World.cell?_setCell_same' _ _ _ (by rw[hq];rfl),(Below.refl B w).setCell (p:=⟨q,0,none⟩) hBq _⟩
theorem jee (q:Addr) (w:World) :
 CallsD Tryz.prog 223 #[.pointer (some q)] .returning w fun e u' w'=>e=.returned (.tuple #[])∧u'=.returning∧w'=w:=by
 refine callsD_of_wpS Tryz.func223 rfl fun c₀ cs hu=>?_;apply wpS_seq;apply wpS_region;simp[wpOpsS,go_sem,recoverD,hu,Tryz.ntmps223,Exit.thenS];apply wpS_seq;apply wpS_region;simp[wpOpsS,go_sem,recoverD,hu,Exit.thenS];refine wpS_cond (t:=false) (by simp[Act.eval,Array.replicate]) ?_;simp only[Bool.false_eq_true,if_false];refine wpS_of_wp (wp_skip ?_)
 cases c₀
 simp_all [bodyPostS,results,Tryz.results223]
theorem jgb (Q1 Q2 Q3:Nat) (o:Option Int) (w:World) (hk:∀W,Kept w W→Calls Tryz.prog 218 #[.pointer (some ⟨Q1,0,none⟩),.pointer (some ⟨Q2,0,none⟩),.pointer (some ⟨Q3,0,none⟩)] W (SkR o W)) :
 Calls Tryz.prog 217 #[.func (.func 218) #[] #[.pointer (some ⟨Q1,0,none⟩),.pointer (some ⟨Q2,0,none⟩),.pointer (some ⟨Q3,0,none⟩)]] w fun e w'=>e=.returned (.tuple #[.int .i64 (o.getD 0),.int .i64 (if o.isSome=true then 0 else 3)])∧Kept w w':=by
 have hmf:=hmfL (P:=Tryz.prog);obtain⟨Z,hZ⟩:∃Z,w.alloc (.cells #[.int .i64 0] 155)=Z:=⟨_,rfl⟩
 have hkz:Kept w Z:=by rw[←hZ];exact ja _ _
 have HK:=lH hkz;have MI:=lH (jd w (.int .i64 0) [] 155 Z (by rw[hZ];exact Kept.refl _));have Nk:=lH (hk Z hkz);clear hk hkz;go_enter_defers Tryz.func217,Tryz.ntmps217
 go_wp2_with fail
 try rw[hZ]
 refine Nk.out.mono ?_;rintro e1 w1 ⟨h0,h1,hb⟩;have KK:=lH (HK.out.trans hb);have UI:=lH (MI.out.kept hb);have ze:=UI.out.at_ 0 _ rfl;have zf:=UI.out.free 0
 cases o with
 | some z =>
  obtain rfl:=h0 z rfl;clear h0 h1 hb hZ;go_wp2_with fail
  have FE:=lH (UI.out.set (j:=0) (u:=.int .i64 0) (by simp));have KF:=lH (show Kept w (w1.setCell ⟨w.heap.size,0,none⟩ (.int .i64 0)) from KK.out.setCell (p:=⟨w.heap.size,0,none⟩) (Nat.le_refl _) _);obtain⟨WF,hWF⟩:∃W,w1.setCell ⟨w.heap.size,0,none⟩ (.int .i64 0)=W:=⟨_,rfl⟩
  rw[hWF] at FE KF ⊢;have fe:=FE.out.at_ 0 _ rfl;clear hWF ze zf;refine leaves_cons (f:=223) (args:=#[.pointer (some ⟨w.heap.size,0,none⟩)]) (by simp) (by simp[go_sem]) ?_;refine(jee ⟨w.heap.size,0,none⟩ _).mono ?_;rintro e u' w'' ⟨rfl,rfl,rfl⟩;simp[Leaves,settle,results,Tryz.results217,go_sem,fe];exact KF.out
 | none =>
  obtain rfl:=h1 rfl;clear h0 h1 hb hZ;go_wp2_with fail
  refine leaves_cons (f:=223) (args:=#[.pointer (some ⟨w.heap.size,0,none⟩)]) (by simp) (by simp[go_sem]) ?_;refine(ja2 w.heap.size w.heap.size 3 0 _ ze zf (Nat.le_refl _)).mono ?_;rintro e u' w'' ⟨rfl,rfl,rfl,q2,q3⟩;have KF:=lH (show Kept w _ from Below.trans KK.out q3);obtain⟨WF,hWF⟩:∃W,w1.setCell ⟨w.heap.size,0,none⟩ (.int .i64 3)=W:=⟨_,rfl⟩
  rw[hWF] at q2 KF ⊢;clear hWF q3 ze zf;simp[Leaves,settle,results,Tryz.results217,go_sem,q2];exact KF.out
theorem jjj (Q1 Q2 Q3:Nat) (s1 s2 s3 a1 a2 a3 a4:Option Addr) (n1 e1 n2 e2 n3 e3 m1 c1 m2 c2 m3 c3 m4 c4:Nat) (p:Pd) (s:Clu) (name:ByteArray) (w:World) (hq1:jf Q1 [.slice s1 n1 e1,.slice s2 n2 e2,.slice s3 n3 e3] w) (hq2:jf Q2 [.string p.name,.string p.owner,.int .i64 p.prio,.slice a1 m1 c1,.slice a2 m2 c2,.slice a3 m3 c3,.slice a4 m4 c4,.string p.key,.int .i64 p.most,.string p.node,.bool p.hold] w) (hq3:jf Q3 [.string name] w) (hn:jE w s1 n1 s.nodes) (hp:jN w s2 n2 s.pods) (hb1:n1≤100000) (hb2:n2≤100000) :
 Calls Tryz.prog 218 #[.pointer (some ⟨Q1,0,none⟩),.pointer (some ⟨Q2,0,none⟩),.pointer (some ⟨Q3,0,none⟩)] w (SkR ((domV p.key name s.nodes).map (YJ p s)) w):=by
 have HS:=lH (jhK s1 s2 s3 a1 a2 a3 a4 n1 e1 n2 e2 n3 e3 m1 c1 m2 c2 m3 c3 m4 c4 p s name w hn hp hb1 hb2);unfold jr at HS;have y0:=hq1.at_ 0 _ rfl;have y1:=hq1.at_ 1 _ rfl;have y2:=hq1.at_ 2 _ rfl;have r0:=hq2.at_ 0 _ rfl;have r1:=hq2.at_ 1 _ rfl;have r2:=hq2.at_ 2 _ rfl;have r3:=hq2.at_ 3 _ rfl;have r4:=hq2.at_ 4 _ rfl;have r5:=hq2.at_ 5 _ rfl;have r6:=hq2.at_ 6 _ rfl;have r7:=hq2.at_ 7 _ rfl;have r8:=hq2.at_ 8 _ rfl;have r9:=hq2.at_ 9 _ rfl;have r10:=hq2.at_ 10 _ rfl;have z0:=hq3.at_ 0 _ rfl;clear hq1 hq2 hq3 hn hp;go_enter Tryz.func218,Tryz.ntmps218;go_wp2_with fail
 refine HS.out.mono ?_;rintro e w1 ⟨h1,h2,kk⟩;have K:=lH kk;clear kk HS y0 y1 y2 r0 r1 r2 r3 r4 r5 r6 r7 r8 r9 r10 z0
 cases ho:domV p.key name s.nodes with
 | none =>
  obtain rfl:=h2 ho;have HO:=lH ho;clear h1 h2 ho;go_wp2;exact⟨rfl,(fun z e=>by cases e),(fun _=>rfl),K.out⟩
 | some d =>
  obtain rfl:=h1 d ho;have HO:=lH ho;clear h1 h2 ho;obtain⟨z,hz⟩:∃z,YJ p s d=z:=⟨_,rfl⟩
  rw[hz];have HZ:=lH hz;clear hz;go_wp2;go_ret;exact⟨(fun y e=>by rw[HO.out] at e;cases e;exact congrArg (fun z=>Ending.returned (.int .i64 z)) HZ.out.symm),(fun e=>by rw[HO.out] at e;cases e),K.out⟩
theorem jjQ (s1 s2 s3 a1 a2 a3 a4:Option Addr) (n1 e1 n2 e2 n3 e3 m1 c1 m2 c2 m3 c3 m4 c4:Nat) (p:Pd) (s:Clu) (name:ByteArray) (w:World) (hn:jE w s1 n1 s.nodes) (hp:jN w s2 n2 s.pods) (hb1:n1≤100000) (hb2:n2≤100000) :
 Calls Tryz.prog 212 #[.agg #[.slice s1 n1 e1,.slice s2 n2 e2,.slice s3 n3 e3],jr p (.slice a1 m1 c1) (.slice a2 m2 c2) (.slice a3 m3 c3) (.slice a4 m4 c4),.string name] w (Say (.tuple #[.int .i64 (zN p s name).1,.bool (zN p s name).2]) w):=by
 have hmf:=hmfL (P:=Tryz.prog);obtain⟨Y,hY⟩:∃Y,(w.alloc (.cells #[.slice s1 n1 e1,.slice s2 n2 e2,.slice s3 n3 e3] 26)).alloc (.cells #[.string p.name,.string p.owner,.int .i64 p.prio,.slice a1 m1 c1,.slice a2 m2 c2,.slice a3 m3 c3,.slice a4 m4 c4,.string p.key,.int .i64 p.most,.string p.node,.bool p.hold] 35)=Y:=⟨_,rfl⟩
 have hky:Kept w Y:=by rw[←hY];exact jm _ _ _
 have hys:Y.heap.size=w.heap.size+2:=by rw[←hY];simp
 have hsb:=jd w (.slice s1 n1 e1) [.slice s2 n2 e2,.slice s3 n3 e3] 26 Y (by rw[←hY];exact ja _ _);have hpb:jf (w.heap.size+1) [.string p.name,.string p.owner,.int .i64 p.prio,.slice a1 m1 c1,.slice a2 m2 c2,.slice a3 m3 c3,.slice a4 m4 c4,.string p.key,.int .i64 p.most,.string p.node,.bool p.hold] Y:=by
  have dd:=jd (w.alloc (.cells #[.slice s1 n1 e1,.slice s2 n2 e2,.slice s3 n3 e3] 26)) (.string p.name) [.string p.owner,.int .i64 p.prio,.slice a1 m1 c1,.slice a2 m2 c2,.slice a3 m3 c3,.slice a4 m4 c4,.string p.key,.int .i64 p.most,.string p.node,.bool p.hold] 35 Y (by rw[hY];exact Kept.refl _);rw[World.size_alloc] at dd;exact dd
 obtain⟨Z,hZ⟩:∃Z,Y.alloc (.cells #[.string name] 9)=Z:=⟨_,rfl⟩
 have hkz:Kept Y Z:=by rw[←hZ];exact ja _ _
 have hnb:jf (w.heap.size+2) [.string name] Z:=by
  have dd:=jd Y (.string name) [] 9 Z (by rw[hZ];exact Kept.refl _);rw[hys] at dd;exact dd
 have hYZ:((w.alloc (.cells #[.slice s1 n1 e1,.slice s2 n2 e2,.slice s3 n3 e3] 26)).alloc (.cells #[.string p.name,.string p.owner,.int .i64 p.prio,.slice a1 m1 c1,.slice a2 m2 c2,.slice a3 m3 c3,.slice a4 m4 c4,.string p.key,.int .i64 p.most,.string p.node,.bool p.hold] 35)).alloc (.cells #[.string name] 9)=Z:=by rw[hY];exact hZ
 have Vw:=lH (hsb.kept hkz);have Vj:=lH (hpb.kept hkz);have Vg:=lH hnb;have K:=lH (hky.trans hkz);have HN:=lH (hn.kept (hky.trans hkz));have HP:=lH (hp.kept (hky.trans hkz));clear hn hp hky hkz hys hsb hpb hnb hY hZ;obtain⟨t0,h0⟩:∃t,(p.key.toList==([]:List UInt8))=t:=⟨_,rfl⟩
 have HI:=lH (show zZ p.key=t0 by rw[JA,h0]);have r7:=Vj.out.at_ 7 _ rfl;unfold jr;go_enter Tryz.func212,Tryz.ntmps212
 cases t0 with
 | true =>
  have HV:=lH (show zN p s name=(0,true) by unfold zN;rw[if_pos HI.out]);go_wp2;try rw[hYZ]
  go_ret2
  rw[HV.out];exact⟨rfl,by first | exact K.out | (rw[hYZ];exact K.out)⟩
 | false =>
  have HC:=lH (jgb w.heap.size (w.heap.size+1) (w.heap.size+2) ((domV p.key name s.nodes).map (YJ p s)) Z fun W k=>jjj w.heap.size (w.heap.size+1) (w.heap.size+2) s1 s2 s3 a1 a2 a3 a4 n1 e1 n2 e2 n3 e3 m1 c1 m2 c2 m3 c3 m4 c4 p s name W (Vw.out.kept k) (Vj.out.kept k) (Vg.out.kept k) (HN.out.kept k) (HP.out.kept k) hb1 hb2);have HV:=lH (show zN p s name=(((domV p.key name s.nodes).map (YJ p s)).getD 0,((domV p.key name s.nodes).map (YJ p s)).isSome) by
   unfold zN;rw[if_neg (by rw[HI.out];decide)]
   cases domV p.key name s.nodes<;>rfl)
  obtain⟨o,ho⟩:∃o,(domV p.key name s.nodes).map (YJ p s)=o:=⟨_,rfl⟩
  rw[ho] at HC HV;clear ho;go_upto_region 3 with fail
  try rw[hYZ]
  clear hYZ r7 h0;go_wp2_with fail
  refine HC.out.mono ?_;rintro e w1 ⟨rfl,kk⟩;have K:=lH (K.out.trans kk);clear kk
  cases o with
  | none =>
   have HW:=lH (show zN p s name=(0,false) from HV.out);go_wp2;go_ret2
   rw[HW.out];exact⟨rfl,K.out⟩
  | some z =>
   have HW:=lH (show zN p s name=(z,true) from HV.out);go_wp2;go_ret2
   rw[HW.out];exact⟨rfl,K.out⟩
open Go.RowKit
def Jv (r:Int×Vec.V) (w:World) (e:Ending) (w':World):Prop:=(r.1=0→∃v,e=.returned v∧Vec.jR 128 w' w.heap.size v r.2)∧(r.1≠0→e=.panicked [zL r.1])∧Kept w w'
theorem Jv.good {r:Int×Vec.V} {m:Vec.V} {v:Value} {w w':World} (h:r=(0,m)) (g:Vec.jR 128 w' w.heap.size v m) (k:Kept w w'):Jv r w (.returned v) w':=by
 subst h;exact⟨fun _=>⟨v,rfl,g⟩,fun h=>absurd rfl h,k⟩
theorem Jv.bad {r:Int×Vec.V} {m:Vec.V} {c:Int} {w w':World} (h:r=(c,m)) (hc:c≠0) (k:Kept w w'):Jv r w (.panicked [zL c]) w':=by
 subst h;exact⟨fun h=>absurd h hc,fun _=>rfl,k⟩
theorem jnf {v v':Value} {l l':Vec.V} {w:World} (h:Vec.Reads w v l) (h':Vec.Reads w v' l'):Calls Tryz.prog 146 #[v,v'] w (Vec.YT (Vec.jk Vec.jK l l') w):=by
 obtain⟨a,cap,rfl,h1,h2,hr⟩:=h;obtain⟨a',cap',rfl,h1',h2',hr'⟩:=h';exact Vec.jlG a a' _ cap _ cap' l l' w hr hr' h1 h2 h1' h2'
def jlB (o:Option Nod) (w:World) (e:Ending) (w':World):Prop:=(∀n,o=some n→∃v,e=.returned v∧JD w.heap.size w' v n)∧(o=none→e=.panicked [zL 3])∧Kept w w'
theorem jb3 (a a8 a9:Option Addr) (len cap m8 c8 m9 c9:Nat) (l:List Nod) (x:ByteArray) (w:World) (hr:jE w a len l) (hlow:∀n ∈ l,Jk n) :
 Calls Tryz.prog 117 #[.agg #[.slice a len cap,.slice a8 m8 c8,.slice a9 m9 c9],.string x] w (jlB (jj l x) w):=by
 obtain⟨Z,hZ⟩:∃Z,(w.alloc (.cells #[.slice a len cap,.slice a8 m8 c8,.slice a9 m9 c9] 26)).alloc (.cells #[.string ⟨#[]⟩,.slice none 0 0,.slice none 0 0,.slice none 0 0,.bool false] 71)=Z:=⟨_,rfl⟩
 have hkz:Kept w Z:=by rw[←hZ];exact jm _ _ _
 have hzs:Z.heap.size=w.heap.size+2:=by rw[←hZ];simp
 have Tq:=lH (show jf (w.heap.size+1) [.string ⟨#[]⟩,.slice none 0 0,.slice none 0 0,.slice none 0 0,.bool false] Z by
  have:=jd (w.alloc (.cells #[.slice a len cap,.slice a8 m8 c8,.slice a9 m9 c9] 26)) (.string ⟨#[]⟩) [.slice none 0 0,.slice none 0 0,.slice none 0 0,.bool false] 71 Z (by rw[hZ];exact Kept.refl _);rw[World.size_alloc] at this;exact this)
 have hst:Z.cell? ⟨w.heap.size,0,none⟩=some (.slice a len cap):=(jd w (.slice a len cap) [.slice a8 m8 c8,.slice a9 m9 c9] 26 Z (by rw[←hZ];exact ja _ _)).at_ 0 _ rfl;have HF:=lH (jiG a len cap l x Z (hr.kept hkz) hlow);have Ve:=lH hkz;have Vm:=lH hzs;obtain⟨o,ho⟩:∃o,jj l x=o:=⟨_,rfl⟩
 rw[ho] at HF ⊢;clear hr hlow hkz hzs ho
 cases o with
 | none =>
  go_enter Tryz.func117,Tryz.ntmps117;go_wp2_with fail
  try rw[hZ]
  clear hZ hst;refine HF.out.mono ?_;rintro e w1 ⟨v,rfl,hn,k1⟩;have KW:=lH (Ve.out.trans k1);obtain⟨b1,n1,d1,b2,n2,d2,b3,n3,d3,rfl,-⟩:=hn;clear k1;go_wp2;exact⟨rfl,(fun n h=>by cases h),(fun _=>rfl),KW.out.trans (ja _ _)⟩
 | some n9 =>
  go_enter Tryz.func117,Tryz.ntmps117;go_wp2_with fail
  try rw[hZ]
  clear hZ hst;refine HF.out.mono ?_;rintro e w1 ⟨v,rfl,hn,k1⟩;have HN:=lH hn;have VG:=lH (Tq.out.kept k1);have KW:=lH (Ve.out.trans k1);obtain⟨b1,n1,d1,b2,n2,d2,b3,n3,d3,hv,-⟩:=hn;have hv:v=.agg #[.string n9.name,.slice b1 n1 d1,.slice b2 n2 d2,.slice b3 n3 d3,.bool n9.cordon]:=hv;subst hv;obtain⟨z,hz⟩:∃z,n9.name=z:=⟨_,rfl⟩
  obtain⟨cd,hcd⟩:∃z,n9.cordon=z:=⟨_,rfl⟩
  have Rh:=lH (show w.heap.size+2≤w1.heap.size by have:=k1.size;rw[Vm.out] at this;exact this);rw[hz,hcd];rw[hz,hcd] at HN;clear k1;have UL:=lH (VG.out.kept (ja w1 (.cells #[.string z,.slice b1 n1 d1,.slice b2 n2 d2,.slice b3 n3 d3,.bool cd] 71)));clear VG;obtain⟨W1,hW1⟩:∃W,w1.alloc (.cells #[.string z,.slice b1 n1 d1,.slice b2 n2 d2,.slice b3 n3 d3,.bool cd] 71)=W:=⟨_,rfl⟩
  rw[hW1] at UL;have c:=jd w1 (.string z) [.slice b1 n1 d1,.slice b2 n2 d2,.slice b3 n3 d3,.bool cd] 71 W1 (by rw[hW1];exact Kept.refl _);have g0:=c.at_ 0 _ rfl;have g1:=c.at_ 1 _ rfl;have g2:=c.at_ 2 _ rfl;have g3:=c.at_ 3 _ rfl;have g4:=c.at_ 4 _ rfl;have MJ:=lH (HN.out.kept (show Kept w1 W1 by rw[←hW1];exact ja _ _));have VX:=lH (KW.out.trans (show Kept w1 W1 by rw[←hW1];exact ja _ _));have y0:=UL.out.at_ 0 _ rfl;have y1:=UL.out.at_ 1 _ rfl;have y2:=UL.out.at_ 2 _ rfl;have y3:=UL.out.at_ 3 _ rfl;have y4:=UL.out.at_ 4 _ rfl;have x0:=UL.out.free 0;have x1:=UL.out.free 1;have x2:=UL.out.free 2;have x3:=UL.out.free 3;have x4:=UL.out.free 4;have P:=lH (jW (vs:=[.string z,.slice b1 n1 d1,.slice b2 n2 d2,.slice b3 n3 d3,.bool cd]) UL.out rfl);clear UL c;go_wp2_with fail
  try rw[hW1]
  clear hW1;go_wp2;obtain⟨WE,hWE⟩:∃W,W1.setCells (w.heap.size+1) 0 [.string z,.slice b1 n1 d1,.slice b2 n2 d2,.slice b3 n3 d3,.bool cd]=W:=⟨_,rfl⟩
  have hWE2:(((((W1.setCell ⟨(w.heap.size+1),0,none⟩ (.string z)).setCell ⟨(w.heap.size+1),1,none⟩ (.slice b1 n1 d1)).setCell ⟨(w.heap.size+1),2,none⟩ (.slice b2 n2 d2)).setCell ⟨(w.heap.size+1),3,none⟩ (.slice b3 n3 d3)).setCell ⟨(w.heap.size+1),4,none⟩ (.bool cd))=WE:=hWE;rw[hWE] at P;try rw[hWE2]
  clear hWE hWE2;obtain⟨PC,hsz,hbl,hkp⟩:=P.out;refine bodyPost_ret (by simp[results,Tryz.results117,go_sem,PC.at_ 0 _ rfl,PC.at_ 1 _ rfl,PC.at_ 2 _ rfl,PC.at_ 3 _ rfl,PC.at_ 4 _ rfl];try rfl) rfl ?_;exact⟨(fun n h=>by cases h;exact⟨_,rfl,(MJ.out.far hsz (fun b hb=>hbl b (by have:=Vm.out;omega))).less (by have:=Vm.out;omega)⟩),(fun h=>by cases h),hkp _ _ (by omega) VX.out⟩
theorem XE (a a8 a9 b1 b2 b3:Option Addr) (len cap m8 c8 m9 c9 n1 d1 n2 d2 n3 d3:Nat) (q:ByteArray) (cd:Bool) (l:List Pd) (w:World) (hr:jN w a len l) :
 Calls Tryz.prog 116 #[.agg #[.slice a8 m8 c8,.slice a len cap,.slice a9 m9 c9],.agg #[.string q,.slice b1 n1 d1,.slice b2 n2 d2,.slice b3 n3 d3,.bool cd]] w (Jv (jI q l []) w):=by
 have hl:=hr.1;have hm:=hr.2.1;unfold maxLen at hm;obtain⟨Z,hZ⟩:∃Z,(w.alloc (.cells #[.slice a8 m8 c8,.slice a len cap,.slice a9 m9 c9] 26)).alloc (.cells #[.string q,.slice b1 n1 d1,.slice b2 n2 d2,.slice b3 n3 d3,.bool cd] 71)=Z:=⟨_,rfl⟩
 have hkz:Kept w Z:=by rw[←hZ];exact jm _ _ _
 have HQ:=lH (show ∀W,Kept Z W→W.cell? ⟨w.heap.size+1,0,none⟩=some (.string q) from fun W k=>by
  have:=jd (w.alloc (.cells #[.slice a8 m8 c8,.slice a len cap,.slice a9 m9 c9] 26)) (.string q) [.slice b1 n1 d1,.slice b2 n2 d2,.slice b3 n3 d3,.bool cd] 71 W (by rw[hZ];exact k);rw[World.size_alloc] at this;exact this.at_ 0 _ rfl)
 have hst:Z.cell? ⟨w.heap.size,1,none⟩=some (.slice a len cap):=(jd w (.slice a8 m8 c8) [.slice a len cap,.slice a9 m9 c9] 26 Z (by rw[←hZ];exact ja _ _)).at_ 1 _ rfl;have HR:=lH (hr.kept hkz);have HL:=lH hl;have Ve:=lH hkz;by_cases h0:len=0
 · subst h0;have HE:=lH (show jI q l []=(0,[]) by rw[List.eq_nil_of_length_eq_zero hl];rfl);clear hr hl hkz;go_enter Tryz.func116,Tryz.ntmps116;go_wp2;try rw[hZ]
   refine wp_loop_rounds 1 ?_;rw[rounds_succ];go_wp2;go_ret;exact Jv.good HE.out (Vec.jR.nil _ _ _) (by first | exact Ve.out | (rw[hZ];exact Ve.out))
 · obtain⟨b,off,rfl⟩:=hr.form.resolve_left h0;clear hr hl hkz h0;go_enter Tryz.func116,Tryz.ntmps116;go_wp2;try rw[hZ]
   clear hZ hst;go_loopw [5,11] (fun s i wr=>∃k:Nat,k≤len∧i=.int .i64 k∧∃acc:Vec.V,Vec.jR 128 wr w.heap.size s acc∧jI q (l.drop k) acc=jI q l []∧Kept Z wr) (fun _ i _=>len-(intOf i).toNat)
   case atStart=>exact⟨0,Nat.zero_le _,rfl,[],Vec.jR.nil _ _ _,rfl,Kept.refl _⟩
   case round =>
    obtain⟨k,hk,rfl,acc,hv,hrest,hK⟩:=hrel;have HS:=lH hrest;have HV:=lH hv;have HK:=lH hK;by_cases hlt:k<len
    · obtain⟨n,a1,m1,c1,a2,m2,c2,a3,m3,c3,a4,m4,c4,hn,hd,hb,p0,p1,p2,p3,p4,p5,p6,p7,p8,p9,p10,hat⟩:=(HR.out.kept hK).at_ hlt;have HD:=lH hd;have Vu:=lH hat;have q0:=HQ.out _ hK;obtain⟨t,ht⟩:∃t,eqS n.node q=t:=⟨_,rfl⟩
      have ht':(n.node.toList==q.toList)=t:=ht;have HT:=lH ht;have hkk:(k:Int)<(len:Int):=by omega
      have z0:=HQ.out _ (hK.trans (ja wr (.cells #[.string n.name,.string n.owner,.int .i64 n.prio,.slice a1 m1 c1,.slice a2 m2 c2,.slice a3 m3 c3,.slice a4 m4 c4,.string n.key,.int .i64 n.most,.string n.node,.bool n.hold] 35)));clear hrest hK hat hd hn ht hv
      cases t with
      | false =>
       have HX:=lH (show jI q (l.drop (k+1)) acc=jI q l [] by rw[←HS.out,HD.out,jaN HT.out]);go_wp2;go_roundw
       case rel=>exact⟨k+1,by omega,by go_num,acc,HV.out.kept (ja _ _),HX.out,HK.out.trans (ja _ _)⟩
       case measure=>simp[intOf];omega
      | true =>
       obtain⟨c,m,hcm⟩:∃c m,Vec.jk Vec.jK acc n.need=(c,m):=⟨_,_,rfl⟩
       have Mg:=lH hcm;have VD:=lH (show w.heap.size≤wr.heap.size from(Ve.out.trans HK.out).size);have TR:=lH (fun W (kk:Kept wr W)=>jnf (HV.out.kept kk).reads (Vu.out.need.kept kk));rw[hcm] at TR;clear hcm;by_cases hc:c=0
       · subst hc;have HX:=lH (show jI q (l.drop (k+1)) m=jI q l [] by rw[←HS.out,HD.out,jfi HT.out Mg.out]);go_wp2_with fail
         refine(TR.out _ (ja _ _)).mono ?_;rintro e w1 ⟨x,rfl,r,kk⟩;have RX:=lH (r.base_le (show w.heap.size≤_ by rw[World.size_alloc];have:=VD.out;omega));have KW:=lH (HK.out.trans ((ja _ _).trans kk));clear r kk;go_wp2_with fail
         refine(jdA _ _).mono ?_;rintro e w2 ⟨rfl,rfl⟩;go_wp2;go_roundw
         case rel=>exact⟨k+1,by omega,by go_num,m,RX.out,HX.out,KW.out⟩
         case measure=>simp[intOf];omega
       · have HX:=lH (show jI q l []=(c,[]) by rw[←HS.out,HD.out,jfc HT.out Mg.out hc]);have HC:=lH hc;clear hc;go_wp2_with fail
         refine(TR.out _ (ja _ _)).mono ?_;rintro e w1 ⟨x,rfl,r,kk⟩;have KW:=lH (HK.out.trans ((ja _ _).trans kk));clear r kk;go_wp2_with fail
         refine(jb8 _ _ _ HC.out).mono ?_;rintro e w2 ⟨rfl,rfl⟩;go_wp2;exact⟨rfl,Jv.bad HX.out HC.out (Ve.out.trans KW.out)⟩
    · have HE:=lH (show jI q l []=(0,acc) by rw[←hrest,List.drop_of_length_le (by rw[HL.out];omega)];rfl);clear hrest hK hv;go_wp2;go_ret;exact Jv.good HE.out HV.out (Ve.out.trans HK.out)
theorem jmd {v v':Value} {l l':Vec.V} {w:World} (h:Vec.Reads w v l) (h':Vec.Reads w v' l'):Calls Tryz.prog 221 #[v,v'] w (Vec.YT (Vec.jk Vec.jX l l') w):=by
 obtain⟨a,cap,rfl,h1,h2,hr⟩:=h;obtain⟨a',cap',rfl,h1',h2',hr'⟩:=h';exact Vec.jlb a a' _ cap _ cap' l l' w hr hr' h1 h2 h1' h2'
theorem jbi (a a8 a9:Option Addr) (len cap m8 c8 m9 c9:Nat) (l:List Nod) (x:ByteArray) (w:World) (hr:jE w a len l) (hlow:∀n ∈ l,Jk n) (hf:jj l x=none) :
 Calls Tryz.prog 117 #[.agg #[.slice a len cap,.slice a8 m8 c8,.slice a9 m9 c9],.string x] w fun e w'=>e=.panicked [zL 3]∧Kept w w':=by
 refine(jb3 a a8 a9 len cap m8 c8 m9 c9 l x w hr hlow).mono ?_;rintro e w' ⟨-,h,k⟩;exact⟨h hf,k⟩
theorem Z5 (a a8 a9:Option Addr) (len cap m8 c8 m9 c9:Nat) (l:List Nod) (x:ByteArray) (n:Nod) (w:World) (hr:jE w a len l) (hlow:∀n ∈ l,Jk n) (hf:jj l x=some n) :
 Calls Tryz.prog 117 #[.agg #[.slice a len cap,.slice a8 m8 c8,.slice a9 m9 c9],.string x] w fun e w'=>∃b1 n1 d1 b2 n2 d2 b3 n3 d3,e=.returned (.agg #[.string n.name,.slice b1 n1 d1,.slice b2 n2 d2,.slice b3 n3 d3,.bool n.cordon])∧zp w' (.slice b1 n1 d1) (.slice b2 n2 d2) (.slice b3 n3 d3) n∧Kept w w':=by
 refine(jb3 a a8 a9 len cap m8 c8 m9 c9 l x w hr hlow).mono ?_;rintro e w' ⟨h,-,k⟩;obtain⟨v,rfl,b1,n1,d1,b2,n2,d2,b3,n3,d3,rfl,s0,s1,s2,s3,-⟩:=h n hf;exact⟨b1,n1,d1,b2,n2,d2,b3,n3,d3,rfl,⟨s0,s1,s2,s3⟩,k⟩
theorem Jv.ok {m:Vec.V} {w w':World} {e:Ending} {r:Int×Vec.V} (h:Jv r w e w') (hr:r=(0,m)):∃v,e=.returned v∧Vec.jR 128 w' w.heap.size v m∧Kept w w':=by
 subst hr;obtain⟨v,rfl,g⟩:=h.1 rfl;exact⟨v,rfl,g,h.2.2⟩
theorem Jv.not {m:Vec.V} {c:Int} {w w':World} {e:Ending} {r:Int×Vec.V} (h:Jv r w e w') (hr:r=(c,m)) (hc:c≠0):e=.panicked [zL c]∧Kept w w':=by
 subst hr;exact⟨h.2.1 hc,h.2.2⟩
theorem jfK (C:Addr×Addr) (r:Int×Vec.V) (w:World) (hr:r.1≠0→r.2=[])
 (hk:∀W,Kept w W→Calls Tryz.prog 115 #[.pointer (some C.1),.pointer (some C.2)] W (Jv r W)) :
 Calls Tryz.prog 114 #[.func (.func 115) #[] #[.pointer (some C.1),.pointer (some C.2)]] w (Vec.YT r w):=by
 have hmf:=hmfL (P:=Tryz.prog);have HK:=lH hk;have HR:=lH hr;clear hk hr;obtain⟨r1,r2⟩:=r;go_enter_defers Tryz.func114,Tryz.ntmps114
 go_wp2_with fail
 refine(HK.out _ (ja _ _)).mono ?_;rintro e1 w1 ⟨h0,h1,hb⟩;have k1:=hb.size;simp only[World.size_alloc] at k1;have c2:=(hb.cell (p:=⟨w.heap.size,0,none⟩) (by simp))
 have z2:=(hb.frozen (p:=⟨w.heap.size,0,none⟩) (by simp))
 have e2':w1.cell? ⟨w.heap.size,0,none⟩=some (.int .i64 0):=by rw[c2];go_simp
 have y2:w1.frozen? ⟨w.heap.size,0,none⟩=false:=by rw[z2];go_simp
 clear c2 z2;have KB:=lH (show Below w.heap.size w w1 from(ja w _).trans hb);by_cases hx:r1=0
 · subst hx;obtain⟨v,rfl,ho⟩:=h0 rfl;have HO:=lH ho;obtain⟨av,cv,rfl,_,_,_⟩:=ho.at_;have hsz:=World.size_alloc w (.cells #[.int .i64 0] 155);clear h0 h1 hb ho;go_wp2_with fail
   refine leaves_cons (f:=144) (args:=#[.pointer (some ⟨w.heap.size,0,none⟩)]) (by simp) (by simp[go_sem]) ?_;refine(Vec.Y1 ⟨w.heap.size,0,none⟩ _).mono ?_;rintro e u' w'' ⟨rfl,rfl,rfl⟩;simp[Leaves,settle,results,Tryz.results114,go_sem,e2'];exact⟨_,rfl,(HO.out.setCell_below (a:=⟨w.heap.size,0,none⟩) (by simp) _).base_le (by simp),KB.out.setCell (p:=⟨w.heap.size,0,none⟩) (Nat.le_refl _) _⟩
 · obtain rfl:=h1 hx;obtain rfl:=HR.out hx;clear h0 h1 hb;go_wp2_with fail
   refine leaves_cons (f:=144) (args:=#[.pointer (some ⟨w.heap.size,0,none⟩)]) (by simp) (by simp[go_sem]) ?_;refine(Vec.Zr w.heap.size w.heap.size r1 0 _ e2' y2 (by omega)).mono ?_;rintro e u' w'' ⟨rfl,rfl,q2,q3⟩;simp[Leaves,settle,results,Tryz.results114,go_sem,q2];exact⟨_,rfl,Vec.jR.nil _ _ _,KB.out.trans q3⟩
theorem jf1 (C:Addr×Addr) (r:Int×Vec.V) (w:World) (hr:r.1≠0→r.2=[])
 (hk:∀W,Kept w W→Calls Tryz.prog 220 #[.pointer (some C.1),.pointer (some C.2)] W (Jv r W)) :
 Calls Tryz.prog 114 #[.func (.func 220) #[] #[.pointer (some C.1),.pointer (some C.2)]] w (Vec.YT r w):=by
 have hmf:=hmfL (P:=Tryz.prog);have HK:=lH hk;have HR:=lH hr;clear hk hr;obtain⟨r1,r2⟩:=r;go_enter_defers Tryz.func114,Tryz.ntmps114
 go_wp2_with fail
 refine(HK.out _ (ja _ _)).mono ?_;rintro e1 w1 ⟨h0,h1,hb⟩;have k1:=hb.size;simp only[World.size_alloc] at k1;have c2:=(hb.cell (p:=⟨w.heap.size,0,none⟩) (by simp))
 have z2:=(hb.frozen (p:=⟨w.heap.size,0,none⟩) (by simp))
 have e2':w1.cell? ⟨w.heap.size,0,none⟩=some (.int .i64 0):=by rw[c2];go_simp
 have y2:w1.frozen? ⟨w.heap.size,0,none⟩=false:=by rw[z2];go_simp
 clear c2 z2;have KB:=lH (show Below w.heap.size w w1 from(ja w _).trans hb);by_cases hx:r1=0
 · subst hx;obtain⟨v,rfl,ho⟩:=h0 rfl;have HO:=lH ho;obtain⟨av,cv,rfl,_,_,_⟩:=ho.at_;have hsz:=World.size_alloc w (.cells #[.int .i64 0] 155);clear h0 h1 hb ho;go_wp2_with fail
   refine leaves_cons (f:=144) (args:=#[.pointer (some ⟨w.heap.size,0,none⟩)]) (by simp) (by simp[go_sem]) ?_;refine(Vec.Y1 ⟨w.heap.size,0,none⟩ _).mono ?_;rintro e u' w'' ⟨rfl,rfl,rfl⟩;simp[Leaves,settle,results,Tryz.results114,go_sem,e2'];exact⟨_,rfl,(HO.out.setCell_below (a:=⟨w.heap.size,0,none⟩) (by simp) _).base_le (by simp),KB.out.setCell (p:=⟨w.heap.size,0,none⟩) (Nat.le_refl _) _⟩
 · obtain rfl:=h1 hx;obtain rfl:=HR.out hx;clear h0 h1 hb;go_wp2_with fail
   refine leaves_cons (f:=144) (args:=#[.pointer (some ⟨w.heap.size,0,none⟩)]) (by simp) (by simp[go_sem]) ?_;refine(Vec.Zr w.heap.size w.heap.size r1 0 _ e2' y2 (by omega)).mono ?_;rintro e u' w'' ⟨rfl,rfl,q2,q3⟩;simp[Leaves,settle,results,Tryz.results114,go_sem,q2];exact⟨_,rfl,Vec.jR.nil _ _ _,KB.out.trans q3⟩
def Ya (nl:List Nod) (pl:List Pd) (x:ByteArray):Int×Vec.V:=match jj nl x with | none=>(3,[]) | some n=>jI n.name pl []
def ZA (nl:List Nod) (pl:List Pd) (x:ByteArray):Int×Vec.V:=match jj nl x with | none=>(3,[]) | some n=>if (jI n.name pl []).1=0 then Vec.jk Vec.jX n.cap (jI n.name pl []).2 else ((jI n.name pl []).1,[])
theorem jhz {nl:List Nod} {pl:List Pd} {x:ByteArray} (h:jj nl x=none):Ya nl pl x=(3,[]):=by unfold Ya;rw[h]
theorem jcj {nl:List Nod} {pl:List Pd} {x:ByteArray} {n:Nod} (h:jj nl x=some n):Ya nl pl x=jI n.name pl []:=by unfold Ya;rw[h]
theorem jhX {nl:List Nod} {pl:List Pd} {x:ByteArray} (h:jj nl x=none):ZA nl pl x=(3,[]):=by unfold ZA;rw[h]
theorem jjh {nl:List Nod} {pl:List Pd} {x:ByteArray} {n:Nod} {c:Int} {m:Vec.V} (h:jj nl x=some n) (g:jI n.name pl []=(c,m)) (hc:c≠0):ZA nl pl x=(c,[]):=by unfold ZA;rw[h];show (if (jI n.name pl []).1=0 then _ else ((jI n.name pl []).1,[]))=_;rw[g,if_neg hc]
theorem jkN {nl:List Nod} {pl:List Pd} {x:ByteArray} {n:Nod} {m:Vec.V} (h:jj nl x=some n) (g:jI n.name pl []=(0,m)):ZA nl pl x=Vec.jk Vec.jX n.cap m:=by unfold ZA;rw[h];show (if (jI n.name pl []).1=0 then Vec.jk Vec.jX n.cap (jI n.name pl []).2 else _)=_;rw[g,if_pos rfl]
theorem jhR {nl:List Nod} {pl:List Pd} {x:ByteArray}:(Ya nl pl x).1≠0→(Ya nl pl x).2=[]:=by
 unfold Ya;split
 · exact fun _=>rfl
 · exact jal
theorem jhk {nl:List Nod} {pl:List Pd} {x:ByteArray}:(ZA nl pl x).1≠0→(ZA nl pl x).2=[]:=by
 unfold ZA;split
 · exact fun _=>rfl
 · split
   · exact Vec.X7 _ _
   · exact fun _=>rfl
theorem jhd (a b d:Option Addr) (len cap m c n e:Nat) (nl:List Nod) (pl:List Pd) (p q:Nat) (x:ByteArray) (w:World) (h0:w.cell? ⟨p,0,none⟩=some (.slice a len cap)) (h1:w.cell? ⟨p,1,none⟩=some (.slice b m c)) (h2:w.cell? ⟨p,2,none⟩=some (.slice d n e)) (hq:w.cell? ⟨q,0,none⟩=some (.string x)) (hn:jE w a len nl) (hp:jN w b m pl) (hlow:∀n ∈ nl,Jk n) :
 Calls Tryz.prog 115 #[.pointer (some ⟨p,0,none⟩),.pointer (some ⟨q,0,none⟩)] w (Jv (Ya nl pl x) w):=by
 have HS:=lH (show ∀W,Kept w W→W.cell? ⟨p,0,none⟩=some (.slice a len cap)∧W.cell? ⟨p,1,none⟩=some (.slice b m c)∧W.cell? ⟨p,2,none⟩=some (.slice d n e)∧W.cell? ⟨q,0,none⟩=some (.string x) from fun W k=>⟨cell_later k h0,cell_later k h1,cell_later k h2,cell_later k hq⟩);have HN:=lH hn;have HP:=lH hp;have VF:=lH hlow;clear h0 h1 h2 hq hn hp hlow
 cases hf:jj nl x with
 | none =>
  have HE:=lH (jhz (pl:=pl) hf);have HF:=lH hf;clear hf;go_enter Tryz.func115,Tryz.ntmps115;go_wp2;refine wp_region_held_drew (S:=fun W=>W.cell? ⟨p,0,none⟩=some (.slice a len cap)∧W.cell? ⟨p,1,none⟩=some (.slice b m c)∧W.cell? ⟨p,2,none⟩=some (.slice d n e)∧W.cell? ⟨q,0,none⟩=some (.string x)) (by kernel_rfl) (HS.out _ (Kept.drew _)) (fun hHeld=>?_);refine tkI 0 ?_;refine tkI 1 ?_;refine tkI 2 ?_;try simp only[nP]
  refine rd1 3 fun K9 Ky=>?_;go_simp;refine(jbi a b d len cap m c n e nl x _ (HN.out.kept (Kept.drew _)) VF.out HF.out).mono ?_;rintro e1 w1 ⟨rfl,kk⟩;exact⟨rfl,Jv.bad HE.out (by decide) ((Kept.drew _).trans kk)⟩
 | some n9 =>
  obtain⟨c9,m9,hu⟩:∃c m,jI n9.name pl []=(c,m):=⟨_,_,rfl⟩
  have HU:=lH hu;have HF:=lH hf;clear hf hu;by_cases hc:c9=0
  · subst hc;have HE:=lH ((jcj (pl:=pl) HF.out).trans HU.out);go_enter Tryz.func115,Tryz.ntmps115;go_wp2;refine wp_region_held_drew (S:=fun W=>W.cell? ⟨p,0,none⟩=some (.slice a len cap)∧W.cell? ⟨p,1,none⟩=some (.slice b m c)∧W.cell? ⟨p,2,none⟩=some (.slice d n e)∧W.cell? ⟨q,0,none⟩=some (.string x)) (by kernel_rfl) (HS.out _ (Kept.drew _)) (fun hHeld=>?_);refine tkI 0 ?_;refine tkI 1 ?_;refine tkI 2 ?_;try simp only[nP]
    refine rd1 3 fun K9 Ky=>?_;go_simp;refine(Z5 a b d len cap m c n e nl x n9 _ (HN.out.kept (Kept.drew _)) VF.out HF.out).mono ?_;rintro e1 w1 ⟨b1,n1,d1,b2,n2,d2,b3,n3,d3,rfl,hat,kk⟩;have J1:=lH ((Kept.drew _).trans kk);clear kk hat;refine Ky.out _ _ (HS.out _ J1.out) (fun _=>?_);clear Ky K9;try simp only[nP]
    refine rd1 4 fun K9 Ky=>?_;go_simp;refine((XE b a d b1 b2 b3 m c len cap n e n1 d1 n2 d2 n3 d3 n9.name n9.cordon pl _ (HP.out.kept J1.out)).mono fun _ _ h=>h.ok HU.out).mono ?_;rintro e2 w2 ⟨v,rfl,ho,kk⟩;have J2:=lH (J1.out.trans kk);have HO:=lH (ho.base_le J1.out.size);clear kk ho;refine Ky.out _ _ (HS.out _ J2.out) (fun _=>?_);clear Ky K9;try simp only[nP]
    refine tkI 5 ?_;try simp only[nP]
    refine wpAnyH_done (by kernel_rfl) ?_ _;go_wp2;go_ret;exact Jv.good HE.out HO.out J2.out
  · have HE:=lH (show Ya nl pl x=(c9,m9) from(jcj (pl:=pl) HF.out).trans HU.out);have HC:=lH hc;clear hc;go_enter Tryz.func115,Tryz.ntmps115;go_wp2;refine wp_region_held_drew (S:=fun W=>W.cell? ⟨p,0,none⟩=some (.slice a len cap)∧W.cell? ⟨p,1,none⟩=some (.slice b m c)∧W.cell? ⟨p,2,none⟩=some (.slice d n e)∧W.cell? ⟨q,0,none⟩=some (.string x)) (by kernel_rfl) (HS.out _ (Kept.drew _)) (fun hHeld=>?_);refine tkI 0 ?_;refine tkI 1 ?_;refine tkI 2 ?_;try simp only[nP]
    refine rd1 3 fun K9 Ky=>?_;go_simp;refine(Z5 a b d len cap m c n e nl x n9 _ (HN.out.kept (Kept.drew _)) VF.out HF.out).mono ?_;rintro e1 w1 ⟨b1,n1,d1,b2,n2,d2,b3,n3,d3,rfl,hat,kk⟩;have J1:=lH ((Kept.drew _).trans kk);clear kk hat;refine Ky.out _ _ (HS.out _ J1.out) (fun _=>?_);clear Ky K9;try simp only[nP]
    refine rd1 4 fun K9 Ky=>?_;go_simp;refine((XE b a d b1 b2 b3 m c len cap n e n1 d1 n2 d2 n3 d3 n9.name n9.cordon pl _ (HP.out.kept J1.out)).mono fun _ _ h=>h.not HU.out HC.out).mono ?_;rintro e2 w2 ⟨rfl,kk⟩;exact⟨rfl,Jv.bad HE.out HC.out (J1.out.trans kk)⟩
theorem jhx (a b d:Option Addr) (len cap m c n e:Nat) (nl:List Nod) (pl:List Pd) (p q:Nat) (x:ByteArray) (w:World) (h0:w.cell? ⟨p,0,none⟩=some (.slice a len cap)) (h1:w.cell? ⟨p,1,none⟩=some (.slice b m c)) (h2:w.cell? ⟨p,2,none⟩=some (.slice d n e)) (hq:w.cell? ⟨q,0,none⟩=some (.string x)) (hn:jE w a len nl) (hp:jN w b m pl) (hlow:∀n ∈ nl,Jk n) :
 Calls Tryz.prog 220 #[.pointer (some ⟨p,0,none⟩),.pointer (some ⟨q,0,none⟩)] w (Jv (ZA nl pl x) w):=by
 have HS:=lH (show ∀W,Kept w W→W.cell? ⟨p,0,none⟩=some (.slice a len cap)∧W.cell? ⟨p,1,none⟩=some (.slice b m c)∧W.cell? ⟨p,2,none⟩=some (.slice d n e) from fun W k=>⟨cell_later k h0,cell_later k h1,cell_later k h2⟩);have HN:=lH hn;have HP:=lH hp;have VF:=lH hlow;clear hn hp hlow
 cases hf:jj nl x with
 | none =>
  have HE:=lH (jhX (pl:=pl) hf);have HF:=lH hf;clear hf;go_enter Tryz.func220,Tryz.ntmps220;go_wp2_with fail
  refine(jbi a b d len cap m c n e nl x _ HN.out VF.out HF.out).mono ?_;rintro e1 w1 ⟨rfl,kk⟩;go_wp2;exact⟨rfl,Jv.bad HE.out (by decide) kk⟩
 | some n9 =>
  obtain⟨c9,m9,hu⟩:∃c m,jI n9.name pl []=(c,m):=⟨_,_,rfl⟩
  have HU:=lH hu;have HF:=lH hf;clear hf hu;by_cases hc:c9=0
  · subst hc;obtain⟨c8,m8,hs⟩:∃c m,Vec.jk Vec.jX n9.cap m9=(c,m):=⟨_,_,rfl⟩
    have HM:=lH hs;have HE:=lH (show ZA nl pl x=(c8,m8) from(jkN HF.out HU.out).trans hs);clear hs;by_cases hc:c8=0
    · subst hc;go_enter Tryz.func220,Tryz.ntmps220;go_wp2_with fail
      refine(Z5 a b d len cap m c n e nl x n9 _ HN.out VF.out HF.out).mono ?_;rintro e1 w1 ⟨b1,n1,d1,b2,n2,d2,b3,n3,d3,rfl,hat,kk⟩;have HA:=lH hat;obtain⟨z0,hz0⟩:∃z,n9.name=z:=⟨_,rfl⟩
      obtain⟨z4,hz4⟩:∃z,n9.cordon=z:=⟨_,rfl⟩
      rw[hz0,hz4];rw[hz0] at HU;obtain⟨W1,hW1⟩:∃W,w1.alloc (.cells #[.string z0,.slice b1 n1 d1,.slice b2 n2 d2,.slice b3 n3 d3,.bool z4] 71)=W:=⟨_,rfl⟩
      have hk1:Kept w1 W1:=by rw[←hW1];exact ja _ _
      have HB:=lH (fun W (k:Kept W1 W)=>jd w1 (.string z0) [.slice b1 n1 d1,.slice b2 n2 d2,.slice b3 n3 d3,.bool z4] 71 W (by rw[hW1];exact k));have J0:=lH (kk.trans hk1);have Nl:=lH (fun W (k:Kept W1 W)=>HA.out.kept (hk1.trans k));clear kk hat hk1 h0 h1 h2;go_wp2_with fail
      try rw[hW1]
      clear hW1;have HT:=lH (show ∀W,Kept W1 W→W.cell? ⟨p,0,none⟩=some (.slice a len cap)∧W.cell? ⟨p,1,none⟩=some (.slice b m c)∧W.cell? ⟨p,2,none⟩=some (.slice d n e)∧W.cell? ⟨w1.heap.size,0,none⟩=some (.string z0)∧W.cell? ⟨w1.heap.size,1,none⟩=some (.slice b1 n1 d1)∧W.cell? ⟨w1.heap.size,2,none⟩=some (.slice b2 n2 d2)∧W.cell? ⟨w1.heap.size,3,none⟩=some (.slice b3 n3 d3)∧W.cell? ⟨w1.heap.size,4,none⟩=some (.bool z4) from fun W k=>by
       obtain⟨o0,o1,o2⟩:=HS.out W (J0.out.trans k);have c:=HB.out W k;exact⟨o0,o1,o2,c.at_ 0 _ rfl,c.at_ 1 _ rfl,c.at_ 2 _ rfl,c.at_ 3 _ rfl,c.at_ 4 _ rfl⟩)
      refine wp_region_held_drew (S:=fun W=>W.cell? ⟨p,0,none⟩=some (.slice a len cap)∧W.cell? ⟨p,1,none⟩=some (.slice b m c)∧W.cell? ⟨p,2,none⟩=some (.slice d n e)∧W.cell? ⟨w1.heap.size,0,none⟩=some (.string z0)∧W.cell? ⟨w1.heap.size,1,none⟩=some (.slice b1 n1 d1)∧W.cell? ⟨w1.heap.size,2,none⟩=some (.slice b2 n2 d2)∧W.cell? ⟨w1.heap.size,3,none⟩=some (.slice b3 n3 d3)∧W.cell? ⟨w1.heap.size,4,none⟩=some (.bool z4)) (by kernel_rfl) (HT.out _ (Kept.drew _)) (fun hHeld=>?_);refine tkI 0 ?_;refine tkI 1 ?_;refine tkI 2 ?_;refine tkI 3 ?_;try simp only[nP]
      refine rd1 4 fun K9 Ky=>?_;go_simp;refine((XE b a d b1 b2 b3 m c len cap n e n1 d1 n2 d2 n3 d3 z0 z4 pl _ (HP.out.kept (J0.out.trans (Kept.drew _)))).mono fun _ _ h=>h.ok HU.out).mono ?_;rintro e2 w2 ⟨v,rfl,ho,kk⟩;have J2:=lH ((Kept.drew _).trans kk);have HO:=lH ho;clear kk ho;refine Ky.out _ _ (HT.out _ J2.out) (fun _=>?_);clear Ky K9;try simp only[nP]
      refine rd1 5 fun K9 Ky=>?_;go_simp;have Vw:=jmd (Nl.out _ J2.out).cap HO.out.reads;rw[HM.out] at Vw;refine Vw.mono ?_;rintro e3 w3 ⟨x3,rfl,ho3,kk⟩;have J3:=lH (J2.out.trans kk);have VH:=lH (ho3.base_le (show w.heap.size≤_ from(J0.out.trans J2.out).size));clear kk ho3;refine Ky.out _ _ (HT.out _ J3.out) (fun _=>?_);clear Ky K9;try simp only[nP]
      refine tkI 6 ?_;refine tkI 7 ?_;try simp only[nP]
      refine rd1 8 fun K9 Ky=>?_;go_simp;refine(jdA _ _).mono ?_;rintro e4 w4 ⟨rfl,rfl⟩;refine Ky.out _ _ (HT.out _ J3.out) (fun _=>?_);clear Ky K9;try simp only[nP]
      refine tkI 9 ?_;try simp only[nP]
      refine wpAnyH_done (by kernel_rfl) ?_ _;go_wp2;go_ret;exact Jv.good HE.out VH.out (J0.out.trans J3.out)
    · have HC:=lH hc;clear hc;go_enter Tryz.func220,Tryz.ntmps220;go_wp2_with fail
      refine(Z5 a b d len cap m c n e nl x n9 _ HN.out VF.out HF.out).mono ?_;rintro e1 w1 ⟨b1,n1,d1,b2,n2,d2,b3,n3,d3,rfl,hat,kk⟩;have HA:=lH hat;obtain⟨z0,hz0⟩:∃z,n9.name=z:=⟨_,rfl⟩
      obtain⟨z4,hz4⟩:∃z,n9.cordon=z:=⟨_,rfl⟩
      rw[hz0,hz4];rw[hz0] at HU;obtain⟨W1,hW1⟩:∃W,w1.alloc (.cells #[.string z0,.slice b1 n1 d1,.slice b2 n2 d2,.slice b3 n3 d3,.bool z4] 71)=W:=⟨_,rfl⟩
      have hk1:Kept w1 W1:=by rw[←hW1];exact ja _ _
      have HB:=lH (fun W (k:Kept W1 W)=>jd w1 (.string z0) [.slice b1 n1 d1,.slice b2 n2 d2,.slice b3 n3 d3,.bool z4] 71 W (by rw[hW1];exact k));have J0:=lH (kk.trans hk1);have Nl:=lH (fun W (k:Kept W1 W)=>HA.out.kept (hk1.trans k));clear kk hat hk1 h0 h1 h2;go_wp2_with fail
      try rw[hW1]
      clear hW1;have HT:=lH (show ∀W,Kept W1 W→W.cell? ⟨p,0,none⟩=some (.slice a len cap)∧W.cell? ⟨p,1,none⟩=some (.slice b m c)∧W.cell? ⟨p,2,none⟩=some (.slice d n e)∧W.cell? ⟨w1.heap.size,0,none⟩=some (.string z0)∧W.cell? ⟨w1.heap.size,1,none⟩=some (.slice b1 n1 d1)∧W.cell? ⟨w1.heap.size,2,none⟩=some (.slice b2 n2 d2)∧W.cell? ⟨w1.heap.size,3,none⟩=some (.slice b3 n3 d3)∧W.cell? ⟨w1.heap.size,4,none⟩=some (.bool z4) from fun W k=>by
       obtain⟨o0,o1,o2⟩:=HS.out W (J0.out.trans k);have c:=HB.out W k;exact⟨o0,o1,o2,c.at_ 0 _ rfl,c.at_ 1 _ rfl,c.at_ 2 _ rfl,c.at_ 3 _ rfl,c.at_ 4 _ rfl⟩)
      refine wp_region_held_drew (S:=fun W=>W.cell? ⟨p,0,none⟩=some (.slice a len cap)∧W.cell? ⟨p,1,none⟩=some (.slice b m c)∧W.cell? ⟨p,2,none⟩=some (.slice d n e)∧W.cell? ⟨w1.heap.size,0,none⟩=some (.string z0)∧W.cell? ⟨w1.heap.size,1,none⟩=some (.slice b1 n1 d1)∧W.cell? ⟨w1.heap.size,2,none⟩=some (.slice b2 n2 d2)∧W.cell? ⟨w1.heap.size,3,none⟩=some (.slice b3 n3 d3)∧W.cell? ⟨w1.heap.size,4,none⟩=some (.bool z4)) (by kernel_rfl) (HT.out _ (Kept.drew _)) (fun hHeld=>?_);refine tkI 0 ?_;refine tkI 1 ?_;refine tkI 2 ?_;refine tkI 3 ?_;try simp only[nP]
      refine rd1 4 fun K9 Ky=>?_;go_simp;refine((XE b a d b1 b2 b3 m c len cap n e n1 d1 n2 d2 n3 d3 z0 z4 pl _ (HP.out.kept (J0.out.trans (Kept.drew _)))).mono fun _ _ h=>h.ok HU.out).mono ?_;rintro e2 w2 ⟨v,rfl,ho,kk⟩;have J2:=lH ((Kept.drew _).trans kk);have HO:=lH ho;clear kk ho;refine Ky.out _ _ (HT.out _ J2.out) (fun _=>?_);clear Ky K9;try simp only[nP]
      refine rd1 5 fun K9 Ky=>?_;go_simp;have Vw:=jmd (Nl.out _ J2.out).cap HO.out.reads;rw[HM.out] at Vw;refine Vw.mono ?_;rintro e3 w3 ⟨x3,rfl,ho3,kk⟩;have J3:=lH (J2.out.trans kk);have VH:=lH (ho3.base_le (show w.heap.size≤_ from(J0.out.trans J2.out).size));clear kk ho3;refine Ky.out _ _ (HT.out _ J3.out) (fun _=>?_);clear Ky K9;try simp only[nP]
      refine tkI 6 ?_;refine tkI 7 ?_;try simp only[nP]
      refine rd1 8 fun K9 Ky=>?_;go_simp;refine(jb8 _ _ _ HC.out).mono ?_;rintro e4 w4 ⟨rfl,rfl⟩;exact⟨rfl,Jv.bad HE.out HC.out (J0.out.trans J3.out)⟩
  · have HE:=lH (jjh (pl:=pl) HF.out HU.out hc);have HC:=lH hc;clear hc;go_enter Tryz.func220,Tryz.ntmps220;go_wp2_with fail
    refine(Z5 a b d len cap m c n e nl x n9 _ HN.out VF.out HF.out).mono ?_;rintro e1 w1 ⟨b1,n1,d1,b2,n2,d2,b3,n3,d3,rfl,hat,kk⟩;have HA:=lH hat;obtain⟨z0,hz0⟩:∃z,n9.name=z:=⟨_,rfl⟩
    obtain⟨z4,hz4⟩:∃z,n9.cordon=z:=⟨_,rfl⟩
    rw[hz0,hz4];rw[hz0] at HU;obtain⟨W1,hW1⟩:∃W,w1.alloc (.cells #[.string z0,.slice b1 n1 d1,.slice b2 n2 d2,.slice b3 n3 d3,.bool z4] 71)=W:=⟨_,rfl⟩
    have hk1:Kept w1 W1:=by rw[←hW1];exact ja _ _
    have HB:=lH (fun W (k:Kept W1 W)=>jd w1 (.string z0) [.slice b1 n1 d1,.slice b2 n2 d2,.slice b3 n3 d3,.bool z4] 71 W (by rw[hW1];exact k));have J0:=lH (kk.trans hk1);have Nl:=lH (fun W (k:Kept W1 W)=>HA.out.kept (hk1.trans k));clear kk hat hk1 h0 h1 h2;go_wp2_with fail
    try rw[hW1]
    clear hW1;have HT:=lH (show ∀W,Kept W1 W→W.cell? ⟨p,0,none⟩=some (.slice a len cap)∧W.cell? ⟨p,1,none⟩=some (.slice b m c)∧W.cell? ⟨p,2,none⟩=some (.slice d n e)∧W.cell? ⟨w1.heap.size,0,none⟩=some (.string z0)∧W.cell? ⟨w1.heap.size,1,none⟩=some (.slice b1 n1 d1)∧W.cell? ⟨w1.heap.size,2,none⟩=some (.slice b2 n2 d2)∧W.cell? ⟨w1.heap.size,3,none⟩=some (.slice b3 n3 d3)∧W.cell? ⟨w1.heap.size,4,none⟩=some (.bool z4) from fun W k=>by
     obtain⟨o0,o1,o2⟩:=HS.out W (J0.out.trans k);have c:=HB.out W k;exact⟨o0,o1,o2,c.at_ 0 _ rfl,c.at_ 1 _ rfl,c.at_ 2 _ rfl,c.at_ 3 _ rfl,c.at_ 4 _ rfl⟩)
    refine wp_region_held_drew (S:=fun W=>W.cell? ⟨p,0,none⟩=some (.slice a len cap)∧W.cell? ⟨p,1,none⟩=some (.slice b m c)∧W.cell? ⟨p,2,none⟩=some (.slice d n e)∧W.cell? ⟨w1.heap.size,0,none⟩=some (.string z0)∧W.cell? ⟨w1.heap.size,1,none⟩=some (.slice b1 n1 d1)∧W.cell? ⟨w1.heap.size,2,none⟩=some (.slice b2 n2 d2)∧W.cell? ⟨w1.heap.size,3,none⟩=some (.slice b3 n3 d3)∧W.cell? ⟨w1.heap.size,4,none⟩=some (.bool z4)) (by kernel_rfl) (HT.out _ (Kept.drew _)) (fun hHeld=>?_);refine tkI 0 ?_;refine tkI 1 ?_;refine tkI 2 ?_;refine tkI 3 ?_;try simp only[nP]
    refine rd1 4 fun K9 Ky=>?_;go_simp;refine((XE b a d b1 b2 b3 m c len cap n e n1 d1 n2 d2 n3 d3 z0 z4 pl _ (HP.out.kept (J0.out.trans (Kept.drew _)))).mono fun _ _ h=>h.not HU.out HC.out).mono ?_;rintro e2 w2 ⟨rfl,kk⟩;exact⟨rfl,Jv.bad HE.out HC.out (J0.out.trans ((Kept.drew _).trans kk))⟩
theorem jjF (a b d:Option Addr) (len cap m c n e:Nat) (nl:List Nod) (pl:List Pd) (x:ByteArray) (w:World) (hn:jE w a len nl) (hp:jN w b m pl) (hlow:∀n ∈ nl,Jk n) :
 Calls Tryz.prog 84 #[.agg #[.slice a len cap,.slice b m c,.slice d n e],.string x] w (Vec.YT (Ya nl pl x) w):=by
 have hmf:=hmfL (P:=Tryz.prog);obtain⟨Z,hZ⟩:∃Z,(w.alloc (.cells #[.slice a len cap,.slice b m c,.slice d n e] 26)).alloc (.cells #[.string x] 9)=Z:=⟨_,rfl⟩
 have hkz:Kept w Z:=by rw[←hZ];exact jm _ _ _
 have hC:∀W,Kept Z W→Calls Tryz.prog 115 #[.pointer (some ⟨w.heap.size,0,none⟩),.pointer (some ⟨w.heap.size+1,0,none⟩)] W (Jv (Ya nl pl x) W):=by
  intro W k;have cc:=jd w (.slice a len cap) [.slice b m c,.slice d n e] 26 W (by have:=(ja (w.alloc (.cells #[.slice a len cap,.slice b m c,.slice d n e] 26)) (.cells #[.string x] 9));rw[hZ] at this;exact this.trans k);have dd:=jd (w.alloc (.cells #[.slice a len cap,.slice b m c,.slice d n e] 26)) (.string x) [] 9 W (by rw[hZ];exact k);rw[World.size_alloc] at dd;exact jhd a b d len cap m c n e nl pl w.heap.size (w.heap.size+1) x W (cc.at_ 0 _ rfl) (cc.at_ 1 _ rfl) (cc.at_ 2 _ rfl) (dd.at_ 0 _ rfl) (hn.kept (hkz.trans k)) (hp.kept (hkz.trans k)) hlow
 have HC:=lH hC;have Ve:=lH hkz;clear hC hn hkz hp hlow;go_enter Tryz.func84,Tryz.ntmps84;go_wp2_with fail
 try rw[hZ]
 refine(jfK (⟨w.heap.size,0,none⟩,⟨w.heap.size+1,0,none⟩) (Ya nl pl x) _ jhR HC.out).mono ?_;rintro e1 w1 ⟨v,rfl,ho,k⟩;have HO:=lH ho;have HK:=lH k;clear ho k;go_wp2;go_ret2
 exact⟨v,rfl,HO.out.base_le Ve.out.size,Ve.out.trans HK.out⟩
theorem jjE (a b d:Option Addr) (len cap m c n e:Nat) (nl:List Nod) (pl:List Pd) (x:ByteArray) (w:World) (hn:jE w a len nl) (hp:jN w b m pl) (hlow:∀n ∈ nl,Jk n) :
 Calls Tryz.prog 213 #[.agg #[.slice a len cap,.slice b m c,.slice d n e],.string x] w (Vec.YT (ZA nl pl x) w):=by
 have hmf:=hmfL (P:=Tryz.prog);obtain⟨Z,hZ⟩:∃Z,(w.alloc (.cells #[.slice a len cap,.slice b m c,.slice d n e] 26)).alloc (.cells #[.string x] 9)=Z:=⟨_,rfl⟩
 have hkz:Kept w Z:=by rw[←hZ];exact jm _ _ _
 have hC:∀W,Kept Z W→Calls Tryz.prog 220 #[.pointer (some ⟨w.heap.size,0,none⟩),.pointer (some ⟨w.heap.size+1,0,none⟩)] W (Jv (ZA nl pl x) W):=by
  intro W k;have cc:=jd w (.slice a len cap) [.slice b m c,.slice d n e] 26 W (by have:=(ja (w.alloc (.cells #[.slice a len cap,.slice b m c,.slice d n e] 26)) (.cells #[.string x] 9));rw[hZ] at this;exact this.trans k);have dd:=jd (w.alloc (.cells #[.slice a len cap,.slice b m c,.slice d n e] 26)) (.string x) [] 9 W (by rw[hZ];exact k);rw[World.size_alloc] at dd;exact jhx a b d len cap m c n e nl pl w.heap.size (w.heap.size+1) x W (cc.at_ 0 _ rfl) (cc.at_ 1 _ rfl) (cc.at_ 2 _ rfl) (dd.at_ 0 _ rfl) (hn.kept (hkz.trans k)) (hp.kept (hkz.trans k)) hlow
 have HC:=lH hC;have Ve:=lH hkz;clear hC hn hkz hp hlow;go_enter Tryz.func213,Tryz.ntmps213;go_wp2_with fail
 try rw[hZ]
 refine(jf1 (⟨w.heap.size,0,none⟩,⟨w.heap.size+1,0,none⟩) (ZA nl pl x) _ jhk HC.out).mono ?_;rintro e1 w1 ⟨v,rfl,ho,k⟩;have HO:=lH ho;have HK:=lH k;clear ho k;go_wp2;go_ret2
 exact⟨v,rfl,HO.out.base_le Ve.out.size,Ve.out.trans HK.out⟩
theorem Zg (n:Pd) (v1 v2 v3 v4:Value) (w:World) (h:js w v1 v2 v3 v4 n) (hl:Ju n) :
 Calls Tryz.prog 104 #[jr n v1 v2 v3 v4] w fun e w'=>∃v,e=.returned v∧ZV w.heap.size w' v n∧Kept w w':=by
 have HH:=lH h;have E1:=lH (show ∀W,Kept w W→Calls Tryz.prog 138 #[v1] W fun e w'=>∃a' m' c',e=.returned (.slice a' m' c')∧Vec.Reads w' (.slice a' m' c') n.need∧(∀b off sp,a'=some ⟨b,off,sp⟩→W.heap.size≤b)∧Kept W w' from fun W k=>by
  obtain⟨x,y,rfl,p,q,r⟩:=h.need;exact qS x _ y n.need W (r.kept k) p q hl.need)
 have E2:=lH (show ∀W,Kept w W→Calls Tryz.prog 139 #[v2] W fun e w'=>∃a' m' c',e=.returned (.slice a' m' c')∧Reads jF w' (.slice a' m' c') n.labels∧(∀b off sp,a'=some ⟨b,off,sp⟩→W.heap.size≤b)∧Kept W w' from fun W k=>by
  obtain⟨x,y,rfl,p,q,r⟩:=h.labels;exact jac x _ y n.labels W (r.kept k) p q hl.labels)
 have E3:=lH (show ∀W,Kept w W→Calls Tryz.prog 140 #[v3] W fun e w'=>∃a' m' c',e=.returned (.slice a' m' c')∧Reads jP w' (.slice a' m' c') n.sel∧(∀b off sp,a'=some ⟨b,off,sp⟩→W.heap.size≤b)∧Kept W w' from fun W k=>by
  obtain⟨x,y,rfl,p,q,r⟩:=h.sel;exact jct x _ y n.sel W (r.kept k) p q hl.sel)
 have E4:=lH (show ∀W,Kept w W→Calls Tryz.prog 141 #[v4] W fun e w'=>∃a' m' c',e=.returned (.slice a' m' c')∧Reads jx w' (.slice a' m' c') n.tols∧(∀b off sp,a'=some ⟨b,off,sp⟩→W.heap.size≤b)∧Kept W w' from fun W k=>by
  obtain⟨x,y,rfl,p,q,r⟩:=h.tols;exact jhP x _ y n.tols W (r.kept k) p q hl.tols)
 obtain⟨x0,hx0⟩:∃x,n.name=x:=⟨_,rfl⟩
 obtain⟨x1,hx1⟩:∃x,n.owner=x:=⟨_,rfl⟩
 obtain⟨x2,hx2⟩:∃x,n.prio=x:=⟨_,rfl⟩
 obtain⟨x3,hx3⟩:∃x,n.key=x:=⟨_,rfl⟩
 obtain⟨x4,hx4⟩:∃x,n.most=x:=⟨_,rfl⟩
 obtain⟨x5,hx5⟩:∃x,n.node=x:=⟨_,rfl⟩
 obtain⟨x6,hx6⟩:∃x,n.hold=x:=⟨_,rfl⟩
 unfold jr;rw[hx0,hx1,hx2,hx3,hx4,hx5,hx6];have UG:=lH (And.intro hx0 (And.intro hx1 (And.intro hx2 (And.intro hx3 (And.intro hx4 (And.intro hx5 hx6))))));clear h hl hx0 hx1 hx2 hx3 hx4 hx5 hx6;obtain⟨Z,hZ⟩:∃Z,(w.alloc (.cells #[.string x0,.string x1,.int .i64 x2,v1,v2,v3,v4,.string x3,.int .i64 x4,.string x5,.bool x6] 35)).alloc (.cells #[.string ⟨#[]⟩,.string ⟨#[]⟩,.int .i64 0,.slice none 0 0,.slice none 0 0,.slice none 0 0,.slice none 0 0,.string ⟨#[]⟩,.int .i64 0,.string ⟨#[]⟩,.bool false] 35)=Z:=⟨_,rfl⟩
 have hkz:Kept w Z:=by rw[←hZ];exact jm _ _ _
 have hzs:Z.heap.size=w.heap.size+2:=by rw[←hZ];simp
 have Q0:=lH (show jf w.heap.size [.string x0,.string x1,.int .i64 x2,v1,v2,v3,v4,.string x3,.int .i64 x4,.string x5,.bool x6] Z from jd w (.string x0) [.string x1,.int .i64 x2,v1,v2,v3,v4,.string x3,.int .i64 x4,.string x5,.bool x6] 35 Z (by rw[←hZ];exact ja _ _));have Q1:=lH (show jf (w.heap.size+1) [.string ⟨#[]⟩,.string ⟨#[]⟩,.int .i64 0,.slice none 0 0,.slice none 0 0,.slice none 0 0,.slice none 0 0,.string ⟨#[]⟩,.int .i64 0,.string ⟨#[]⟩,.bool false] Z by
  have:=jd (w.alloc (.cells #[.string x0,.string x1,.int .i64 x2,v1,v2,v3,v4,.string x3,.int .i64 x4,.string x5,.bool x6] 35)) (.string ⟨#[]⟩) [.string ⟨#[]⟩,.int .i64 0,.slice none 0 0,.slice none 0 0,.slice none 0 0,.slice none 0 0,.string ⟨#[]⟩,.int .i64 0,.string ⟨#[]⟩,.bool false] 35 Z (by rw[hZ];exact Kept.refl _);rw[World.size_alloc] at this;exact this)
 have K:=lH hkz;have HZ:=lH (show w.heap.size+2≤Z.heap.size by omega);clear hkz hzs;go_enter Tryz.func104,Tryz.ntmps104;have y:=Q0.out.at_ 3 _ rfl;go_wp2_with fail
 try rw[hZ]
 clear hZ;clear y;refine(E1.out _ K.out).mono ?_;rintro e w1 ⟨b1,n1,d1,rfl,rr,gg,k⟩;have G1:=lH (show zh (w.heap.size+2) b1 from fun b o s e=>Nat.le_trans HZ.out (gg b o s e));have R1:=lH rr;have K:=lH (K.out.trans k);have HZ:=lH (Nat.le_trans HZ.out k.size);have Q0:=lH (Q0.out.kept k);have Q1:=lH (Q1.out.kept k);clear rr gg k;have y:=Q0.out.at_ 3 _ rfl;have x:=Q0.out.free 3;have Q0:=lH (show jf w.heap.size [.string x0,.string x1,.int .i64 x2,.slice b1 n1 d1,v2,v3,v4,.string x3,.int .i64 x4,.string x5,.bool x6] (w1.setCell ⟨w.heap.size,3,none⟩ (.slice b1 n1 d1)) from Q0.out.set (j:=3) (by simp));have Q1:=lH (Q1.out.other (p:=w.heap.size) (j:=3) (u:=.slice b1 n1 d1) (by omega));have R1:=lH (Zf (p:=w.heap.size) (j:=3) (u:=.slice b1 n1 d1) R1.out G1.out (by omega));have K:=lH (show Kept w (w1.setCell ⟨w.heap.size,3,none⟩ (.slice b1 n1 d1)) from K.out.setCell (p:=⟨w.heap.size,3,none⟩) (Nat.le_refl _) _);have HZ:=lH (show w.heap.size+2≤(w1.setCell ⟨w.heap.size,3,none⟩ (.slice b1 n1 d1)).heap.size by simpa [World.setCell] using HZ.out);have y9:=Q0.out.at_ 4 _ rfl;go_wp2_with fail
 clear y x y9;obtain⟨W1,hW1⟩:∃W,w1.setCell ⟨w.heap.size,3,none⟩ (.slice b1 n1 d1)=W:=⟨_,rfl⟩
 rw[hW1] at Q0 Q1 R1 K HZ ⊢;clear hW1;refine(E2.out _ K.out).mono ?_;rintro e w2 ⟨b2,n2,d2,rfl,rr,gg,k⟩;have G2:=lH (show zh (w.heap.size+2) b2 from fun b o s e=>Nat.le_trans HZ.out (gg b o s e));have R2:=lH rr;have K:=lH (K.out.trans k);have HZ:=lH (Nat.le_trans HZ.out k.size);have Q0:=lH (Q0.out.kept k);have Q1:=lH (Q1.out.kept k);have R1:=lH (R1.out.kept k);clear rr gg k;have y:=Q0.out.at_ 4 _ rfl;have x:=Q0.out.free 4;have Q0:=lH (show jf w.heap.size [.string x0,.string x1,.int .i64 x2,.slice b1 n1 d1,.slice b2 n2 d2,v3,v4,.string x3,.int .i64 x4,.string x5,.bool x6] (w2.setCell ⟨w.heap.size,4,none⟩ (.slice b2 n2 d2)) from Q0.out.set (j:=4) (by simp));have Q1:=lH (Q1.out.other (p:=w.heap.size) (j:=4) (u:=.slice b2 n2 d2) (by omega));have R1:=lH (Zf (p:=w.heap.size) (j:=4) (u:=.slice b2 n2 d2) R1.out G1.out (by omega));have R2:=lH (JJ (p:=w.heap.size) (j:=4) (u:=.slice b2 n2 d2) R2.out G2.out (by omega));have K:=lH (show Kept w (w2.setCell ⟨w.heap.size,4,none⟩ (.slice b2 n2 d2)) from K.out.setCell (p:=⟨w.heap.size,4,none⟩) (Nat.le_refl _) _);have HZ:=lH (show w.heap.size+2≤(w2.setCell ⟨w.heap.size,4,none⟩ (.slice b2 n2 d2)).heap.size by simpa [World.setCell] using HZ.out);have y9:=Q0.out.at_ 5 _ rfl;go_wp2_with fail
 clear y x y9;obtain⟨W2,hW2⟩:∃W,w2.setCell ⟨w.heap.size,4,none⟩ (.slice b2 n2 d2)=W:=⟨_,rfl⟩
 rw[hW2] at Q0 Q1 R1 R2 K HZ ⊢;clear hW2;refine(E3.out _ K.out).mono ?_;rintro e w3 ⟨b3,n3,d3,rfl,rr,gg,k⟩;have G3:=lH (show zh (w.heap.size+2) b3 from fun b o s e=>Nat.le_trans HZ.out (gg b o s e));have R3:=lH rr;have K:=lH (K.out.trans k);have HZ:=lH (Nat.le_trans HZ.out k.size);have Q0:=lH (Q0.out.kept k);have Q1:=lH (Q1.out.kept k);have R1:=lH (R1.out.kept k);have R2:=lH (R2.out.kept k);clear rr gg k;have y:=Q0.out.at_ 5 _ rfl;have x:=Q0.out.free 5;have Q0:=lH (show jf w.heap.size [.string x0,.string x1,.int .i64 x2,.slice b1 n1 d1,.slice b2 n2 d2,.slice b3 n3 d3,v4,.string x3,.int .i64 x4,.string x5,.bool x6] (w3.setCell ⟨w.heap.size,5,none⟩ (.slice b3 n3 d3)) from Q0.out.set (j:=5) (by simp));have Q1:=lH (Q1.out.other (p:=w.heap.size) (j:=5) (u:=.slice b3 n3 d3) (by omega));have R1:=lH (Zf (p:=w.heap.size) (j:=5) (u:=.slice b3 n3 d3) R1.out G1.out (by omega));have R2:=lH (JJ (p:=w.heap.size) (j:=5) (u:=.slice b3 n3 d3) R2.out G2.out (by omega));have R3:=lH (JJ (p:=w.heap.size) (j:=5) (u:=.slice b3 n3 d3) R3.out G3.out (by omega));have K:=lH (show Kept w (w3.setCell ⟨w.heap.size,5,none⟩ (.slice b3 n3 d3)) from K.out.setCell (p:=⟨w.heap.size,5,none⟩) (Nat.le_refl _) _);have HZ:=lH (show w.heap.size+2≤(w3.setCell ⟨w.heap.size,5,none⟩ (.slice b3 n3 d3)).heap.size by simpa [World.setCell] using HZ.out);have y9:=Q0.out.at_ 6 _ rfl;go_wp2_with fail
 clear y x y9;obtain⟨W3,hW3⟩:∃W,w3.setCell ⟨w.heap.size,5,none⟩ (.slice b3 n3 d3)=W:=⟨_,rfl⟩
 rw[hW3] at Q0 Q1 R1 R2 R3 K HZ ⊢;clear hW3;refine(E4.out _ K.out).mono ?_;rintro e w4 ⟨b4,n4,d4,rfl,rr,gg,k⟩;have G4:=lH (show zh (w.heap.size+2) b4 from fun b o s e=>Nat.le_trans HZ.out (gg b o s e));have R4:=lH rr;have K:=lH (K.out.trans k);have HZ:=lH (Nat.le_trans HZ.out k.size);have Q0:=lH (Q0.out.kept k);have Q1:=lH (Q1.out.kept k);have R1:=lH (R1.out.kept k);have R2:=lH (R2.out.kept k);have R3:=lH (R3.out.kept k);clear rr gg k;have y:=Q0.out.at_ 6 _ rfl;have x:=Q0.out.free 6;have Q0:=lH (show jf w.heap.size [.string x0,.string x1,.int .i64 x2,.slice b1 n1 d1,.slice b2 n2 d2,.slice b3 n3 d3,.slice b4 n4 d4,.string x3,.int .i64 x4,.string x5,.bool x6] (w4.setCell ⟨w.heap.size,6,none⟩ (.slice b4 n4 d4)) from Q0.out.set (j:=6) (by simp));have Q1:=lH (Q1.out.other (p:=w.heap.size) (j:=6) (u:=.slice b4 n4 d4) (by omega));have R1:=lH (Zf (p:=w.heap.size) (j:=6) (u:=.slice b4 n4 d4) R1.out G1.out (by omega));have R2:=lH (JJ (p:=w.heap.size) (j:=6) (u:=.slice b4 n4 d4) R2.out G2.out (by omega));have R3:=lH (JJ (p:=w.heap.size) (j:=6) (u:=.slice b4 n4 d4) R3.out G3.out (by omega));have R4:=lH (JJ (p:=w.heap.size) (j:=6) (u:=.slice b4 n4 d4) R4.out G4.out (by omega));have K:=lH (show Kept w (w4.setCell ⟨w.heap.size,6,none⟩ (.slice b4 n4 d4)) from K.out.setCell (p:=⟨w.heap.size,6,none⟩) (Nat.le_refl _) _);have HZ:=lH (show w.heap.size+2≤(w4.setCell ⟨w.heap.size,6,none⟩ (.slice b4 n4 d4)).heap.size by simpa [World.setCell] using HZ.out);have y0:=Q0.out.at_ 0 _ rfl;have y1:=Q0.out.at_ 1 _ rfl;have y2:=Q0.out.at_ 2 _ rfl;have y3:=Q0.out.at_ 3 _ rfl;have y4:=Q0.out.at_ 4 _ rfl;have y5:=Q0.out.at_ 5 _ rfl;have y6:=Q0.out.at_ 6 _ rfl;have y7:=Q0.out.at_ 7 _ rfl;have y8:=Q0.out.at_ 8 _ rfl;have y9:=Q0.out.at_ 9 _ rfl;have y10:=Q0.out.at_ 10 _ rfl;have z0:=Q1.out.at_ 0 _ rfl;have z1:=Q1.out.at_ 1 _ rfl;have z2:=Q1.out.at_ 2 _ rfl;have z3:=Q1.out.at_ 3 _ rfl;have z4:=Q1.out.at_ 4 _ rfl;have z5:=Q1.out.at_ 5 _ rfl;have z6:=Q1.out.at_ 6 _ rfl;have z7:=Q1.out.at_ 7 _ rfl;have z8:=Q1.out.at_ 8 _ rfl;have z9:=Q1.out.at_ 9 _ rfl;have z10:=Q1.out.at_ 10 _ rfl;have f0:=Q1.out.free 0;have f1:=Q1.out.free 1;have f2:=Q1.out.free 2;have f3:=Q1.out.free 3;have f4:=Q1.out.free 4;have f5:=Q1.out.free 5;have f6:=Q1.out.free 6;have f7:=Q1.out.free 7;have f8:=Q1.out.free 8;have f9:=Q1.out.free 9;have f10:=Q1.out.free 10;have P:=lH (jW (vs:=[.string x0,.string x1,.int .i64 x2,.slice b1 n1 d1,.slice b2 n2 d2,.slice b3 n3 d3,.slice b4 n4 d4,.string x3,.int .i64 x4,.string x5,.bool x6]) Q1.out rfl);go_wp2;obtain⟨WE,hWE⟩:∃W,(w4.setCell ⟨w.heap.size,6,none⟩ (.slice b4 n4 d4)).setCells (w.heap.size+1) 0 [.string x0,.string x1,.int .i64 x2,.slice b1 n1 d1,.slice b2 n2 d2,.slice b3 n3 d3,.slice b4 n4 d4,.string x3,.int .i64 x4,.string x5,.bool x6]=W:=⟨_,rfl⟩
 have hWE2:((((((((((((w4.setCell ⟨w.heap.size,6,none⟩ (.slice b4 n4 d4)).setCell ⟨w.heap.size+1,0,none⟩ (.string x0)).setCell ⟨w.heap.size+1,1,none⟩ (.string x1)).setCell ⟨w.heap.size+1,2,none⟩ (.int .i64 x2)).setCell ⟨w.heap.size+1,3,none⟩ (.slice b1 n1 d1)).setCell ⟨w.heap.size+1,4,none⟩ (.slice b2 n2 d2)).setCell ⟨w.heap.size+1,5,none⟩ (.slice b3 n3 d3)).setCell ⟨w.heap.size+1,6,none⟩ (.slice b4 n4 d4)).setCell ⟨w.heap.size+1,7,none⟩ (.string x3)).setCell ⟨w.heap.size+1,8,none⟩ (.int .i64 x4)).setCell ⟨w.heap.size+1,9,none⟩ (.string x5)).setCell ⟨w.heap.size+1,10,none⟩ (.bool x6))=WE:=hWE;rw[hWE] at P;rw[hWE2];clear hWE hWE2;obtain⟨PC,hsz,hbl,hkp⟩:=P.out;refine bodyPost_ret (by simp[results,Tryz.results104,go_sem,PC.at_ 0 _ rfl,PC.at_ 1 _ rfl,PC.at_ 2 _ rfl,PC.at_ 3 _ rfl,PC.at_ 4 _ rfl,PC.at_ 5 _ rfl,PC.at_ 6 _ rfl,PC.at_ 7 _ rfl,PC.at_ 8 _ rfl,PC.at_ 9 _ rfl,PC.at_ 10 _ rfl];try rfl) rfl ?_;obtain⟨hx0,hx1,hx2,hx3,hx4,hx5,hx6⟩:=UG.out;exact⟨_,rfl,⟨b1,n1,d1,b2,n2,d2,b3,n3,d3,b4,n4,d4,by unfold jr;rw[hx0,hx1,hx2,hx3,hx4,hx5,hx6],(show js _ (.slice b1 n1 d1) (.slice b2 n2 d2) (.slice b3 n3 d3) (.slice b4 n4 d4) n from js.far (B:=w.heap.size+2) ⟨HH.out.name,HH.out.owner,HH.out.key,HH.out.node,HH.out.prio,HH.out.most,R1.out,R2.out,R3.out,R4.out⟩ hsz (fun b hb=>hbl b (by omega)) G1.out G2.out G3.out G4.out),G1.out.less (by omega),G2.out.less (by omega),G3.out.less (by omega),G4.out.less (by omega)⟩,hkp _ _ (by omega) K.out⟩
theorem jdP (n:Nod) (a1 a2 a3:Option Addr) (m1 c1 m2 c2 m3 c3:Nat) (w:World) (h:zp w (.slice a1 m1 c1) (.slice a2 m2 c2) (.slice a3 m3 c3) n) (hl:Jk n) :
 Calls Tryz.prog 157 #[.agg #[.string n.name,.slice a1 m1 c1,.slice a2 m2 c2,.slice a3 m3 c3,.bool n.cordon]] w fun e w'=>∃v,e=.returned v∧JD w.heap.size w' v n∧Kept w w':=by
 have hsz:=h.size;obtain⟨x1,y1,e1,p1,q1,r1⟩:=h.cap
 cases e1
 obtain⟨x2,y2,e2,p2,q2,r2⟩:=h.labels
 cases e2
 obtain⟨x3,y3,e3,p3,q3,r3⟩:=h.taints
 cases e3
 have H1:=lH (fun W (k:Kept w W)=>qS a1 n.cap.length c1 n.cap W (r1.kept k) p1 q1 hl.cap);have H2:=lH (fun W (k:Kept w W)=>jac a2 n.labels.length c2 n.labels W (r2.kept k) p2 q2 hl.labels);have H3:=lH (fun W (k:Kept w W)=>jbR a3 n.taints.length c3 n.taints W (r3.kept k) p3 q3 hl.taints);obtain⟨k1,hk1⟩:∃k,n.cap.length=k:=⟨_,rfl⟩
 obtain⟨k2,hk2⟩:∃k,n.labels.length=k:=⟨_,rfl⟩
 obtain⟨k3,hk3⟩:∃k,n.taints.length=k:=⟨_,rfl⟩
 obtain⟨x,hx⟩:∃x,n.name=x:=⟨_,rfl⟩
 obtain⟨cd,hcd⟩:∃x,n.cordon=x:=⟨_,rfl⟩
 have hxs:x.size≤maxLen:=by rw[←hx];exact hsz
 rw[hk1] at H1;rw[hk2] at H2;rw[hk3] at H3;rw[hk1,hk2,hk3,hx,hcd];have HX:=lH hx;have RF:=lH hcd;clear h hl p1 q1 r1 p2 q2 r2 p3 q3 r3 hk1 hk2 hk3 hx hcd hsz;obtain⟨Z,hZ⟩:∃Z,(w.alloc (.cells #[.string x,.slice a1 k1 c1,.slice a2 k2 c2,.slice a3 k3 c3,.bool cd] 71)).alloc (.cells #[.string ⟨#[]⟩,.slice none 0 0,.slice none 0 0,.slice none 0 0,.bool false] 71)=Z:=⟨_,rfl⟩
 have hkz:Kept w Z:=by rw[←hZ];exact jm _ _ _
 have hzs:Z.heap.size=w.heap.size+2:=by rw[←hZ];simp
 have Q0:=lH (show zA w.heap.size (.string x) (.slice a1 k1 c1) (.slice a2 k2 c2) (.slice a3 k3 c3) (.bool cd) Z from Yx w _ _ _ _ _ 71 Z (by rw[←hZ];exact ja _ _));have Q1:=lH (show zA (w.heap.size+1) (.string ⟨#[]⟩) (.slice none 0 0) (.slice none 0 0) (.slice none 0 0) (.bool false) Z by
  have:=Yx (w.alloc (.cells #[.string x,.slice a1 k1 c1,.slice a2 k2 c2,.slice a3 k3 c3,.bool cd] 71)) (.string ⟨#[]⟩) (.slice none 0 0) (.slice none 0 0) (.slice none 0 0) (.bool false) 71 Z (by rw[hZ];exact Kept.refl _);rw[World.size_alloc] at this;exact this)
 have K:=lH hkz;have hs0:w.heap.size+2≤Z.heap.size:=by omega
 clear hkz hzs;obtain⟨⟨y0,y1,y2,y3,y4⟩,x0,x1,x2,x3,x4⟩:=Q0.out;go_enter Tryz.func157,Tryz.ntmps157;go_wp2_with fail
 try rw[hZ]
 clear hZ;clear y0 y1 y2 y3 y4 x0 x1 x2 x3 x4;refine(H1.out _ K.out).mono ?_;rintro e w1 ⟨b1,n1,d1,rfl,rr,gg,k⟩;have U3:=lH (show ∀b off sp,b1=some ⟨b,off,sp⟩→w.heap.size+2≤b from fun b o s e=>by have:=gg b o s e;omega);have RA:=lH rr;have K:=lH (K.out.trans k);have hs1:w.heap.size+2≤w1.heap.size:=by have:=k.size;omega
 have Q0:=lH (Q0.out.kept k);have Q1:=lH (Q1.out.kept k);clear rr gg k hs0;obtain⟨⟨y0,y1,y2,y3,y4⟩,x0,x1,x2,x3,x4⟩:=Q0.out;have Q0:=lH (Q0.out.set1 (.slice b1 n1 d1));have Q1:=lH (Q1.out.other (p:=w.heap.size) (j:=1) (u:=.slice b1 n1 d1) (by omega));have RA:=lH (Zf (p:=w.heap.size) (j:=1) (u:=.slice b1 n1 d1) RA.out U3.out (by omega));have K:=lH (show Kept w (w1.setCell ⟨w.heap.size,1,none⟩ (.slice b1 n1 d1)) from K.out.setCell (p:=⟨w.heap.size,1,none⟩) (Nat.le_refl _) _);have hs0:w.heap.size+2≤(w1.setCell ⟨w.heap.size,1,none⟩ (.slice b1 n1 d1)).heap.size:=by simpa [World.setCell] using hs1
 clear hs1;obtain⟨⟨z0,z1,z2,z3,z4⟩,-⟩:=Q0.out;go_wp2_with fail
 clear y0 y1 y2 y3 y4 x0 x1 x2 x3 x4 z0 z1 z2 z3 z4;obtain⟨W1,hW1⟩:∃W,w1.setCell ⟨w.heap.size,1,none⟩ (.slice b1 n1 d1)=W:=⟨_,rfl⟩
 rw[hW1] at Q0 Q1 RA K hs0 ⊢;clear hW1;refine(H2.out _ K.out).mono ?_;rintro e w2 ⟨b2,n2,d2,rfl,rr,gg,k⟩;have VR:=lH (show ∀b off sp,b2=some ⟨b,off,sp⟩→w.heap.size+2≤b from fun b o s e=>by have:=gg b o s e;omega);have RB:=lH rr;have K:=lH (K.out.trans k);have hs1:w.heap.size+2≤w2.heap.size:=by have:=k.size;omega
 have Q0:=lH (Q0.out.kept k);have Q1:=lH (Q1.out.kept k);have RA:=lH (RA.out.kept k);clear rr gg k hs0;obtain⟨⟨y0,y1,y2,y3,y4⟩,x0,x1,x2,x3,x4⟩:=Q0.out;have Q0:=lH (Q0.out.set2 (.slice b2 n2 d2));have Q1:=lH (Q1.out.other (p:=w.heap.size) (j:=2) (u:=.slice b2 n2 d2) (by omega));have RA:=lH (Zf (p:=w.heap.size) (j:=2) (u:=.slice b2 n2 d2) RA.out U3.out (by omega));have RB:=lH (JJ (p:=w.heap.size) (j:=2) (u:=.slice b2 n2 d2) RB.out VR.out (by omega));have K:=lH (show Kept w (w2.setCell ⟨w.heap.size,2,none⟩ (.slice b2 n2 d2)) from K.out.setCell (p:=⟨w.heap.size,2,none⟩) (Nat.le_refl _) _);have hs0:w.heap.size+2≤(w2.setCell ⟨w.heap.size,2,none⟩ (.slice b2 n2 d2)).heap.size:=by simpa [World.setCell] using hs1
 clear hs1;obtain⟨⟨z0,z1,z2,z3,z4⟩,-⟩:=Q0.out;go_wp2_with fail
 clear y0 y1 y2 y3 y4 x0 x1 x2 x3 x4 z0 z1 z2 z3 z4;obtain⟨W2,hW2⟩:∃W,w2.setCell ⟨w.heap.size,2,none⟩ (.slice b2 n2 d2)=W:=⟨_,rfl⟩
 rw[hW2] at Q0 Q1 RA RB K hs0 ⊢;clear hW2;refine(H3.out _ K.out).mono ?_;rintro e w3 ⟨b3,n3,d3,rfl,rr,gg,k⟩;have TO:=lH (show ∀b off sp,b3=some ⟨b,off,sp⟩→w.heap.size+2≤b from fun b o s e=>by have:=gg b o s e;omega);have RC:=lH rr;have K:=lH (K.out.trans k);have hs1:w.heap.size+2≤w3.heap.size:=by have:=k.size;omega
 have Q0:=lH (Q0.out.kept k);have Q1:=lH (Q1.out.kept k);have RA:=lH (RA.out.kept k);have RB:=lH (RB.out.kept k);clear rr gg k hs0;obtain⟨⟨y0,y1,y2,y3,y4⟩,x0,x1,x2,x3,x4⟩:=Q0.out;have Q0:=lH (Q0.out.set3 (.slice b3 n3 d3));have Q1:=lH (Q1.out.other (p:=w.heap.size) (j:=3) (u:=.slice b3 n3 d3) (by omega));have RA:=lH (Zf (p:=w.heap.size) (j:=3) (u:=.slice b3 n3 d3) RA.out U3.out (by omega));have RB:=lH (JJ (p:=w.heap.size) (j:=3) (u:=.slice b3 n3 d3) RB.out VR.out (by omega));have RC:=lH (JJ (p:=w.heap.size) (j:=3) (u:=.slice b3 n3 d3) RC.out TO.out (by omega));have K:=lH (show Kept w (w3.setCell ⟨w.heap.size,3,none⟩ (.slice b3 n3 d3)) from K.out.setCell (p:=⟨w.heap.size,3,none⟩) (Nat.le_refl _) _);have hs0:w.heap.size+2≤(w3.setCell ⟨w.heap.size,3,none⟩ (.slice b3 n3 d3)).heap.size:=by simpa [World.setCell] using hs1
 clear hs1;obtain⟨⟨z0,z1,z2,z3,z4⟩,-⟩:=Q0.out;obtain⟨⟨g0,g1,g2,g3,g4⟩,f0,f1,f2,f3,f4⟩:=Q1.out;go_wp2;have P:=lH (Zi ⟨g0,g1,g2,g3,g4⟩ x b1 b2 b3 n1 d1 n2 d2 n3 d3 cd);clear y0 y1 y2 y3 y4 x0 x1 x2 x3 x4 z0 z1 z2 z3 z4 g0 g1 g2 g3 g4 f0 f1 f2 f3 f4;obtain⟨W3,hW3⟩:∃W,w3.setCell ⟨w.heap.size,3,none⟩ (.slice b3 n3 d3)=W:=⟨_,rfl⟩
 rw[hW3] at RA RB RC K hs0 P ⊢;obtain⟨WE,hWE⟩:∃W,(((((W3.setCell ⟨w.heap.size+1,0,none⟩ (.string x)).setCell ⟨w.heap.size+1,1,none⟩ (.slice b1 n1 d1)).setCell ⟨w.heap.size+1,2,none⟩ (.slice b2 n2 d2)).setCell ⟨w.heap.size+1,3,none⟩ (.slice b3 n3 d3)).setCell ⟨w.heap.size+1,4,none⟩ (.bool cd))=W:=⟨_,rfl⟩
 rw[hWE] at P ⊢;clear hWE hW3;obtain⟨⟨e0,e1,e2,e3,e4⟩,hsz,hbl,hkp⟩:=P.out;refine bodyPost_ret (by simp[results,Tryz.results157,go_sem,e0,e1,e2,e3,e4];try rfl) rfl ?_;exact⟨_,rfl,⟨b1,n1,d1,b2,n2,d2,b3,n3,d3,by rw[HX.out,RF.out],by rw[HX.out];exact hxs,RA.out.far hsz (fun b o s e=>hbl b (by have:=U3.out b o s e;omega)),RB.out.far hsz (fun b o s e=>hbl b (by have:=VR.out b o s e;omega)),RC.out.far hsz (fun b o s e=>hbl b (by have:=TO.out b o s e;omega)),fun b o s e=>Nat.le_trans (Nat.le_add_right _ 2) (U3.out b o s e),fun b o s e=>Nat.le_trans (Nat.le_add_right _ 2) (VR.out b o s e),fun b o s e=>Nat.le_trans (Nat.le_add_right _ 2) (TO.out b o s e)⟩,hkp _ _ (Nat.le_succ _) K.out⟩
theorem jcd (k:Bd) (a1:Option Addr) (m1 c1:Nat) (w:World) (h:zK w (.slice a1 m1 c1) k) (hl:k.sel.length≤1000000) :
 Calls Tryz.prog 160 #[Xz k (.slice a1 m1 c1)] w fun e w'=>∃v,e=.returned v∧ZT w.heap.size w' v k∧Kept w w':=by
 obtain⟨x,s,m⟩:=k;have HH:=lH h;have E1:=lH (show ∀W,Kept w W→Calls Tryz.prog 140 #[.slice a1 m1 c1] W fun e w'=>∃a' m' c',e=.returned (.slice a' m' c')∧Reads jP w' (.slice a' m' c') s∧(∀b off sp,a'=some ⟨b,off,sp⟩→W.heap.size≤b)∧Kept W w' from fun W k=>by
  obtain⟨p,y,e,q1,q2,r⟩:=h.sel
  cases e
  exact jct a1 _ c1 s W (r.kept k) q1 q2 hl)
 obtain⟨Z,hZ⟩:∃Z,(w.alloc (.cells #[.string x,.slice a1 m1 c1,.int .i64 m] 153)).alloc (.cells #[.string ⟨#[]⟩,.slice none 0 0,.int .i64 0] 153)=Z:=⟨_,rfl⟩
 have hkz:Kept w Z:=by rw[←hZ];exact jm _ _ _
 have hzs:Z.heap.size=w.heap.size+2:=by rw[←hZ];simp
 have Q0:=lH (show jf w.heap.size [.string x,.slice a1 m1 c1,.int .i64 m] Z from jd w (.string x) [.slice a1 m1 c1,.int .i64 m] 153 Z (by rw[←hZ];exact ja _ _));have Q1:=lH (show jf (w.heap.size+1) [.string ⟨#[]⟩,.slice none 0 0,.int .i64 0] Z by
  have:=jd (w.alloc (.cells #[.string x,.slice a1 m1 c1,.int .i64 m] 153)) (.string ⟨#[]⟩) [.slice none 0 0,.int .i64 0] 153 Z (by rw[hZ];exact Kept.refl _);rw[World.size_alloc] at this;exact this)
 have K:=lH hkz;have HZ:=lH (show w.heap.size+2≤Z.heap.size by omega);clear hkz hzs h hl;unfold Xz;dsimp only;go_enter Tryz.func160,Tryz.ntmps160;have y:=Q0.out.at_ 1 _ rfl;go_wp2_with fail
 try rw[hZ]
 clear hZ;clear y;refine(E1.out _ K.out).mono ?_;rintro e w1 ⟨b1,n1,d1,rfl,rr,gg,k⟩;have G1:=lH (show zh (w.heap.size+2) b1 from fun b o s e=>Nat.le_trans HZ.out (gg b o s e));have R1:=lH rr;have K:=lH (K.out.trans k);have HZ:=lH (Nat.le_trans HZ.out k.size);have Q0:=lH (Q0.out.kept k);have Q1:=lH (Q1.out.kept k);clear rr gg k;have y:=Q0.out.at_ 1 _ rfl;have xf:=Q0.out.free 1;have Q0:=lH (show jf w.heap.size [.string x,.slice b1 n1 d1,.int .i64 m] (w1.setCell ⟨w.heap.size,1,none⟩ (.slice b1 n1 d1)) from Q0.out.set (j:=1) (by simp));have Q1:=lH (Q1.out.other (p:=w.heap.size) (j:=1) (u:=.slice b1 n1 d1) (by omega));have R1:=lH (JJ (p:=w.heap.size) (j:=1) (u:=.slice b1 n1 d1) R1.out G1.out (by omega));have K:=lH (show Kept w (w1.setCell ⟨w.heap.size,1,none⟩ (.slice b1 n1 d1)) from K.out.setCell (p:=⟨w.heap.size,1,none⟩) (Nat.le_refl _) _);have y0:=Q0.out.at_ 0 _ rfl;have y1:=Q0.out.at_ 1 _ rfl;have y2:=Q0.out.at_ 2 _ rfl;have g0:=Q1.out.at_ 0 _ rfl;have g1:=Q1.out.at_ 1 _ rfl;have g2:=Q1.out.at_ 2 _ rfl;have f0:=Q1.out.free 0;have f1:=Q1.out.free 1;have f2:=Q1.out.free 2;have P:=lH (jW (vs:=[.string x,.slice b1 n1 d1,.int .i64 m]) Q1.out rfl);go_wp2;obtain⟨WE,hWE⟩:∃W,(w1.setCell ⟨w.heap.size,1,none⟩ (.slice b1 n1 d1)).setCells (w.heap.size+1) 0 [.string x,.slice b1 n1 d1,.int .i64 m]=W:=⟨_,rfl⟩
 have hWE2:((((w1.setCell ⟨w.heap.size,1,none⟩ (.slice b1 n1 d1)).setCell ⟨(w.heap.size+1),0,none⟩ (.string x)).setCell ⟨(w.heap.size+1),1,none⟩ (.slice b1 n1 d1)).setCell ⟨(w.heap.size+1),2,none⟩ (.int .i64 m))=WE:=hWE;rw[hWE] at P;try rw[hWE2]
 clear hWE hWE2;obtain⟨PC,hsz,hbl,hkp⟩:=P.out;refine bodyPost_ret (by simp[results,Tryz.results160,go_sem,PC.at_ 0 _ rfl,PC.at_ 1 _ rfl,PC.at_ 2 _ rfl];try rfl) rfl ?_;exact⟨_,rfl,⟨b1,n1,d1,rfl,⟨HH.out.name,HH.out.floor,R1.out.far hsz (fun b o s e=>hbl b (by have:=G1.out b o s e;omega))⟩,G1.out.less (by omega)⟩,hkp _ _ (by omega) K.out⟩
theorem jcX {w:World} {a:Option Addr} {len:Nat} {l:List Nod} (h:jE w a len l):∃lx:List NX,(lx.map fun z=>z.1)=l∧jh zD w a len lx∧∀z ∈ lx,At3 w z:=by
 obtain⟨h0,h1,h2⟩:=h;rcases h2 with h2 | ⟨b,off,rfl,hb,hc⟩
 · have:l=[]:=List.eq_nil_of_length_eq_zero (by omega);subst this;subst h2;exact⟨[],rfl,jh.nil w a,fun z hz=>absurd hz (by simp)⟩
 · have step:∀m,m≤l.length→∃lx:List NX,(lx.map fun z=>z.1)=l.take m∧(∀i x j u,lx[i]?=some x→(zD.cs x)[j]?=some u→w.cell? ⟨b,off+i*5+j,none⟩=some u)∧∀z ∈ lx,At3 w z:=by
    intro m
    induction m with
    | zero=>exact fun _=>⟨[],rfl,fun i x j u hi=>by simp at hi,fun z hz=>absurd hz (by simp)⟩
    | succ m ih =>
     intro hm;obtain⟨lx,e,hcell,hat⟩:=ih (by omega);obtain⟨n,hn⟩:∃n,l[m]?=some n:=⟨_,List.getElem?_eq_getElem (by omega)⟩
     obtain⟨a1,m1,c1,a2,m2,c2,a3,m3,c3,p0,p1,p2,p3,p4,hp⟩:=hc m n hn;have hlen:lx.length=m:=by
      have:=congrArg List.length e;rw[List.length_map,List.length_take] at this;omega
     refine⟨lx++[(n,(a1,m1,c1),(a2,m2,c2),(a3,m3,c3))],?_,?_,?_⟩
     · rw[List.map_append,e,zE hn];rfl
     · intro i x j u hi hj;by_cases him:i<m
       · rw[List.getElem?_append_left (by omega)] at hi;exact hcell i x j u hi hj
       · have hi2:=(List.getElem?_eq_some_iff.1 hi).1;rw[List.length_append,List.length_singleton] at hi2;obtain rfl:i=m:=by omega
         rw[List.getElem?_append_right (by omega),hlen,Nat.sub_self] at hi;obtain rfl:=Option.some.inj hi
         match j,hj with
         | 0,hj=>obtain rfl:=Option.some.inj hj;exact p0
         | 1,hj=>obtain rfl:=Option.some.inj hj;exact p1
         | 2,hj=>obtain rfl:=Option.some.inj hj;exact p2
         | 3,hj=>obtain rfl:=Option.some.inj hj;exact p3
         | 4,hj=>obtain rfl:=Option.some.inj hj;exact p4
         | j+5,hj=>simp[zD] at hj
     · intro z hz;rcases List.mem_append.1 hz with hz | hz
       · exact hat z hz
       · obtain rfl:z=_:=List.mem_singleton.1 hz;exact hp
   obtain⟨lx,e,hcell,hat⟩:=step l.length (Nat.le_refl _);rw[List.take_of_length_le (Nat.le_refl _)] at e;have hl:lx.length=len:=by rw[←h0,←e,List.length_map]
   exact⟨lx,e,⟨hl,h1,fun _ _=>trivial,.inr ⟨b,off,rfl,hb,hcell⟩⟩,hat⟩
theorem jcQ {w:World} {a:Option Addr} {len:Nat} {l:List Bd} (h:Jc w a len l):∃lx:List BX,(lx.map fun z=>z.1)=l∧jh zt w a len lx∧∀z ∈ lx,At1 w z:=by
 obtain⟨h0,h1,h2⟩:=h;rcases h2 with h2 | ⟨b,off,rfl,hb,hc⟩
 · have:l=[]:=List.eq_nil_of_length_eq_zero (by omega);subst this;subst h2;exact⟨[],rfl,jh.nil w a,fun z hz=>absurd hz (by simp)⟩
 · have step:∀m,m≤l.length→∃lx:List BX,(lx.map fun z=>z.1)=l.take m∧(∀i x j u,lx[i]?=some x→(zt.cs x)[j]?=some u→w.cell? ⟨b,off+i*3+j,none⟩=some u)∧∀z ∈ lx,At1 w z:=by
    intro m
    induction m with
    | zero=>exact fun _=>⟨[],rfl,fun i x j u hi=>by simp at hi,fun z hz=>absurd hz (by simp)⟩
    | succ m ih =>
     intro hm;obtain⟨lx,e,hcell,hat⟩:=ih (by omega);obtain⟨n,hn⟩:∃n,l[m]?=some n:=⟨_,List.getElem?_eq_getElem (by omega)⟩
     obtain⟨w1,p0,p1,p2,hp⟩:=hc m n hn;obtain⟨a1,m1,c1,rfl⟩:=hp.spelt;have hlen:lx.length=m:=by
      have:=congrArg List.length e;rw[List.length_map,List.length_take] at this;omega
     refine⟨lx++[(n,(a1,m1,c1))],?_,?_,?_⟩
     · rw[List.map_append,e,zE hn];rfl
     · intro i x j u hi hj;by_cases him:i<m
       · rw[List.getElem?_append_left (by omega)] at hi;exact hcell i x j u hi hj
       · have hi2:=(List.getElem?_eq_some_iff.1 hi).1;rw[List.length_append,List.length_singleton] at hi2;obtain rfl:i=m:=by omega
         rw[List.getElem?_append_right (by omega),hlen,Nat.sub_self] at hi;obtain rfl:=Option.some.inj hi
         match j,hj with
         | 0,hj=>obtain rfl:=Option.some.inj hj;exact p0
         | 1,hj=>obtain rfl:=Option.some.inj hj;exact p1
         | 2,hj=>obtain rfl:=Option.some.inj hj;exact p2
         | j+3,hj=>simp[zt] at hj
     · intro z hz;rcases List.mem_append.1 hz with hz | hz
       · exact hat z hz
       · obtain rfl:z=_:=List.mem_singleton.1 hz;exact hp
   obtain⟨lx,e,hcell,hat⟩:=step l.length (Nat.le_refl _);rw[List.take_of_length_le (Nat.le_refl _)] at e;have hl:lx.length=len:=by rw[←h0,←e,List.length_map]
   exact⟨lx,e,⟨hl,h1,fun _ _=>trivial,.inr ⟨b,off,rfl,hb,hcell⟩⟩,hat⟩
theorem jcY {w:World} {a:Option Addr} {len:Nat} {l:List Pd} (h:jN w a len l):∃lx:List PX,(lx.map fun z=>z.1)=l∧jh jg w a len lx∧∀z ∈ lx,At4 w z:=by
 obtain⟨h0,h1,h2⟩:=h;rcases h2 with h2 | ⟨b,off,rfl,hb,hc⟩
 · have:l=[]:=List.eq_nil_of_length_eq_zero (by omega);subst this;subst h2;exact⟨[],rfl,jh.nil w a,fun z hz=>absurd hz (by simp)⟩
 · have step:∀m,m≤l.length→∃lx:List PX,(lx.map fun z=>z.1)=l.take m∧(∀i x j u,lx[i]?=some x→(jg.cs x)[j]?=some u→w.cell? ⟨b,off+i*11+j,none⟩=some u)∧∀z ∈ lx,At4 w z:=by
    intro m
    induction m with
    | zero=>exact fun _=>⟨[],rfl,fun i x j u hi=>by simp at hi,fun z hz=>absurd hz (by simp)⟩
    | succ m ih =>
     intro hm;obtain⟨lx,e,hcell,hat⟩:=ih (by omega);obtain⟨n,hn⟩:∃n,l[m]?=some n:=⟨_,List.getElem?_eq_getElem (by omega)⟩
     obtain⟨v1,v2,v3,v4,p0,p1,p2,p3,p4,p5,p6,p7,p8,p9,p10,hp⟩:=hc m n hn;obtain⟨b1,n1,d1,b2,n2,d2,b3,n3,d3,b4,n4,d4,rfl,rfl,rfl,rfl⟩:=hp.spelt;have hlen:lx.length=m:=by
      have:=congrArg List.length e;rw[List.length_map,List.length_take] at this;omega
     refine⟨lx++[(n,(b1,n1,d1),(b2,n2,d2),(b3,n3,d3),(b4,n4,d4))],?_,?_,?_⟩
     · rw[List.map_append,e,zE hn];rfl
     · intro i x j u hi hj;by_cases him:i<m
       · rw[List.getElem?_append_left (by omega)] at hi;exact hcell i x j u hi hj
       · have hi2:=(List.getElem?_eq_some_iff.1 hi).1;rw[List.length_append,List.length_singleton] at hi2;obtain rfl:i=m:=by omega
         rw[List.getElem?_append_right (by omega),hlen,Nat.sub_self] at hi;obtain rfl:=Option.some.inj hi
         match j,hj with
         | 0,hj=>obtain rfl:=Option.some.inj hj;exact p0
         | 1,hj=>obtain rfl:=Option.some.inj hj;exact p1
         | 2,hj=>obtain rfl:=Option.some.inj hj;exact p2
         | 3,hj=>obtain rfl:=Option.some.inj hj;exact p3
         | 4,hj=>obtain rfl:=Option.some.inj hj;exact p4
         | 5,hj=>obtain rfl:=Option.some.inj hj;exact p5
         | 6,hj=>obtain rfl:=Option.some.inj hj;exact p6
         | 7,hj=>obtain rfl:=Option.some.inj hj;exact p7
         | 8,hj=>obtain rfl:=Option.some.inj hj;exact p8
         | 9,hj=>obtain rfl:=Option.some.inj hj;exact p9
         | 10,hj=>obtain rfl:=Option.some.inj hj;exact p10
         | j+11,hj=>simp[jg] at hj
     · intro z hz;rcases List.mem_append.1 hz with hz | hz
       · exact hat z hz
       · obtain rfl:z=_:=List.mem_singleton.1 hz;exact js.at4 hp
   obtain⟨lx,e,hcell,hat⟩:=step l.length (Nat.le_refl _);rw[List.take_of_length_le (Nat.le_refl _)] at e;have hl:lx.length=len:=by rw[←h0,←e,List.length_map]
   exact⟨lx,e,⟨hl,h1,fun _ _=>trivial,.inr ⟨b,off,rfl,hb,hcell⟩⟩,hat⟩
theorem jkh:Kind 22 71 5 96:=by
 obtain⟨i,hi,hz,h1,h2⟩:=info_parts (show (Tryz.prog.info? 71).map (fun i=>(i.zero,i.size,i.bytes))=some (some (.agg #[.string ByteArray.empty,.slice none 0 0,.slice none 0 0,.slice none 0 0,.bool false]),5,96) by kernel_rfl);exact⟨i,_,Tryz.underlying22,hi,hz,h1,h2,rfl,by decide⟩
theorem jdM (a:Option Addr) (len cap:Nat) (lx:List NX) (w:World) (hr:jh zD w a len lx) (hc:len≤cap) (hm:cap≤maxLen) (hn:len≤100000) :
 Calls Tryz.prog 183 #[.slice a len cap] w fun e w'=>((e=.returned (.slice none 0 0)∧lx=[])∨∃g c,e=.returned (.slice (some ⟨g,0,none⟩) len c)∧Own zD 71 w' w.heap.size (.slice (some ⟨g,0,none⟩) len c) lx)∧Kept w w':=by
 have hl:=hr.1;have q22:∀(w:World) (a:Option Addr) (n c n' c':Nat),(binOp .eql 22 (.slice a n c) (.slice none n' c')).run Tryz.prog w=.ok (.bool a.isNone) w:=fun w a n c n' c'=>Lib.run_eql_slice_nil w _ _ a n c n' c' Tryz.underlying22
 cases a with
 | none =>
  have h0:len=0:=by
   rcases hr.form with h | ⟨b,off,h⟩
   · exact h
   · cases h
  subst h0;have hl0:lx=[]:=List.eq_nil_of_length_eq_zero hl;subst hl0;clear hr hl;go_enter Tryz.func183,Tryz.ntmps183;go_wp2;go_ret;exact⟨.inl ⟨rfl,by first | rfl | trivial⟩,Kept.refl _⟩
 | some ad =>
  have HR:=lH hr;have HL:=lH hl;have hrl:(jb zD lx).length=len*5:=by rw[jt,hl];rfl
  have hb1:0+len≤maxLen:=by unfold maxLen;omega
  have hb2:((0+len)+(0+len) / 4+192)*96≤281474976710656:=by omega
  clear hr hl;go_enter Tryz.func183,Tryz.ntmps183;go_wp2_with (at_builtin;refine jv jkh _ rfl (.tmp 5) (.tmp 6) rfl w.heap.size (by simp) w.heap.size 0 0 [] rfl (zl w w.heap.size 5 _ (Nat.le_refl _)) _ len (jb zD lx) rfl hrl (jB _ _) (jh.src (HR.out.kept (ja _ _))) hb1 hb2 ?_;intro g1 k1 W1 ho hd hg;have HO:=lH ho;have HD:=lH hd;clear ho hd hg;refine Hid.out ?_)
  refine lH ?_;simp only[Nat.zero_add,List.nil_append] at HO ⊢;go_wp2;go_ret;exact⟨.inr ⟨g1,k1,rfl,by rw[HL.out];exact HO.out,fun x _=>trivial⟩,Below.trans (ja w _) HD.out⟩
theorem jk1:Kind 23 35 11 184:=by
 obtain⟨i,hi,hz,h1,h2⟩:=info_parts (show (Tryz.prog.info? 35).map (fun i=>(i.zero,i.size,i.bytes))=some (some (.agg #[.string ByteArray.empty,.string ByteArray.empty,.int .i64 0,.slice none 0 0,.slice none 0 0,.slice none 0 0,.slice none 0 0,.string ByteArray.empty,.int .i64 0,.string ByteArray.empty,.bool false]),11,184) by kernel_rfl);exact⟨i,_,Tryz.underlying23,hi,hz,h1,h2,rfl,by decide⟩
theorem jdQ (a:Option Addr) (len cap:Nat) (lx:List PX) (w:World) (hr:jh jg w a len lx) (hc:len≤cap) (hm:cap≤maxLen) (hn:len≤100000) :
 Calls Tryz.prog 185 #[.slice a len cap] w fun e w'=>((e=.returned (.slice none 0 0)∧lx=[])∨∃g c,e=.returned (.slice (some ⟨g,0,none⟩) len c)∧Own jg 35 w' w.heap.size (.slice (some ⟨g,0,none⟩) len c) lx)∧Kept w w':=by
 have hl:=hr.1;have q22:∀(w:World) (a:Option Addr) (n c n' c':Nat),(binOp .eql 23 (.slice a n c) (.slice none n' c')).run Tryz.prog w=.ok (.bool a.isNone) w:=fun w a n c n' c'=>Lib.run_eql_slice_nil w _ _ a n c n' c' Tryz.underlying23
 cases a with
 | none =>
  have h0:len=0:=by
   rcases hr.form with h | ⟨b,off,h⟩
   · exact h
   · cases h
  subst h0;have hl0:lx=[]:=List.eq_nil_of_length_eq_zero hl;subst hl0;clear hr hl;go_enter Tryz.func185,Tryz.ntmps185;go_wp2;go_ret;exact⟨.inl ⟨rfl,by first | rfl | trivial⟩,Kept.refl _⟩
 | some ad =>
  have HR:=lH hr;have HL:=lH hl;have hrl:(jb jg lx).length=len*11:=by rw[jt,hl];rfl
  have hb1:0+len≤maxLen:=by unfold maxLen;omega
  have hb2:((0+len)+(0+len) / 4+192)*184≤281474976710656:=by omega
  clear hr hl;go_enter Tryz.func185,Tryz.ntmps185;go_wp2_with (at_builtin;refine jv jk1 _ rfl (.tmp 5) (.tmp 6) rfl w.heap.size (by simp) w.heap.size 0 0 [] rfl (zl w w.heap.size 11 _ (Nat.le_refl _)) _ len (jb jg lx) rfl hrl (jB _ _) (jh.src (HR.out.kept (ja _ _))) hb1 hb2 ?_;intro g1 k1 W1 ho hd hg;have HO:=lH ho;have HD:=lH hd;clear ho hd hg;refine Hid.out ?_)
  refine lH ?_;simp only[Nat.zero_add,List.nil_append] at HO ⊢;go_wp2;go_ret;exact⟨.inr ⟨g1,k1,rfl,by rw[HL.out];exact HO.out,fun x _=>trivial⟩,Below.trans (ja w _) HD.out⟩
theorem jkY:Kind 24 153 3 48:=by
 obtain⟨i,hi,hz,h1,h2⟩:=info_parts (show (Tryz.prog.info? 153).map (fun i=>(i.zero,i.size,i.bytes))=some (some (.agg #[.string ByteArray.empty,.slice none 0 0,.int .i64 0]),3,48) by kernel_rfl);exact⟨i,_,Tryz.underlying24,hi,hz,h1,h2,rfl,by decide⟩
theorem jdK (a:Option Addr) (len cap:Nat) (lx:List BX) (w:World) (hr:jh zt w a len lx) (hc:len≤cap) (hm:cap≤maxLen) (hn:len≤100000) :
 Calls Tryz.prog 186 #[.slice a len cap] w fun e w'=>((e=.returned (.slice none 0 0)∧lx=[])∨∃g c,e=.returned (.slice (some ⟨g,0,none⟩) len c)∧Own zt 153 w' w.heap.size (.slice (some ⟨g,0,none⟩) len c) lx)∧Kept w w':=by
 have hl:=hr.1;have q22:∀(w:World) (a:Option Addr) (n c n' c':Nat),(binOp .eql 24 (.slice a n c) (.slice none n' c')).run Tryz.prog w=.ok (.bool a.isNone) w:=fun w a n c n' c'=>Lib.run_eql_slice_nil w _ _ a n c n' c' Tryz.underlying24
 cases a with
 | none =>
  have h0:len=0:=by
   rcases hr.form with h | ⟨b,off,h⟩
   · exact h
   · cases h
  subst h0;have hl0:lx=[]:=List.eq_nil_of_length_eq_zero hl;subst hl0;clear hr hl;go_enter Tryz.func186,Tryz.ntmps186;go_wp2;go_ret;exact⟨.inl ⟨rfl,by first | rfl | trivial⟩,Kept.refl _⟩
 | some ad =>
  have HR:=lH hr;have HL:=lH hl;have hrl:(jb zt lx).length=len*3:=by rw[jt,hl];rfl
  have hb1:0+len≤maxLen:=by unfold maxLen;omega
  have hb2:((0+len)+(0+len) / 4+192)*48≤281474976710656:=by omega
  clear hr hl;go_enter Tryz.func186,Tryz.ntmps186;go_wp2_with (at_builtin;refine jv jkY _ rfl (.tmp 5) (.tmp 6) rfl w.heap.size (by simp) w.heap.size 0 0 [] rfl (zl w w.heap.size 3 _ (Nat.le_refl _)) _ len (jb zt lx) rfl hrl (jB _ _) (jh.src (HR.out.kept (ja _ _))) hb1 hb2 ?_;intro g1 k1 W1 ho hd hg;have HO:=lH ho;have HD:=lH hd;clear ho hd hg;refine Hid.out ?_)
  refine lH ?_;simp only[Nat.zero_add,List.nil_append] at HO ⊢;go_wp2;go_ret;exact⟨.inr ⟨g1,k1,rfl,by rw[HL.out];exact HO.out,fun x _=>trivial⟩,Below.trans (ja w _) HD.out⟩
end Go.Proofs.YtmlgobiifebjkabGreat
