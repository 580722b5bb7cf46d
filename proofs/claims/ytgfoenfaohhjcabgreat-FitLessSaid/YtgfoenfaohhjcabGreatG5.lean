/- What serves all packages,and package by package the contracts of the functions that the law calls. -/
import Derived.Test.YtgfoenfaohhjcabGreatG0
import Derived.Test.YtgfoenfaohhjcabGreatG1
import Derived.Test.YtgfoenfaohhjcabGreatG2
import Derived.Test.YtgfoenfaohhjcabGreatG3
import Derived.Test.YtgfoenfaohhjcabGreatG4
set_option linter.unusedVariables false
set_option maxRecDepth 100000
set_option maxHeartbeats 25600000
namespace Go.Proofs.YtgfoenfaohhjcabGreat
open Go.RowKit Go.Shelf
def SkR (o:Option Int) (w:World) (e:Ending) (w':World):Prop:=(∀z,o=some z→e=.returned (.int .i64 z))∧(o=none→e=.panicked [zk 3])∧Kept w w'
theorem XC (B:Nat) (q:Nat) (x y:Int) (w:World) (hq:w.cell? ⟨q,0,none⟩=some (.int .i64 y)) (hzq:w.frozen? ⟨q,0,none⟩=false) (hBq:B≤q) :
 CallsD Tryz.prog 188 #[.pointer (some ⟨q,0,none⟩)] (.panicking [zk x]) w fun e u' w' =>
  e=.returned (.tuple #[])∧u'=.panicking [{ zk x with recovered:=true }]∧w'=w.setCell ⟨q,0,none⟩ (.int .i64 x)∧w'.cell? ⟨q,0,none⟩=some (.int .i64 x)∧Below B w w':=by
 have hta:∀W,(Instr.typeAssert (.iface 49 (.int .i64 x)) 20 49 false).run Tryz.prog W=.ok (.int .i64 x) W:=fun _=>by kernel_rfl
 refine callsD_of_wpS Tryz.func188 rfl fun c₀ cs hu=>?_;apply wpS_seq;apply wpS_region;simp[wpOpsS,go_sem,recoverD,hu,Tryz.ntmps188,Exit.thenS];apply wpS_seq;apply wpS_region;simp[wpOpsS,go_sem,recoverD,Exit.thenS];refine wpS_cond (t:=true) (by simp[Act.eval,Array.replicate]) ?_;simp only[if_true];refine wpS_of_wp ?_;simp[Array.replicate];go_wp2;simp[bodyPostS,results,Tryz.results188];exact⟨World.cell?_setCell_same' _ _ _ (by rw[hq];rfl),(Below.refl B w).setCell (p:=⟨q,0,none⟩) hBq _⟩
theorem jbx (q:Addr) (w:World) :
 CallsD Tryz.prog 188 #[.pointer (some q)] .returning w fun e u' w'=>e=.returned (.tuple #[])∧u'=.returning∧w'=w:=by
 refine callsD_of_wpS Tryz.func188 rfl fun c₀ cs hu=>?_;apply wpS_seq;apply wpS_region;simp[wpOpsS,go_sem,recoverD,hu,Tryz.ntmps188,Exit.thenS];apply wpS_seq;apply wpS_region;simp[wpOpsS,go_sem,recoverD,hu,Exit.thenS];refine wpS_cond (t:=false) (by simp[Act.eval,Array.replicate]) ?_;simp only[Bool.false_eq_true,if_false];refine wpS_of_wp (wp_skip ?_)
 cases c₀
 simp_all [bodyPostS,results,Tryz.results188]
theorem jbX (Q1 Q2 Q3:Nat) (o:Option Int) (w:World) (hk:∀W,Kept w W→Calls Tryz.prog 177 #[.pointer (some ⟨Q1,0,none⟩),.pointer (some ⟨Q2,0,none⟩),.pointer (some ⟨Q3,0,none⟩)] W (SkR o W)) :
 Calls Tryz.prog 176 #[.func (.func 177) #[] #[.pointer (some ⟨Q1,0,none⟩),.pointer (some ⟨Q2,0,none⟩),.pointer (some ⟨Q3,0,none⟩)]] w fun e w'=>e=.returned (.tuple #[.int .i64 (o.getD 0),.int .i64 (if o.isSome=true then 0 else 3)])∧Kept w w':=by
 have hmf:=hmfL (P:=Tryz.prog);obtain⟨Z,hZ⟩:∃Z,w.alloc (.cells #[.int .i64 0] 49)=Z:=⟨_,rfl⟩
 have hkz:Kept w Z:=by rw[←hZ];exact ja _ _
 have HK:=lH hkz;have HZE:=lH (jc w (.int .i64 0) [] 49 Z (by rw[hZ];exact Kept.refl _));have HKC:=lH (hk Z hkz);clear hk hkz;go_enter_defers Tryz.func176,Tryz.ntmps176
 go_wp2_with fail
 try rw[hZ]
 refine HKC.out.mono ?_;rintro e1 w1 ⟨h0,h1,hb⟩;have KK:=lH (HK.out.trans hb);have HE1:=lH (HZE.out.kept hb);have ze:=HE1.out.at_ 0 _ rfl;have zf:=HE1.out.free 0
 cases o with
 | some z =>
  obtain rfl:=h0 z rfl;clear h0 h1 hb hZ;go_wp2_with fail
  have FE:=lH (HE1.out.set (j:=0) (u:=.int .i64 0) (by simp));have KF:=lH (show Kept w (w1.setCell ⟨w.heap.size,0,none⟩ (.int .i64 0)) from KK.out.setCell (p:=⟨w.heap.size,0,none⟩) (Nat.le_refl _) _);obtain⟨WF,hWF⟩:∃W,w1.setCell ⟨w.heap.size,0,none⟩ (.int .i64 0)=W:=⟨_,rfl⟩
  rw[hWF] at FE KF ⊢;have fe:=FE.out.at_ 0 _ rfl;clear hWF ze zf;refine leaves_cons (f:=188) (args:=#[.pointer (some ⟨w.heap.size,0,none⟩)]) (by simp) (by simp[go_sem]) ?_;refine(jbx ⟨w.heap.size,0,none⟩ _).mono ?_;rintro e u' w'' ⟨rfl,rfl,rfl⟩;simp[Leaves,settle,results,Tryz.results176,go_sem,fe];exact KF.out
 | none =>
  obtain rfl:=h1 rfl;clear h0 h1 hb hZ;go_wp2_with fail
  refine leaves_cons (f:=188) (args:=#[.pointer (some ⟨w.heap.size,0,none⟩)]) (by simp) (by simp[go_sem]) ?_;refine(XC w.heap.size w.heap.size 3 0 _ ze zf (Nat.le_refl _)).mono ?_;rintro e u' w'' ⟨rfl,rfl,rfl,q2,q3⟩;have KF:=lH (show Kept w _ from Below.trans KK.out q3);obtain⟨WF,hWF⟩:∃W,w1.setCell ⟨w.heap.size,0,none⟩ (.int .i64 3)=W:=⟨_,rfl⟩
  rw[hWF] at q2 KF ⊢;clear hWF q3 ze zf;simp[Leaves,settle,results,Tryz.results176,go_sem,q2];exact KF.out
theorem jex (Q1 Q2 Q3:Nat) (s1 s2 s3 a1 a2 a3 a4:Option Addr) (n1 e1 n2 e2 n3 e3 m1 c1 m2 c2 m3 c3 m4 c4:Nat) (p:Pd) (s:Clu) (name:ByteArray) (w:World) (hq1:je Q1 [.slice s1 n1 e1,.slice s2 n2 e2,.slice s3 n3 e3] w) (hq2:je Q2 [.string p.name,.string p.owner,.int .i64 p.prio,.slice a1 m1 c1,.slice a2 m2 c2,.slice a3 m3 c3,.slice a4 m4 c4,.string p.key,.int .i64 p.most,.string p.node,.bool p.hold] w) (hq3:je Q3 [.string name] w) (hn:js w s1 n1 s.nodes) (hp:jC w s2 n2 s.pods) (hb1:n1≤100000) (hb2:n2≤100000) :
 Calls Tryz.prog 177 #[.pointer (some ⟨Q1,0,none⟩),.pointer (some ⟨Q2,0,none⟩),.pointer (some ⟨Q3,0,none⟩)] w (SkR ((domV p.key name s.nodes).map (ZJ p s)) w):=by
 have HS:=lH (jdp s1 s2 s3 a1 a2 a3 a4 n1 e1 n2 e2 n3 e3 m1 c1 m2 c2 m3 c3 m4 c4 p s name w hn hp hb1 hb2);unfold jG at HS;have y0:=hq1.at_ 0 _ rfl;have y1:=hq1.at_ 1 _ rfl;have y2:=hq1.at_ 2 _ rfl;have r0:=hq2.at_ 0 _ rfl;have r1:=hq2.at_ 1 _ rfl;have r2:=hq2.at_ 2 _ rfl;have r3:=hq2.at_ 3 _ rfl;have r4:=hq2.at_ 4 _ rfl;have r5:=hq2.at_ 5 _ rfl;have r6:=hq2.at_ 6 _ rfl;have r7:=hq2.at_ 7 _ rfl;have r8:=hq2.at_ 8 _ rfl;have r9:=hq2.at_ 9 _ rfl;have r10:=hq2.at_ 10 _ rfl;have z0:=hq3.at_ 0 _ rfl;clear hq1 hq2 hq3 hn hp;go_enter Tryz.func177,Tryz.ntmps177;go_wp2_with fail
 refine HS.out.mono ?_;rintro e w1 ⟨h1,h2,kk⟩;have K:=lH kk;clear kk HS y0 y1 y2 r0 r1 r2 r3 r4 r5 r6 r7 r8 r9 r10 z0
 cases ho:domV p.key name s.nodes with
 | none =>
  obtain rfl:=h2 ho;have HO:=lH ho;clear h1 h2 ho;go_wp2;exact⟨rfl,(fun z e=>by cases e),(fun _=>rfl),K.out⟩
 | some d =>
  obtain rfl:=h1 d ho;have HO:=lH ho;clear h1 h2 ho;obtain⟨z,hz⟩:∃z,ZJ p s d=z:=⟨_,rfl⟩
  rw[hz];have HZ:=lH hz;clear hz;go_wp2;go_ret;exact⟨(fun y e=>by rw[HO.out] at e;cases e;exact congrArg (fun z=>Ending.returned (.int .i64 z)) HZ.out.symm),(fun e=>by rw[HO.out] at e;cases e),K.out⟩
theorem jeX (s1 s2 s3 a1 a2 a3 a4:Option Addr) (n1 e1 n2 e2 n3 e3 m1 c1 m2 c2 m3 c3 m4 c4:Nat) (p:Pd) (s:Clu) (name:ByteArray) (w:World) (hn:js w s1 n1 s.nodes) (hp:jC w s2 n2 s.pods) (hb1:n1≤100000) (hb2:n2≤100000) :
 Calls Tryz.prog 157 #[.agg #[.slice s1 n1 e1,.slice s2 n2 e2,.slice s3 n3 e3],jG p (.slice a1 m1 c1) (.slice a2 m2 c2) (.slice a3 m3 c3) (.slice a4 m4 c4),.string name] w (Say (.tuple #[.int .i64 (JC p s name).1,.bool (JC p s name).2]) w):=by
 have hmf:=hmfL (P:=Tryz.prog);obtain⟨Y,hY⟩:∃Y,(w.alloc (.cells #[.slice s1 n1 e1,.slice s2 n2 e2,.slice s3 n3 e3] 26)).alloc (.cells #[.string p.name,.string p.owner,.int .i64 p.prio,.slice a1 m1 c1,.slice a2 m2 c2,.slice a3 m3 c3,.slice a4 m4 c4,.string p.key,.int .i64 p.most,.string p.node,.bool p.hold] 35)=Y:=⟨_,rfl⟩
 have hky:Kept w Y:=by rw[←hY];exact jr _ _ _
 have hys:Y.heap.size=w.heap.size+2:=by rw[←hY];simp
 have hsb:=jc w (.slice s1 n1 e1) [.slice s2 n2 e2,.slice s3 n3 e3] 26 Y (by rw[←hY];exact ja _ _);have hpb:je (w.heap.size+1) [.string p.name,.string p.owner,.int .i64 p.prio,.slice a1 m1 c1,.slice a2 m2 c2,.slice a3 m3 c3,.slice a4 m4 c4,.string p.key,.int .i64 p.most,.string p.node,.bool p.hold] Y:=by
  have dd:=jc (w.alloc (.cells #[.slice s1 n1 e1,.slice s2 n2 e2,.slice s3 n3 e3] 26)) (.string p.name) [.string p.owner,.int .i64 p.prio,.slice a1 m1 c1,.slice a2 m2 c2,.slice a3 m3 c3,.slice a4 m4 c4,.string p.key,.int .i64 p.most,.string p.node,.bool p.hold] 35 Y (by rw[hY];exact Kept.refl _);rw[World.size_alloc] at dd;exact dd
 obtain⟨Z,hZ⟩:∃Z,Y.alloc (.cells #[.string name] 9)=Z:=⟨_,rfl⟩
 have hkz:Kept Y Z:=by rw[←hZ];exact ja _ _
 have hnb:je (w.heap.size+2) [.string name] Z:=by
  have dd:=jc Y (.string name) [] 9 Z (by rw[hZ];exact Kept.refl _);rw[hys] at dd;exact dd
 have hYZ:((w.alloc (.cells #[.slice s1 n1 e1,.slice s2 n2 e2,.slice s3 n3 e3] 26)).alloc (.cells #[.string p.name,.string p.owner,.int .i64 p.prio,.slice a1 m1 c1,.slice a2 m2 c2,.slice a3 m3 c3,.slice a4 m4 c4,.string p.key,.int .i64 p.most,.string p.node,.bool p.hold] 35)).alloc (.cells #[.string name] 9)=Z:=by rw[hY];exact hZ
 have HSB:=lH (hsb.kept hkz);have HPB:=lH (hpb.kept hkz);have HNB:=lH hnb;have K:=lH (hky.trans hkz);have HN:=lH (hn.kept (hky.trans hkz));have HP:=lH (hp.kept (hky.trans hkz));clear hn hp hky hkz hys hsb hpb hnb hY hZ;obtain⟨t0,h0⟩:∃t,(p.key.toList==([]:List UInt8))=t:=⟨_,rfl⟩
 have HI:=lH (show Jt p.key=t0 by rw[J6,h0]);have r7:=HPB.out.at_ 7 _ rfl;unfold jG;go_enter Tryz.func157,Tryz.ntmps157
 cases t0 with
 | true =>
  have HV:=lH (show JC p s name=(0,true) by unfold JC;rw[if_pos HI.out]);go_wp2;try rw[hYZ]
  go_ret2
  rw[HV.out];exact⟨rfl,by first | exact K.out | (rw[hYZ];exact K.out)⟩
 | false =>
  have HC:=lH (jbX w.heap.size (w.heap.size+1) (w.heap.size+2) ((domV p.key name s.nodes).map (ZJ p s)) Z fun W k=>jex w.heap.size (w.heap.size+1) (w.heap.size+2) s1 s2 s3 a1 a2 a3 a4 n1 e1 n2 e2 n3 e3 m1 c1 m2 c2 m3 c3 m4 c4 p s name W (HSB.out.kept k) (HPB.out.kept k) (HNB.out.kept k) (HN.out.kept k) (HP.out.kept k) hb1 hb2);have HV:=lH (show JC p s name=(((domV p.key name s.nodes).map (ZJ p s)).getD 0,((domV p.key name s.nodes).map (ZJ p s)).isSome) by
   unfold JC;rw[if_neg (by rw[HI.out];decide)]
   cases domV p.key name s.nodes<;>rfl)
  obtain⟨o,ho⟩:∃o,(domV p.key name s.nodes).map (ZJ p s)=o:=⟨_,rfl⟩
  rw[ho] at HC HV;clear ho;go_upto_region 3 with fail
  try rw[hYZ]
  clear hYZ r7 h0;go_wp2_with fail
  refine HC.out.mono ?_;rintro e w1 ⟨rfl,kk⟩;have K:=lH (K.out.trans kk);clear kk
  cases o with
  | none =>
   have HW:=lH (show JC p s name=(0,false) from HV.out);go_wp2;go_ret2
   rw[HW.out];exact⟨rfl,K.out⟩
  | some z =>
   have HW:=lH (show JC p s name=(z,true) from HV.out);go_wp2;go_ret2
   rw[HW.out];exact⟨rfl,K.out⟩
open Go.RowKit
theorem Y9 (a a9:Option Addr) (len cap cap9:Nat) (l:List ByteArray) (w:World) (hr:jk zc w a len l) (hr9:jk zc w a9 len l) :
 Calls Tryz.prog 22 #[.slice a len cap,.slice a9 len cap9] w fun e w'=>e=.returned (.bool true)∧Kept w w':=by
 have hl:=hr.1;have hm:=hr.2.1;unfold maxLen at hm;by_cases h0:len=0
 · subst h0;clear hr hl hr9;go_enter Tryz.func22,Tryz.ntmps22;go_wp2;refine wp_loop_rounds 1 ?_;rw[rounds_succ];go_wp2;go_ret;exact⟨rfl,Kept.refl _⟩
 · obtain⟨b,off,rfl⟩:∃b off,a=some ⟨b,off,none⟩:=by
    rcases hr.form with h | h
    · exact absurd h h0
    · exact h
   obtain⟨b9,off9,rfl⟩:∃b off,a9=some ⟨b,off,none⟩:=by
    rcases hr9.form with h | h
    · exact absurd h h0
    · exact h
   have HR:=lH hr;have HR9:=lH hr9;clear hr hl hr9 h0;go_enter Tryz.func22,Tryz.ntmps22;go_wp2;go_loopw [5] (fun i wr=>∃k:Nat,k≤len∧i=.int .i64 k∧Kept w wr) (fun i _=>len-(intOf i).toNat)
   case atStart=>exact⟨0,Nat.zero_le _,rfl,Kept.refl _⟩
   case round =>
    obtain⟨k,hk,rfl,hK⟩:=hrel;have HK:=lH hK;by_cases hlt:k<len
    · obtain⟨x,hx,hd,hb,hz,c1⟩:=(HR.out.kept hK).str hlt;obtain⟨x9,hx9,_,hb9,_,d1⟩:=(HR9.out.kept hK).str hlt;obtain rfl:x=x9:=by rw[hx] at hx9;exact Option.some.inj hx9
      clear hx hd hx9 hK;go_wp2;go_quiet (fail)
      go_wp2;go_roundw
      case rel=>exact⟨k+1,by omega,by go_num,HK.out.trans (Kept.drewN _ _)⟩
      case measure=>simp[intOf];omega
    · clear hK;go_wp2;go_ret;exact⟨rfl,HK.out⟩
theorem jem {v v9:Value} {l:List ByteArray} {w:World} (h:Reads zc w v l) (h9:Reads zc w v9 l):Calls Tryz.prog 22 #[v,v9] w (Say (.bool true) w):=by
 obtain⟨a,cap,rfl,_,_,hr⟩:=h;obtain⟨a9,cap9,rfl,_,_,hr9⟩:=h9;exact Y9 a a9 _ cap cap9 l w hr hr9
theorem jfl (x:ByteArray) (u:Value) (h:u ∈ [Value.string x]):u.oneCell'=true:=YT x u h
theorem jgo:(Tryz.prog.info? 9).map (fun i=>(i.zero,i.size,i.bytes))=some (some (.string ByteArray.empty),1,16):=by kernel_rfl
def JP (n:Nod):Bool:=decide (n.name.size≤50)&&(Vec.Zw n.cap&&(Zi n.labels&&Jl n.taints))
theorem jf7 {n:Nod} (h:JP n=true):zZ n:=by
 unfold JP at h;simp only[Bool.and_eq_true,decide_eq_true_eq] at h;obtain⟨_,h1,h2,h3⟩:=h;refine⟨?_,?_,?_⟩
 · unfold Vec.Zw at h1;simp only[Bool.and_eq_true,decide_eq_true_eq] at h1;omega
 · unfold Zi at h2;simp only[Bool.and_eq_true,decide_eq_true_eq] at h2;omega
 · have:=(jcB h3).1;omega
theorem jdl (n:Nod) (v1 v2 v3:Value) (w:World) (h:zq w v1 v2 v3 n) :
 Calls Tryz.prog 55 #[zE n v1 v2 v3] w (Say (.bool (JP n)) w):=by
 have HB:=lH (show ∀W,Kept (w.alloc (.cells #[.string n.name,v1,v2,v3,.bool n.cordon] 65)) W→W.cell? ⟨w.heap.size,0,none⟩=some (.string n.name)∧W.cell? ⟨w.heap.size,1,none⟩=some v1∧W.cell? ⟨w.heap.size,2,none⟩=some v2∧W.cell? ⟨w.heap.size,3,none⟩=some v3∧W.cell? ⟨w.heap.size,4,none⟩=some (.bool n.cordon) from fun W k=>(ZP w _ _ _ _ _ 65 W k).1);have H:=lH (h.kept (ja w (.cells #[.string n.name,v1,v2,v3,.bool n.cordon] 65)));obtain⟨⟨nm,l1,l2,l3,cd⟩,hnn⟩:∃m,m=n:=⟨n,rfl⟩
 subst hnn;have hsz:nm.size≤maxLen:=h.size;unfold maxLen at hsz;obtain⟨b1,hb1⟩:∃b,Vec.Zw l1=b:=⟨_,rfl⟩
 obtain⟨b2,hb2⟩:∃b,Zi l2=b:=⟨_,rfl⟩
 obtain⟨b3,hb3⟩:∃b,Jl l3=b:=⟨_,rfl⟩
 have HV:=lH (show JP ⟨nm,l1,l2,l3,cd⟩=(decide (nm.size≤50)&&(b1&&(b2&&b3))) by unfold JP;dsimp only;rw[hb1,hb2,hb3]);have H1:=lH (Vec.ja3 H.out.cap hb1);have H2:=lH (show Calls Tryz.prog 26 #[v2] _ fun e w'=>e=.returned (.bool b2)∧_=w' by rw[←hb2];exact ja3 H.out.labels);have H3:=lH (show Calls Tryz.prog 95 #[v3] _ fun e w'=>e=.returned (.bool b3)∧_=w' by rw[←hb3];exact jgK H.out.taints);clear h hb1 hb2 hb3 H;dsimp only at HB H1 H2 H3;obtain⟨y0,y1,y2,y3,y4⟩:=HB.out _ (Kept.refl _);unfold zE;dsimp only;by_cases hs:nm.size≤50
 · have hs':decide (nm.size≤50)=true:=decide_eq_true hs;have hsi:(nm.size:Int)≤50:=by omega
   cases b1 with
   | false =>
    go_enter Tryz.func55,Tryz.ntmps55;go_wp2_with fail
    refine H1.out.mono ?_;rintro e w' ⟨rfl,rfl⟩;go_wp2;go_ret;exact⟨jd (by rw[HV.out,hs'];rfl),ja _ _⟩
   | true =>
    cases b2 with
    | false =>
     go_enter Tryz.func55,Tryz.ntmps55;go_wp2_with fail
     refine H1.out.mono ?_;rintro e w' ⟨rfl,rfl⟩;go_wp2_with fail
     refine H2.out.mono ?_;rintro e w' ⟨rfl,rfl⟩;go_wp2;go_ret;exact⟨jd (by rw[HV.out,hs'];rfl),ja _ _⟩
    | true =>
     go_enter Tryz.func55,Tryz.ntmps55;go_wp2_with fail
     refine H1.out.mono ?_;rintro e w' ⟨rfl,rfl⟩;go_wp2_with fail
     refine H2.out.mono ?_;rintro e w' ⟨rfl,rfl⟩;go_wp2_with fail
     refine H3.out.mono ?_;rintro e w' ⟨rfl,rfl⟩;go_wp2;go_ret;exact⟨jd (by rw[HV.out,hs'];cases b3<;>rfl),ja _ _⟩
 · have hs':decide (nm.size≤50)=false:=decide_eq_false hs;have hsi:(50:Int)<(nm.size:Int):=by omega
   go_enter Tryz.func55,Tryz.ntmps55;go_wp2;go_ret;exact⟨jd (by rw[HV.out,hs'];rfl),ja _ _⟩
theorem jfS {v:Value} {n:Nod} {b:Bool} {w:World} (h:XQ w v n) (hb:JP n=b):Calls Tryz.prog 55 #[v] w (Say (.bool b) w):=by
 subst hb;obtain⟨v1,v2,v3,rfl,h⟩:=h;exact jdl n v1 v2 v3 w h
theorem jcW {l:PL} (h:Zi l=true):l.length≤20∧∀x ∈ l,x.1.size≤50∧x.2.size≤50:=by
 unfold Zi at h;simp only[Bool.and_eq_true,decide_eq_true_eq,List.all_eq_true] at h;refine⟨h.1,fun x hx=>?_⟩;have:=h.2 x hx;unfold ZD at this;simpa only[Bool.and_eq_true,decide_eq_true_eq] using this
theorem jdm {l:TL} (h:Zg l=true):l.length≤20∧∀x ∈ l,x.2.1.size≤50∧x.2.2.size≤50:=by
 unfold Zg at h;simp only[Bool.and_eq_true,decide_eq_true_eq,List.all_eq_true] at h;refine⟨h.1,fun x hx=>?_⟩;have:=h.2 x hx;unfold ZF at this;simpa only[Bool.and_eq_true,decide_eq_true_eq] using this
def zK (n:Pd):Bool:=decide (n.name.size≤50)&&(decide (n.owner.size≤50)&&(decide (n.key.size≤50)&&(decide (n.node.size≤50)&&(Vec.Zw n.need&&(Zi n.labels&&(Zg n.sel&&Jl n.tols))))))
theorem jcc {n:Pd} (h:zK n=true):n.name.size≤50∧n.owner.size≤50∧n.key.size≤50∧n.node.size≤50∧Vec.Zw n.need=true∧Zi n.labels=true∧Zg n.sel=true∧Jl n.tols=true:=by
 unfold zK at h;simpa only[Bool.and_eq_true,decide_eq_true_eq] using h
def Z3 (n:Bd):Bool:=decide (n.name.size≤50)&&Zg n.sel
def JG (l:List Bd):Bool:=decide (l.length≤20)&&l.all Z3
theorem ja5 {l:List Bd} {n:Bd} {k:Nat} (h:l[k]?=some n) (g:Z3 n=false):JG l=false:=by
 unfold JG;have:l.all Z3=false:=by
  rw[List.all_eq_false];exact⟨n,List.mem_of_getElem? h,by rw[g];decide⟩
 rw[this];simp
theorem jeu (a:Option Addr) (len cap:Nat) (l:List Bd) (w:World) (hr:zI w a len l) :
 Calls Tryz.prog 54 #[.slice a len cap] w (Say (.bool (JG l)) w):=by
 have hl:=hr.1;have hm:=hr.2.1;unfold maxLen at hm;by_cases h20:20<len
 · have HV:=lH (show JG l=false by unfold JG;rw[hl];simp;omega);clear hr hl;go_enter Tryz.func54,Tryz.ntmps54;go_wp2;go_ret;exact⟨jd HV.out.symm,Kept.refl _⟩
 · have h20':len≤20:=by omega
   by_cases h0:len=0
   · subst h0;have HV:=lH (show JG l=true by rw[List.eq_nil_of_length_eq_zero hl];rfl);clear hr hl h20;go_enter Tryz.func54,Tryz.ntmps54;go_wp2;refine wp_loop_rounds 1 ?_;rw[rounds_succ];go_wp2;go_ret;exact⟨jd HV.out.symm,Kept.refl _⟩
   · obtain⟨b,off,rfl⟩:=hr.form.resolve_left h0;have HR:=lH hr;have HL:=lH hl;clear hr hl h0 h20;go_enter Tryz.func54,Tryz.ntmps54;go_wp2;go_loopw [3] (fun i wr=>∃k:Nat,k≤len∧i=.int .i64 k∧(∀n ∈ l.take k,Z3 n=true)∧Kept w wr) (fun i _=>len-(intOf i).toNat)
     case atStart=>exact⟨0,Nat.zero_le _,rfl,(fun n h=>by cases h),Kept.refl _⟩
     case round =>
      obtain⟨k,hk,rfl,hrest,hK⟩:=hrel;have HS:=lH hrest;have HK:=lH hK;by_cases hlt:k<len
      · obtain⟨n,a1,m1,c1,hn,hd,hb,p0,p1,p2,hat⟩:=(HR.out.kept hK).at_ hlt;have HN:=lH hn;have HAT:=lH hat;clear hrest hK hat hd hn;by_cases z:50<n.name.size
        · have z1:(50:Int)<(n.name.size:Int):=by omega
          have HV:=lH (show JG l=false from ja5 HN.out (by unfold Z3;simp;omega));clear z;go_wp2;go_ret;exact⟨jd HV.out.symm,HK.out⟩
        · have z1:(n.name.size:Int)≤50:=by omega
          have Z2:=lH (show n.name.size≤50 by omega);clear z
          cases f:Zg n.sel with
          | false =>
           have HV:=lH (show JG l=false from ja5 HN.out (by unfold Z3;rw[f];simp));have HF:=lH (qP HAT.out.sel);rw[f] at HF;clear f;go_wp2_with fail
           refine HF.out.mono ?_;rintro e w1 ⟨rfl,rfl⟩;go_wp2;go_ret;exact⟨jd HV.out.symm,HK.out⟩
          | true =>
           have HV:=lH (show Z3 n=true by unfold Z3;rw[f];simp;exact Z2.out);have HF:=lH (qP HAT.out.sel);rw[f] at HF;clear f;go_wp2_with fail
           refine HF.out.mono ?_;rintro e w1 ⟨rfl,rfl⟩;go_wp2;go_roundw
           case rel=>exact⟨k+1,by omega,by go_num,(fun x hx=>by
            rw[zw HN.out] at hx;rcases List.mem_append.1 hx with hx | hx
            · exact HS.out x hx
            · obtain rfl:x=n:=by simpa using hx
              exact HV.out),HK.out⟩
           case measure=>simp[intOf];omega
      · have HV:=lH (show JG l=true by
         have e:l.take k=l:=List.take_of_length_le (by rw[HL.out];omega);rw[e] at hrest;unfold JG;rw[List.all_eq_true.2 hrest,HL.out];simp;omega)
        clear hrest hK;go_wp2;go_ret;exact⟨jd HV.out.symm,HK.out⟩
theorem jgA {v:Value} {l:List Bd} {c:Bool} {w:World} (h:Ji w v l) (hc:JG l=c):Calls Tryz.prog 54 #[v] w (Say (.bool c) w):=by
 subst hc;obtain⟨a,cap,rfl,_,_,hr⟩:=h;exact jeu a _ cap l w hr
theorem jdw (n:Pd) (v1 v2 v3 v4:Value) (w:World) (h:jB w v1 v2 v3 v4 n) :
 Calls Tryz.prog 9 #[jG n v1 v2 v3 v4] w (Say (.bool (zK n)) w):=by
 obtain⟨x0,x1,x2,l1,l2,l3,l4,x3,x4,x5,x6⟩:=n;obtain⟨W0,hW0⟩:∃W0,w.alloc (.cells #[.string x0,.string x1,.int .i64 x2,v1,v2,v3,v4,.string x3,.int .i64 x4,.string x5,.bool x6] 35)=W0:=⟨_,rfl⟩
 have hk0:Kept w W0:=by rw[←hW0];exact ja _ _
 have hc:=jc w (.string x0) [.string x1,.int .i64 x2,v1,v2,v3,v4,.string x3,.int .i64 x4,.string x5,.bool x6] 35 W0 (by rw[hW0];exact Kept.refl _);have s0:x0.size≤maxLen:=h.name;have s1:x1.size≤maxLen:=h.owner;have s2:x3.size≤maxLen:=h.key;have s3:x5.size≤maxLen:=h.node;unfold maxLen at s0 s1 s2 s3;obtain⟨b0,hb0⟩:∃b,decide (x0.size≤50)=b:=⟨_,rfl⟩
 obtain⟨b1,hb1⟩:∃b,decide (x1.size≤50)=b:=⟨_,rfl⟩
 obtain⟨b2,hb2⟩:∃b,decide (x3.size≤50)=b:=⟨_,rfl⟩
 obtain⟨b3,hb3⟩:∃b,decide (x5.size≤50)=b:=⟨_,rfl⟩
 obtain⟨b4,hb4⟩:∃b,Vec.Zw l1=b:=⟨_,rfl⟩
 obtain⟨b5,hb5⟩:∃b,Zi l2=b:=⟨_,rfl⟩
 obtain⟨b6,hb6⟩:∃b,Zg l3=b:=⟨_,rfl⟩
 obtain⟨b7,hb7⟩:∃b,Jl l4=b:=⟨_,rfl⟩
 have HV0:=lH (show zK ⟨x0,x1,x2,l1,l2,l3,l4,x3,x4,x5,x6⟩=(b0&&(b1&&(b2&&(b3&&(b4&&(b5&&(b6&&b7))))))) by unfold zK;dsimp only;rw[hb0,hb1,hb2,hb3,hb4,hb5,hb6,hb7]);have E4:=lH (show Calls Tryz.prog 25 #[v1] W0 _ from Vec.ja3 (h.need.kept hk0) hb4);have E5:=lH (show Calls Tryz.prog 26 #[v2] W0 fun e w'=>e=.returned (.bool b5)∧W0=w' by rw[←hb5];exact ja3 (h.labels.kept hk0));have E6:=lH (show Calls Tryz.prog 27 #[v3] W0 fun e w'=>e=.returned (.bool b6)∧W0=w' by rw[←hb6];exact qP (h.sel.kept hk0));have E7:=lH (show Calls Tryz.prog 28 #[v4] W0 fun e w'=>e=.returned (.bool b7)∧W0=w' by rw[←hb7];exact jgT (h.tols.kept hk0));have HK0:=lH hk0;have g0:decide ((x0.size:Int)≤50)=b0:=by rw[←hb0];simp only[decide_eq_decide];omega
 have g1:decide ((x1.size:Int)≤50)=b1:=by rw[←hb1];simp only[decide_eq_decide];omega
 have g2:decide ((x3.size:Int)≤50)=b2:=by rw[←hb2];simp only[decide_eq_decide];omega
 have g3:decide ((x5.size:Int)≤50)=b3:=by rw[←hb3];simp only[decide_eq_decide];omega
 have c0:=hc.at_ 0 _ rfl;have c1:=hc.at_ 1 _ rfl;have c3:=hc.at_ 3 _ rfl;have c4:=hc.at_ 4 _ rfl;have c5:=hc.at_ 5 _ rfl;have c6:=hc.at_ 6 _ rfl;have c7:=hc.at_ 7 _ rfl;have c9:=hc.at_ 9 _ rfl;clear hk0 h hc hb0 hb1 hb2 hb3 hb4 hb5 hb6 hb7;unfold jG;dsimp only
 cases b0 with
 | false =>
  have g0:50<(x0.size:Int):=by have:=of_decide_eq_false g0;omega
  have HV:=lH (show zK ⟨x0,x1,x2,l1,l2,l3,l4,x3,x4,x5,x6⟩=false by rw[HV0.out];simp);go_enter Tryz.func9,Tryz.ntmps9;go_wp2;try rw[hW0]
  go_ret;exact⟨jd HV.out.symm,HK0.out⟩
 | true =>
  have g0:(x0.size:Int)≤50:=of_decide_eq_true g0
  cases b1 with
  | false =>
   have g1:50<(x1.size:Int):=by have:=of_decide_eq_false g1;omega
   have HV:=lH (show zK ⟨x0,x1,x2,l1,l2,l3,l4,x3,x4,x5,x6⟩=false by rw[HV0.out];simp);go_enter Tryz.func9,Tryz.ntmps9;go_wp2;try rw[hW0]
   go_ret;exact⟨jd HV.out.symm,HK0.out⟩
  | true =>
   have g1:(x1.size:Int)≤50:=of_decide_eq_true g1
   cases b2 with
   | false =>
    have g2:50<(x3.size:Int):=by have:=of_decide_eq_false g2;omega
    have HV:=lH (show zK ⟨x0,x1,x2,l1,l2,l3,l4,x3,x4,x5,x6⟩=false by rw[HV0.out];simp);go_enter Tryz.func9,Tryz.ntmps9;go_wp2;try rw[hW0]
    go_ret;exact⟨jd HV.out.symm,HK0.out⟩
   | true =>
    have g2:(x3.size:Int)≤50:=of_decide_eq_true g2
    cases b3 with
    | false =>
     have g3:50<(x5.size:Int):=by have:=of_decide_eq_false g3;omega
     have HV:=lH (show zK ⟨x0,x1,x2,l1,l2,l3,l4,x3,x4,x5,x6⟩=false by rw[HV0.out];simp);go_enter Tryz.func9,Tryz.ntmps9;go_wp2;try rw[hW0]
     go_ret;exact⟨jd HV.out.symm,HK0.out⟩
    | true =>
     have g3:(x5.size:Int)≤50:=of_decide_eq_true g3
     cases b4 with
     | false =>
      have HV:=lH (show zK ⟨x0,x1,x2,l1,l2,l3,l4,x3,x4,x5,x6⟩=false by rw[HV0.out];simp);go_enter Tryz.func9,Tryz.ntmps9;go_wp2_with fail
      try rw[hW0]
      refine E4.out.mono ?_;rintro e w9 ⟨rfl,rfl⟩;go_wp2;go_ret;exact⟨jd HV.out.symm,HK0.out⟩
     | true =>
      cases b5 with
      | false =>
       have HV:=lH (show zK ⟨x0,x1,x2,l1,l2,l3,l4,x3,x4,x5,x6⟩=false by rw[HV0.out];simp);go_enter Tryz.func9,Tryz.ntmps9;go_wp2_with fail
       try rw[hW0]
       refine E4.out.mono ?_;rintro e w9 ⟨rfl,rfl⟩;go_wp2_with fail
       refine E5.out.mono ?_;rintro e w9 ⟨rfl,rfl⟩;go_wp2;go_ret;exact⟨jd HV.out.symm,HK0.out⟩
      | true =>
       cases b6 with
       | false =>
        have HV:=lH (show zK ⟨x0,x1,x2,l1,l2,l3,l4,x3,x4,x5,x6⟩=false by rw[HV0.out];simp);go_enter Tryz.func9,Tryz.ntmps9;go_wp2_with fail
        try rw[hW0]
        refine E4.out.mono ?_;rintro e w9 ⟨rfl,rfl⟩;go_wp2_with fail
        refine E5.out.mono ?_;rintro e w9 ⟨rfl,rfl⟩;go_wp2_with fail
        refine E6.out.mono ?_;rintro e w9 ⟨rfl,rfl⟩;go_wp2;go_ret;exact⟨jd HV.out.symm,HK0.out⟩
       | true =>
        have HV:=lH (show zK ⟨x0,x1,x2,l1,l2,l3,l4,x3,x4,x5,x6⟩=b7 by rw[HV0.out];rfl);go_enter Tryz.func9,Tryz.ntmps9;go_wp2_with fail
        try rw[hW0]
        refine E4.out.mono ?_;rintro e w9 ⟨rfl,rfl⟩;go_wp2_with fail
        refine E5.out.mono ?_;rintro e w9 ⟨rfl,rfl⟩;go_wp2_with fail
        refine E6.out.mono ?_;rintro e w9 ⟨rfl,rfl⟩;go_wp2_with fail
        refine E7.out.mono ?_;rintro e w9 ⟨rfl,rfl⟩;go_wp2;go_ret;exact⟨jd HV.out.symm,HK0.out⟩
theorem jdy {v:Value} {n:Pd} {b:Bool} {w:World} (h:Z8 w v n) (hb:zK n=b):Calls Tryz.prog 9 #[v] w (Say (.bool b) w):=by
 subst hb;obtain⟨v1,v2,v3,v4,rfl,h⟩:=h;exact jdw n v1 v2 v3 v4 w h
def Yz (s:Clu):Bool:=decide (s.nodes.length≤34)&&(decide (s.pods.length≤130)&&(JG s.buds&&(s.nodes.all JP&&s.pods.all zK)))
theorem Y0 {a:Option Addr} {len cap:Nat} {l:List Nod} {w:World} (h1:len≤cap) (h2:cap≤maxLen) (h:js w a len l):zM w (.slice a len cap) l:=⟨a,cap,by rw[h.1],by rw[h.1];exact h1,h2,by rw[h.1];exact h⟩
theorem jct {a:Option Addr} {len cap:Nat} {l:List Pd} {w:World} (h1:len≤cap) (h2:cap≤maxLen) (h:jC w a len l):JB w (.slice a len cap) l:=⟨a,cap,by rw[h.1],by rw[h.1];exact h1,h2,by rw[h.1];exact h⟩
theorem qL {a:Option Addr} {len cap:Nat} {l:List Bd} {w:World} (h1:len≤cap) (h2:cap≤maxLen) (h:zI w a len l):Ji w (.slice a len cap) l:=⟨a,cap,by rw[h.1],by rw[h.1];exact h1,h2,by rw[h.1];exact h⟩
theorem jcD {α:Type} {f:α→Bool} {l:List α} {k:Nat} {x:α} (hd:l.drop k=x::l.drop (k+1)) (h:f x=true) (hr:(l.drop k).all f=l.all f):(l.drop (k+1)).all f=l.all f:=by
 rw[←hr,hd,List.all_cons,h,Bool.true_and]
theorem jbb {α:Type} {f:α→Bool} {l:List α} {k:Nat} {x:α} (hd:l.drop k=x::l.drop (k+1)) (h:f x=false) (hr:(l.drop k).all f=l.all f):l.all f=false:=by
 rw[←hr,hd,List.all_cons,h,Bool.false_and]
theorem jcp {α:Type} {f:α→Bool} {l:List α} {k:Nat} (h:l.length≤k) (hr:(l.drop k).all f=l.all f):l.all f=true:=by
 rw[←hr,List.drop_of_length_le h];rfl
theorem jgp {v:Value} {s:Clu} {c:Bool} {w:World} (h:jN w v s) (hc:Yz s=c):Calls Tryz.prog 23 #[v] w (Say (.bool c) w):=by
 subst hc;obtain⟨v1,v2,v3,rfl,⟨a,cap,rfl,l1,m1,h1⟩,⟨b,cp,rfl,l2,m2,h2⟩,⟨d,cb,rfl,l3,m3,h3⟩⟩:=h;obtain⟨nl,pl,bl⟩:=s;dsimp only at *;obtain⟨len,hlen⟩:∃q,nl.length=q:=⟨_,rfl⟩
 obtain⟨m,hm⟩:∃q,pl.length=q:=⟨_,rfl⟩
 obtain⟨n,hn⟩:∃q,bl.length=q:=⟨_,rfl⟩
 rw[hlen] at h1 l1;rw[hm] at h2 l2;rw[hn] at h3 l3;try rw[hlen]
 try rw[hm]
 try rw[hn]
 skip;obtain⟨Z,hZ⟩:∃Z,w.alloc (.cells #[.slice a len cap,.slice b m cp,.slice d n cb] 26)=Z:=⟨_,rfl⟩
 have hkz:Kept w Z:=by rw[←hZ];exact ja _ _
 have HQ:=lH (show je w.heap.size [.slice a len cap,.slice b m cp,.slice d n cb] Z from jc w (.slice a len cap) [.slice b m cp,.slice d n cb] 26 Z (by rw[hZ];exact Kept.refl _));obtain⟨e3,he3⟩:∃e,JG bl=e:=⟨_,rfl⟩
 have HB:=lH (jgA (qL l3 m3 (h3.kept hkz)) he3);have HV:=lH (show Yz ⟨nl,pl,bl⟩=(decide (len≤34)&&(decide (m≤130)&&(e3&&(nl.all JP&&pl.all zK)))) by unfold Yz;dsimp only;rw[hlen,hm,he3]);have HN:=lH (h1.kept hkz);have HP:=lH (h2.kept hkz);have HKZ:=lH hkz;have HM1:=lH (Nat.le_trans l1 m1);have HM2:=lH (Nat.le_trans l2 m2);have HL1:=lH hlen;have HL2:=lH hm;have hml1:=Nat.le_trans l1 m1;have hml2:=Nat.le_trans l2 m2;unfold maxLen at hml1 hml2;clear h1 h2 h3 l1 l2 l3 m1 m2 m3 he3 hkz;have cq0:=HQ.out.at_ 0 _ rfl;have cq1:=HQ.out.at_ 1 _ rfl;have cq2:=HQ.out.at_ 2 _ rfl;by_cases hA:34<len
 · have HX:=lH (HV.out.trans (by rw[decide_eq_false (show ¬len≤34 by omega),Bool.false_and]));have hA':(34:Int)<(len:Int):=by omega
   rw[HX.out];go_enter Tryz.func23,Tryz.ntmps23;go_wp2;try rw[hZ]
   go_ret;exact⟨rfl,HKZ.out⟩
 by_cases hB:130<m
 · have HX:=lH (HV.out.trans (by rw[decide_eq_true (show len≤34 by omega),decide_eq_false (show ¬m≤130 by omega),Bool.false_and,Bool.and_false]));have hA':¬(34:Int)<(len:Int):=by omega
   have hB':(130:Int)<(m:Int):=by omega
   rw[HX.out];go_enter Tryz.func23,Tryz.ntmps23;go_wp2;try rw[hZ]
   go_ret;exact⟨rfl,HKZ.out⟩
 have hA':¬(34:Int)<(len:Int):=by omega
 have hB':¬(130:Int)<(m:Int):=by omega
 have HX:=lH (HV.out.trans (by rw[decide_eq_true (show len≤34 by omega),decide_eq_true (show m≤130 by omega),Bool.true_and,Bool.true_and]));rw[HX.out];clear HV HX;go_enter Tryz.func23,Tryz.ntmps23;go_wp2_with fail
 try rw[hZ]
 clear hZ;refine HB.out.mono ?_;rintro e w1 ⟨rfl,kk⟩;have KW:=lH kk;clear kk cq0 cq1 cq2 HB
 cases e3 with
 | false =>
  go_wp2;go_ret;exact⟨rfl,HKZ.out.trans KW.out⟩
 | true =>
  have cq0:=(HQ.out.kept KW.out).at_ 0 _ rfl;have cq1:=(HQ.out.kept KW.out).at_ 1 _ rfl;have cq2:=(HQ.out.kept KW.out).at_ 2 _ rfl;go_wp2;go_loopw [3] (fun i wr=>∃k:Nat,k≤len∧i=.int .i64 k∧(nl.drop k).all JP=nl.all JP∧Kept Z wr) (fun i _=>len-(intOf i).toNat)
  case atStart=>exact⟨0,Nat.zero_le _,rfl,rfl,KW.out⟩
  case round =>
   clear cq0 cq1 cq2;obtain⟨k,hk,rfl,hrest,hK⟩:=hrel;have HS:=lH hrest;have KN:=lH hK;have cq0:=(HQ.out.kept hK).at_ 0 _ rfl;have cq1:=(HQ.out.kept hK).at_ 1 _ rfl;have cq2:=(HQ.out.kept hK).at_ 2 _ rfl;by_cases hlt:k<len
   · obtain⟨b9,off,rfl⟩:=HN.out.form.resolve_left (by omega);obtain⟨n9,x1,y1,z1,x2,y2,z2,x3,y3,z3,hn,hd,hb,p0,p1,p2,p3,p4,hat⟩:=(HN.out.kept hK).at_ hlt;have HD:=lH hd;obtain⟨t,ht⟩:∃t,JP n9=t:=⟨_,rfl⟩
     have HT:=lH ht;have HC:=lH (show Calls Tryz.prog 55 #[zE n9 (.slice x1 y1 z1) (.slice x2 y2 z2) (.slice x3 y3 z3)] wr (Say (.bool t) wr) from jfS ⟨_,_,_,rfl,hat⟩ ht);unfold zE at HC;have hkk:(k:Int)<(len:Int):=by omega
     clear hrest hK hat hn hd ht
     cases t with
     | false =>
      have HF:=lH (jbb HD.out HT.out HS.out);go_wp2_with fail
      refine HC.out.mono ?_;rintro e w9 ⟨rfl,kk⟩;have KW:=lH (KN.out.trans kk);clear kk;go_wp2;go_ret;exact⟨by rw[HF.out];simp,HKZ.out.trans KW.out⟩
     | true =>
      have HF:=lH (jcD HD.out HT.out HS.out);go_wp2_with fail
      refine HC.out.mono ?_;rintro e w9 ⟨rfl,kk⟩;have KW:=lH (KN.out.trans kk);clear kk cq0 cq1 cq2;go_wp2;go_roundw
      case rel=>exact⟨k+1,by omega,by go_num,HF.out,KW.out⟩
      case measure=>simp[intOf];omega
   · have HL1F:=lH (jcp (by rw[HL1.out];omega) hrest);have hkk:¬(k:Int)<(len:Int):=by omega
     clear hrest hK;clear cq0 cq1 cq2;have cq0:=(HQ.out.kept KN.out).at_ 0 _ rfl;have cq1:=(HQ.out.kept KN.out).at_ 1 _ rfl;have cq2:=(HQ.out.kept KN.out).at_ 2 _ rfl;go_wp2;go_loopw [4] (fun i wr=>∃k:Nat,k≤m∧i=.int .i64 k∧(pl.drop k).all zK=pl.all zK∧Kept Z wr) (fun i _=>m-(intOf i).toNat)
     case atStart=>exact⟨0,Nat.zero_le _,rfl,rfl,KN.out⟩
     case round =>
      clear cq0 cq1 cq2;obtain⟨k,hk,rfl,hrest,hK⟩:=hrel;have HS:=lH hrest;have KP:=lH hK;have cq0:=(HQ.out.kept hK).at_ 0 _ rfl;have cq1:=(HQ.out.kept hK).at_ 1 _ rfl;have cq2:=(HQ.out.kept hK).at_ 2 _ rfl;by_cases hlt:k<m
      · obtain⟨b9,off,rfl⟩:=HP.out.form.resolve_left (by omega);obtain⟨n9,x1,y1,z1,x2,y2,z2,x3,y3,z3,x4,y4,z4,hn,hd,hb,p0,p1,p2,p3,p4,p5,p6,p7,p8,p9,p10,hat⟩:=(HP.out.kept hK).at_ hlt;have HD:=lH hd;obtain⟨t,ht⟩:∃t,zK n9=t:=⟨_,rfl⟩
        have HT:=lH ht;have HC:=lH (show Calls Tryz.prog 9 #[jG n9 (.slice x1 y1 z1) (.slice x2 y2 z2) (.slice x3 y3 z3) (.slice x4 y4 z4)] wr (Say (.bool t) wr) from jdy ⟨_,_,_,_,rfl,hat⟩ ht);unfold jG at HC;have hkk:(k:Int)<(m:Int):=by omega
        clear hrest hK hat hn hd ht
        cases t with
        | false =>
         have HF:=lH (jbb HD.out HT.out HS.out);go_wp2_with fail
         refine HC.out.mono ?_;rintro e w9 ⟨rfl,kk⟩;have KW:=lH (KP.out.trans kk);clear kk;go_wp2;go_ret;exact⟨by rw[HF.out];simp,HKZ.out.trans KW.out⟩
        | true =>
         have HF:=lH (jcD HD.out HT.out HS.out);go_wp2_with fail
         refine HC.out.mono ?_;rintro e w9 ⟨rfl,kk⟩;have KW:=lH (KP.out.trans kk);clear kk cq0 cq1 cq2;go_wp2;go_roundw
         case rel=>exact⟨k+1,by omega,by go_num,HF.out,KW.out⟩
         case measure=>simp[intOf];omega
      · have HL2F:=lH (jcp (by rw[HL2.out];omega) hrest);have hkk:¬(k:Int)<(m:Int):=by omega
        clear hrest hK;go_wp2;go_ret;exact⟨by rw[HL1F.out,HL2F.out];rfl,HKZ.out.trans KP.out⟩
theorem jdA (a:Option Addr) (len cap:Nat) (l:List Nod) (x:ByteArray) (w:World) (hr:js w a len l) :
 Calls Tryz.prog 59 #[.slice a len cap,.string x] w fun e w'=>∃v,e=.returned (.tuple #[v,.bool (jm l x).isSome])∧XQ w' v ((jm l x).getD Nod.zero)∧Kept w w':=by
 have hl:=hr.1;have hm:=hr.2.1;unfold maxLen at hm;obtain⟨Z,hZ⟩:∃Z,w.alloc (.cells #[.string ⟨#[]⟩,.slice none 0 0,.slice none 0 0,.slice none 0 0,.bool false] 113)=Z:=⟨_,rfl⟩
 have hkz:Kept w Z:=by rw[←hZ];exact ja _ _
 have HQ:=lH (show zg w.heap.size (.string ⟨#[]⟩) (.slice none 0 0) (.slice none 0 0) (.slice none 0 0) (.bool false) Z from ZP w _ _ _ _ _ 113 Z (by rw[hZ];exact Kept.refl _));have HH:=lH (show Z.heap[w.heap.size]?=some (.cells #[.string ⟨#[]⟩,.slice none 0 0,.slice none 0 0,.slice none 0 0,.bool false] 113) by rw[←hZ];exact w.alloc_heap_new _);have HKZ:=lH hkz;have HR:=lH (hr.kept hkz);have HL:=lH hl;obtain⟨⟨y0,y1,y2,y3,y4⟩,x0,x1,x2,x3,x4⟩:=HQ.out;have P0:=lH (Zp ⟨y0,y1,y2,y3,y4⟩ ⟨#[]⟩ none none none 0 0 0 0 0 0 false);by_cases h0:len=0
 · subst h0;have hl0:l=[]:=List.eq_nil_of_length_eq_zero hl;have HF:=lH (show jm l x=none by rw[hl0];rfl);clear hr hl hkz;go_enter Tryz.func59,Tryz.ntmps59;go_wp2;try rw[hZ]
   clear hZ;refine wp_loop_rounds 1 ?_;rw[rounds_succ];go_wp2;obtain⟨WE,hWE⟩:∃W,(((((Z.setCell ⟨w.heap.size,0,none⟩ (.string ⟨#[]⟩)).setCell ⟨w.heap.size,1,none⟩ (.slice none 0 0)).setCell ⟨w.heap.size,2,none⟩ (.slice none 0 0)).setCell ⟨w.heap.size,3,none⟩ (.slice none 0 0)).setCell ⟨w.heap.size,4,none⟩ (.bool false))=W:=⟨_,rfl⟩
   rw[hWE] at P0 ⊢;clear hWE y0 y1 y2 y3 y4 x0 x1 x2 x3 x4;obtain⟨⟨e0,e1,e2,e3,e4⟩,hsz,hbl,hkp⟩:=P0.out;refine bodyPost_ret (by simp[results,Tryz.results59,go_sem,e0,e1,e2,e3,e4];try rfl) rfl ?_;rw[HF.out];exact⟨_,rfl,(YO 0 _).toR,hkp _ _ (Nat.le_refl _) HKZ.out⟩
 · obtain⟨b,off,rfl⟩:=hr.form.resolve_left h0;clear hr hl hkz h0;go_enter Tryz.func59,Tryz.ntmps59;go_wp2;try rw[hZ]
   clear hZ;go_loop [6] (fun i=>∃k:Nat,k≤len∧i=.int .i64 k∧jm (l.drop k) x=jm l x) (fun i=>len-(intOf i).toNat)
   case atStart=>exact⟨0,Nat.zero_le _,rfl,rfl⟩
   case round =>
    obtain⟨k,hk,rfl,hrest⟩:=hrel;have HS:=lH hrest;by_cases hlt:k<len
    · obtain⟨n,a1,m1,c1,a2,m2,c2,a3,m3,c3,hn,hd,hb,p0,p1,p2,p3,p4,hat⟩:=HR.out.at_ hlt;have HAT:=lH hat;have HD:=lH hd;clear hrest hat hd hn;by_cases he:eqS n.name x=true
      · have he':(n.name.toList==x.toList)=true:=he;have HF:=lH (show jm l x=some n by rw[←HS.out,HD.out];unfold jm;rw[List.find?_cons,he]);have P:=lH (Zp ⟨y0,y1,y2,y3,y4⟩ n.name a1 a2 a3 m1 c1 m2 c2 m3 c3 n.cordon);obtain⟨⟨z,l1,l2,l3,cd⟩,hnn⟩:∃m,m=n:=⟨n,rfl⟩
        subst hnn;dsimp only at P he' p0 p4;clear he;go_wp2;obtain⟨WE,hWE⟩:∃W,(((((Z.setCell ⟨w.heap.size,0,none⟩ (.string z)).setCell ⟨w.heap.size,1,none⟩ (.slice a1 m1 c1)).setCell ⟨w.heap.size,2,none⟩ (.slice a2 m2 c2)).setCell ⟨w.heap.size,3,none⟩ (.slice a3 m3 c3)).setCell ⟨w.heap.size,4,none⟩ (.bool cd))=W:=⟨_,rfl⟩
        rw[hWE] at P ⊢;clear hWE y0 y1 y2 y3 y4 x0 x1 x2 x3 x4;obtain⟨⟨e0,e1,e2,e3,e4⟩,hsz,hbl,hkp⟩:=P.out;refine bodyPost_ret (by simp[results,Tryz.results59,go_sem,e0,e1,e2,e3,e4];try rfl) rfl ?_;rw[HF.out];exact⟨_,rfl,⟨_,_,_,rfl,Xd HAT.out hsz hbl (jd1 HH.out)⟩,hkp _ _ (Nat.le_refl _) HKZ.out⟩
      · have he:eqS n.name x=false:=by simpa using he
        have he':(n.name.toList==x.toList)=false:=he;have HE:=lH (show jm (l.drop k) x=jm (l.drop (k+1)) x by rw[HD.out];unfold jm;rw[List.find?_cons,he]);clear he;go_wp2;go_round
        case rel=>exact⟨k+1,by omega,by go_num,HE.out.symm.trans HS.out⟩
        case measure=>simp[intOf];omega
    · have HF:=lH (show jm l x=none by rw[←hrest,List.drop_of_length_le (by rw[HL.out];omega)];rfl);clear hrest;go_wp2;obtain⟨WE,hWE⟩:∃W,(((((Z.setCell ⟨w.heap.size,0,none⟩ (.string ⟨#[]⟩)).setCell ⟨w.heap.size,1,none⟩ (.slice none 0 0)).setCell ⟨w.heap.size,2,none⟩ (.slice none 0 0)).setCell ⟨w.heap.size,3,none⟩ (.slice none 0 0)).setCell ⟨w.heap.size,4,none⟩ (.bool false))=W:=⟨_,rfl⟩
      rw[hWE] at P0 ⊢;clear hWE y0 y1 y2 y3 y4 x0 x1 x2 x3 x4;obtain⟨⟨e0,e1,e2,e3,e4⟩,hsz,hbl,hkp⟩:=P0.out;refine bodyPost_ret (by simp[results,Tryz.results59,go_sem,e0,e1,e2,e3,e4];try rfl) rfl ?_;rw[HF.out];exact⟨_,rfl,(YO 0 _).toR,hkp _ _ (Nat.le_refl _) HKZ.out⟩
theorem jdL {v:Value} {l:List Nod} {x:ByteArray} {w:World} (h:zM w v l) :
 Calls Tryz.prog 59 #[v,.string x] w fun e w'=>∃v,e=.returned (.tuple #[v,.bool (jm l x).isSome])∧XQ w' v ((jm l x).getD Nod.zero)∧Kept w w':=by
 obtain⟨a,cap,rfl,_,_,hr⟩:=h;exact jdA a _ cap l x w hr
end Go.Proofs.YtgfoenfaohhjcabGreat
namespace Go.Proofs.YtgfoenfaohhjcabGreat.Vec
open Go.RowKit
def jM:Nat→V→V→List ByteArray
 | 0,_,_=>[]
 | fuel+1,la,lb =>
  if la.length+lb.length=0 then []
  else ji la lb::jM fuel (jl la (ji la lb)).2 (jl lb (ji la lb)).2
def Jc (f:Int→Int→Int×Int) (la lb:V):List ByteArray→V→Int×V
 | [],acc=>(0,acc)
 | n::t,acc=>if (f (jh la n) (jh lb n)).2≠0 then ((f (jh la n) (jh lb n)).2,[]) else Jc f la lb t (Za acc n (f (jh la n) (jh lb n)).1)
theorem Yq {l:V} {s:ByteArray}:∀y ∈ (jl l s).2,y ∈ l:=by
 cases l with
 | nil=>intro y hy;exact hy
 | cons x t =>
  rw[zp];split
  · exact fun y hy=>List.mem_cons_of_mem _ hy
  · exact fun y hy=>hy
theorem Xc {la lb:V} (h:0<la.length+lb.length):(∃y ∈ la,y.1=ji la lb)∨(∃y ∈ lb,y.1=ji la lb):=by
 cases la with
 | nil =>
  cases lb with
  | nil=>simp at h
  | cons y t=>exact .inr ⟨y,by simp,rfl⟩
 | cons x s =>
  cases lb with
  | nil=>exact .inl ⟨x,by simp,rfl⟩
  | cons y t =>
   rw[Ja];split
   · exact .inr ⟨y,by simp,rfl⟩
   · exact .inl ⟨x,by simp,rfl⟩
theorem X6 (f:Int→Int→Int×Int) (la0 lb0:V):∀(fuel:Nat) (la lb acc:V),Gd la→Gd lb →
 (∀n,((∃y ∈ la,y.1=n)∨(∃y ∈ lb,y.1=n))→jh la0 n=jh la n∧jh lb0 n=jh lb n) →
 Jc f la0 lb0 (jM fuel la lb) acc=jL f fuel la lb acc
 | 0,_,_,_,_,_,_=>rfl
 | fuel+1,la,lb,acc,ha,hb,h=>by
  unfold jM jL;by_cases h0:la.length+lb.length=0
  · rw[if_pos h0,if_pos h0];rfl
  · rw[if_neg h0,if_neg h0];obtain⟨hs,hsa,hsb,_⟩:=Y7 ha hb (by omega);have hm:=h _ (Xc (la:=la) (lb:=lb) (by omega));obtain⟨s,es⟩:∃s,ji la lb=s:=⟨_,rfl⟩
    rw[es] at hs hsa hsb hm ⊢;obtain⟨a1,a2,a3,a4,_⟩:=Yv ha hsa;obtain⟨b1,b2,b3,b4,_⟩:=Yv hb hsb;rw[Jc];dsimp only;rw[hm.1,hm.2,a1,b1];split
    · rfl
    · refine X6 f la0 lb0 fuel _ _ _ a2 b2 fun n hn=>?_;have hne:n≠s:=by
       rcases hn with ⟨y,hy,rfl⟩ | ⟨y,hy,rfl⟩
       · exact(Zs (a3 y hy)).symm
       · exact(Zs (b3 y hy)).symm
      rw[a4 n hne,b4 n hne];refine h n (hn.imp ?_ ?_)
      · rintro ⟨y,hy,e⟩;exact⟨y,Yq y hy,e⟩
      · rintro ⟨y,hy,e⟩;exact⟨y,Yq y hy,e⟩
theorem jbG (f:Int→Int→Int×Int) {l l':V} (h:jq l=0) (h':jq l'=0) (hf:zG l) (hf':zG l') :
 jg f l l'=(let r:=Jc f l l' (jM (l.length+l'.length) l l') [];if r.1≠0 then (r.1,[]) else if 8<r.2.length then (4,[]) else (0,r.2)):=by
 rw[jg,if_neg (by rw[h];decide),if_neg (by rw[h'];decide),X6 f l l' _ l l' [] (Zr h hf) (Zr h' hf') (fun n _=>⟨rfl,rfl⟩)]
theorem jef {fuel:Nat} {la lb:V} (h:la.length+lb.length=0):jM fuel la lb=[]:=by
 cases fuel with
 | zero=>rfl
 | succ n=>rw[jM,if_pos h]
theorem qo {fuel:Nat} {l l':V} {i k:Nat} (hi:i<l.length) (h:¬k<l'.length∨(k<l'.length∧ltS (nm l i) (nm l' k)=true)) :
 jM (fuel+1) (l.drop i) (l'.drop k)=nm l i::jM fuel (l.drop (i+1)) (l'.drop k):=by
 rw[jM,if_neg (by simp only[List.length_drop];omega),drop_cons hi];rcases h with h | ⟨h,e⟩
 · rw[List.drop_of_length_le (l:=l') (by omega)];have e1:ji ((nm l i,qn l i)::l.drop (i+1)) []=nm l i:=rfl;rw[e1,zp,if_pos (jR.2 rfl)];rfl
 · rw[drop_cons h];have e2:ltS (nm l' k) (nm l i)=false:=by
    cases e3:ltS (nm l' k) (nm l i) with
    | false=>rfl
    | true=>exact(Xi e e3).elim
   rw[Ja,if_neg (by rw[e2];decide),zp,if_pos (jR.2 rfl),zp,if_neg (fun c=>Zs e (jR.1 c).symm)]
theorem XH {fuel:Nat} {l l':V} {i k:Nat} (hk:k<l'.length) (h:¬i<l.length∨(i<l.length∧ltS (nm l' k) (nm l i)=true)) :
 jM (fuel+1) (l.drop i) (l'.drop k)=nm l' k::jM fuel (l.drop i) (l'.drop (k+1)):=by
 rw[jM,if_neg (by simp only[List.length_drop];omega),drop_cons hk];rcases h with h | ⟨h,e⟩
 · rw[List.drop_of_length_le (l:=l) (by omega)];have e1:ji [] ((nm l' k,qn l' k)::l'.drop (k+1))=nm l' k:=rfl;rw[e1,zp,if_pos (jR.2 rfl)];rfl
 · rw[drop_cons h];rw[Ja,if_pos e,zp (nm l' k,qn l' k),if_pos (jR.2 rfl),zp,if_neg (fun c=>Zs e (jR.1 c).symm)]
theorem jek {fuel:Nat} {l l':V} {i k:Nat} (hi:i<l.length) (hk:k<l'.length) (h1:ltS (nm l i) (nm l' k)=false) (h2:ltS (nm l' k) (nm l i)=false) :
 jM (fuel+1) (l.drop i) (l'.drop k)=nm l i::jM fuel (l.drop (i+1)) (l'.drop (k+1)):=by
 have e:=Xx h1 h2;rw[jM,if_neg (by simp only[List.length_drop];omega),drop_cons hi,drop_cons hk];rw[Ja,if_neg (by rw[h2];decide),zp,if_pos (jR.2 rfl),zp,if_pos (jR.2 e.symm)]
open Go.RowKit Go.Proofs.YtgfoenfaohhjcabGreat
theorem jfO:(Tryz.prog.info? 9).map (fun i=>(i.zero,i.size,i.bytes))=some (some (.string ByteArray.empty),1,16):=by kernel_rfl
def Names (ns:List ByteArray) (w:World) (e:Ending) (w':World):Prop:=∃x,e=.returned x∧Own zc 9 w' w.heap.size x ns∧Kept w w'
theorem Y9 (a a':Option Addr) (len cap len' cap':Nat) (l l':V) (w:World) (hr:jo w a len l) (hr':jo w a' len' l') (h8:len≤8) (h8':len'≤8) :
 Calls Tryz.prog 133 #[.slice a len cap,.slice a' len' cap'] w (Names (jM (l.length+l'.length) l l') w):=by
 have HA:=lH hr;have HB:=lH hr';have HL:=lH hr.1;have HL':=lH hr'.1;have HF:=lH hr.2.2.1;have HF':=lH hr'.2.2.1;obtain⟨i0,hi,hz0,hz1,hz2⟩:=info_parts jfO;obtain⟨NS,hNS⟩:∃NS,jM (l.length+l'.length) l l'=NS:=⟨_,rfl⟩
 rw[hNS];have HNS:=lH hNS;clear hr hr' hNS;go_enter Tryz.func133,Tryz.ntmps133;go_wp2;go_loopw [5,6,7] (fun v vi vk wr=>∃(i k fuel:Nat) (acc:List ByteArray),i≤len∧k≤len'∧vi=.int .i64 i∧vk=.int .i64 k∧acc++jM fuel (l.drop i) (l'.drop k)=NS∧(len-i)+(len'-k)≤fuel∧Own zc 9 wr w.heap.size v acc∧Below w.heap.size w wr∧acc.length≤i+k)
  (fun _ vi vk _=>(len-(intOf vi).toNat)+(len'-(intOf vk).toNat))
 case atStart=>exact⟨0,0,l.length+l'.length,[],Nat.zero_le _,Nat.zero_le _,rfl,rfl,HNS.out,by rw[HL.out,HL'.out];omega,Own.nil _ _ _,Below.refl _ _,Nat.zero_le _⟩
 case round =>
  obtain⟨i,k,fuel,acc,hi1,hk1,rfl,rfl,hres,hfu,ho,hB,hacc⟩:=hrel;have HQ:=lH hres;have HO:=lH ho;have HB2:=lH hB;clear hres ho;by_cases hi2:i<len
  · obtain⟨b,off,rfl⟩:=HA.out.form.resolve_left (by omega);obtain⟨hb,c1,-⟩:=(HA.out.kept hB).cells hi2;have HI:=lH (show i<l.length by rw[HL.out];exact hi2);have HSI:=lH (HF.out i HI.out).1;obtain⟨f2,rfl⟩:∃f2,fuel=f2+1:=⟨fuel-1,by omega⟩
    by_cases hk2:k<len'
    · obtain⟨b',off',rfl⟩:=HB.out.form.resolve_left (by omega);obtain⟨hb',d1,-⟩:=(HB.out.kept hB).cells hk2;have HK:=lH (show k<l'.length by rw[HL'.out];exact hk2);have HSK:=lH (HF'.out k HK.out).1;have hd:decide (len'≤k)=false:=decide_eq_false (by omega);have hd2:decide (len≤i)=false:=decide_eq_false (by omega);have hi3:(i:Int)<(len:Int):=by omega
      have hk3:(k:Int)<(len':Int):=by omega
      have HS:=lH (show ∀W,Kept wr W→W.cell? ⟨b,off+i*2,none⟩=some (.string (nm l i))∧W.cell? ⟨b',off'+k*2,none⟩=some (.string (nm l' k)) from fun W kk=>⟨cell_later kk c1,cell_later kk d1⟩);clear hB;by_cases e1:ltS (nm l i) (nm l' k)=true
      · have E1:=lH e1;have e1':Op.bytesLess (nm l i).toList (nm l' k).toList=true:=e1;clear e1;have HN:=lH (show acc++[nm l i]++jM f2 (l.drop (i+1)) (l'.drop (k))=NS by rw[←HQ.out,qo HI.out (.inr ⟨HK.out,E1.out⟩)];simp);go_wp2;clear c1 d1;refine wp_region_held_drew (S:=fun W=>W.cell? ⟨b,off+i*2,none⟩=some (.string (nm l i))∧W.cell? ⟨b',off'+k*2,none⟩=some (.string (nm l' k))) (by kernel_rfl) (HS.out _ (Kept.drew _)) (fun hHeld=>?_);refine wpAnyH_take  (i:=0) (v:=?_) (by rw[List.getElem?_toArray];exact rfl) (by kernel_rfl) (by kernel_rfl) (by kernel_rfl) (by exact fun _ _ _ h=>h) (Or.inl ⟨by rfl,(by rintro W ⟨c1,d1⟩;go_simp<;>with_reducible rfl)⟩) (by assumption) ?_;try simp only  [Act.put,List.setIfInBounds_toArray,List.set_cons_zero,List.set_cons_succ]
        refine wpAnyH_take  (i:=1) (v:=?_) (by rw[List.getElem?_toArray];exact rfl) (by kernel_rfl) (by kernel_rfl) (by kernel_rfl) (by exact fun _ _ _ h=>h) (Or.inl ⟨by rfl,(by rintro W ⟨c1,d1⟩;go_simp<;>with_reducible rfl)⟩) (by assumption) ?_;try simp only  [Act.put,List.setIfInBounds_toArray,List.set_cons_zero,List.set_cons_succ]
        refine wpAnyH_take  (i:=2) (v:=?_) (by rw[List.getElem?_toArray];exact rfl) (by kernel_rfl) (by kernel_rfl) (by kernel_rfl) (by exact fun _ _ _ h=>h) (Or.inl ⟨by rfl,(by rintro W ⟨c1,d1⟩;go_simp<;>with_reducible rfl)⟩) (by assumption) ?_;try simp only  [Act.put,List.setIfInBounds_toArray,List.set_cons_zero,List.set_cons_succ]
        refine wpAnyH_take  (i:=3) (v:=?_) (by rw[List.getElem?_toArray];exact rfl) (by kernel_rfl) (by kernel_rfl) (by kernel_rfl) (by exact fun _ _ _ h=>h) (Or.inl ⟨by rfl,(by rintro W ⟨c1,d1⟩;go_simp<;>with_reducible rfl)⟩) (by assumption) ?_;try simp only  [Act.put,List.setIfInBounds_toArray,List.set_cons_zero,List.set_cons_succ]
        refine wpAnyH_take  (i:=4) (v:=?_) (by rw[List.getElem?_toArray];exact rfl) (by kernel_rfl) (by kernel_rfl) (by kernel_rfl) (by exact fun _ _ _ h=>h) (Or.inl ⟨by rfl,(by rintro W ⟨c1,d1⟩;go_simp<;>with_reducible rfl)⟩) (by assumption) ?_;try simp only  [Act.put,List.setIfInBounds_toArray,List.set_cons_zero,List.set_cons_succ]
        refine wpAnyH_take  (i:=5) (v:=?_) (by rw[List.getElem?_toArray];exact rfl) (by kernel_rfl) (by kernel_rfl) (by kernel_rfl) (by exact fun _ _ _ h=>h) (Or.inl ⟨by rfl,(by rintro W ⟨c1,d1⟩;go_simp<;>with_reducible rfl)⟩) (by assumption) ?_;try simp only  [Act.put,List.setIfInBounds_toArray,List.set_cons_zero,List.set_cons_succ]
        refine wpAnyH_take  (i:=6) (v:=?_) (by rw[List.getElem?_toArray];exact rfl) (by kernel_rfl) (by kernel_rfl) (by kernel_rfl) (by exact fun _ _ _ h=>h) (Or.inl ⟨by rfl,(by rintro W ⟨c1,d1⟩;go_simp<;>with_reducible rfl)⟩) (by assumption) ?_;try simp only  [Act.put,List.setIfInBounds_toArray,List.set_cons_zero,List.set_cons_succ]
        refine wpAnyH_take  (i:=7) (v:=?_) (by rw[List.getElem?_toArray];exact rfl) (by kernel_rfl) (by kernel_rfl) (by kernel_rfl) (by exact fun _ _ _ h=>h) (Or.inl ⟨by rfl,(by rintro W ⟨c1,d1⟩;go_simp<;>with_reducible rfl)⟩) (by assumption) ?_;try simp only  [Act.put,List.setIfInBounds_toArray,List.set_cons_zero,List.set_cons_succ]
        refine wpAnyH_take  (i:=8) (v:=?_) (by rw[List.getElem?_toArray];exact rfl) (by kernel_rfl) (by kernel_rfl) (by kernel_rfl) (by exact fun _ _ _ h=>h) (Or.inl ⟨by rfl,(by rintro W ⟨c1,d1⟩;go_simp<;>with_reducible rfl)⟩) (by assumption) ?_;try simp only  [Act.put,List.setIfInBounds_toArray,List.set_cons_zero,List.set_cons_succ]
        refine wpAnyH_take  (i:=9) (v:=?_) (by rw[List.getElem?_toArray];exact rfl) (by kernel_rfl) (by kernel_rfl) (by kernel_rfl) (by exact fun _ _ _ h=>h) (Or.inl ⟨by rfl,(by rintro W ⟨c1,d1⟩;go_simp<;>with_reducible rfl)⟩) (by assumption) ?_;try simp only  [Act.put,List.setIfInBounds_toArray,List.set_cons_zero,List.set_cons_succ]
        refine wpAnyH_take  (i:=10) (v:=?_) (by rw[List.getElem?_toArray];exact rfl) (by kernel_rfl) (by kernel_rfl) (by kernel_rfl) (by exact fun _ _ _ h=>h) (Or.inl ⟨by rfl,(by rintro W ⟨c1,d1⟩;go_simp<;>with_reducible rfl)⟩) (by assumption) ?_;try simp only  [Act.put,List.setIfInBounds_toArray,List.set_cons_zero,List.set_cons_succ]
        refine wpAnyH_take  (i:=11) (v:=?_) (by rw[List.getElem?_toArray];exact rfl) (by kernel_rfl) (by kernel_rfl) (by kernel_rfl) (by exact fun _ _ _ h=>h) (Or.inl ⟨by rfl,(by rintro W ⟨c1,d1⟩;go_simp<;>with_reducible rfl)⟩) (by assumption) ?_;try simp only  [Act.put,List.setIfInBounds_toArray,List.set_cons_zero,List.set_cons_succ]
        refine wpAnyH_take  (i:=12) (v:=?_) (by rw[List.getElem?_toArray];exact rfl) (by kernel_rfl) (by kernel_rfl) (by kernel_rfl) (by exact fun _ _ _ h=>h) (Or.inl ⟨by rfl,(by rintro W ⟨c1,d1⟩;go_simp<;>with_reducible rfl)⟩) (by assumption) ?_;try simp only  [Act.put,List.setIfInBounds_toArray,List.set_cons_zero,List.set_cons_succ]
        refine wpAnyH_take  (i:=13) (v:=?_) (by rw[List.getElem?_toArray];exact rfl) (by kernel_rfl) (by kernel_rfl) (by kernel_rfl) (by exact fun _ _ _ h=>h) (Or.inl ⟨by rfl,(by rintro W ⟨c1,d1⟩;go_simp<;>with_reducible rfl)⟩) (by assumption) ?_;try simp only  [Act.put,List.setIfInBounds_toArray,List.set_cons_zero,List.set_cons_succ]
        refine wpAnyH_take  (i:=14) (v:=?_) (by rw[List.getElem?_toArray];exact rfl) (by kernel_rfl) (by kernel_rfl) (by kernel_rfl) (by exact fun _ _ _ h=>h) (Or.inl ⟨by rfl,(by rintro W ⟨c1,d1⟩;go_simp<;>with_reducible rfl)⟩) (by assumption) ?_;try simp only  [Act.put,List.setIfInBounds_toArray,List.set_cons_zero,List.set_cons_succ]
        refine wpAnyH_take  (i:=15) (v:=?_) (by rw[List.getElem?_toArray];exact rfl) (by kernel_rfl) (by kernel_rfl) (by kernel_rfl) (by exact fun _ _ _ h=>h) (Or.inl ⟨by rfl,(by rintro W ⟨c1,d1⟩;go_simp<;>with_reducible rfl)⟩) (by assumption) ?_;try simp only  [Act.put,List.setIfInBounds_toArray,List.set_cons_zero,List.set_cons_succ]
        refine wpAnyH_take  (i:=16) (v:=?_) (by rw[List.getElem?_toArray];exact rfl) (by kernel_rfl) (by kernel_rfl) (by kernel_rfl) (by exact fun _ _ _ h=>h) (Or.inl ⟨by rfl,(by rintro W ⟨c1,d1⟩;go_simp<;>with_reducible rfl)⟩) (by assumption) ?_;try simp only  [Act.put,List.setIfInBounds_toArray,List.set_cons_zero,List.set_cons_succ]
        refine wpAnyH_take  (i:=17) (v:=?_) (by rw[List.getElem?_toArray];exact rfl) (by kernel_rfl) (by kernel_rfl) (by kernel_rfl) (by exact fun _ _ _ h=>h) (Or.inl ⟨by rfl,(by rintro W ⟨c1,d1⟩;go_simp<;>with_reducible rfl)⟩) (by assumption) ?_;try simp only  [Act.put,List.setIfInBounds_toArray,List.set_cons_zero,List.set_cons_succ]
        refine wpAnyH_take  (i:=18) (v:=?_) (by rw[List.getElem?_toArray];exact rfl) (by kernel_rfl) (by kernel_rfl) (by kernel_rfl) (by exact fun _ _ _ h=>h) (Or.inl ⟨by rfl,(by rintro W ⟨c1,d1⟩;go_simp<;>with_reducible rfl)⟩) (by assumption) ?_;try simp only  [Act.put,List.setIfInBounds_toArray,List.set_cons_zero,List.set_cons_succ]
        refine wpAnyH_take  (i:=19) (v:=?_) (by rw[List.getElem?_toArray];exact rfl) (by kernel_rfl) (by kernel_rfl) (by kernel_rfl) (by exact fun _ _ _ h=>h) (Or.inl ⟨by rfl,(by rintro W ⟨c1,d1⟩;go_simp<;>with_reducible rfl)⟩) (by assumption) ?_;try simp only  [Act.put,List.setIfInBounds_toArray,List.set_cons_zero,List.set_cons_succ]
        refine wpAnyH_take  (i:=20) (v:=?_) (by rw[List.getElem?_toArray];exact rfl) (by kernel_rfl) (by kernel_rfl) (by kernel_rfl) (by exact fun _ _ _ h=>h) (Or.inl ⟨by rfl,(by rintro W ⟨c1,d1⟩;go_simp<;>with_reducible rfl)⟩) (by assumption) ?_;try simp only  [Act.put,List.setIfInBounds_toArray,List.set_cons_zero,List.set_cons_succ]
        refine wpAnyH_take  (i:=21) (v:=?_) (by rw[List.getElem?_toArray];exact rfl) (by kernel_rfl) (by kernel_rfl) (by kernel_rfl) (by exact fun _ _ _ h=>h) (Or.inl ⟨by rfl,(by rintro W ⟨c1,d1⟩;go_simp<;>with_reducible rfl)⟩) (by assumption) ?_;try simp only  [Act.put,List.setIfInBounds_toArray,List.set_cons_zero,List.set_cons_succ]
        refine wpAnyH_take  (i:=22) (v:=?_) (by rw[List.getElem?_toArray];exact rfl) (by kernel_rfl) (by kernel_rfl) (by kernel_rfl) (by exact fun _ _ _ h=>h) (Or.inl ⟨by rfl,(by rintro W ⟨c1,d1⟩;go_simp<;>with_reducible rfl)⟩) (by assumption) ?_;try simp only  [Act.put,List.setIfInBounds_toArray,List.set_cons_zero,List.set_cons_succ]
        refine wpAnyH_take  (i:=23) (v:=?_) (by rw[List.getElem?_toArray];exact rfl) (by kernel_rfl) (by kernel_rfl) (by kernel_rfl) (by exact fun _ _ _ h=>h) (Or.inl ⟨by rfl,(by rintro W ⟨c1,d1⟩;go_simp<;>with_reducible rfl)⟩) (by assumption) ?_;try simp only  [Act.put,List.setIfInBounds_toArray,List.set_cons_zero,List.set_cons_succ]
        refine wpAnyH_done (by kernel_rfl) ?_ _;have HKW:=lH (show Kept wr (wr.drew) from(Kept.drew wr));obtain⟨c1,d1⟩:=HS.out _ HKW.out;have hbw:(wr.drew).heap.size=wr.heap.size:=rfl;obtain⟨W1,hW1⟩:∃W,wr.drew=W:=⟨_,rfl⟩
        rw[hW1] at HKW hbw c1 d1;try rw[hW1]
        try simp only[hW1]
        clear hW1;have hbase:w.heap.size≤W1.heap.size:=by rw[hbw];exact HB2.out.size
        have HBS:=lH hbase;have OK:=lH (HO.out.kept HKW.out);have hacc16:acc.length≤16:=by omega
        clear hbw;go_wp2_with (at_builtin;refine wpList_append_lies _ rfl _ _ _ rfl w.heap.size 9 i0 _ 1 16 Tryz.underlying47 hi hz0 hz1 hz2 rfl (by decide) u5 acc.length (jf zc acc) rfl (OK.out.1.alloc _) ⟨W1.heap.size,0,none⟩ 1 1 (zc.cs (nm l i)) rfl rfl (World.news_of_block (cs:=#[.string (nm l i)]) (t:=9) (fr:=(0,0)) (W1.alloc_heap_new _)) (YT (nm l i)) (by decide) (by unfold maxLen;omega) (by omega) (by rw[World.size_alloc];exact Nat.le_succ_of_le HBS.out) (W1.heap.size+1) (World.size_alloc _ _) ?_;intro g cap1 w7 hown1 hgrow hg hlt7;refine Hid.out ?_)
        refine lH ?_;have HBW:=lH (((HB2.out.trans (Below.mono HKW.out HB2.out.size)).alloc (by exact HBS.out) _).grown hgrow (by rw[World.size_alloc];exact Nat.le_succ_of_le HBS.out) (fun j hj=>(HO.out.1.lt j hj).1));go_wp2;go_roundw
        case rel=>exact⟨i+1,k,f2,acc++[nm l i],by omega,by omega,by go_num,by go_num,HN.out,by omega,Own.snoc hown1 rfl HO.out.2 HSI.out,HBW.out,by rw[List.length_append];simp only[List.length_cons,List.length_nil];omega⟩
        case measure=>simp[intOf];omega
      · have e1:ltS (nm l i) (nm l' k)=false:=by simpa using e1
        have E1:=lH e1;have e1':Op.bytesLess (nm l i).toList (nm l' k).toList=false:=e1;clear e1;by_cases e2:ltS (nm l' k) (nm l i)=true
        · have E2:=lH e2;have e2':Op.bytesLess (nm l' k).toList (nm l i).toList=true:=e2;clear e2;have HN:=lH (show acc++[nm l' k]++jM f2 (l.drop (i)) (l'.drop (k+1))=NS by rw[←HQ.out,XH HK.out (.inr ⟨HI.out,E2.out⟩)];simp);go_wp2;clear c1 d1;refine wp_region_held_drew (S:=fun W=>W.cell? ⟨b,off+i*2,none⟩=some (.string (nm l i))∧W.cell? ⟨b',off'+k*2,none⟩=some (.string (nm l' k))) (by kernel_rfl) (HS.out _ (Kept.drew _)) (fun hHeld=>?_);refine wpAnyH_take  (i:=0) (v:=?_) (by rw[List.getElem?_toArray];exact rfl) (by kernel_rfl) (by kernel_rfl) (by kernel_rfl) (by exact fun _ _ _ h=>h) (Or.inl ⟨by rfl,(by rintro W ⟨c1,d1⟩;go_simp<;>with_reducible rfl)⟩) (by assumption) ?_;try simp only  [Act.put,List.setIfInBounds_toArray,List.set_cons_zero,List.set_cons_succ]
          refine wpAnyH_take  (i:=1) (v:=?_) (by rw[List.getElem?_toArray];exact rfl) (by kernel_rfl) (by kernel_rfl) (by kernel_rfl) (by exact fun _ _ _ h=>h) (Or.inl ⟨by rfl,(by rintro W ⟨c1,d1⟩;go_simp<;>with_reducible rfl)⟩) (by assumption) ?_;try simp only  [Act.put,List.setIfInBounds_toArray,List.set_cons_zero,List.set_cons_succ]
          refine wpAnyH_take  (i:=2) (v:=?_) (by rw[List.getElem?_toArray];exact rfl) (by kernel_rfl) (by kernel_rfl) (by kernel_rfl) (by exact fun _ _ _ h=>h) (Or.inl ⟨by rfl,(by rintro W ⟨c1,d1⟩;go_simp<;>with_reducible rfl)⟩) (by assumption) ?_;try simp only  [Act.put,List.setIfInBounds_toArray,List.set_cons_zero,List.set_cons_succ]
          refine wpAnyH_take  (i:=3) (v:=?_) (by rw[List.getElem?_toArray];exact rfl) (by kernel_rfl) (by kernel_rfl) (by kernel_rfl) (by exact fun _ _ _ h=>h) (Or.inl ⟨by rfl,(by rintro W ⟨c1,d1⟩;go_simp<;>with_reducible rfl)⟩) (by assumption) ?_;try simp only  [Act.put,List.setIfInBounds_toArray,List.set_cons_zero,List.set_cons_succ]
          refine wpAnyH_take  (i:=4) (v:=?_) (by rw[List.getElem?_toArray];exact rfl) (by kernel_rfl) (by kernel_rfl) (by kernel_rfl) (by exact fun _ _ _ h=>h) (Or.inl ⟨by rfl,(by rintro W ⟨c1,d1⟩;go_simp<;>with_reducible rfl)⟩) (by assumption) ?_;try simp only  [Act.put,List.setIfInBounds_toArray,List.set_cons_zero,List.set_cons_succ]
          refine wpAnyH_take  (i:=5) (v:=?_) (by rw[List.getElem?_toArray];exact rfl) (by kernel_rfl) (by kernel_rfl) (by kernel_rfl) (by exact fun _ _ _ h=>h) (Or.inl ⟨by rfl,(by rintro W ⟨c1,d1⟩;go_simp<;>with_reducible rfl)⟩) (by assumption) ?_;try simp only  [Act.put,List.setIfInBounds_toArray,List.set_cons_zero,List.set_cons_succ]
          refine wpAnyH_take  (i:=6) (v:=?_) (by rw[List.getElem?_toArray];exact rfl) (by kernel_rfl) (by kernel_rfl) (by kernel_rfl) (by exact fun _ _ _ h=>h) (Or.inl ⟨by rfl,(by rintro W ⟨c1,d1⟩;go_simp<;>with_reducible rfl)⟩) (by assumption) ?_;try simp only  [Act.put,List.setIfInBounds_toArray,List.set_cons_zero,List.set_cons_succ]
          refine wpAnyH_take  (i:=7) (v:=?_) (by rw[List.getElem?_toArray];exact rfl) (by kernel_rfl) (by kernel_rfl) (by kernel_rfl) (by exact fun _ _ _ h=>h) (Or.inl ⟨by rfl,(by rintro W ⟨c1,d1⟩;go_simp<;>with_reducible rfl)⟩) (by assumption) ?_;try simp only  [Act.put,List.setIfInBounds_toArray,List.set_cons_zero,List.set_cons_succ]
          refine wpAnyH_take  (i:=8) (v:=?_) (by rw[List.getElem?_toArray];exact rfl) (by kernel_rfl) (by kernel_rfl) (by kernel_rfl) (by exact fun _ _ _ h=>h) (Or.inl ⟨by rfl,(by rintro W ⟨c1,d1⟩;go_simp<;>with_reducible rfl)⟩) (by assumption) ?_;try simp only  [Act.put,List.setIfInBounds_toArray,List.set_cons_zero,List.set_cons_succ]
          refine wpAnyH_take  (i:=9) (v:=?_) (by rw[List.getElem?_toArray];exact rfl) (by kernel_rfl) (by kernel_rfl) (by kernel_rfl) (by exact fun _ _ _ h=>h) (Or.inl ⟨by rfl,(by rintro W ⟨c1,d1⟩;go_simp<;>with_reducible rfl)⟩) (by assumption) ?_;try simp only  [Act.put,List.setIfInBounds_toArray,List.set_cons_zero,List.set_cons_succ]
          refine wpAnyH_take  (i:=10) (v:=?_) (by rw[List.getElem?_toArray];exact rfl) (by kernel_rfl) (by kernel_rfl) (by kernel_rfl) (by exact fun _ _ _ h=>h) (Or.inl ⟨by rfl,(by rintro W ⟨c1,d1⟩;go_simp<;>with_reducible rfl)⟩) (by assumption) ?_;try simp only  [Act.put,List.setIfInBounds_toArray,List.set_cons_zero,List.set_cons_succ]
          refine wpAnyH_take  (i:=11) (v:=?_) (by rw[List.getElem?_toArray];exact rfl) (by kernel_rfl) (by kernel_rfl) (by kernel_rfl) (by exact fun _ _ _ h=>h) (Or.inl ⟨by rfl,(by rintro W ⟨c1,d1⟩;go_simp<;>with_reducible rfl)⟩) (by assumption) ?_;try simp only  [Act.put,List.setIfInBounds_toArray,List.set_cons_zero,List.set_cons_succ]
          refine wpAnyH_take  (i:=12) (v:=?_) (by rw[List.getElem?_toArray];exact rfl) (by kernel_rfl) (by kernel_rfl) (by kernel_rfl) (by exact fun _ _ _ h=>h) (Or.inl ⟨by rfl,(by rintro W ⟨c1,d1⟩;go_simp<;>with_reducible rfl)⟩) (by assumption) ?_;try simp only  [Act.put,List.setIfInBounds_toArray,List.set_cons_zero,List.set_cons_succ]
          refine wpAnyH_take  (i:=13) (v:=?_) (by rw[List.getElem?_toArray];exact rfl) (by kernel_rfl) (by kernel_rfl) (by kernel_rfl) (by exact fun _ _ _ h=>h) (Or.inl ⟨by rfl,(by rintro W ⟨c1,d1⟩;go_simp<;>with_reducible rfl)⟩) (by assumption) ?_;try simp only  [Act.put,List.setIfInBounds_toArray,List.set_cons_zero,List.set_cons_succ]
          refine wpAnyH_take  (i:=14) (v:=?_) (by rw[List.getElem?_toArray];exact rfl) (by kernel_rfl) (by kernel_rfl) (by kernel_rfl) (by exact fun _ _ _ h=>h) (Or.inl ⟨by rfl,(by rintro W ⟨c1,d1⟩;go_simp<;>with_reducible rfl)⟩) (by assumption) ?_;try simp only  [Act.put,List.setIfInBounds_toArray,List.set_cons_zero,List.set_cons_succ]
          refine wpAnyH_take  (i:=15) (v:=?_) (by rw[List.getElem?_toArray];exact rfl) (by kernel_rfl) (by kernel_rfl) (by kernel_rfl) (by exact fun _ _ _ h=>h) (Or.inl ⟨by rfl,(by rintro W ⟨c1,d1⟩;go_simp<;>with_reducible rfl)⟩) (by assumption) ?_;try simp only  [Act.put,List.setIfInBounds_toArray,List.set_cons_zero,List.set_cons_succ]
          refine wpAnyH_take  (i:=16) (v:=?_) (by rw[List.getElem?_toArray];exact rfl) (by kernel_rfl) (by kernel_rfl) (by kernel_rfl) (by exact fun _ _ _ h=>h) (Or.inl ⟨by rfl,(by rintro W ⟨c1,d1⟩;go_simp<;>with_reducible rfl)⟩) (by assumption) ?_;try simp only  [Act.put,List.setIfInBounds_toArray,List.set_cons_zero,List.set_cons_succ]
          refine wpAnyH_take  (i:=17) (v:=?_) (by rw[List.getElem?_toArray];exact rfl) (by kernel_rfl) (by kernel_rfl) (by kernel_rfl) (by exact fun _ _ _ h=>h) (Or.inl ⟨by rfl,(by rintro W ⟨c1,d1⟩;go_simp<;>with_reducible rfl)⟩) (by assumption) ?_;try simp only  [Act.put,List.setIfInBounds_toArray,List.set_cons_zero,List.set_cons_succ]
          refine wpAnyH_take  (i:=18) (v:=?_) (by rw[List.getElem?_toArray];exact rfl) (by kernel_rfl) (by kernel_rfl) (by kernel_rfl) (by exact fun _ _ _ h=>h) (Or.inl ⟨by rfl,(by rintro W ⟨c1,d1⟩;go_simp<;>with_reducible rfl)⟩) (by assumption) ?_;try simp only  [Act.put,List.setIfInBounds_toArray,List.set_cons_zero,List.set_cons_succ]
          refine wpAnyH_take  (i:=19) (v:=?_) (by rw[List.getElem?_toArray];exact rfl) (by kernel_rfl) (by kernel_rfl) (by kernel_rfl) (by exact fun _ _ _ h=>h) (Or.inl ⟨by rfl,(by rintro W ⟨c1,d1⟩;go_simp<;>with_reducible rfl)⟩) (by assumption) ?_;try simp only  [Act.put,List.setIfInBounds_toArray,List.set_cons_zero,List.set_cons_succ]
          refine wpAnyH_take  (i:=20) (v:=?_) (by rw[List.getElem?_toArray];exact rfl) (by kernel_rfl) (by kernel_rfl) (by kernel_rfl) (by exact fun _ _ _ h=>h) (Or.inl ⟨by rfl,(by rintro W ⟨c1,d1⟩;go_simp<;>with_reducible rfl)⟩) (by assumption) ?_;try simp only  [Act.put,List.setIfInBounds_toArray,List.set_cons_zero,List.set_cons_succ]
          refine wpAnyH_take  (i:=21) (v:=?_) (by rw[List.getElem?_toArray];exact rfl) (by kernel_rfl) (by kernel_rfl) (by kernel_rfl) (by exact fun _ _ _ h=>h) (Or.inl ⟨by rfl,(by rintro W ⟨c1,d1⟩;go_simp<;>with_reducible rfl)⟩) (by assumption) ?_;try simp only  [Act.put,List.setIfInBounds_toArray,List.set_cons_zero,List.set_cons_succ]
          refine wpAnyH_take  (i:=22) (v:=?_) (by rw[List.getElem?_toArray];exact rfl) (by kernel_rfl) (by kernel_rfl) (by kernel_rfl) (by exact fun _ _ _ h=>h) (Or.inl ⟨by rfl,(by rintro W ⟨c1,d1⟩;go_simp<;>with_reducible rfl)⟩) (by assumption) ?_;try simp only  [Act.put,List.setIfInBounds_toArray,List.set_cons_zero,List.set_cons_succ]
          refine wpAnyH_take  (i:=23) (v:=?_) (by rw[List.getElem?_toArray];exact rfl) (by kernel_rfl) (by kernel_rfl) (by kernel_rfl) (by exact fun _ _ _ h=>h) (Or.inl ⟨by rfl,(by rintro W ⟨c1,d1⟩;go_simp<;>with_reducible rfl)⟩) (by assumption) ?_;try simp only  [Act.put,List.setIfInBounds_toArray,List.set_cons_zero,List.set_cons_succ]
          refine wpAnyH_done (by kernel_rfl) ?_ _;go_wp2;refine wp_region_held_drew (S:=fun W=>W.cell? ⟨b,off+i*2,none⟩=some (.string (nm l i))∧W.cell? ⟨b',off'+k*2,none⟩=some (.string (nm l' k))) (by kernel_rfl) (HS.out _ ((Kept.drew _).trans (Kept.drew _))) (fun hHeld=>?_);refine wpAnyH_take  (i:=0) (v:=?_) (by rw[List.getElem?_toArray];exact rfl) (by kernel_rfl) (by kernel_rfl) (by kernel_rfl) (by exact fun _ _ _ h=>h) (Or.inl ⟨by rfl,(by rintro W ⟨c1,d1⟩;go_simp<;>with_reducible rfl)⟩) (by assumption) ?_;try simp only  [Act.put,List.setIfInBounds_toArray,List.set_cons_zero,List.set_cons_succ]
          refine wpAnyH_take  (i:=1) (v:=?_) (by rw[List.getElem?_toArray];exact rfl) (by kernel_rfl) (by kernel_rfl) (by kernel_rfl) (by exact fun _ _ _ h=>h) (Or.inl ⟨by rfl,(by rintro W ⟨c1,d1⟩;go_simp<;>with_reducible rfl)⟩) (by assumption) ?_;try simp only  [Act.put,List.setIfInBounds_toArray,List.set_cons_zero,List.set_cons_succ]
          refine wpAnyH_take  (i:=2) (v:=?_) (by rw[List.getElem?_toArray];exact rfl) (by kernel_rfl) (by kernel_rfl) (by kernel_rfl) (by exact fun _ _ _ h=>h) (Or.inl ⟨by rfl,(by rintro W ⟨c1,d1⟩;go_simp<;>with_reducible rfl)⟩) (by assumption) ?_;try simp only  [Act.put,List.setIfInBounds_toArray,List.set_cons_zero,List.set_cons_succ]
          refine wpAnyH_take  (i:=3) (v:=?_) (by rw[List.getElem?_toArray];exact rfl) (by kernel_rfl) (by kernel_rfl) (by kernel_rfl) (by exact fun _ _ _ h=>h) (Or.inl ⟨by rfl,(by rintro W ⟨c1,d1⟩;go_simp<;>with_reducible rfl)⟩) (by assumption) ?_;try simp only  [Act.put,List.setIfInBounds_toArray,List.set_cons_zero,List.set_cons_succ]
          refine wpAnyH_take  (i:=4) (v:=?_) (by rw[List.getElem?_toArray];exact rfl) (by kernel_rfl) (by kernel_rfl) (by kernel_rfl) (by exact fun _ _ _ h=>h) (Or.inl ⟨by rfl,(by rintro W ⟨c1,d1⟩;go_simp<;>with_reducible rfl)⟩) (by assumption) ?_;try simp only  [Act.put,List.setIfInBounds_toArray,List.set_cons_zero,List.set_cons_succ]
          refine wpAnyH_take  (i:=5) (v:=?_) (by rw[List.getElem?_toArray];exact rfl) (by kernel_rfl) (by kernel_rfl) (by kernel_rfl) (by exact fun _ _ _ h=>h) (Or.inl ⟨by rfl,(by rintro W ⟨c1,d1⟩;go_simp<;>with_reducible rfl)⟩) (by assumption) ?_;try simp only  [Act.put,List.setIfInBounds_toArray,List.set_cons_zero,List.set_cons_succ]
          refine wpAnyH_take  (i:=6) (v:=?_) (by rw[List.getElem?_toArray];exact rfl) (by kernel_rfl) (by kernel_rfl) (by kernel_rfl) (by exact fun _ _ _ h=>h) (Or.inl ⟨by rfl,(by rintro W ⟨c1,d1⟩;go_simp<;>with_reducible rfl)⟩) (by assumption) ?_;try simp only  [Act.put,List.setIfInBounds_toArray,List.set_cons_zero,List.set_cons_succ]
          refine wpAnyH_take  (i:=7) (v:=?_) (by rw[List.getElem?_toArray];exact rfl) (by kernel_rfl) (by kernel_rfl) (by kernel_rfl) (by exact fun _ _ _ h=>h) (Or.inl ⟨by rfl,(by rintro W ⟨c1,d1⟩;go_simp<;>with_reducible rfl)⟩) (by assumption) ?_;try simp only  [Act.put,List.setIfInBounds_toArray,List.set_cons_zero,List.set_cons_succ]
          refine wpAnyH_take  (i:=8) (v:=?_) (by rw[List.getElem?_toArray];exact rfl) (by kernel_rfl) (by kernel_rfl) (by kernel_rfl) (by exact fun _ _ _ h=>h) (Or.inl ⟨by rfl,(by rintro W ⟨c1,d1⟩;go_simp<;>with_reducible rfl)⟩) (by assumption) ?_;try simp only  [Act.put,List.setIfInBounds_toArray,List.set_cons_zero,List.set_cons_succ]
          refine wpAnyH_take  (i:=9) (v:=?_) (by rw[List.getElem?_toArray];exact rfl) (by kernel_rfl) (by kernel_rfl) (by kernel_rfl) (by exact fun _ _ _ h=>h) (Or.inl ⟨by rfl,(by rintro W ⟨c1,d1⟩;go_simp<;>with_reducible rfl)⟩) (by assumption) ?_;try simp only  [Act.put,List.setIfInBounds_toArray,List.set_cons_zero,List.set_cons_succ]
          refine wpAnyH_take  (i:=10) (v:=?_) (by rw[List.getElem?_toArray];exact rfl) (by kernel_rfl) (by kernel_rfl) (by kernel_rfl) (by exact fun _ _ _ h=>h) (Or.inl ⟨by rfl,(by rintro W ⟨c1,d1⟩;go_simp<;>with_reducible rfl)⟩) (by assumption) ?_;try simp only  [Act.put,List.setIfInBounds_toArray,List.set_cons_zero,List.set_cons_succ]
          refine wpAnyH_take  (i:=11) (v:=?_) (by rw[List.getElem?_toArray];exact rfl) (by kernel_rfl) (by kernel_rfl) (by kernel_rfl) (by exact fun _ _ _ h=>h) (Or.inl ⟨by rfl,(by rintro W ⟨c1,d1⟩;go_simp<;>with_reducible rfl)⟩) (by assumption) ?_;try simp only  [Act.put,List.setIfInBounds_toArray,List.set_cons_zero,List.set_cons_succ]
          refine wpAnyH_take  (i:=12) (v:=?_) (by rw[List.getElem?_toArray];exact rfl) (by kernel_rfl) (by kernel_rfl) (by kernel_rfl) (by exact fun _ _ _ h=>h) (Or.inl ⟨by rfl,(by rintro W ⟨c1,d1⟩;go_simp<;>with_reducible rfl)⟩) (by assumption) ?_;try simp only  [Act.put,List.setIfInBounds_toArray,List.set_cons_zero,List.set_cons_succ]
          refine wpAnyH_take  (i:=13) (v:=?_) (by rw[List.getElem?_toArray];exact rfl) (by kernel_rfl) (by kernel_rfl) (by kernel_rfl) (by exact fun _ _ _ h=>h) (Or.inl ⟨by rfl,(by rintro W ⟨c1,d1⟩;go_simp<;>with_reducible rfl)⟩) (by assumption) ?_;try simp only  [Act.put,List.setIfInBounds_toArray,List.set_cons_zero,List.set_cons_succ]
          refine wpAnyH_take  (i:=14) (v:=?_) (by rw[List.getElem?_toArray];exact rfl) (by kernel_rfl) (by kernel_rfl) (by kernel_rfl) (by exact fun _ _ _ h=>h) (Or.inl ⟨by rfl,(by rintro W ⟨c1,d1⟩;go_simp<;>with_reducible rfl)⟩) (by assumption) ?_;try simp only  [Act.put,List.setIfInBounds_toArray,List.set_cons_zero,List.set_cons_succ]
          refine wpAnyH_take  (i:=15) (v:=?_) (by rw[List.getElem?_toArray];exact rfl) (by kernel_rfl) (by kernel_rfl) (by kernel_rfl) (by exact fun _ _ _ h=>h) (Or.inl ⟨by rfl,(by rintro W ⟨c1,d1⟩;go_simp<;>with_reducible rfl)⟩) (by assumption) ?_;try simp only  [Act.put,List.setIfInBounds_toArray,List.set_cons_zero,List.set_cons_succ]
          refine wpAnyH_take  (i:=16) (v:=?_) (by rw[List.getElem?_toArray];exact rfl) (by kernel_rfl) (by kernel_rfl) (by kernel_rfl) (by exact fun _ _ _ h=>h) (Or.inl ⟨by rfl,(by rintro W ⟨c1,d1⟩;go_simp<;>with_reducible rfl)⟩) (by assumption) ?_;try simp only  [Act.put,List.setIfInBounds_toArray,List.set_cons_zero,List.set_cons_succ]
          refine wpAnyH_take  (i:=17) (v:=?_) (by rw[List.getElem?_toArray];exact rfl) (by kernel_rfl) (by kernel_rfl) (by kernel_rfl) (by exact fun _ _ _ h=>h) (Or.inl ⟨by rfl,(by rintro W ⟨c1,d1⟩;go_simp<;>with_reducible rfl)⟩) (by assumption) ?_;try simp only  [Act.put,List.setIfInBounds_toArray,List.set_cons_zero,List.set_cons_succ]
          refine wpAnyH_done (by kernel_rfl) ?_ _;have HKW:=lH (show Kept wr (wr.drew.drew) from((Kept.drew wr).trans (Kept.drew _)));obtain⟨c1,d1⟩:=HS.out _ HKW.out;have hbw:(wr.drew.drew).heap.size=wr.heap.size:=rfl;obtain⟨W1,hW1⟩:∃W,wr.drew.drew=W:=⟨_,rfl⟩
          rw[hW1] at HKW hbw c1 d1;try rw[hW1]
          try simp only[hW1]
          clear hW1;have hbase:w.heap.size≤W1.heap.size:=by rw[hbw];exact HB2.out.size
          have HBS:=lH hbase;have OK:=lH (HO.out.kept HKW.out);have hacc16:acc.length≤16:=by omega
          clear hbw;go_wp2_with (at_builtin;refine wpList_append_lies _ rfl _ _ _ rfl w.heap.size 9 i0 _ 1 16 Tryz.underlying47 hi hz0 hz1 hz2 rfl (by decide) u5 acc.length (jf zc acc) rfl (OK.out.1.alloc _) ⟨W1.heap.size,0,none⟩ 1 1 (zc.cs (nm l' k)) rfl rfl (World.news_of_block (cs:=#[.string (nm l' k)]) (t:=9) (fr:=(0,0)) (W1.alloc_heap_new _)) (YT (nm l' k)) (by decide) (by unfold maxLen;omega) (by omega) (by rw[World.size_alloc];exact Nat.le_succ_of_le HBS.out) (W1.heap.size+1) (World.size_alloc _ _) ?_;intro g cap1 w7 hown1 hgrow hg hlt7;refine Hid.out ?_)
          refine lH ?_;have HBW:=lH (((HB2.out.trans (Below.mono HKW.out HB2.out.size)).alloc (by exact HBS.out) _).grown hgrow (by rw[World.size_alloc];exact Nat.le_succ_of_le HBS.out) (fun j hj=>(HO.out.1.lt j hj).1));go_wp2;go_roundw
          case rel=>exact⟨i,k+1,f2,acc++[nm l' k],by omega,by omega,by go_num,by go_num,HN.out,by omega,Own.snoc hown1 rfl HO.out.2 HSK.out,HBW.out,by rw[List.length_append];simp only[List.length_cons,List.length_nil];omega⟩
          case measure=>simp[intOf];omega
        · have e2:ltS (nm l' k) (nm l i)=false:=by simpa using e2
          have E2:=lH e2;have e2':Op.bytesLess (nm l' k).toList (nm l i).toList=false:=e2;clear e2;have HN:=lH (show acc++[nm l i]++jM f2 (l.drop (i+1)) (l'.drop (k+1))=NS by rw[←HQ.out,jek HI.out HK.out E1.out E2.out];simp);go_wp2;clear c1 d1;refine wp_region_held_drew (S:=fun W=>W.cell? ⟨b,off+i*2,none⟩=some (.string (nm l i))∧W.cell? ⟨b',off'+k*2,none⟩=some (.string (nm l' k))) (by kernel_rfl) (HS.out _ (Kept.drew _)) (fun hHeld=>?_);refine wpAnyH_take  (i:=0) (v:=?_) (by rw[List.getElem?_toArray];exact rfl) (by kernel_rfl) (by kernel_rfl) (by kernel_rfl) (by exact fun _ _ _ h=>h) (Or.inl ⟨by rfl,(by rintro W ⟨c1,d1⟩;go_simp<;>with_reducible rfl)⟩) (by assumption) ?_;try simp only  [Act.put,List.setIfInBounds_toArray,List.set_cons_zero,List.set_cons_succ]
          refine wpAnyH_take  (i:=1) (v:=?_) (by rw[List.getElem?_toArray];exact rfl) (by kernel_rfl) (by kernel_rfl) (by kernel_rfl) (by exact fun _ _ _ h=>h) (Or.inl ⟨by rfl,(by rintro W ⟨c1,d1⟩;go_simp<;>with_reducible rfl)⟩) (by assumption) ?_;try simp only  [Act.put,List.setIfInBounds_toArray,List.set_cons_zero,List.set_cons_succ]
          refine wpAnyH_take  (i:=2) (v:=?_) (by rw[List.getElem?_toArray];exact rfl) (by kernel_rfl) (by kernel_rfl) (by kernel_rfl) (by exact fun _ _ _ h=>h) (Or.inl ⟨by rfl,(by rintro W ⟨c1,d1⟩;go_simp<;>with_reducible rfl)⟩) (by assumption) ?_;try simp only  [Act.put,List.setIfInBounds_toArray,List.set_cons_zero,List.set_cons_succ]
          refine wpAnyH_take  (i:=3) (v:=?_) (by rw[List.getElem?_toArray];exact rfl) (by kernel_rfl) (by kernel_rfl) (by kernel_rfl) (by exact fun _ _ _ h=>h) (Or.inl ⟨by rfl,(by rintro W ⟨c1,d1⟩;go_simp<;>with_reducible rfl)⟩) (by assumption) ?_;try simp only  [Act.put,List.setIfInBounds_toArray,List.set_cons_zero,List.set_cons_succ]
          refine wpAnyH_take  (i:=4) (v:=?_) (by rw[List.getElem?_toArray];exact rfl) (by kernel_rfl) (by kernel_rfl) (by kernel_rfl) (by exact fun _ _ _ h=>h) (Or.inl ⟨by rfl,(by rintro W ⟨c1,d1⟩;go_simp<;>with_reducible rfl)⟩) (by assumption) ?_;try simp only  [Act.put,List.setIfInBounds_toArray,List.set_cons_zero,List.set_cons_succ]
          refine wpAnyH_take  (i:=5) (v:=?_) (by rw[List.getElem?_toArray];exact rfl) (by kernel_rfl) (by kernel_rfl) (by kernel_rfl) (by exact fun _ _ _ h=>h) (Or.inl ⟨by rfl,(by rintro W ⟨c1,d1⟩;go_simp<;>with_reducible rfl)⟩) (by assumption) ?_;try simp only  [Act.put,List.setIfInBounds_toArray,List.set_cons_zero,List.set_cons_succ]
          refine wpAnyH_take  (i:=6) (v:=?_) (by rw[List.getElem?_toArray];exact rfl) (by kernel_rfl) (by kernel_rfl) (by kernel_rfl) (by exact fun _ _ _ h=>h) (Or.inl ⟨by rfl,(by rintro W ⟨c1,d1⟩;go_simp<;>with_reducible rfl)⟩) (by assumption) ?_;try simp only  [Act.put,List.setIfInBounds_toArray,List.set_cons_zero,List.set_cons_succ]
          refine wpAnyH_take  (i:=7) (v:=?_) (by rw[List.getElem?_toArray];exact rfl) (by kernel_rfl) (by kernel_rfl) (by kernel_rfl) (by exact fun _ _ _ h=>h) (Or.inl ⟨by rfl,(by rintro W ⟨c1,d1⟩;go_simp<;>with_reducible rfl)⟩) (by assumption) ?_;try simp only  [Act.put,List.setIfInBounds_toArray,List.set_cons_zero,List.set_cons_succ]
          refine wpAnyH_take  (i:=8) (v:=?_) (by rw[List.getElem?_toArray];exact rfl) (by kernel_rfl) (by kernel_rfl) (by kernel_rfl) (by exact fun _ _ _ h=>h) (Or.inl ⟨by rfl,(by rintro W ⟨c1,d1⟩;go_simp<;>with_reducible rfl)⟩) (by assumption) ?_;try simp only  [Act.put,List.setIfInBounds_toArray,List.set_cons_zero,List.set_cons_succ]
          refine wpAnyH_take  (i:=9) (v:=?_) (by rw[List.getElem?_toArray];exact rfl) (by kernel_rfl) (by kernel_rfl) (by kernel_rfl) (by exact fun _ _ _ h=>h) (Or.inl ⟨by rfl,(by rintro W ⟨c1,d1⟩;go_simp<;>with_reducible rfl)⟩) (by assumption) ?_;try simp only  [Act.put,List.setIfInBounds_toArray,List.set_cons_zero,List.set_cons_succ]
          refine wpAnyH_take  (i:=10) (v:=?_) (by rw[List.getElem?_toArray];exact rfl) (by kernel_rfl) (by kernel_rfl) (by kernel_rfl) (by exact fun _ _ _ h=>h) (Or.inl ⟨by rfl,(by rintro W ⟨c1,d1⟩;go_simp<;>with_reducible rfl)⟩) (by assumption) ?_;try simp only  [Act.put,List.setIfInBounds_toArray,List.set_cons_zero,List.set_cons_succ]
          refine wpAnyH_take  (i:=11) (v:=?_) (by rw[List.getElem?_toArray];exact rfl) (by kernel_rfl) (by kernel_rfl) (by kernel_rfl) (by exact fun _ _ _ h=>h) (Or.inl ⟨by rfl,(by rintro W ⟨c1,d1⟩;go_simp<;>with_reducible rfl)⟩) (by assumption) ?_;try simp only  [Act.put,List.setIfInBounds_toArray,List.set_cons_zero,List.set_cons_succ]
          refine wpAnyH_take  (i:=12) (v:=?_) (by rw[List.getElem?_toArray];exact rfl) (by kernel_rfl) (by kernel_rfl) (by kernel_rfl) (by exact fun _ _ _ h=>h) (Or.inl ⟨by rfl,(by rintro W ⟨c1,d1⟩;go_simp<;>with_reducible rfl)⟩) (by assumption) ?_;try simp only  [Act.put,List.setIfInBounds_toArray,List.set_cons_zero,List.set_cons_succ]
          refine wpAnyH_take  (i:=13) (v:=?_) (by rw[List.getElem?_toArray];exact rfl) (by kernel_rfl) (by kernel_rfl) (by kernel_rfl) (by exact fun _ _ _ h=>h) (Or.inl ⟨by rfl,(by rintro W ⟨c1,d1⟩;go_simp<;>with_reducible rfl)⟩) (by assumption) ?_;try simp only  [Act.put,List.setIfInBounds_toArray,List.set_cons_zero,List.set_cons_succ]
          refine wpAnyH_take  (i:=14) (v:=?_) (by rw[List.getElem?_toArray];exact rfl) (by kernel_rfl) (by kernel_rfl) (by kernel_rfl) (by exact fun _ _ _ h=>h) (Or.inl ⟨by rfl,(by rintro W ⟨c1,d1⟩;go_simp<;>with_reducible rfl)⟩) (by assumption) ?_;try simp only  [Act.put,List.setIfInBounds_toArray,List.set_cons_zero,List.set_cons_succ]
          refine wpAnyH_take  (i:=15) (v:=?_) (by rw[List.getElem?_toArray];exact rfl) (by kernel_rfl) (by kernel_rfl) (by kernel_rfl) (by exact fun _ _ _ h=>h) (Or.inl ⟨by rfl,(by rintro W ⟨c1,d1⟩;go_simp<;>with_reducible rfl)⟩) (by assumption) ?_;try simp only  [Act.put,List.setIfInBounds_toArray,List.set_cons_zero,List.set_cons_succ]
          refine wpAnyH_take  (i:=16) (v:=?_) (by rw[List.getElem?_toArray];exact rfl) (by kernel_rfl) (by kernel_rfl) (by kernel_rfl) (by exact fun _ _ _ h=>h) (Or.inl ⟨by rfl,(by rintro W ⟨c1,d1⟩;go_simp<;>with_reducible rfl)⟩) (by assumption) ?_;try simp only  [Act.put,List.setIfInBounds_toArray,List.set_cons_zero,List.set_cons_succ]
          refine wpAnyH_take  (i:=17) (v:=?_) (by rw[List.getElem?_toArray];exact rfl) (by kernel_rfl) (by kernel_rfl) (by kernel_rfl) (by exact fun _ _ _ h=>h) (Or.inl ⟨by rfl,(by rintro W ⟨c1,d1⟩;go_simp<;>with_reducible rfl)⟩) (by assumption) ?_;try simp only  [Act.put,List.setIfInBounds_toArray,List.set_cons_zero,List.set_cons_succ]
          refine wpAnyH_take  (i:=18) (v:=?_) (by rw[List.getElem?_toArray];exact rfl) (by kernel_rfl) (by kernel_rfl) (by kernel_rfl) (by exact fun _ _ _ h=>h) (Or.inl ⟨by rfl,(by rintro W ⟨c1,d1⟩;go_simp<;>with_reducible rfl)⟩) (by assumption) ?_;try simp only  [Act.put,List.setIfInBounds_toArray,List.set_cons_zero,List.set_cons_succ]
          refine wpAnyH_take  (i:=19) (v:=?_) (by rw[List.getElem?_toArray];exact rfl) (by kernel_rfl) (by kernel_rfl) (by kernel_rfl) (by exact fun _ _ _ h=>h) (Or.inl ⟨by rfl,(by rintro W ⟨c1,d1⟩;go_simp<;>with_reducible rfl)⟩) (by assumption) ?_;try simp only  [Act.put,List.setIfInBounds_toArray,List.set_cons_zero,List.set_cons_succ]
          refine wpAnyH_take  (i:=20) (v:=?_) (by rw[List.getElem?_toArray];exact rfl) (by kernel_rfl) (by kernel_rfl) (by kernel_rfl) (by exact fun _ _ _ h=>h) (Or.inl ⟨by rfl,(by rintro W ⟨c1,d1⟩;go_simp<;>with_reducible rfl)⟩) (by assumption) ?_;try simp only  [Act.put,List.setIfInBounds_toArray,List.set_cons_zero,List.set_cons_succ]
          refine wpAnyH_take  (i:=21) (v:=?_) (by rw[List.getElem?_toArray];exact rfl) (by kernel_rfl) (by kernel_rfl) (by kernel_rfl) (by exact fun _ _ _ h=>h) (Or.inl ⟨by rfl,(by rintro W ⟨c1,d1⟩;go_simp<;>with_reducible rfl)⟩) (by assumption) ?_;try simp only  [Act.put,List.setIfInBounds_toArray,List.set_cons_zero,List.set_cons_succ]
          refine wpAnyH_take  (i:=22) (v:=?_) (by rw[List.getElem?_toArray];exact rfl) (by kernel_rfl) (by kernel_rfl) (by kernel_rfl) (by exact fun _ _ _ h=>h) (Or.inl ⟨by rfl,(by rintro W ⟨c1,d1⟩;go_simp<;>with_reducible rfl)⟩) (by assumption) ?_;try simp only  [Act.put,List.setIfInBounds_toArray,List.set_cons_zero,List.set_cons_succ]
          refine wpAnyH_take  (i:=23) (v:=?_) (by rw[List.getElem?_toArray];exact rfl) (by kernel_rfl) (by kernel_rfl) (by kernel_rfl) (by exact fun _ _ _ h=>h) (Or.inl ⟨by rfl,(by rintro W ⟨c1,d1⟩;go_simp<;>with_reducible rfl)⟩) (by assumption) ?_;try simp only  [Act.put,List.setIfInBounds_toArray,List.set_cons_zero,List.set_cons_succ]
          refine wpAnyH_done (by kernel_rfl) ?_ _;go_wp2;refine wp_region_held_drew (S:=fun W=>W.cell? ⟨b,off+i*2,none⟩=some (.string (nm l i))∧W.cell? ⟨b',off'+k*2,none⟩=some (.string (nm l' k))) (by kernel_rfl) (HS.out _ ((Kept.drew _).trans (Kept.drew _))) (fun hHeld=>?_);refine wpAnyH_take  (i:=0) (v:=?_) (by rw[List.getElem?_toArray];exact rfl) (by kernel_rfl) (by kernel_rfl) (by kernel_rfl) (by exact fun _ _ _ h=>h) (Or.inl ⟨by rfl,(by rintro W ⟨c1,d1⟩;go_simp<;>with_reducible rfl)⟩) (by assumption) ?_;try simp only  [Act.put,List.setIfInBounds_toArray,List.set_cons_zero,List.set_cons_succ]
          refine wpAnyH_take  (i:=1) (v:=?_) (by rw[List.getElem?_toArray];exact rfl) (by kernel_rfl) (by kernel_rfl) (by kernel_rfl) (by exact fun _ _ _ h=>h) (Or.inl ⟨by rfl,(by rintro W ⟨c1,d1⟩;go_simp<;>with_reducible rfl)⟩) (by assumption) ?_;try simp only  [Act.put,List.setIfInBounds_toArray,List.set_cons_zero,List.set_cons_succ]
          refine wpAnyH_take  (i:=2) (v:=?_) (by rw[List.getElem?_toArray];exact rfl) (by kernel_rfl) (by kernel_rfl) (by kernel_rfl) (by exact fun _ _ _ h=>h) (Or.inl ⟨by rfl,(by rintro W ⟨c1,d1⟩;go_simp<;>with_reducible rfl)⟩) (by assumption) ?_;try simp only  [Act.put,List.setIfInBounds_toArray,List.set_cons_zero,List.set_cons_succ]
          refine wpAnyH_take  (i:=3) (v:=?_) (by rw[List.getElem?_toArray];exact rfl) (by kernel_rfl) (by kernel_rfl) (by kernel_rfl) (by exact fun _ _ _ h=>h) (Or.inl ⟨by rfl,(by rintro W ⟨c1,d1⟩;go_simp<;>with_reducible rfl)⟩) (by assumption) ?_;try simp only  [Act.put,List.setIfInBounds_toArray,List.set_cons_zero,List.set_cons_succ]
          refine wpAnyH_take  (i:=4) (v:=?_) (by rw[List.getElem?_toArray];exact rfl) (by kernel_rfl) (by kernel_rfl) (by kernel_rfl) (by exact fun _ _ _ h=>h) (Or.inl ⟨by rfl,(by rintro W ⟨c1,d1⟩;go_simp<;>with_reducible rfl)⟩) (by assumption) ?_;try simp only  [Act.put,List.setIfInBounds_toArray,List.set_cons_zero,List.set_cons_succ]
          refine wpAnyH_take  (i:=5) (v:=?_) (by rw[List.getElem?_toArray];exact rfl) (by kernel_rfl) (by kernel_rfl) (by kernel_rfl) (by exact fun _ _ _ h=>h) (Or.inl ⟨by rfl,(by rintro W ⟨c1,d1⟩;go_simp<;>with_reducible rfl)⟩) (by assumption) ?_;try simp only  [Act.put,List.setIfInBounds_toArray,List.set_cons_zero,List.set_cons_succ]
          refine wpAnyH_take  (i:=6) (v:=?_) (by rw[List.getElem?_toArray];exact rfl) (by kernel_rfl) (by kernel_rfl) (by kernel_rfl) (by exact fun _ _ _ h=>h) (Or.inl ⟨by rfl,(by rintro W ⟨c1,d1⟩;go_simp<;>with_reducible rfl)⟩) (by assumption) ?_;try simp only  [Act.put,List.setIfInBounds_toArray,List.set_cons_zero,List.set_cons_succ]
          refine wpAnyH_take  (i:=7) (v:=?_) (by rw[List.getElem?_toArray];exact rfl) (by kernel_rfl) (by kernel_rfl) (by kernel_rfl) (by exact fun _ _ _ h=>h) (Or.inl ⟨by rfl,(by rintro W ⟨c1,d1⟩;go_simp<;>with_reducible rfl)⟩) (by assumption) ?_;try simp only  [Act.put,List.setIfInBounds_toArray,List.set_cons_zero,List.set_cons_succ]
          refine wpAnyH_take  (i:=8) (v:=?_) (by rw[List.getElem?_toArray];exact rfl) (by kernel_rfl) (by kernel_rfl) (by kernel_rfl) (by exact fun _ _ _ h=>h) (Or.inl ⟨by rfl,(by rintro W ⟨c1,d1⟩;go_simp<;>with_reducible rfl)⟩) (by assumption) ?_;try simp only  [Act.put,List.setIfInBounds_toArray,List.set_cons_zero,List.set_cons_succ]
          refine wpAnyH_take  (i:=9) (v:=?_) (by rw[List.getElem?_toArray];exact rfl) (by kernel_rfl) (by kernel_rfl) (by kernel_rfl) (by exact fun _ _ _ h=>h) (Or.inl ⟨by rfl,(by rintro W ⟨c1,d1⟩;go_simp<;>with_reducible rfl)⟩) (by assumption) ?_;try simp only  [Act.put,List.setIfInBounds_toArray,List.set_cons_zero,List.set_cons_succ]
          refine wpAnyH_take  (i:=10) (v:=?_) (by rw[List.getElem?_toArray];exact rfl) (by kernel_rfl) (by kernel_rfl) (by kernel_rfl) (by exact fun _ _ _ h=>h) (Or.inl ⟨by rfl,(by rintro W ⟨c1,d1⟩;go_simp<;>with_reducible rfl)⟩) (by assumption) ?_;try simp only  [Act.put,List.setIfInBounds_toArray,List.set_cons_zero,List.set_cons_succ]
          refine wpAnyH_take  (i:=11) (v:=?_) (by rw[List.getElem?_toArray];exact rfl) (by kernel_rfl) (by kernel_rfl) (by kernel_rfl) (by exact fun _ _ _ h=>h) (Or.inl ⟨by rfl,(by rintro W ⟨c1,d1⟩;go_simp<;>with_reducible rfl)⟩) (by assumption) ?_;try simp only  [Act.put,List.setIfInBounds_toArray,List.set_cons_zero,List.set_cons_succ]
          refine wpAnyH_take  (i:=12) (v:=?_) (by rw[List.getElem?_toArray];exact rfl) (by kernel_rfl) (by kernel_rfl) (by kernel_rfl) (by exact fun _ _ _ h=>h) (Or.inl ⟨by rfl,(by rintro W ⟨c1,d1⟩;go_simp<;>with_reducible rfl)⟩) (by assumption) ?_;try simp only  [Act.put,List.setIfInBounds_toArray,List.set_cons_zero,List.set_cons_succ]
          refine wpAnyH_take  (i:=13) (v:=?_) (by rw[List.getElem?_toArray];exact rfl) (by kernel_rfl) (by kernel_rfl) (by kernel_rfl) (by exact fun _ _ _ h=>h) (Or.inl ⟨by rfl,(by rintro W ⟨c1,d1⟩;go_simp<;>with_reducible rfl)⟩) (by assumption) ?_;try simp only  [Act.put,List.setIfInBounds_toArray,List.set_cons_zero,List.set_cons_succ]
          refine wpAnyH_take  (i:=14) (v:=?_) (by rw[List.getElem?_toArray];exact rfl) (by kernel_rfl) (by kernel_rfl) (by kernel_rfl) (by exact fun _ _ _ h=>h) (Or.inl ⟨by rfl,(by rintro W ⟨c1,d1⟩;go_simp<;>with_reducible rfl)⟩) (by assumption) ?_;try simp only  [Act.put,List.setIfInBounds_toArray,List.set_cons_zero,List.set_cons_succ]
          refine wpAnyH_take  (i:=15) (v:=?_) (by rw[List.getElem?_toArray];exact rfl) (by kernel_rfl) (by kernel_rfl) (by kernel_rfl) (by exact fun _ _ _ h=>h) (Or.inl ⟨by rfl,(by rintro W ⟨c1,d1⟩;go_simp<;>with_reducible rfl)⟩) (by assumption) ?_;try simp only  [Act.put,List.setIfInBounds_toArray,List.set_cons_zero,List.set_cons_succ]
          refine wpAnyH_take  (i:=16) (v:=?_) (by rw[List.getElem?_toArray];exact rfl) (by kernel_rfl) (by kernel_rfl) (by kernel_rfl) (by exact fun _ _ _ h=>h) (Or.inl ⟨by rfl,(by rintro W ⟨c1,d1⟩;go_simp<;>with_reducible rfl)⟩) (by assumption) ?_;try simp only  [Act.put,List.setIfInBounds_toArray,List.set_cons_zero,List.set_cons_succ]
          refine wpAnyH_take  (i:=17) (v:=?_) (by rw[List.getElem?_toArray];exact rfl) (by kernel_rfl) (by kernel_rfl) (by kernel_rfl) (by exact fun _ _ _ h=>h) (Or.inl ⟨by rfl,(by rintro W ⟨c1,d1⟩;go_simp<;>with_reducible rfl)⟩) (by assumption) ?_;try simp only  [Act.put,List.setIfInBounds_toArray,List.set_cons_zero,List.set_cons_succ]
          refine wpAnyH_done (by kernel_rfl) ?_ _;have HKW:=lH (show Kept wr (wr.drew.drew) from((Kept.drew wr).trans (Kept.drew _)));obtain⟨c1,d1⟩:=HS.out _ HKW.out;have hbw:(wr.drew.drew).heap.size=wr.heap.size:=rfl;obtain⟨W1,hW1⟩:∃W,wr.drew.drew=W:=⟨_,rfl⟩
          rw[hW1] at HKW hbw c1 d1;try rw[hW1]
          try simp only[hW1]
          clear hW1;have hbase:w.heap.size≤W1.heap.size:=by rw[hbw];exact HB2.out.size
          have HBS:=lH hbase;have OK:=lH (HO.out.kept HKW.out);have hacc16:acc.length≤16:=by omega
          clear hbw;go_wp2_with (at_builtin;refine wpList_append_lies _ rfl _ _ _ rfl w.heap.size 9 i0 _ 1 16 Tryz.underlying47 hi hz0 hz1 hz2 rfl (by decide) u5 acc.length (jf zc acc) rfl (OK.out.1.alloc _) ⟨W1.heap.size,0,none⟩ 1 1 (zc.cs (nm l i)) rfl rfl (World.news_of_block (cs:=#[.string (nm l i)]) (t:=9) (fr:=(0,0)) (W1.alloc_heap_new _)) (YT (nm l i)) (by decide) (by unfold maxLen;omega) (by omega) (by rw[World.size_alloc];exact Nat.le_succ_of_le HBS.out) (W1.heap.size+1) (World.size_alloc _ _) ?_;intro g cap1 w7 hown1 hgrow hg hlt7;refine Hid.out ?_)
          refine lH ?_;have HBW:=lH (((HB2.out.trans (Below.mono HKW.out HB2.out.size)).alloc (by exact HBS.out) _).grown hgrow (by rw[World.size_alloc];exact Nat.le_succ_of_le HBS.out) (fun j hj=>(HO.out.1.lt j hj).1));go_wp2;go_roundw
          case rel=>exact⟨i+1,k+1,f2,acc++[nm l i],by omega,by omega,by go_num,by go_num,HN.out,by omega,Own.snoc hown1 rfl HO.out.2 HSI.out,HBW.out,by rw[List.length_append];simp only[List.length_cons,List.length_nil];omega⟩
          case measure=>simp[intOf];omega
    · have hk3:(len':Int)≤(k:Int):=by omega
      have hk4:decide ((k:Int)<(len':Int))=false:=decide_eq_false (by omega);have hk5:¬(k:Int)<(len':Int):=by omega
      have hd:decide (len'≤k)=true:=decide_eq_true (by omega);have hi3:(i:Int)<(len:Int):=by omega
      have HS:=lH (show ∀W,Kept wr W→W.cell? ⟨b,off+i*2,none⟩=some (.string (nm l i)) from fun W kk=>cell_later kk c1);clear hB;have HN:=lH (show acc++[nm l i]++jM f2 (l.drop (i+1)) (l'.drop (k))=NS by rw[←HQ.out,qo HI.out (.inl (by rw[HL'.out];omega))];simp);go_wp2;clear c1;refine wp_region_held_drew (S:=fun W=>W.cell? ⟨b,off+i*2,none⟩=some (.string (nm l i))) (by kernel_rfl) (HS.out _ (Kept.drew _)) (fun hHeld=>?_);refine wpAnyH_take  (i:=0) (v:=?_) (by rw[List.getElem?_toArray];exact rfl) (by kernel_rfl) (by kernel_rfl) (by kernel_rfl) (by exact fun _ _ _ h=>h) (Or.inl ⟨by rfl,(by intro W hSw;go_simp<;>with_reducible rfl)⟩) (by assumption) ?_;try simp only  [Act.put,List.setIfInBounds_toArray,List.set_cons_zero,List.set_cons_succ]
      refine wpAnyH_take  (i:=1) (v:=?_) (by rw[List.getElem?_toArray];exact rfl) (by kernel_rfl) (by kernel_rfl) (by kernel_rfl) (by exact fun _ _ _ h=>h) (Or.inl ⟨by rfl,(by intro W hSw;go_simp<;>with_reducible rfl)⟩) (by assumption) ?_;try simp only  [Act.put,List.setIfInBounds_toArray,List.set_cons_zero,List.set_cons_succ]
      refine wpAnyH_take  (i:=2) (v:=?_) (by rw[List.getElem?_toArray];exact rfl) (by kernel_rfl) (by kernel_rfl) (by kernel_rfl) (by exact fun _ _ _ h=>h) (Or.inl ⟨by rfl,(by intro W hSw;go_simp<;>with_reducible rfl)⟩) (by assumption) ?_;try simp only  [Act.put,List.setIfInBounds_toArray,List.set_cons_zero,List.set_cons_succ]
      refine wpAnyH_take  (i:=3) (v:=?_) (by rw[List.getElem?_toArray];exact rfl) (by kernel_rfl) (by kernel_rfl) (by kernel_rfl) (by exact fun _ _ _ h=>h) (Or.inl ⟨by rfl,(by intro W hSw;go_simp<;>with_reducible rfl)⟩) (by assumption) ?_;try simp only  [Act.put,List.setIfInBounds_toArray,List.set_cons_zero,List.set_cons_succ]
      refine wpAnyH_take  (i:=4) (v:=?_) (by rw[List.getElem?_toArray];exact rfl) (by kernel_rfl) (by kernel_rfl) (by kernel_rfl) (by exact fun _ _ _ h=>h) (Or.inl ⟨by rfl,(by intro W hSw;go_simp<;>with_reducible rfl)⟩) (by assumption) ?_;try simp only  [Act.put,List.setIfInBounds_toArray,List.set_cons_zero,List.set_cons_succ]
      refine wpAnyH_take  (i:=5) (v:=undef) (by rw[List.getElem?_toArray];exact rfl) (by kernel_rfl) (by kernel_rfl) (by kernel_rfl) (by exact fun _ _ _ h=>h) (Or.inr ⟨by rfl,rfl⟩) (by assumption) ?_;try simp only  [Act.put,List.setIfInBounds_toArray,List.set_cons_zero,List.set_cons_succ]
      refine wpAnyH_take  (i:=6) (v:=undef) (by rw[List.getElem?_toArray];exact rfl) (by kernel_rfl) (by kernel_rfl) (by kernel_rfl) (by exact fun _ _ _ h=>h) (Or.inr ⟨by rfl,rfl⟩) (by assumption) ?_;try simp only  [Act.put,List.setIfInBounds_toArray,List.set_cons_zero,List.set_cons_succ]
      refine wpAnyH_take  (i:=7) (v:=undef) (by rw[List.getElem?_toArray];exact rfl) (by kernel_rfl) (by kernel_rfl) (by kernel_rfl) (by exact fun _ _ _ h=>h) (Or.inr ⟨by rfl,rfl⟩) (by assumption) ?_;try simp only  [Act.put,List.setIfInBounds_toArray,List.set_cons_zero,List.set_cons_succ]
      refine wpAnyH_take  (i:=8) (v:=undef) (by rw[List.getElem?_toArray];exact rfl) (by kernel_rfl) (by kernel_rfl) (by kernel_rfl) (by exact fun _ _ _ h=>h) (Or.inr ⟨by rfl,rfl⟩) (by assumption) ?_;try simp only  [Act.put,List.setIfInBounds_toArray,List.set_cons_zero,List.set_cons_succ]
      refine wpAnyH_take  (i:=9) (v:=undef) (by rw[List.getElem?_toArray];exact rfl) (by kernel_rfl) (by kernel_rfl) (by kernel_rfl) (by exact fun _ _ _ h=>h) (Or.inr ⟨by rfl,rfl⟩) (by assumption) ?_;try simp only  [Act.put,List.setIfInBounds_toArray,List.set_cons_zero,List.set_cons_succ]
      refine wpAnyH_take  (i:=10) (v:=undef) (by rw[List.getElem?_toArray];exact rfl) (by kernel_rfl) (by kernel_rfl) (by kernel_rfl) (by exact fun _ _ _ h=>h) (Or.inr ⟨by rfl,rfl⟩) (by assumption) ?_;try simp only  [Act.put,List.setIfInBounds_toArray,List.set_cons_zero,List.set_cons_succ]
      refine wpAnyH_take  (i:=11) (v:=undef) (by rw[List.getElem?_toArray];exact rfl) (by kernel_rfl) (by kernel_rfl) (by kernel_rfl) (by exact fun _ _ _ h=>h) (Or.inr ⟨by rfl,rfl⟩) (by assumption) ?_;try simp only  [Act.put,List.setIfInBounds_toArray,List.set_cons_zero,List.set_cons_succ]
      refine wpAnyH_take  (i:=12) (v:=undef) (by rw[List.getElem?_toArray];exact rfl) (by kernel_rfl) (by kernel_rfl) (by kernel_rfl) (by exact fun _ _ _ h=>h) (Or.inr ⟨by rfl,rfl⟩) (by assumption) ?_;try simp only  [Act.put,List.setIfInBounds_toArray,List.set_cons_zero,List.set_cons_succ]
      refine wpAnyH_take  (i:=13) (v:=undef) (by rw[List.getElem?_toArray];exact rfl) (by kernel_rfl) (by kernel_rfl) (by kernel_rfl) (by exact fun _ _ _ h=>h) (Or.inr ⟨by rfl,rfl⟩) (by assumption) ?_;try simp only  [Act.put,List.setIfInBounds_toArray,List.set_cons_zero,List.set_cons_succ]
      refine wpAnyH_take  (i:=14) (v:=undef) (by rw[List.getElem?_toArray];exact rfl) (by kernel_rfl) (by kernel_rfl) (by kernel_rfl) (by exact fun _ _ _ h=>h) (Or.inr ⟨by rfl,rfl⟩) (by assumption) ?_;try simp only  [Act.put,List.setIfInBounds_toArray,List.set_cons_zero,List.set_cons_succ]
      refine wpAnyH_take  (i:=15) (v:=undef) (by rw[List.getElem?_toArray];exact rfl) (by kernel_rfl) (by kernel_rfl) (by kernel_rfl) (by exact fun _ _ _ h=>h) (Or.inr ⟨by rfl,rfl⟩) (by assumption) ?_;try simp only  [Act.put,List.setIfInBounds_toArray,List.set_cons_zero,List.set_cons_succ]
      refine wpAnyH_take  (i:=16) (v:=undef) (by rw[List.getElem?_toArray];exact rfl) (by kernel_rfl) (by kernel_rfl) (by kernel_rfl) (by exact fun _ _ _ h=>h) (Or.inr ⟨by rfl,rfl⟩) (by assumption) ?_;try simp only  [Act.put,List.setIfInBounds_toArray,List.set_cons_zero,List.set_cons_succ]
      refine wpAnyH_take  (i:=17) (v:=undef) (by rw[List.getElem?_toArray];exact rfl) (by kernel_rfl) (by kernel_rfl) (by kernel_rfl) (by exact fun _ _ _ h=>h) (Or.inr ⟨by rfl,rfl⟩) (by assumption) ?_;try simp only  [Act.put,List.setIfInBounds_toArray,List.set_cons_zero,List.set_cons_succ]
      refine wpAnyH_take  (i:=18) (v:=undef) (by rw[List.getElem?_toArray];exact rfl) (by kernel_rfl) (by kernel_rfl) (by kernel_rfl) (by exact fun _ _ _ h=>h) (Or.inr ⟨by rfl,rfl⟩) (by assumption) ?_;try simp only  [Act.put,List.setIfInBounds_toArray,List.set_cons_zero,List.set_cons_succ]
      refine wpAnyH_take  (i:=19) (v:=undef) (by rw[List.getElem?_toArray];exact rfl) (by kernel_rfl) (by kernel_rfl) (by kernel_rfl) (by exact fun _ _ _ h=>h) (Or.inr ⟨by rfl,rfl⟩) (by assumption) ?_;try simp only  [Act.put,List.setIfInBounds_toArray,List.set_cons_zero,List.set_cons_succ]
      refine wpAnyH_take  (i:=20) (v:=undef) (by rw[List.getElem?_toArray];exact rfl) (by kernel_rfl) (by kernel_rfl) (by kernel_rfl) (by exact fun _ _ _ h=>h) (Or.inr ⟨by rfl,rfl⟩) (by assumption) ?_;try simp only  [Act.put,List.setIfInBounds_toArray,List.set_cons_zero,List.set_cons_succ]
      refine wpAnyH_take  (i:=21) (v:=undef) (by rw[List.getElem?_toArray];exact rfl) (by kernel_rfl) (by kernel_rfl) (by kernel_rfl) (by exact fun _ _ _ h=>h) (Or.inr ⟨by rfl,rfl⟩) (by assumption) ?_;try simp only  [Act.put,List.setIfInBounds_toArray,List.set_cons_zero,List.set_cons_succ]
      refine wpAnyH_take  (i:=22) (v:=?_) (by rw[List.getElem?_toArray];exact rfl) (by kernel_rfl) (by kernel_rfl) (by kernel_rfl) (by exact fun _ _ _ h=>h) (Or.inl ⟨by rfl,(by intro W hSw;go_simp<;>with_reducible rfl)⟩) (by assumption) ?_;try simp only  [Act.put,List.setIfInBounds_toArray,List.set_cons_zero,List.set_cons_succ]
      refine wpAnyH_take  (i:=23) (v:=?_) (by rw[List.getElem?_toArray];exact rfl) (by kernel_rfl) (by kernel_rfl) (by kernel_rfl) (by exact fun _ _ _ h=>h) (Or.inl ⟨by rfl,(by intro W hSw;go_simp<;>with_reducible rfl)⟩) (by assumption) ?_;try simp only  [Act.put,List.setIfInBounds_toArray,List.set_cons_zero,List.set_cons_succ]
      refine wpAnyH_done (by kernel_rfl) ?_ _;have HKW:=lH (show Kept wr (wr.drew) from(Kept.drew wr));obtain c1:=HS.out _ HKW.out;have hbw:(wr.drew).heap.size=wr.heap.size:=rfl;obtain⟨W1,hW1⟩:∃W,wr.drew=W:=⟨_,rfl⟩
      rw[hW1] at HKW hbw c1;try rw[hW1]
      try simp only[hW1]
      clear hW1;have hbase:w.heap.size≤W1.heap.size:=by rw[hbw];exact HB2.out.size
      have HBS:=lH hbase;have OK:=lH (HO.out.kept HKW.out);have hacc16:acc.length≤16:=by omega
      clear hbw;go_wp2_with (at_builtin;refine wpList_append_lies _ rfl _ _ _ rfl w.heap.size 9 i0 _ 1 16 Tryz.underlying47 hi hz0 hz1 hz2 rfl (by decide) u5 acc.length (jf zc acc) rfl (OK.out.1.alloc _) ⟨W1.heap.size,0,none⟩ 1 1 (zc.cs (nm l i)) rfl rfl (World.news_of_block (cs:=#[.string (nm l i)]) (t:=9) (fr:=(0,0)) (W1.alloc_heap_new _)) (YT (nm l i)) (by decide) (by unfold maxLen;omega) (by omega) (by rw[World.size_alloc];exact Nat.le_succ_of_le HBS.out) (W1.heap.size+1) (World.size_alloc _ _) ?_;intro g cap1 w7 hown1 hgrow hg hlt7;refine Hid.out ?_)
      refine lH ?_;have HBW:=lH (((HB2.out.trans (Below.mono HKW.out HB2.out.size)).alloc (by exact HBS.out) _).grown hgrow (by rw[World.size_alloc];exact Nat.le_succ_of_le HBS.out) (fun j hj=>(HO.out.1.lt j hj).1));go_wp2;go_roundw
      case rel=>exact⟨i+1,k,f2,acc++[nm l i],by omega,by omega,by go_num,by go_num,HN.out,by omega,Own.snoc hown1 rfl HO.out.2 HSI.out,HBW.out,by rw[List.length_append];simp only[List.length_cons,List.length_nil];omega⟩
      case measure=>simp[intOf];omega
  · by_cases hk2:k<len'
    · obtain⟨b',off',rfl⟩:=HB.out.form.resolve_left (by omega);obtain⟨hb',d1,-⟩:=(HB.out.kept hB).cells hk2;have HK:=lH (show k<l'.length by rw[HL'.out];exact hk2);have HSK:=lH (HF'.out k HK.out).1;obtain⟨f2,rfl⟩:∃f2,fuel=f2+1:=⟨fuel-1,by omega⟩
      have hd:decide (len'≤k)=false:=decide_eq_false (by omega);have hd2:decide (len≤i)=true:=decide_eq_true (by omega);have hi3:decide ((i:Int)<(len:Int))=false:=decide_eq_false (by omega);have hi5:¬(i:Int)<(len:Int):=by omega
      have hi6:(len:Int)≤(i:Int):=by omega
      have hk3:(k:Int)<(len':Int):=by omega
      have HS:=lH (show ∀W,Kept wr W→W.cell? ⟨b',off'+k*2,none⟩=some (.string (nm l' k)) from fun W kk=>cell_later kk d1);clear hB;have HN:=lH (show acc++[nm l' k]++jM f2 (l.drop (i)) (l'.drop (k+1))=NS by rw[←HQ.out,XH HK.out (.inl (by rw[HL.out];omega))];simp);go_wp2;clear d1;refine wp_region_held_drew (S:=fun W=>W.cell? ⟨b',off'+k*2,none⟩=some (.string (nm l' k))) (by kernel_rfl) (HS.out _ (Kept.drew _)) (fun hHeld=>?_);refine wpAnyH_take  (i:=0) (v:=?_) (by rw[List.getElem?_toArray];exact rfl) (by kernel_rfl) (by kernel_rfl) (by kernel_rfl) (by exact fun _ _ _ h=>h) (Or.inl ⟨by rfl,(by intro W hSw;go_simp<;>with_reducible rfl)⟩) (by assumption) ?_;try simp only  [Act.put,List.setIfInBounds_toArray,List.set_cons_zero,List.set_cons_succ]
      refine wpAnyH_take  (i:=1) (v:=?_) (by rw[List.getElem?_toArray];exact rfl) (by kernel_rfl) (by kernel_rfl) (by kernel_rfl) (by exact fun _ _ _ h=>h) (Or.inl ⟨by rfl,(by intro W hSw;go_simp<;>with_reducible rfl)⟩) (by assumption) ?_;try simp only  [Act.put,List.setIfInBounds_toArray,List.set_cons_zero,List.set_cons_succ]
      refine wpAnyH_take  (i:=2) (v:=?_) (by rw[List.getElem?_toArray];exact rfl) (by kernel_rfl) (by kernel_rfl) (by kernel_rfl) (by exact fun _ _ _ h=>h) (Or.inl ⟨by rfl,(by intro W hSw;go_simp<;>with_reducible rfl)⟩) (by assumption) ?_;try simp only  [Act.put,List.setIfInBounds_toArray,List.set_cons_zero,List.set_cons_succ]
      refine wpAnyH_take  (i:=3) (v:=?_) (by rw[List.getElem?_toArray];exact rfl) (by kernel_rfl) (by kernel_rfl) (by kernel_rfl) (by exact fun _ _ _ h=>h) (Or.inl ⟨by rfl,(by intro W hSw;go_simp<;>with_reducible rfl)⟩) (by assumption) ?_;try simp only  [Act.put,List.setIfInBounds_toArray,List.set_cons_zero,List.set_cons_succ]
      refine wpAnyH_take  (i:=4) (v:=?_) (by rw[List.getElem?_toArray];exact rfl) (by kernel_rfl) (by kernel_rfl) (by kernel_rfl) (by exact fun _ _ _ h=>h) (Or.inl ⟨by rfl,(by intro W hSw;go_simp<;>with_reducible rfl)⟩) (by assumption) ?_;try simp only  [Act.put,List.setIfInBounds_toArray,List.set_cons_zero,List.set_cons_succ]
      refine wpAnyH_take  (i:=5) (v:=?_) (by rw[List.getElem?_toArray];exact rfl) (by kernel_rfl) (by kernel_rfl) (by kernel_rfl) (by exact fun _ _ _ h=>h) (Or.inl ⟨by rfl,(by intro W hSw;go_simp<;>with_reducible rfl)⟩) (by assumption) ?_;try simp only  [Act.put,List.setIfInBounds_toArray,List.set_cons_zero,List.set_cons_succ]
      refine wpAnyH_take  (i:=6) (v:=?_) (by rw[List.getElem?_toArray];exact rfl) (by kernel_rfl) (by kernel_rfl) (by kernel_rfl) (by exact fun _ _ _ h=>h) (Or.inl ⟨by rfl,(by intro W hSw;go_simp<;>with_reducible rfl)⟩) (by assumption) ?_;try simp only  [Act.put,List.setIfInBounds_toArray,List.set_cons_zero,List.set_cons_succ]
      refine wpAnyH_take  (i:=7) (v:=?_) (by rw[List.getElem?_toArray];exact rfl) (by kernel_rfl) (by kernel_rfl) (by kernel_rfl) (by exact fun _ _ _ h=>h) (Or.inl ⟨by rfl,(by intro W hSw;go_simp<;>with_reducible rfl)⟩) (by assumption) ?_;try simp only  [Act.put,List.setIfInBounds_toArray,List.set_cons_zero,List.set_cons_succ]
      refine wpAnyH_take  (i:=8) (v:=?_) (by rw[List.getElem?_toArray];exact rfl) (by kernel_rfl) (by kernel_rfl) (by kernel_rfl) (by exact fun _ _ _ h=>h) (Or.inl ⟨by rfl,(by intro W hSw;go_simp<;>with_reducible rfl)⟩) (by assumption) ?_;try simp only  [Act.put,List.setIfInBounds_toArray,List.set_cons_zero,List.set_cons_succ]
      refine wpAnyH_take  (i:=9) (v:=?_) (by rw[List.getElem?_toArray];exact rfl) (by kernel_rfl) (by kernel_rfl) (by kernel_rfl) (by exact fun _ _ _ h=>h) (Or.inl ⟨by rfl,(by intro W hSw;go_simp<;>with_reducible rfl)⟩) (by assumption) ?_;try simp only  [Act.put,List.setIfInBounds_toArray,List.set_cons_zero,List.set_cons_succ]
      refine wpAnyH_take  (i:=10) (v:=undef) (by rw[List.getElem?_toArray];exact rfl) (by kernel_rfl) (by kernel_rfl) (by kernel_rfl) (by exact fun _ _ _ h=>h) (Or.inr ⟨by rfl,rfl⟩) (by assumption) ?_;try simp only  [Act.put,List.setIfInBounds_toArray,List.set_cons_zero,List.set_cons_succ]
      refine wpAnyH_take  (i:=11) (v:=undef) (by rw[List.getElem?_toArray];exact rfl) (by kernel_rfl) (by kernel_rfl) (by kernel_rfl) (by exact fun _ _ _ h=>h) (Or.inr ⟨by rfl,rfl⟩) (by assumption) ?_;try simp only  [Act.put,List.setIfInBounds_toArray,List.set_cons_zero,List.set_cons_succ]
      refine wpAnyH_take  (i:=12) (v:=undef) (by rw[List.getElem?_toArray];exact rfl) (by kernel_rfl) (by kernel_rfl) (by kernel_rfl) (by exact fun _ _ _ h=>h) (Or.inr ⟨by rfl,rfl⟩) (by assumption) ?_;try simp only  [Act.put,List.setIfInBounds_toArray,List.set_cons_zero,List.set_cons_succ]
      refine wpAnyH_take  (i:=13) (v:=undef) (by rw[List.getElem?_toArray];exact rfl) (by kernel_rfl) (by kernel_rfl) (by kernel_rfl) (by exact fun _ _ _ h=>h) (Or.inr ⟨by rfl,rfl⟩) (by assumption) ?_;try simp only  [Act.put,List.setIfInBounds_toArray,List.set_cons_zero,List.set_cons_succ]
      refine wpAnyH_take  (i:=14) (v:=undef) (by rw[List.getElem?_toArray];exact rfl) (by kernel_rfl) (by kernel_rfl) (by kernel_rfl) (by exact fun _ _ _ h=>h) (Or.inr ⟨by rfl,rfl⟩) (by assumption) ?_;try simp only  [Act.put,List.setIfInBounds_toArray,List.set_cons_zero,List.set_cons_succ]
      refine wpAnyH_take  (i:=15) (v:=undef) (by rw[List.getElem?_toArray];exact rfl) (by kernel_rfl) (by kernel_rfl) (by kernel_rfl) (by exact fun _ _ _ h=>h) (Or.inr ⟨by rfl,rfl⟩) (by assumption) ?_;try simp only  [Act.put,List.setIfInBounds_toArray,List.set_cons_zero,List.set_cons_succ]
      refine wpAnyH_take  (i:=16) (v:=undef) (by rw[List.getElem?_toArray];exact rfl) (by kernel_rfl) (by kernel_rfl) (by kernel_rfl) (by exact fun _ _ _ h=>h) (Or.inr ⟨by rfl,rfl⟩) (by assumption) ?_;try simp only  [Act.put,List.setIfInBounds_toArray,List.set_cons_zero,List.set_cons_succ]
      refine wpAnyH_take  (i:=17) (v:=undef) (by rw[List.getElem?_toArray];exact rfl) (by kernel_rfl) (by kernel_rfl) (by kernel_rfl) (by exact fun _ _ _ h=>h) (Or.inr ⟨by rfl,rfl⟩) (by assumption) ?_;try simp only  [Act.put,List.setIfInBounds_toArray,List.set_cons_zero,List.set_cons_succ]
      refine wpAnyH_take  (i:=18) (v:=undef) (by rw[List.getElem?_toArray];exact rfl) (by kernel_rfl) (by kernel_rfl) (by kernel_rfl) (by exact fun _ _ _ h=>h) (Or.inr ⟨by rfl,rfl⟩) (by assumption) ?_;try simp only  [Act.put,List.setIfInBounds_toArray,List.set_cons_zero,List.set_cons_succ]
      refine wpAnyH_take  (i:=19) (v:=undef) (by rw[List.getElem?_toArray];exact rfl) (by kernel_rfl) (by kernel_rfl) (by kernel_rfl) (by exact fun _ _ _ h=>h) (Or.inr ⟨by rfl,rfl⟩) (by assumption) ?_;try simp only  [Act.put,List.setIfInBounds_toArray,List.set_cons_zero,List.set_cons_succ]
      refine wpAnyH_take  (i:=20) (v:=undef) (by rw[List.getElem?_toArray];exact rfl) (by kernel_rfl) (by kernel_rfl) (by kernel_rfl) (by exact fun _ _ _ h=>h) (Or.inr ⟨by rfl,rfl⟩) (by assumption) ?_;try simp only  [Act.put,List.setIfInBounds_toArray,List.set_cons_zero,List.set_cons_succ]
      refine wpAnyH_take  (i:=21) (v:=?_) (by rw[List.getElem?_toArray];exact rfl) (by kernel_rfl) (by kernel_rfl) (by kernel_rfl) (by exact fun _ _ _ h=>h) (Or.inl ⟨by rfl,(by intro W hSw;go_simp<;>with_reducible rfl)⟩) (by assumption) ?_;try simp only  [Act.put,List.setIfInBounds_toArray,List.set_cons_zero,List.set_cons_succ]
      refine wpAnyH_take  (i:=22) (v:=?_) (by rw[List.getElem?_toArray];exact rfl) (by kernel_rfl) (by kernel_rfl) (by kernel_rfl) (by exact fun _ _ _ h=>h) (Or.inl ⟨by rfl,(by intro W hSw;go_simp<;>with_reducible rfl)⟩) (by assumption) ?_;try simp only  [Act.put,List.setIfInBounds_toArray,List.set_cons_zero,List.set_cons_succ]
      refine wpAnyH_take  (i:=23) (v:=?_) (by rw[List.getElem?_toArray];exact rfl) (by kernel_rfl) (by kernel_rfl) (by kernel_rfl) (by exact fun _ _ _ h=>h) (Or.inl ⟨by rfl,(by intro W hSw;go_simp<;>with_reducible rfl)⟩) (by assumption) ?_;try simp only  [Act.put,List.setIfInBounds_toArray,List.set_cons_zero,List.set_cons_succ]
      refine wpAnyH_done (by kernel_rfl) ?_ _;go_wp2;refine wp_region_held_drew (S:=fun W=>W.cell? ⟨b',off'+k*2,none⟩=some (.string (nm l' k))) (by kernel_rfl) (HS.out _ ((Kept.drew _).trans (Kept.drew _))) (fun hHeld=>?_);refine wpAnyH_take  (i:=0) (v:=?_) (by rw[List.getElem?_toArray];exact rfl) (by kernel_rfl) (by kernel_rfl) (by kernel_rfl) (by exact fun _ _ _ h=>h) (Or.inl ⟨by rfl,(by intro W hSw;go_simp<;>with_reducible rfl)⟩) (by assumption) ?_;try simp only  [Act.put,List.setIfInBounds_toArray,List.set_cons_zero,List.set_cons_succ]
      refine wpAnyH_take  (i:=1) (v:=?_) (by rw[List.getElem?_toArray];exact rfl) (by kernel_rfl) (by kernel_rfl) (by kernel_rfl) (by exact fun _ _ _ h=>h) (Or.inl ⟨by rfl,(by intro W hSw;go_simp<;>with_reducible rfl)⟩) (by assumption) ?_;try simp only  [Act.put,List.setIfInBounds_toArray,List.set_cons_zero,List.set_cons_succ]
      refine wpAnyH_take  (i:=2) (v:=?_) (by rw[List.getElem?_toArray];exact rfl) (by kernel_rfl) (by kernel_rfl) (by kernel_rfl) (by exact fun _ _ _ h=>h) (Or.inl ⟨by rfl,(by intro W hSw;go_simp<;>with_reducible rfl)⟩) (by assumption) ?_;try simp only  [Act.put,List.setIfInBounds_toArray,List.set_cons_zero,List.set_cons_succ]
      refine wpAnyH_take  (i:=3) (v:=?_) (by rw[List.getElem?_toArray];exact rfl) (by kernel_rfl) (by kernel_rfl) (by kernel_rfl) (by exact fun _ _ _ h=>h) (Or.inl ⟨by rfl,(by intro W hSw;go_simp<;>with_reducible rfl)⟩) (by assumption) ?_;try simp only  [Act.put,List.setIfInBounds_toArray,List.set_cons_zero,List.set_cons_succ]
      refine wpAnyH_take  (i:=4) (v:=?_) (by rw[List.getElem?_toArray];exact rfl) (by kernel_rfl) (by kernel_rfl) (by kernel_rfl) (by exact fun _ _ _ h=>h) (Or.inl ⟨by rfl,(by intro W hSw;go_simp<;>with_reducible rfl)⟩) (by assumption) ?_;try simp only  [Act.put,List.setIfInBounds_toArray,List.set_cons_zero,List.set_cons_succ]
      refine wpAnyH_take  (i:=5) (v:=undef) (by rw[List.getElem?_toArray];exact rfl) (by kernel_rfl) (by kernel_rfl) (by kernel_rfl) (by exact fun _ _ _ h=>h) (Or.inr ⟨by rfl,rfl⟩) (by assumption) ?_;try simp only  [Act.put,List.setIfInBounds_toArray,List.set_cons_zero,List.set_cons_succ]
      refine wpAnyH_take  (i:=6) (v:=undef) (by rw[List.getElem?_toArray];exact rfl) (by kernel_rfl) (by kernel_rfl) (by kernel_rfl) (by exact fun _ _ _ h=>h) (Or.inr ⟨by rfl,rfl⟩) (by assumption) ?_;try simp only  [Act.put,List.setIfInBounds_toArray,List.set_cons_zero,List.set_cons_succ]
      refine wpAnyH_take  (i:=7) (v:=undef) (by rw[List.getElem?_toArray];exact rfl) (by kernel_rfl) (by kernel_rfl) (by kernel_rfl) (by exact fun _ _ _ h=>h) (Or.inr ⟨by rfl,rfl⟩) (by assumption) ?_;try simp only  [Act.put,List.setIfInBounds_toArray,List.set_cons_zero,List.set_cons_succ]
      refine wpAnyH_take  (i:=8) (v:=undef) (by rw[List.getElem?_toArray];exact rfl) (by kernel_rfl) (by kernel_rfl) (by kernel_rfl) (by exact fun _ _ _ h=>h) (Or.inr ⟨by rfl,rfl⟩) (by assumption) ?_;try simp only  [Act.put,List.setIfInBounds_toArray,List.set_cons_zero,List.set_cons_succ]
      refine wpAnyH_take  (i:=9) (v:=undef) (by rw[List.getElem?_toArray];exact rfl) (by kernel_rfl) (by kernel_rfl) (by kernel_rfl) (by exact fun _ _ _ h=>h) (Or.inr ⟨by rfl,rfl⟩) (by assumption) ?_;try simp only  [Act.put,List.setIfInBounds_toArray,List.set_cons_zero,List.set_cons_succ]
      refine wpAnyH_take  (i:=10) (v:=undef) (by rw[List.getElem?_toArray];exact rfl) (by kernel_rfl) (by kernel_rfl) (by kernel_rfl) (by exact fun _ _ _ h=>h) (Or.inr ⟨by rfl,rfl⟩) (by assumption) ?_;try simp only  [Act.put,List.setIfInBounds_toArray,List.set_cons_zero,List.set_cons_succ]
      refine wpAnyH_take  (i:=11) (v:=undef) (by rw[List.getElem?_toArray];exact rfl) (by kernel_rfl) (by kernel_rfl) (by kernel_rfl) (by exact fun _ _ _ h=>h) (Or.inr ⟨by rfl,rfl⟩) (by assumption) ?_;try simp only  [Act.put,List.setIfInBounds_toArray,List.set_cons_zero,List.set_cons_succ]
      refine wpAnyH_take  (i:=12) (v:=undef) (by rw[List.getElem?_toArray];exact rfl) (by kernel_rfl) (by kernel_rfl) (by kernel_rfl) (by exact fun _ _ _ h=>h) (Or.inr ⟨by rfl,rfl⟩) (by assumption) ?_;try simp only  [Act.put,List.setIfInBounds_toArray,List.set_cons_zero,List.set_cons_succ]
      refine wpAnyH_take  (i:=13) (v:=undef) (by rw[List.getElem?_toArray];exact rfl) (by kernel_rfl) (by kernel_rfl) (by kernel_rfl) (by exact fun _ _ _ h=>h) (Or.inr ⟨by rfl,rfl⟩) (by assumption) ?_;try simp only  [Act.put,List.setIfInBounds_toArray,List.set_cons_zero,List.set_cons_succ]
      refine wpAnyH_take  (i:=14) (v:=undef) (by rw[List.getElem?_toArray];exact rfl) (by kernel_rfl) (by kernel_rfl) (by kernel_rfl) (by exact fun _ _ _ h=>h) (Or.inr ⟨by rfl,rfl⟩) (by assumption) ?_;try simp only  [Act.put,List.setIfInBounds_toArray,List.set_cons_zero,List.set_cons_succ]
      refine wpAnyH_take  (i:=15) (v:=undef) (by rw[List.getElem?_toArray];exact rfl) (by kernel_rfl) (by kernel_rfl) (by kernel_rfl) (by exact fun _ _ _ h=>h) (Or.inr ⟨by rfl,rfl⟩) (by assumption) ?_;try simp only  [Act.put,List.setIfInBounds_toArray,List.set_cons_zero,List.set_cons_succ]
      refine wpAnyH_take  (i:=16) (v:=?_) (by rw[List.getElem?_toArray];exact rfl) (by kernel_rfl) (by kernel_rfl) (by kernel_rfl) (by exact fun _ _ _ h=>h) (Or.inl ⟨by rfl,(by intro W hSw;go_simp<;>with_reducible rfl)⟩) (by assumption) ?_;try simp only  [Act.put,List.setIfInBounds_toArray,List.set_cons_zero,List.set_cons_succ]
      refine wpAnyH_take  (i:=17) (v:=?_) (by rw[List.getElem?_toArray];exact rfl) (by kernel_rfl) (by kernel_rfl) (by kernel_rfl) (by exact fun _ _ _ h=>h) (Or.inl ⟨by rfl,(by intro W hSw;go_simp<;>with_reducible rfl)⟩) (by assumption) ?_;try simp only  [Act.put,List.setIfInBounds_toArray,List.set_cons_zero,List.set_cons_succ]
      refine wpAnyH_done (by kernel_rfl) ?_ _;have HKW:=lH (show Kept wr (wr.drew.drew) from((Kept.drew wr).trans (Kept.drew _)));obtain d1:=HS.out _ HKW.out;have hbw:(wr.drew.drew).heap.size=wr.heap.size:=rfl;obtain⟨W1,hW1⟩:∃W,wr.drew.drew=W:=⟨_,rfl⟩
      rw[hW1] at HKW hbw d1;try rw[hW1]
      try simp only[hW1]
      clear hW1;have hbase:w.heap.size≤W1.heap.size:=by rw[hbw];exact HB2.out.size
      have HBS:=lH hbase;have OK:=lH (HO.out.kept HKW.out);have hacc16:acc.length≤16:=by omega
      clear hbw;go_wp2_with (at_builtin;refine wpList_append_lies _ rfl _ _ _ rfl w.heap.size 9 i0 _ 1 16 Tryz.underlying47 hi hz0 hz1 hz2 rfl (by decide) u5 acc.length (jf zc acc) rfl (OK.out.1.alloc _) ⟨W1.heap.size,0,none⟩ 1 1 (zc.cs (nm l' k)) rfl rfl (World.news_of_block (cs:=#[.string (nm l' k)]) (t:=9) (fr:=(0,0)) (W1.alloc_heap_new _)) (YT (nm l' k)) (by decide) (by unfold maxLen;omega) (by omega) (by rw[World.size_alloc];exact Nat.le_succ_of_le HBS.out) (W1.heap.size+1) (World.size_alloc _ _) ?_;intro g cap1 w7 hown1 hgrow hg hlt7;refine Hid.out ?_)
      refine lH ?_;have HBW:=lH (((HB2.out.trans (Below.mono HKW.out HB2.out.size)).alloc (by exact HBS.out) _).grown hgrow (by rw[World.size_alloc];exact Nat.le_succ_of_le HBS.out) (fun j hj=>(HO.out.1.lt j hj).1));go_wp2;go_roundw
      case rel=>exact⟨i,k+1,f2,acc++[nm l' k],by omega,by omega,by go_num,by go_num,HN.out,by omega,Own.snoc hown1 rfl HO.out.2 HSK.out,HBW.out,by rw[List.length_append];simp only[List.length_cons,List.length_nil];omega⟩
      case measure=>simp[intOf];omega
    · have hi3:decide ((i:Int)<(len:Int))=false:=decide_eq_false (by omega);have hk3:decide ((k:Int)<(len':Int))=false:=decide_eq_false (by omega);have HE:=lH (show NS=acc by
       rw[←HQ.out,jef (by simp only[List.length_drop];rw[HL.out,HL'.out];omega),List.append_nil])
      clear hB;go_wp2_with fail
      go_ret;exact⟨_,rfl,by rw[HE.out];exact HO.out,HB2.out⟩
theorem qY:∀(fuel:Nat) (la lb:V),(jM fuel la lb).length≤fuel
 | 0,_,_=>Nat.le_refl _
 | fuel+1,la,lb=>by
  unfold jM;split
  · exact Nat.zero_le _
  · rw[List.length_cons];exact Nat.succ_le_succ (qY fuel _ _)
theorem names_mem:∀(fuel:Nat) (la lb:V) (n:ByteArray),n ∈ jM fuel la lb→(∃y ∈ la,y.1=n)∨(∃y ∈ lb,y.1=n)
 | 0,_,_,n,h=>by simp[jM] at h
 | fuel+1,la,lb,n,h=>by
  unfold jM at h;split at h
  · simp at h
  · rename_i h0;rcases List.mem_cons.1 h with rfl | h
    · exact Xc (by omega)
    · rcases names_mem fuel _ _ n h with ⟨y,hy,e⟩ | ⟨y,hy,e⟩
      · exact .inl ⟨y,Yq y hy,e⟩
      · exact .inr ⟨y,Yq y hy,e⟩
theorem jcl {l:V} (h:Gd l) {n:ByteArray} (hn:∃y ∈ l,y.1=n):0<jh l n:=by
 obtain⟨y,hy,rfl⟩:=hn;rw[X7 h hy];exact(h.1 y hy).2.1
theorem jeH {l l':V} (h:Gd l) (h':Gd l') {n:ByteArray} (hn:n ∈ jM (l.length+l'.length) l l'):0<jh l n+jh l' n:=by
 have a:=zS n h;have b:=zS n h';rcases names_mem _ _ _ _ hn with hn | hn
 · have:=jcl h hn;omega
 · have:=jcl h' hn;omega
theorem jeW {f:Int→Int→Int×Int} {la lb:V} {n:ByteArray} {t:List ByteArray} {acc:V} {r1 r2:Int} (h:f (jh la n) (jh lb n)=(r1,r2)) (h2:r2≠0):Jc f la lb (n::t) acc=(r2,[]):=by
 rw[Jc,h,if_pos h2]
theorem jeM {f:Int→Int→Int×Int} {la lb:V} {n:ByteArray} {t:List ByteArray} {acc:V} {r1:Int} (h:f (jh la n) (jh lb n)=(r1,0)):Jc f la lb (n::t) acc=Jc f la lb t (Za acc n r1):=by
 rw[Jc,h,if_neg (by simp)]
theorem jgd (x y:Int) (w:World) (h:0≤x∧x≤9223372036854775807) (g:0≤y∧y≤9223372036854775807) :
 Calls Tryz.prog 134 #[.int .i64 x,.int .i64 y] w (Ans (jv x y).1 (jv x y).2 w):=by
 unfold jv;by_cases h2:x+y≤9223372036854775807
 · rw[if_pos h2];exact(jfV x y w h.1 g.1 h2).mono fun _ _=>ZM.ans
 · rw[if_neg h2];exact(jew x y w h.1 g.1 g.2 (by omega)).mono fun _ _=>ZM.ans
def Zb (l l':V):Int:=if jq l≠0 then jq l else jq l'
theorem jdX {l l':V} (h:Zb l l'=0):jq l=0∧jq l'=0:=by
 unfold Zb at h;split at h
 · rename_i g;exact absurd h g
 · rename_i g;exact⟨Decidable.of_not_not g,h⟩
theorem jb9 {f:Int→Int→Int×Int} {l l':V} (h:Zb l l'≠0):jg f l l'=(Zb l l',[]):=by
 unfold jg;unfold Zb at h ⊢;by_cases g:jq l≠0
 · simp only[if_pos g]
 · simp only[if_neg g] at h ⊢;rw[if_pos h]
theorem jak (a a':Option Addr) (len cap len' cap':Nat) (l l':V) (w:World) (hr:jo w a len l) (hr':jo w a' len' l') :
 Calls Tryz.prog 132 #[.slice a len cap,.slice a' len' cap'] w fun e w'=>e=.returned (.int .i64 (Zb l l'))∧Kept w w':=by
 have HA:=lH hr;have HB:=lH hr';obtain⟨c,hc⟩:∃c,jq l=c:=⟨_,rfl⟩
 have HC:=lH hc;clear hr hr';by_cases h0:c=0
 · subst h0;have HE:=lH (show Zb l l'=jq l' by unfold Zb;rw[hc,if_neg (by decide)]);go_enter Tryz.func132,Tryz.ntmps132;go_wp2_with fail
   refine(Zz _ _ _ l _ HA.out).mono ?_;rw[HC.out];clear hc;rintro e1 w1 ⟨rfl,k1⟩;have K1:=lH k1;clear k1;go_wp2_with fail
   refine(Zz _ _ _ l' _ (HB.out.kept K1.out)).mono ?_;rintro e2 w2 ⟨rfl,k2⟩;have K2:=lH (K1.out.trans k2);clear k2;go_wp2;go_ret;exact⟨jb HE.out.symm,K2.out⟩
 · have HE:=lH (show Zb l l'=c by unfold Zb;rw[hc,if_pos h0]);have h1:(c==0)=false:=by simpa using h0
   clear h0;go_enter Tryz.func132,Tryz.ntmps132;go_wp2_with fail
   refine(Zz _ _ _ l _ HA.out).mono ?_;rw[HC.out];clear hc;rintro e1 w1 ⟨rfl,k1⟩;have K1:=lH k1;clear k1;go_wp2;go_ret;exact⟨jb HE.out.symm,K1.out⟩
theorem jeq (a:Option Addr) (n cap:Nat) (w:World) (h:n≤8):Calls Tryz.prog 135 #[.slice a n cap] w fun e w'=>e=.returned (.tuple #[.slice a n cap,.int .i64 0])∧w=w':=by
 have h1:(n:Int)≤8:=by omega
 have h2:decide ((8:Int)<(n:Int))=false:=decide_eq_false (by omega);have h3:decide (8<n)=false:=decide_eq_false (by omega);go_enter Tryz.func135,Tryz.ntmps135;go_wp2;go_ret2
 exact⟨rfl,rfl⟩
theorem jbI (a:Option Addr) (n cap:Nat) (w:World) (h:8<n):Calls Tryz.prog 135 #[.slice a n cap] w fun e w'=>e=.returned (.tuple #[.slice none 0 0,.int .i64 4])∧w=w':=by
 have h1:(8:Int)<(n:Int):=by omega
 go_enter Tryz.func135,Tryz.ntmps135;go_wp2;go_ret2
 exact⟨rfl,rfl⟩
theorem jdE (a a':Option Addr) (len cap len' cap':Nat) (l l':V) (w:World) (hr:jo w a len l) (hr':jo w a' len' l') :
 Calls Tryz.prog 98 #[.slice a len cap,.slice a' len' cap'] w (Told (jg jv l l').1 (jg jv l l').2 w):=by
 have HA:=lH hr;have HB:=lH hr';have HL:=lH hr.1;have HL':=lH hr'.1;by_cases hc:Zb l l'=0
 · obtain⟨ha,hb⟩:=jdX hc;have HC:=lH hc;have HG:=lH (Zr ha hr.2.2.1);have HG':=lH (Zr hb hr'.2.2.1);have h8:len≤8:=by have:=JS ha;rw[HL.out] at this;exact this
   have h8':len'≤8:=by have:=JS hb;rw[HL'.out] at this;exact this
   have HM:=lH (jbG jv ha hb hr.2.2.1 hr'.2.2.1);have HP:=lH (show ∀n ∈ jM (l.length+l'.length) l l',0<jh l n+jh l' n from fun n hn=>jeH HG.out HG'.out hn);obtain⟨NS,hNS⟩:∃NS,jM (l.length+l'.length) l l'=NS:=⟨_,rfl⟩
   have hlen:=qY (l.length+l'.length) l l';have hn16:NS.length≤16:=by rw[hNS,HL.out,HL'.out] at hlen;omega
   rw[hNS] at HM HP;have HNS:=lH hNS;obtain⟨R,hR⟩:∃R,Jc jv l l' NS []=R:=⟨_,rfl⟩
   rw[hR] at HM;have HRR:=lH hR;have HH8:=lH h8;have HH8':=lH h8';obtain⟨i0,hi,hz0,hz1,hz2⟩:=info_parts jcn;clear hr hr' hc ha hb hNS hR hlen h8 h8';go_enter Tryz.func98,Tryz.ntmps98;go_wp2_with fail
   refine(jak _ _ _ _ _ _ l l' _ HA.out HB.out).mono ?_;rw[HC.out];rintro e1 w1 ⟨rfl,k1⟩;have K1:=lH k1;clear k1;go_wp2_with fail
   refine(Y9 _ _ _ _ _ _ l l' _ (HA.out.kept K1.out) (HB.out.kept K1.out) HH8.out HH8'.out).mono ?_;rw[HNS.out];rintro e2 w2 ⟨x2,rfl,ho,k2⟩;have HN2:=lH ho.2;obtain⟨s,scap,rfl,hs1,hs2,hrow⟩:=ho.reads;have HROW:=lH hrow;have HSC:=lH hs1;have K2:=lH (K1.out.trans k2);obtain⟨n,hn⟩:∃n,NS.length=n:=⟨_,rfl⟩
   have HNL:=lH hn;rw[hn] at hn16 HROW ⊢;clear k2 ho hrow hn hs1 hs2;go_wp2;go_loopw [8,9] (fun v i wr=>∃(k:Nat) (acc:V),k≤n∧i=.int .i64 k∧Jc jv l l' (NS.drop k) acc=R∧jJ 124 wr w2.heap.size v acc∧Below w2.heap.size w2 wr∧acc.length≤k)
    (fun _ i _=>n-(intOf i).toNat)
   case atStart=>exact⟨0,[],Nat.zero_le _,rfl,HRR.out,jJ.nil _ _ _,Below.refl _ _,Nat.le_refl _⟩
   case round =>
    obtain⟨k,acc,hk,rfl,hres,ho,hB,hacc⟩:=hrel;have HQ:=lH hres;have HO:=lH ho;have HB2:=lH hB;clear hres ho;by_cases hlt:k<n
    · obtain⟨b,off,rfl⟩:∃b off,s=some ⟨b,off,none⟩:=HROW.out.form.resolve_left (by omega);obtain⟨x,hx,hdrop,hbx,hsz,c1⟩:=(HROW.out.kept hB).str hlt;have HD:=lH hdrop;have HSZ:=lH hsz;have HS:=lH (show ∀W,Kept wr W→W.cell? ⟨b,off+k,none⟩=some (.string x) from fun W kk=>cell_later kk c1);have HX:=lH (show 0<jh l x+jh l' x from HP.out x (List.mem_of_getElem? hx));have HKA:=lH (show ∀W,Kept wr W→jo W a len l from fun W kk=>HA.out.kept (K2.out.trans (Kept.trans hB kk)));have HKB:=lH (show ∀W,Kept wr W→jo W a' len' l' from fun W kk=>HB.out.kept (K2.out.trans (Kept.trans hB kk)));obtain⟨g1,hg1⟩:∃g,jh l x=g:=⟨_,rfl⟩
      obtain⟨g2,hg2⟩:∃g,jh l' x=g:=⟨_,rfl⟩
      have HG1:=lH hg1;have HG2:=lH hg2;have B1:=lH (show 0≤g1∧g1≤9223372036854775807 by rw[←hg1];exact zS x HG.out);have B2:=lH (show 0≤g2∧g2≤9223372036854775807 by rw[←hg2];exact zS x HG'.out);rw[hg1,hg2] at HX;obtain⟨r1,r2,hr⟩:∃r1 r2,jv g1 g2=(r1,r2):=⟨_,_,rfl⟩
      have QF:=lH (show ∀W,Calls Tryz.prog 134 #[.int .i64 g1,.int .i64 g2] W (Ans r1 r2 W) from fun W=>by
       have:=jgd g1 g2 W B1.out B2.out;rw[hr] at this;exact this)
      have RB:=lH (show 0≤r1∧r1≤9223372036854775807 by have:=qV B1.out B2.out;rw[hr] at this;exact this);have HF:=lH (show jv (jh l x) (jh l' x)=(r1,r2) by rw[hg1,hg2];exact hr);have HFR:=lH hr;have hk1:(k:Int)<(n:Int):=by omega
      clear hB hx hdrop hsz hg1 hg2 hr;by_cases hz:r2=0
      · subst hz;have hy:r1≠0:=by
         have h1:=HX.out;have h2:=HFR.out;unfold jv at h2;split at h2
         · have:=(Prod.mk.inj h2).1;omega
         · have:=(Prod.mk.inj h2).2;omega
        have HN:=lH (show Jc jv l l' (NS.drop (k+1)) (acc++[(x,r1)])=R by
         have:=jeM (t:=NS.drop (k+1)) (acc:=acc) HF.out;unfold Za at this;rw[if_neg hy] at this;rw[←this,←HD.out];exact HQ.out)
        clear hy;go_wp2;clear c1;refine wp_region_held_drew (S:=fun W=>W.cell? ⟨b,off+k,none⟩=some (.string x)) (by kernel_rfl) (HS.out _ (Kept.drew _)) (fun hHeld=>?_);refine wpAnyH_take  (i:=0) (v:=?_) (by rw[List.getElem?_toArray];exact rfl) (by kernel_rfl) (by kernel_rfl) (by kernel_rfl) (by exact fun _ _ _ h=>h) (Or.inl ⟨by rfl,(by intro W hSw;go_simp<;>with_reducible rfl)⟩) (by assumption) ?_;try simp only  [Act.put,List.setIfInBounds_toArray,List.set_cons_zero,List.set_cons_succ]
        refine wpAnyH_take  (i:=1) (v:=?_) (by rw[List.getElem?_toArray];exact rfl) (by kernel_rfl) (by kernel_rfl) (by kernel_rfl) (by exact fun _ _ _ h=>h) (Or.inl ⟨by rfl,(by intro W hSw;go_simp<;>with_reducible rfl)⟩) (by assumption) ?_;try simp only  [Act.put,List.setIfInBounds_toArray,List.set_cons_zero,List.set_cons_succ]
        refine wpAnyH_take  (i:=2) (v:=?_) (by rw[List.getElem?_toArray];exact rfl) (by kernel_rfl) (by kernel_rfl) (by kernel_rfl) (by exact fun _ _ _ h=>h) (Or.inl ⟨by rfl,(by intro W hSw;go_simp<;>with_reducible rfl)⟩) (by assumption) ?_;try simp only  [Act.put,List.setIfInBounds_toArray,List.set_cons_zero,List.set_cons_succ]
        refine wpAnyH_take  (i:=3) (v:=?_) (by rw[List.getElem?_toArray];exact rfl) (by kernel_rfl) (by kernel_rfl) (by kernel_rfl) (by exact fun _ _ _ h=>h) (Or.inl ⟨by rfl,(by intro W hSw;go_simp<;>with_reducible rfl)⟩) (by assumption) ?_;try simp only  [Act.put,List.setIfInBounds_toArray,List.set_cons_zero,List.set_cons_succ]
        refine wpAnyH_take  (i:=4) (v:=?_) (by rw[List.getElem?_toArray];exact rfl) (by kernel_rfl) (by kernel_rfl) (by kernel_rfl) (by exact fun _ _ _ h=>h) (Or.inl ⟨by rfl,(by intro W hSw;go_simp<;>with_reducible rfl)⟩) (by assumption) ?_;try simp only  [Act.put,List.setIfInBounds_toArray,List.set_cons_zero,List.set_cons_succ]
        refine wpAnyH_take  (i:=6) (v:=?_) (by rw[List.getElem?_toArray];exact rfl) (by kernel_rfl) (by kernel_rfl) (by kernel_rfl) (by exact fun _ _ _ h=>h) (Or.inl ⟨by rfl,(by intro W hSw;go_simp<;>with_reducible rfl)⟩) (by assumption) ?_;try simp only  [Act.put,List.setIfInBounds_toArray,List.set_cons_zero,List.set_cons_succ]
        refine wpAnyH_take  (i:=7) (v:=?_) (by rw[List.getElem?_toArray];exact rfl) (by kernel_rfl) (by kernel_rfl) (by kernel_rfl) (by exact fun _ _ _ h=>h) (Or.inl ⟨by rfl,(by intro W hSw;go_simp<;>with_reducible rfl)⟩) (by assumption) ?_;try simp only  [Act.put,List.setIfInBounds_toArray,List.set_cons_zero,List.set_cons_succ]
        refine wpAnyH_take  (i:=8) (v:=?_) (by rw[List.getElem?_toArray];exact rfl) (by kernel_rfl) (by kernel_rfl) (by kernel_rfl) (by exact fun _ _ _ h=>h) (Or.inl ⟨by rfl,(by intro W hSw;go_simp<;>with_reducible rfl)⟩) (by assumption) ?_;try simp only  [Act.put,List.setIfInBounds_toArray,List.set_cons_zero,List.set_cons_succ]
        refine wpAnyH_take  (i:=9) (v:=?_) (by rw[List.getElem?_toArray];exact rfl) (by kernel_rfl) (by kernel_rfl) (by kernel_rfl) (by exact fun _ _ _ h=>h) (Or.inl ⟨by rfl,(by intro W hSw;go_simp<;>with_reducible rfl)⟩) (by assumption) ?_;try simp only  [Act.put,List.setIfInBounds_toArray,List.set_cons_zero,List.set_cons_succ]
        refine wpAnyH_take  (i:=10) (v:=?_) (by rw[List.getElem?_toArray];exact rfl) (by kernel_rfl) (by kernel_rfl) (by kernel_rfl) (by exact fun _ _ _ h=>h) (Or.inl ⟨by rfl,(by intro W hSw;go_simp<;>with_reducible rfl)⟩) (by assumption) ?_;try simp only  [Act.put,List.setIfInBounds_toArray,List.set_cons_zero,List.set_cons_succ]
        refine wpAnyH_ready  (rs:=[5]) (by kernel_rfl) (by simp) (AllReadyH.cons  (by rw[List.getElem?_toArray];exact rfl) (fun K9 hK9=>?_) AllReadyH.nil);go_simp;refine(ZE _ _ _ l x _ (HKA.out _ (Kept.drew _))).mono ?_;rintro e3 w3 ⟨rfl,kk⟩;have J1:=lH ((Kept.drew _).trans kk);clear kk;refine hK9.out _ _ (HS.out _ J1.out) (fun hHeld1=>?_);clear hK9 K9;try simp only  [Act.put,List.setIfInBounds_toArray,List.set_cons_zero,List.set_cons_succ]
        refine wpAnyH_ready  (rs:=[11]) (by kernel_rfl) (by simp) (AllReadyH.cons  (by rw[List.getElem?_toArray];exact rfl) (fun K9 hK9=>?_) AllReadyH.nil);go_simp;refine(ZE _ _ _ l' x _ (HKB.out _ J1.out)).mono ?_;rintro e4 w4 ⟨rfl,kk⟩;have J2:=lH ((J1.out).trans kk);clear kk;refine hK9.out _ _ (HS.out _ J2.out) (fun hHeld2=>?_);clear hK9 K9;try simp only  [Act.put,List.setIfInBounds_toArray,List.set_cons_zero,List.set_cons_succ]
        rw[HG1.out,HG2.out];refine wpAnyH_ready  (rs:=[12]) (by kernel_rfl) (by simp) (AllReadyH.cons  (by rw[List.getElem?_toArray];exact rfl) (fun K9 hK9=>?_) AllReadyH.nil);go_simp;refine(QF.out _).mono ?_;rintro e5 w5 ⟨rfl,kk⟩;have J3:=lH ((J2.out).trans kk);clear kk;refine hK9.out _ _ (HS.out _ J3.out) (fun hHeld3=>?_);clear hK9 K9;try simp only  [Act.put,List.setIfInBounds_toArray,List.set_cons_zero,List.set_cons_succ]
        refine wpAnyH_take  (i:=13) (v:=?_) (by rw[List.getElem?_toArray];exact rfl) (by kernel_rfl) (by kernel_rfl) (by kernel_rfl) (by exact fun _ _ _ h=>h) (Or.inl ⟨by rfl,(by intro W hSw;go_simp<;>with_reducible rfl)⟩) (by assumption) ?_;try simp only  [Act.put,List.setIfInBounds_toArray,List.set_cons_zero,List.set_cons_succ]
        refine wpAnyH_take  (i:=14) (v:=?_) (by rw[List.getElem?_toArray];exact rfl) (by kernel_rfl) (by kernel_rfl) (by kernel_rfl) (by exact fun _ _ _ h=>h) (Or.inl ⟨by rfl,(by intro W hSw;go_simp<;>with_reducible rfl)⟩) (by assumption) ?_;try simp only  [Act.put,List.setIfInBounds_toArray,List.set_cons_zero,List.set_cons_succ]
        refine wpAnyH_take  (i:=15) (v:=?_) (by rw[List.getElem?_toArray];exact rfl) (by kernel_rfl) (by kernel_rfl) (by kernel_rfl) (by exact fun _ _ _ h=>h) (Or.inl ⟨by rfl,(by intro W hSw;go_simp<;>with_reducible rfl)⟩) (by assumption) ?_;try simp only  [Act.put,List.setIfInBounds_toArray,List.set_cons_zero,List.set_cons_succ]
        refine wpAnyH_take  (i:=16) (v:=?_) (by rw[List.getElem?_toArray];exact rfl) (by kernel_rfl) (by kernel_rfl) (by kernel_rfl) (by exact fun _ _ _ h=>h) (Or.inl ⟨by rfl,(by intro W hSw;go_simp<;>with_reducible rfl)⟩) (by assumption) ?_;try simp only  [Act.put,List.setIfInBounds_toArray,List.set_cons_zero,List.set_cons_succ]
        refine wpAnyH_take  (i:=17) (v:=?_) (by rw[List.getElem?_toArray];exact rfl) (by kernel_rfl) (by kernel_rfl) (by kernel_rfl) (by exact fun _ _ _ h=>h) (Or.inl ⟨by rfl,(by intro W hSw;go_simp<;>with_reducible rfl)⟩) (by assumption) ?_;try simp only  [Act.put,List.setIfInBounds_toArray,List.set_cons_zero,List.set_cons_succ]
        refine wpAnyH_done (by kernel_rfl) ?_ _;have c1:=HS.out _ J3.out;have B6:=lH (HB2.out.trans (Below.mono J3.out HB2.out.size));have O6:=lH (HO.out.kept J3.out);have HOL:=lH (show (w5.alloc (.cells #[.string x,.int .i64 r1] 124)).ownsRow w2.heap.size 124 2 u8 acc.length (cellsOf acc) from(O6.out.1.alloc _));have HBS:=lH (show w2.heap.size≤w5.heap.size from B6.out.size);go_wp2_with (at_builtin;refine wpList_append_lies _ rfl _ _ _ rfl w2.heap.size 124 i0 _ 2 24 Tryz.underlying40 hi hz0 hz1 hz2 rfl (by decide) u8 acc.length (cellsOf acc) rfl HOL.out ⟨w5.heap.size,0,none⟩ 1 1 [.string x,.int .i64 r1] rfl rfl (jbF _ _ _ _) (J8 [(x,r1)]) (by decide) (by unfold maxLen;omega) (by omega) (by rw[World.size_alloc];have:=HBS.out;omega) (w5.heap.size+1) (World.size_alloc _ _) ?_;intro g cap1 w7 hown1 hgrow hg hlt7;refine Hid.out ?_)
        refine lH ?_;go_wp2;go_roundw
        case rel =>
         refine⟨k+1,acc++[(x,r1)],by omega,by go_num,HN.out,⟨?_,O6.out.2.snoc HSZ.out (by have:=RB.out;omega) (by have:=RB.out;omega)⟩,(B6.out.alloc HBS.out _).grown hgrow (by rw[World.size_alloc];have:=HBS.out;omega) (fun j hj=>(HOL.out.lt j hj).1),by rw[List.length_append];simp only[List.length_cons,List.length_nil];omega⟩;rw[List.length_append,JU];exact hown1
        case measure=>simp[intOf];omega
      · have hz':(r2==0)=false:=by simpa using hz
        have HE:=lH (show jg jv l l'=(r2,[]) by
         have:R=(r2,[]):=by rw[←HQ.out,HD.out];exact jeW HF.out hz
         rw[HM.out,this];simp only;rw[if_pos hz])
        clear hz;go_wp2;clear c1;refine wp_region_held_drew (S:=fun W=>W.cell? ⟨b,off+k,none⟩=some (.string x)) (by kernel_rfl) (HS.out _ (Kept.drew _)) (fun hHeld=>?_);refine wpAnyH_take  (i:=0) (v:=?_) (by rw[List.getElem?_toArray];exact rfl) (by kernel_rfl) (by kernel_rfl) (by kernel_rfl) (by exact fun _ _ _ h=>h) (Or.inl ⟨by rfl,(by intro W hSw;go_simp<;>with_reducible rfl)⟩) (by assumption) ?_;try simp only  [Act.put,List.setIfInBounds_toArray,List.set_cons_zero,List.set_cons_succ]
        refine wpAnyH_take  (i:=1) (v:=?_) (by rw[List.getElem?_toArray];exact rfl) (by kernel_rfl) (by kernel_rfl) (by kernel_rfl) (by exact fun _ _ _ h=>h) (Or.inl ⟨by rfl,(by intro W hSw;go_simp<;>with_reducible rfl)⟩) (by assumption) ?_;try simp only  [Act.put,List.setIfInBounds_toArray,List.set_cons_zero,List.set_cons_succ]
        refine wpAnyH_take  (i:=2) (v:=?_) (by rw[List.getElem?_toArray];exact rfl) (by kernel_rfl) (by kernel_rfl) (by kernel_rfl) (by exact fun _ _ _ h=>h) (Or.inl ⟨by rfl,(by intro W hSw;go_simp<;>with_reducible rfl)⟩) (by assumption) ?_;try simp only  [Act.put,List.setIfInBounds_toArray,List.set_cons_zero,List.set_cons_succ]
        refine wpAnyH_take  (i:=3) (v:=?_) (by rw[List.getElem?_toArray];exact rfl) (by kernel_rfl) (by kernel_rfl) (by kernel_rfl) (by exact fun _ _ _ h=>h) (Or.inl ⟨by rfl,(by intro W hSw;go_simp<;>with_reducible rfl)⟩) (by assumption) ?_;try simp only  [Act.put,List.setIfInBounds_toArray,List.set_cons_zero,List.set_cons_succ]
        refine wpAnyH_take  (i:=4) (v:=?_) (by rw[List.getElem?_toArray];exact rfl) (by kernel_rfl) (by kernel_rfl) (by kernel_rfl) (by exact fun _ _ _ h=>h) (Or.inl ⟨by rfl,(by intro W hSw;go_simp<;>with_reducible rfl)⟩) (by assumption) ?_;try simp only  [Act.put,List.setIfInBounds_toArray,List.set_cons_zero,List.set_cons_succ]
        refine wpAnyH_take  (i:=6) (v:=?_) (by rw[List.getElem?_toArray];exact rfl) (by kernel_rfl) (by kernel_rfl) (by kernel_rfl) (by exact fun _ _ _ h=>h) (Or.inl ⟨by rfl,(by intro W hSw;go_simp<;>with_reducible rfl)⟩) (by assumption) ?_;try simp only  [Act.put,List.setIfInBounds_toArray,List.set_cons_zero,List.set_cons_succ]
        refine wpAnyH_take  (i:=7) (v:=?_) (by rw[List.getElem?_toArray];exact rfl) (by kernel_rfl) (by kernel_rfl) (by kernel_rfl) (by exact fun _ _ _ h=>h) (Or.inl ⟨by rfl,(by intro W hSw;go_simp<;>with_reducible rfl)⟩) (by assumption) ?_;try simp only  [Act.put,List.setIfInBounds_toArray,List.set_cons_zero,List.set_cons_succ]
        refine wpAnyH_take  (i:=8) (v:=?_) (by rw[List.getElem?_toArray];exact rfl) (by kernel_rfl) (by kernel_rfl) (by kernel_rfl) (by exact fun _ _ _ h=>h) (Or.inl ⟨by rfl,(by intro W hSw;go_simp<;>with_reducible rfl)⟩) (by assumption) ?_;try simp only  [Act.put,List.setIfInBounds_toArray,List.set_cons_zero,List.set_cons_succ]
        refine wpAnyH_take  (i:=9) (v:=?_) (by rw[List.getElem?_toArray];exact rfl) (by kernel_rfl) (by kernel_rfl) (by kernel_rfl) (by exact fun _ _ _ h=>h) (Or.inl ⟨by rfl,(by intro W hSw;go_simp<;>with_reducible rfl)⟩) (by assumption) ?_;try simp only  [Act.put,List.setIfInBounds_toArray,List.set_cons_zero,List.set_cons_succ]
        refine wpAnyH_take  (i:=10) (v:=?_) (by rw[List.getElem?_toArray];exact rfl) (by kernel_rfl) (by kernel_rfl) (by kernel_rfl) (by exact fun _ _ _ h=>h) (Or.inl ⟨by rfl,(by intro W hSw;go_simp<;>with_reducible rfl)⟩) (by assumption) ?_;try simp only  [Act.put,List.setIfInBounds_toArray,List.set_cons_zero,List.set_cons_succ]
        refine wpAnyH_ready  (rs:=[5]) (by kernel_rfl) (by simp) (AllReadyH.cons  (by rw[List.getElem?_toArray];exact rfl) (fun K9 hK9=>?_) AllReadyH.nil);go_simp;refine(ZE _ _ _ l x _ (HKA.out _ (Kept.drew _))).mono ?_;rintro e3 w3 ⟨rfl,kk⟩;have J1:=lH ((Kept.drew _).trans kk);clear kk;refine hK9.out _ _ (HS.out _ J1.out) (fun hHeld1=>?_);clear hK9 K9;try simp only  [Act.put,List.setIfInBounds_toArray,List.set_cons_zero,List.set_cons_succ]
        refine wpAnyH_ready  (rs:=[11]) (by kernel_rfl) (by simp) (AllReadyH.cons  (by rw[List.getElem?_toArray];exact rfl) (fun K9 hK9=>?_) AllReadyH.nil);go_simp;refine(ZE _ _ _ l' x _ (HKB.out _ J1.out)).mono ?_;rintro e4 w4 ⟨rfl,kk⟩;have J2:=lH ((J1.out).trans kk);clear kk;refine hK9.out _ _ (HS.out _ J2.out) (fun hHeld2=>?_);clear hK9 K9;try simp only  [Act.put,List.setIfInBounds_toArray,List.set_cons_zero,List.set_cons_succ]
        rw[HG1.out,HG2.out];refine wpAnyH_ready  (rs:=[12]) (by kernel_rfl) (by simp) (AllReadyH.cons  (by rw[List.getElem?_toArray];exact rfl) (fun K9 hK9=>?_) AllReadyH.nil);go_simp;refine(QF.out _).mono ?_;rintro e5 w5 ⟨rfl,kk⟩;have J3:=lH ((J2.out).trans kk);clear kk;refine hK9.out _ _ (HS.out _ J3.out) (fun hHeld3=>?_);clear hK9 K9;try simp only  [Act.put,List.setIfInBounds_toArray,List.set_cons_zero,List.set_cons_succ]
        refine wpAnyH_take  (i:=13) (v:=?_) (by rw[List.getElem?_toArray];exact rfl) (by kernel_rfl) (by kernel_rfl) (by kernel_rfl) (by exact fun _ _ _ h=>h) (Or.inl ⟨by rfl,(by intro W hSw;go_simp<;>with_reducible rfl)⟩) (by assumption) ?_;try simp only  [Act.put,List.setIfInBounds_toArray,List.set_cons_zero,List.set_cons_succ]
        refine wpAnyH_take  (i:=14) (v:=?_) (by rw[List.getElem?_toArray];exact rfl) (by kernel_rfl) (by kernel_rfl) (by kernel_rfl) (by exact fun _ _ _ h=>h) (Or.inl ⟨by rfl,(by intro W hSw;go_simp<;>with_reducible rfl)⟩) (by assumption) ?_;try simp only  [Act.put,List.setIfInBounds_toArray,List.set_cons_zero,List.set_cons_succ]
        refine wpAnyH_take  (i:=15) (v:=?_) (by rw[List.getElem?_toArray];exact rfl) (by kernel_rfl) (by kernel_rfl) (by kernel_rfl) (by exact fun _ _ _ h=>h) (Or.inl ⟨by rfl,(by intro W hSw;go_simp<;>with_reducible rfl)⟩) (by assumption) ?_;try simp only  [Act.put,List.setIfInBounds_toArray,List.set_cons_zero,List.set_cons_succ]
        refine wpAnyH_take  (i:=16) (v:=?_) (by rw[List.getElem?_toArray];exact rfl) (by kernel_rfl) (by kernel_rfl) (by kernel_rfl) (by exact fun _ _ _ h=>h) (Or.inl ⟨by rfl,(by intro W hSw;go_simp<;>with_reducible rfl)⟩) (by assumption) ?_;try simp only  [Act.put,List.setIfInBounds_toArray,List.set_cons_zero,List.set_cons_succ]
        refine wpAnyH_take  (i:=17) (v:=?_) (by rw[List.getElem?_toArray];exact rfl) (by kernel_rfl) (by kernel_rfl) (by kernel_rfl) (by exact fun _ _ _ h=>h) (Or.inl ⟨by rfl,(by intro W hSw;go_simp<;>with_reducible rfl)⟩) (by assumption) ?_;try simp only  [Act.put,List.setIfInBounds_toArray,List.set_cons_zero,List.set_cons_succ]
        refine wpAnyH_done (by kernel_rfl) ?_ _;have c1:=HS.out _ J3.out;have B6:=lH (HB2.out.trans (Below.mono J3.out HB2.out.size));have O6:=lH (HO.out.kept J3.out);go_wp2;go_ret2
        rw[HE.out];exact Told.none (K2.out.trans B6.out)
    · have HE:=lH (show R=(0,acc) by
       have e:NS.drop k=[]:=List.drop_of_length_le (by rw[HNL.out];omega);rw[←HQ.out,e];rfl)
      have HKK:=lH (K2.out.trans (show Kept w2 wr from hB));obtain⟨av,cv,rfl,hv1,hv2,-⟩:=HO.out.at_;have HBL:=lH (jJ.base_le HO.out K2.out.size);clear hB hv1 hv2;by_cases h9:acc.length≤8
      · have HW:=lH (show jg jv l l'=(0,acc) by
         rw[HM.out,HE.out];simp only;rw[if_neg (by decide),if_neg (by omega)])
        have QW:=lH (fun W=>jeq av acc.length cv W h9);clear h9;go_wp2_with fail
        refine(QW.out _).mono ?_;rintro e9 w9 ⟨rfl,rfl⟩;go_wp2;go_ret2
        rw[HW.out];exact⟨_,rfl,HBL.out,HKK.out⟩
      · have HW:=lH (show jg jv l l'=(4,[]) by
         rw[HM.out,HE.out];simp only;rw[if_neg (by decide),if_pos (by omega)])
        have QW:=lH (fun W=>jbI av acc.length cv W (by omega));clear h9;go_wp2_with fail
        refine(QW.out _).mono ?_;rintro e9 w9 ⟨rfl,rfl⟩;go_wp2;go_ret2
        rw[HW.out];exact Told.none HKK.out
 · have HE:=lH (jb9 (f:=jv) hc);obtain⟨c,hc2⟩:∃c,Zb l l'=c:=⟨_,rfl⟩
   rw[hc2] at HE hc;have hc':(c==0)=false:=by simpa using hc
   have HC:=lH hc2;clear hr hr' hc hc2;go_enter Tryz.func98,Tryz.ntmps98;go_wp2_with fail
   refine(jak _ _ _ _ _ _ l l' _ HA.out HB.out).mono ?_;rw[HC.out];rintro e1 w1 ⟨rfl,k1⟩;have K1:=lH k1;clear k1;go_wp2;go_ret2
   rw[HE.out];exact Told.none K1.out
theorem jed {v v':Value} {l l' m:V} {c:Int} {w:World} (h:Reads w v l) (h':Reads w v' l') (e:jg jv l l'=(c,m)) :
 Calls Tryz.prog 98 #[v,v'] w fun e w'=>∃x,e=.returned (.tuple #[x,.int .i64 c])∧Reads w' x m∧Kept w w':=by
 obtain⟨a,cap,rfl,_,_,hb⟩:=h;obtain⟨a9,cap9,rfl,_,_,hr⟩:=h';refine(jdE a a9 _ cap _ cap9 l l' w hb hr).mono ?_;rw[e];rintro e w' ⟨x,rfl,ho,k⟩;exact⟨x,rfl,ho.at_,k⟩
end Go.Proofs.YtgfoenfaohhjcabGreat.Vec
