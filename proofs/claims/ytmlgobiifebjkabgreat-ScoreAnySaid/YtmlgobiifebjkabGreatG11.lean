/- C. -/
import Derived.Test.YtmlgobiifebjkabGreatG0
import Derived.Test.YtmlgobiifebjkabGreatG1
import Derived.Test.YtmlgobiifebjkabGreatG8
import Derived.Test.YtmlgobiifebjkabGreatG9
import Derived.Test.YtmlgobiifebjkabGreatG10
import Derived.Lib.OwnBridge
import Derived.Shelf.SlSortCmp.NoneTotal
set_option linter.unusedVariables false
set_option maxRecDepth 100000
set_option maxHeartbeats 25600000
namespace Go.Proofs.YtmlgobiifebjkabGreat
open Go.RowKit
theorem jdp {s:Clu} (h:jH s) (x:ByteArray):jH (J5 s x):=⟨fun n hn=>by
 obtain rfl:=List.mem_singleton.1 hn;exact jan h x,fun n hn=>by
 unfold J5 onP at hn;split at hn
 · cases hn
 · exact h.pods n (List.mem_filter.1 hn).1,(fun n hn=>by cases hn),(by decide:(1:Nat)≤100000),by
 unfold J5 onP;split
 · exact(by decide:(0:Nat)≤100000)
 · exact Nat.le_trans (List.length_filter_le _ _) h.podsN,(by decide:(0:Nat)≤100000)⟩
theorem jmy (x:ByteArray) (l:List Pd):(onP x l).length≤l.length:=by
 unfold onP;split
 · exact Nat.zero_le _
 · exact List.length_filter_le _ _
theorem jhV {p:Pd} (h:Ju p) (x:ByteArray):Ju { p with node:=x }:=⟨h.need,h.labels,h.sel,h.tols⟩
theorem jkA {s:Clu} {p:Pd} (h:jH s) (hp:Ju p) (hn:s.pods.length+1≤100000):jH (JT s p):=⟨h.nodes,fun q hq=>by
 rcases ins_mem hq with rfl | hq
 · exact hp
 · exact h.pods q (qA hq),h.buds,h.nodesN,by
 show (zY p (jY p.name s.pods)).length≤100000;rw[jgs];exact Nat.le_trans (Nat.succ_le_succ (jbz _ _)) hn,h.budsN⟩
theorem qc (s1 s2 s3:Option Addr) (n1 e1 n2 e2 n3 e3:Nat) (a1 a2 a3 a4:Option Addr) (m1 c1 m2 c2 m3 c3 m4 c4:Nat) (p:Pd) (s:Clu) (name:ByteArray) (w:World) (hs:jA w (zv (.slice s1 n1 e1) (.slice s2 n2 e2) (.slice s3 n3 e3)) s) (hl:jH s) (hb:s.pods.length+1≤100000) (hp:js w (.slice a1 m1 c1) (.slice a2 m2 c2) (.slice a3 m3 c3) (.slice a4 m4 c4) p) (hlp:Ju p) (hx:name.size≤maxLen):Calls Tryz.prog 18 #[.agg #[.slice s1 n1 e1,.slice s2 n2 e2,.slice s3 n3 e3],jr p (.slice a1 m1 c1) (.slice a2 m2 c2) (.slice a3 m3 c3) (.slice a4 m4 c4),.string name] w (Yh (JL s p name) w):=by
 obtain⟨Z,hZ⟩:∃Z,(w.alloc (.cells #[.slice s1 n1 e1,.slice s2 n2 e2,.slice s3 n3 e3] 26)).alloc (.cells #[.string p.name,.string p.owner,.int .i64 p.prio,.slice a1 m1 c1,.slice a2 m2 c2,.slice a3 m3 c3,.slice a4 m4 c4,.string p.key,.int .i64 p.most,.string p.node,.bool p.hold] 35)=Z:=⟨_,rfl⟩
 have hkz:Kept w Z:=by rw[←hZ];exact jm _ _ _
 have hzs:Z.heap.size=w.heap.size+2:=by rw[←hZ];simp
 have hq1:=jd w (.slice s1 n1 e1) [.slice s2 n2 e2,.slice s3 n3 e3] 26 Z (by rw[←hZ];exact ja _ _);have hq2:jf (w.heap.size+1) [.string p.name,.string p.owner,.int .i64 p.prio,.slice a1 m1 c1,.slice a2 m2 c2,.slice a3 m3 c3,.slice a4 m4 c4,.string p.key,.int .i64 p.most,.string p.node,.bool p.hold] Z:=by
  have dd:=jd (w.alloc (.cells #[.slice s1 n1 e1,.slice s2 n2 e2,.slice s3 n3 e3] 26)) (.string p.name) [.string p.owner,.int .i64 p.prio,.slice a1 m1 c1,.slice a2 m2 c2,.slice a3 m3 c3,.slice a4 m4 c4,.string p.key,.int .i64 p.most,.string p.node,.bool p.hold] 35 Z (by rw[hZ];exact Kept.refl _);rw[World.size_alloc] at dd;exact dd
 obtain⟨Y,hY⟩:∃W,Z.setCell ⟨w.heap.size+1,9,none⟩ (.string name)=W:=⟨_,rfl⟩
 have hky:Kept w Y:=by rw[←hY];exact hkz.setCell (p:=⟨w.heap.size+1,9,none⟩) (by show w.heap.size≤w.heap.size+1;omega) _
 have Vb:=lH (show jf (w.heap.size+1) [.string p.name,.string p.owner,.int .i64 p.prio,.slice a1 m1 c1,.slice a2 m2 c2,.slice a3 m3 c3,.slice a4 m4 c4,.string p.key,.int .i64 p.most,.string name,.bool p.hold] Y by rw[←hY];exact hq2.set (j:=9) (u:=.string name) (by simp));have Vd:=lH (show jf w.heap.size [.slice s1 n1 e1,.slice s2 n2 e2,.slice s3 n3 e3] Y by rw[←hY];exact hq1.other (by omega));have HS:=lH (hs.kept hky);have HP:=lH (show js Y (.slice a1 m1 c1) (.slice a2 m2 c2) (.slice a3 m3 c3) (.slice a4 m4 c4) { p with node:=name } from by have h:=hp.kept hky;exact⟨h.name,h.owner,h.key,hx,h.prio,h.most,h.need,h.labels,h.sel,h.tols⟩);have K:=lH hky;have HL:=lH hl;have V1:=lH (jhV hlp name);have Vl:=lH hb;have HV:=lH (show JL s p name=Y2 (JT (J5 s name) { p with node:=name }) name from rfl);have u9:=hq2.at_ 9 _ rfl;have f9:=hq2.free 9;have HF:=lH (show ∀W,Kept Y W→W.cell? ⟨w.heap.size,0,none⟩=some (.slice s1 n1 e1)∧W.cell? ⟨w.heap.size,1,none⟩=some (.slice s2 n2 e2)∧W.cell? ⟨w.heap.size,2,none⟩=some (.slice s3 n3 e3)∧W.cell? ⟨w.heap.size+1,0,none⟩=some (.string p.name)∧W.cell? ⟨w.heap.size+1,1,none⟩=some (.string p.owner)∧W.cell? ⟨w.heap.size+1,2,none⟩=some (.int .i64 p.prio)∧W.cell? ⟨w.heap.size+1,3,none⟩=some (.slice a1 m1 c1)∧W.cell? ⟨w.heap.size+1,4,none⟩=some (.slice a2 m2 c2)∧W.cell? ⟨w.heap.size+1,5,none⟩=some (.slice a3 m3 c3)∧W.cell? ⟨w.heap.size+1,6,none⟩=some (.slice a4 m4 c4)∧W.cell? ⟨w.heap.size+1,7,none⟩=some (.string p.key)∧W.cell? ⟨w.heap.size+1,8,none⟩=some (.int .i64 p.most)∧W.cell? ⟨w.heap.size+1,9,none⟩=some (.string name)∧W.cell? ⟨w.heap.size+1,10,none⟩=some (.bool p.hold) from fun W kk=>by
  have h:=Vd.out.kept kk;have q:=Vb.out.kept kk;exact⟨h.at_ 0 _ rfl,h.at_ 1 _ rfl,h.at_ 2 _ rfl,q.at_ 0 _ rfl,q.at_ 1 _ rfl,q.at_ 2 _ rfl,q.at_ 3 _ rfl,q.at_ 4 _ rfl,q.at_ 5 _ rfl,q.at_ 6 _ rfl,q.at_ 7 _ rfl,q.at_ 8 _ rfl,q.at_ 9 _ rfl,q.at_ 10 _ rfl⟩)
 clear hs hp hkz hky hl hlp hb hq1 hq2;unfold jr;go_enter Tryz.func18,Tryz.ntmps18;go_upto_region 1 with fail
 try rw[hZ]
 clear hZ;go_upto_region 2 with fail
 try rw[hY]
 clear hY u9 f9 hzs;have J:=lH (Kept.drew Y);refine wp_region_held_drew (S:=fun W=>W.cell? ⟨w.heap.size,0,none⟩=some (.slice s1 n1 e1)∧W.cell? ⟨w.heap.size,1,none⟩=some (.slice s2 n2 e2)∧W.cell? ⟨w.heap.size,2,none⟩=some (.slice s3 n3 e3)∧W.cell? ⟨w.heap.size+1,0,none⟩=some (.string p.name)∧W.cell? ⟨w.heap.size+1,1,none⟩=some (.string p.owner)∧W.cell? ⟨w.heap.size+1,2,none⟩=some (.int .i64 p.prio)∧W.cell? ⟨w.heap.size+1,3,none⟩=some (.slice a1 m1 c1)∧W.cell? ⟨w.heap.size+1,4,none⟩=some (.slice a2 m2 c2)∧W.cell? ⟨w.heap.size+1,5,none⟩=some (.slice a3 m3 c3)∧W.cell? ⟨w.heap.size+1,6,none⟩=some (.slice a4 m4 c4)∧W.cell? ⟨w.heap.size+1,7,none⟩=some (.string p.key)∧W.cell? ⟨w.heap.size+1,8,none⟩=some (.int .i64 p.most)∧W.cell? ⟨w.heap.size+1,9,none⟩=some (.string name)∧W.cell? ⟨w.heap.size+1,10,none⟩=some (.bool p.hold)) (by kernel_rfl) (HF.out _ J.out) (fun hHeld=>?_);obtain⟨wd,hwd⟩:∃W,Y.drew=W:=⟨_,rfl⟩
 rw[hwd] at J hHeld;try rw[hwd]
 clear hwd;refine tkI 0 ?_;refine tkI 1 ?_;refine tkI 3 ?_;refine tkI 5 ?_;try simp only[nP]
 refine rd1 2 fun K9 Ky=>?_;go_simp;refine(jjK s1 s2 s3 n1 e1 n2 e2 n3 e3 s name _ (HS.out.kept J.out) HL.out).mono ?_;rintro e w1 ⟨y,rfl,hy,kk⟩;have HY:=lH hy;have J:=lH (J.out.trans kk);clear kk hy;refine Ky.out _ _ (HF.out _ J.out) (fun _=>?_);clear Ky K9;try simp only[nP]
 refine rd1 4 fun K9 Ky=>?_;go_simp;refine(jl6 HY.out (p:={ p with node:=name }) ⟨_,_,_,_,rfl,HP.out.kept J.out⟩ (jdp HL.out name) V1.out).mono ?_;rintro e w2 ⟨y2,rfl,hy,kk⟩;obtain⟨t1,k1,d1,t2,k2,d2,t3,k3,d3,rfl⟩:=hy.spelt;have Mo:=lH hy;have J:=lH (J.out.trans kk);clear kk hy HY;refine Ky.out _ _ (HF.out _ J.out) (fun _=>?_);clear Ky K9;try simp only[nP]
 refine rd1 6 fun K9 Ky=>?_;go_simp;have Ta:=jjg t1 t2 t3 k1 d1 k2 d2 k3 d3 _ name w2 Mo.out (jkA (jdp HL.out name) V1.out (by have:=Vl.out;have:(J5 s name).pods.length≤s.pods.length:=jmy name s.pods;omega));try unfold zv at Ta
 refine Ta.mono ?_;rintro e w3 ⟨r,rfl,hr,hrt,kk⟩;have HR:=lH (hr.trans HV.out.symm);have J:=lH (J.out.trans kk);clear kk hr Ta Mo;refine Ky.out _ _ (HF.out _ J.out) (fun _=>?_);clear Ky K9;try simp only[nP]
 refine tkI 7 ?_;try simp only[nP]
 refine wpAnyH_done (by kernel_rfl) ?_ _;go_wp2;go_ret;exact Y9 HR.out hrt (K.out.trans J.out)
theorem qX (s1 s2 s3:Option Addr) (n1 e1 n2 e2 n3 e3:Nat) (s:Clu) (name what:ByteArray) (w:World) (hs:jA w (zv (.slice s1 n1 e1) (.slice s2 n2 e2) (.slice s3 n3 e3)) s) (hl:jH s):Calls Tryz.prog 12 #[.agg #[.slice s1 n1 e1,.slice s2 n2 e2,.slice s3 n3 e3],.string name,.string what] w (Yh (zu s name what) w):=by
 obtain⟨Z,hZ⟩:∃Z,w.alloc (.cells #[.slice s1 n1 e1,.slice s2 n2 e2,.slice s3 n3 e3] 26)=Z:=⟨_,rfl⟩
 have hkz:Kept w Z:=by rw[←hZ];exact ja _ _
 have Vd:=lH (jd w (.slice s1 n1 e1) [.slice s2 n2 e2,.slice s3 n3 e3] 26 Z (by rw[hZ];exact Kept.refl _));have HS:=lH (hs.kept hkz);have K:=lH hkz;have HL:=lH hl;have HF:=lH (show ∀W,Kept Z W→W.cell? ⟨w.heap.size,0,none⟩=some (.slice s1 n1 e1)∧W.cell? ⟨w.heap.size,1,none⟩=some (.slice s2 n2 e2)∧W.cell? ⟨w.heap.size,2,none⟩=some (.slice s3 n3 e3) from fun W kk=>by
  have h:=Vd.out.kept kk;exact⟨h.at_ 0 _ rfl,h.at_ 1 _ rfl,h.at_ 2 _ rfl⟩)
 clear hs hl hkz;have HV:=lH (show zu s name what=jcP (Vec.jy (zy s name).2 what) (Vec.jy (zb s name).cap what) from rfl);go_enter Tryz.func12,Tryz.ntmps12;go_upto_region 1 with fail
 try rw[hZ]
 clear hZ;have J:=lH (Kept.drew Z);refine wp_region_held_drew (S:=fun W=>W.cell? ⟨w.heap.size,0,none⟩=some (.slice s1 n1 e1)∧W.cell? ⟨w.heap.size,1,none⟩=some (.slice s2 n2 e2)∧W.cell? ⟨w.heap.size,2,none⟩=some (.slice s3 n3 e3)) (by kernel_rfl) (HF.out _ J.out) (fun hHeld=>?_);obtain⟨wd,hwd⟩:∃W,Z.drew=W:=⟨_,rfl⟩
 rw[hwd] at J hHeld;try rw[hwd]
 clear hwd;refine tkI 0 ?_;refine tkI 1 ?_;refine tkI 3 ?_;refine tkI 4 ?_;refine tkI 7 ?_;try simp only[nP]
 refine rd1 2 fun K9 Ky=>?_;go_simp;refine(jcn s1 s2 s3 n1 e1 n2 e2 n3 e3 s name _ (HS.out.kept J.out) HL.out).mono ?_;rintro e w1 ⟨vu,rfl,hu,kk⟩;have HU:=lH hu;have J:=lH (J.out.trans kk);clear kk hu;refine Ky.out _ _ (HF.out _ J.out) (fun _=>?_);clear Ky K9;try simp only[nP]
 refine rd1 5 fun K9 Ky=>?_;go_simp;refine(YY s1 s2 s3 n1 e1 n2 e2 n3 e3 s name _ (HS.out.kept J.out) HL.out).mono ?_;rintro e w2 ⟨b1,k1,d1,b2,k2,d2,b3,k3,d3,rfl,hn,kk⟩;have HU:=lH (HU.out.kept kk);have HC:=lH hn.cap;have J:=lH (J.out.trans kk);clear kk hn;unfold zw;refine Ky.out _ _ (HF.out _ J.out) (fun _=>?_);clear Ky K9;try simp only[nP]
 have hfd:=fun W=>jgH (zb s name).name (.slice b1 k1 d1) (.slice b2 k2 d2) (.slice b3 k3 d3) (zb s name).cordon W;refine tkI 6 ?_;try simp only[nP]
 refine rd1 8 fun K9 Ky=>?_;go_simp;refine(jbS vu _ _ _ what _ HU.out HC.out).mono ?_;rintro e w3 ⟨r,rfl,hr,hrt,kk⟩;have HR:=lH (hr.trans HV.out.symm);have J:=lH (J.out.trans kk);clear kk hr;refine Ky.out _ _ (HF.out _ J.out) (fun _=>?_);clear Ky K9;try simp only[nP]
 refine tkI 9 ?_;try simp only[nP]
 refine wpAnyH_done (by kernel_rfl) ?_ _;go_wp2;go_ret;exact Y9 HR.out hrt (K.out.trans J.out)
open Go.RowKit Go.Shelf
theorem run_store_float {P:Program} {a m w} (k n):(store a (.float k n) m).run P w=stored P w a (.float k n) m:=run_store P w a _ m rfl
attribute [local go_sem] Oper.semAt_some run_store_float
def mkC (x:Mk):List Value:=[.string x.1,.int .i64 x.2.1,.float .f64 x.2.2]
theorem jbL (x:Mk) (u:Value) (h:u ∈ mkC x):u.oneCell'=true:=by
 have e:u=Value.string x.1∨u=Value.int .i64 x.2.1∨u=Value.float .f64 x.2.2:=by simpa [mkC] using h
 rcases e with e | e | e<;>rw[e]<;>rfl
def MkLay:Lay Mk:={ m:=3,cs:=mkC,fine:=fun x=>x.1.size≤maxLen∧x.2.2<TOP,len:=fun _=>rfl,one:=jbL,pos:=by decide }
def mk0:Mk:=(⟨#[]⟩,0,0)
def ZD (zs:List Mk) (k:Nat):List Mk:=(List.range k).map fun j=>zs[j]?.getD mk0
theorem jhs (zs:List Mk) (k:Nat):ZD zs (k+1)=ZD zs k++[zs[k]?.getD mk0]:=by simp[ZD,List.range_succ]
theorem jeY (zs:List Mk) (k:Nat):(ZD zs k).length=k:=by simp[ZD]
theorem jca (zs:List Mk) {k:Nat} (hk:k≤zs.length):ZD zs k=zs.take k:=by
 apply List.ext_getElem
 · simp[ZD,hk]
 · intro i h1 h2;have:i<zs.length:=by simp[ZD] at h1;omega
   simp[ZD,this]
theorem jjB (zs:List Mk):ZD zs zs.length=zs:=by rw[jca zs (Nat.le_refl _),List.take_length]
theorem jfj (F:Fence) (n:Nat) (h7:F.fn 124) (hro:F.round=none) (hn:1≤n) (l Bs n₀ b off len cap:Nat) (zs:List Mk) (hreach:len≤1000000) (hb:b<n₀) (J Jx:List Mk→World→Prop)
 (hY:∀pre x W,J pre W→pre.length<len→YieldAt F (n-1) Tryz.prog l #[.agg #[.string x.1,.int .i64 x.2.1,.float .f64 x.2.2]] W fun e W' =>
   (e=.returned (.bool true)∧J (pre++[x]) W'∧Below n₀ W W')∨(e=.returned (.bool false)∧Jx (pre++[x]) W'))
 (W:World) (hJ:AbidesFrom W.heap.size J) (hnW:n₀≤W.heap.size) (hBs:W.cell? ⟨Bs,0,none⟩=some (.slice (some ⟨b,off,none⟩) len cap))
 (hc:∀j,j<len→W.cell? ⟨b,off+j*3,none⟩=some (.string (zs[j]?.getD mk0).1)∧W.cell? ⟨b,off+j*3+1,none⟩=some (.int .i64 (zs[j]?.getD mk0).2.1)∧W.cell? ⟨b,off+j*3+2,none⟩=some (.float .f64 (zs[j]?.getD mk0).2.2)) (h0:J [] W) :
 CallsIn F n Tryz.prog 124 #[.func (.yield l) #[] #[],.pointer (some ⟨Bs,0,none⟩)] W fun e W'=>(∃v,e=.returned v) ∧
  ((∃ys,ys=ZD zs len∧J ys W')∨(∃pre,(∃k,k≤len∧pre=ZD zs k)∧Jx pre W')):=by
 refine callsIn_of_wp Tryz.func124 rfl h7 ?_ hro;simp only[Tryz.ntmps124,List.size_toArray,List.length_cons,List.length_nil,Nat.reduceAdd,Nat.reduceSub,Array.replicate_succ,Array.replicate_zero,List.push_toArray,List.append_toArray,List.nil_append,List.cons_append];gi_wp2
 gi_loopw [7] (fun i wr=>∃k:Nat,k≤len∧i=.int .i64 k∧J (ZD zs k) wr∧Below n₀ W wr∧W.heap.size≤wr.heap.size)
  (fun i _=>len-(intOf i).toNat)
 case atStart=>exact⟨0,Nat.zero_le _,rfl,h0,Below.refl _ _,Nat.le_refl _⟩
 case round =>
  obtain⟨k,hk,rfl,hJs,hnx,hsz⟩:=hrel;have hcx:k<len→wr.cell? ⟨b,off+k*3,none⟩=some (.string (zs[k]?.getD mk0).1)∧wr.cell? ⟨b,off+k*3+1,none⟩=some (.int .i64 (zs[k]?.getD mk0).2.1)∧wr.cell? ⟨b,off+k*3+2,none⟩=some (.float .f64 (zs[k]?.getD mk0).2.2):=fun h=>⟨(hnx.cell (p:=⟨b,off+k*3,none⟩) hb).trans (hc k h).1,(hnx.cell (p:=⟨b,off+k*3+1,none⟩) hb).trans (hc k h).2.1,(hnx.cell (p:=⟨b,off+k*3+2,none⟩) hb).trans (hc k h).2.2⟩
  by_cases hlt:k<len
  · obtain⟨c0,c1,c2⟩:=hcx hlt;have hus:=lH (jhs zs k);obtain⟨y,hy⟩:∃y,zs[k]?.getD mk0=y:=⟨_,rfl⟩
    rw[hy] at c0 c1 c2 hus;obtain⟨y1,y2,y3⟩:=y;clear hcx hy;obtain⟨w2,hw2⟩:∃X,wr.alloc (.cells #[.string y1,.int .i64 y2,.float .f64 y3] 162)=X:=⟨_,rfl⟩
    have hJ2:J (ZD zs k) w2:=by rw[←hw2];exact hJ _ wr _ none hJs (World.grownBy_alloc _ _ none) (fun r e=>by cases e)
    have hb2:Below n₀ wr w2:=by rw[←hw2];exact(Below.refl _ wr).alloc (by have:=hnx.size;omega) _
    have hs2:W.heap.size≤w2.heap.size:=by rw[←hw2];simp;omega
    obtain⟨fn,tmps,assign,body,hyy,hR⟩:=hY _ (y1,y2,y3) w2 hJ2 (by rw[jeY];exact hlt);dsimp only at hyy;rw[←hw2] at hyy hR;have TE:=lH hw2;clear hw2;gi_wp2
    refine hR.mono ?_;rintro e W3 (⟨rfl,hJ3,hk3⟩ | ⟨rfl,hJx3⟩)
    · rw[TE.out] at hk3;gi_wp2
      go_roundw
      case rel=>exact⟨k+1,by omega,by simp,by rw[hus.out];exact hJ3,hnx.trans (hb2.trans hk3),Nat.le_trans hs2 hk3.size⟩
      case measure=>simp[intOf];omega
    · gi_wp2
      refine bodyPost_ret (results_none rfl _ _ _) rfl ?_;exact⟨⟨_,rfl⟩,.inr ⟨_,⟨k+1,by omega,hus.out.symm⟩,hJx3⟩⟩
  · obtain rfl:k=len:=by omega
    gi_wp2
    go_end0
    exact⟨⟨_,rfl⟩,.inl ⟨_,rfl,hJs⟩⟩
def Mks (n₀:Nat) (W:World) (sv:Value) (zs:List Mk):Prop :=
 ∃a cap,sv=.slice a zs.length cap∧(zs.length=0∨∃b off,a=some ⟨b,off,none⟩∧b<n₀∧∀j,j<zs.length→W.cell? ⟨b,off+j*3,none⟩=some (.string (zs[j]?.getD mk0).1)∧W.cell? ⟨b,off+j*3+1,none⟩=some (.int .i64 (zs[j]?.getD mk0).2.1)∧W.cell? ⟨b,off+j*3+2,none⟩=some (.float .f64 (zs[j]?.getD mk0).2.2))
theorem Mks.below {n₀:Nat} {A B:World} (h:Below n₀ A B) {sv:Value} {zs:List Mk} (hf:Mks n₀ A sv zs):Mks n₀ B sv zs:=by
 obtain⟨a,cap,e,hc⟩:=hf;refine⟨a,cap,e,hc.imp id ?_⟩;rintro ⟨b,off,ea,hb,hc⟩;exact⟨b,off,ea,hb,fun j hj=>⟨(h.cell (p:=⟨b,off+j*3,none⟩) hb).trans (hc j hj).1,(h.cell (p:=⟨b,off+j*3+1,none⟩) hb).trans (hc j hj).2.1,(h.cell (p:=⟨b,off+j*3+2,none⟩) hb).trans (hc j hj).2.2⟩⟩
theorem Reads.mks {w:World} {v:Value} {l:List Mk} (h:Reads MkLay w v l):Mks w.heap.size w v l:=by
 obtain⟨a,cap,rfl,h1,h2,h3⟩:=h;refine⟨a,cap,rfl,?_⟩;rcases Nat.eq_zero_or_pos l.length with hz | hz
 · exact .inl hz
 · rcases h3.form with h4 | ⟨b,off,rfl⟩
   · exact .inl h4
   · obtain⟨-,-,-,hb,-⟩:=h3.cells hz;refine .inr ⟨b,off,rfl,hb,fun j hj=>?_⟩;obtain⟨x,hx,-,-,-,hc⟩:=h3.cells hj;rw[hx];exact⟨hc 0 _ rfl,hc 1 _ rfl,hc 2 _ rfl⟩
theorem jbq (F:Fence) (n:Nat) (h7:F.fn 124) (hro:F.round=none) (l Bs:Nat) (a:Option Addr) (cap:Nat) (J:List Mk→World→Prop) (W:World) (hBs:W.cell? ⟨Bs,0,none⟩=some (.slice a 0 cap)) (h0:J [] W) :
 CallsIn F n Tryz.prog 124 #[.func (.yield l) #[] #[],.pointer (some ⟨Bs,0,none⟩)] W fun e W'=>(∃v,e=.returned v)∧J [] W':=by
 refine callsIn_of_wp Tryz.func124 rfl h7 ?_ hro;simp only[Tryz.ntmps124,List.size_toArray,List.length_cons,List.length_nil,Nat.reduceAdd,Nat.reduceSub,Array.replicate_succ,Array.replicate_zero,List.push_toArray,List.append_toArray,List.nil_append,List.cons_append];gi_wp2
 gi_loopw [7] (fun i wr=>i=.int .i64 0∧J [] wr) (fun _ _=>0)
 case atStart=>exact⟨rfl,h0⟩
 case round =>
  obtain⟨rfl,hJs⟩:=hrel;gi_wp2
  go_end0
  exact⟨⟨_,rfl⟩,hJs⟩
theorem jej (a:Option Addr) (len cap:Nat) (w:World) :
 Calls Tryz.prog 88 #[.slice a len cap] w fun e w'=>e=.returned (.func (.func 124) #[] #[.pointer (some ⟨w.heap.size,0,none⟩)])∧w.alloc (.cells #[.slice a len cap] 108)=w':=by
 go_enter Tryz.func88,Tryz.ntmps88;go_wp2;go_ret;exact⟨rfl,rfl⟩
theorem jcB (F:Fence) (n:Nat) (h7:F.fn 124) (hro:F.round=none) (hn:1≤n) (Bs n₀:Nat) (sv:Value) (zs:List Mk) (hreach:zs.length≤1000000) (w:World) (hBs:Bs<w.heap.size) (hn₀:n₀≤w.heap.size)
 (hc:w.cell? ⟨Bs,0,none⟩=some sv) (hI:Mks n₀ w sv zs) :
 SeqStopsK F n Tryz.prog 124 #[.pointer (some ⟨Bs,0,none⟩)] (fun x:Mk=>#[.agg #[.string x.1,.int .i64 x.2.1,.float .f64 x.2.2]]) (Below n₀) (fun ys=>ys=zs) (fun pre=>pre <+: zs) zs.length w:=fun l J Jx W hW hJ _ hY h0=>by
 have hc':=(hW.cell (p:=⟨Bs,0,none⟩) hBs).trans hc;obtain⟨a,cap,rfl,h3⟩:=hI.below (hW.mono hn₀);rcases h3 with hz | ⟨b,off,rfl,hb,hcs⟩
 · have hzs:zs=[]:=List.length_eq_zero_iff.1 hz;subst hzs;exact(jbq F n h7 hro l Bs a cap J W hc' h0).mono fun e W' ⟨he,hj⟩=>⟨he,.inl ⟨_,rfl,hj⟩⟩
 · refine(jfj F n h7 hro hn l Bs n₀ b off zs.length cap zs hreach hb J Jx hY W hJ (Nat.le_trans hn₀ hW.size) hc' hcs h0).mono ?_;rintro e W' ⟨he,⟨ys,rfl,hj⟩ | ⟨pre,⟨k,hk,rfl⟩,hj⟩⟩
   · exact⟨he,.inl ⟨_,jjB zs,hj⟩⟩
   · exact⟨he,.inr ⟨_,by rw[jca zs hk];exact List.take_prefix _ _,hj⟩⟩
theorem jiQ:(Tryz.prog.info? 162).map (fun i=>(i.zero,i.size,i.bytes))=some (some (.agg #[.string ByteArray.empty,.int .i64 0,.float .f64 0]),3,32):=by kernel_rfl
def jaY (W:World) (q:Nat) (x:Mk):Prop:=W.heap[q]?=some (.cells #[.string x.1,.int .i64 x.2.1,.float .f64 x.2.2] 162 (0,0))
theorem jaY.cells {W:World} {q:Nat} {x:Mk} (h:jaY W q x):W.cell? ⟨q,0,none⟩=some (.string x.1)∧W.cell? ⟨q,1,none⟩=some (.int .i64 x.2.1)∧W.cell? ⟨q,2,none⟩=some (.float .f64 x.2.2) :=
 ⟨by rw[Lib.cell_of_heap h];rfl,by rw[Lib.cell_of_heap h];rfl,by rw[Lib.cell_of_heap h];rfl⟩
theorem jaY.kept {B q:Nat} {x:Mk} {X Y:World} {row:Option Nat} (h:jaY X q x) (hg:X.grownBy Y row) (hrow:∀r,row=some r→B≤r∧∃o:Obj,X.heap[r]?=some o∧o.isCells=false):jaY Y q x :=
 (hg.block q (Array.getElem?_eq_some_iff.1 h).1 (fun e'=>by
   obtain⟨-,o,ho,hc⟩:=hrow q e'.symm;rw[show X.heap[q]?=_ from h] at ho;cases ho;cases hc)).trans h
theorem jeU (w:World) (x:Mk):∀j u,(mkC x)[j]?=some u→(w.alloc (.cells #[.string x.1,.int .i64 x.2.1,.float .f64 x.2.2] 162)).cell? ((⟨w.heap.size,0,none⟩:Addr).add j)=some u:=fun j u h=>by
 match j,h with
 | 0,h=>cases h;simp[Addr.add]
 | 1,h=>cases h;simp[Addr.add]
 | 2,h=>cases h;simp[Addr.add]
 | j+3,h=>cases h
def jjZ (base:Nat) (W:World) (v:Value) (zs:List Mk):Prop:=W.ownsRow base 162 3 v zs.length (zs.flatMap mkC)∧(v=.slice none 0 0↔zs=[])
theorem jcC (F:Fence) (n:Nat) (h3:F.fn 148) (h5:F.fn 124) (hro:F.round=none) (hn:3≤n) (Bs:Nat) (sv:Value) (xs:List Mk) (hlen:xs.length≤1000000) (w:World)
 (hBs:Bs<w.heap.size) (hcs:w.cell? ⟨Bs,0,none⟩=some sv) (hL:Mks w.heap.size w sv xs) :
 CallsIn F n Tryz.prog 148 #[.slice none 0 0,.func (.func 124) #[] #[.pointer (some ⟨Bs,0,none⟩)]] w fun e W'=>∃v,e=.returned v∧jjZ w.heap.size W' v xs∧Below w.heap.size w W':=by
 have h1:1≤n:=by omega
 obtain⟨i0,hi,hz0,hz1,hz2⟩:=info_parts jiQ;refine callsIn_of_wp_marks Tryz.func148 rfl h3 ?_ hro;simp only[Tryz.ntmps148,List.size_toArray,List.length_cons,List.length_nil,Nat.reduceAdd,Nat.reduceSub,Array.replicate_succ,Array.replicate_zero,List.push_toArray,List.append_toArray,List.nil_append,List.cons_append];gi_wp2
 have bO:=Boxed.new w 108 (.slice none 0 0);have hB0:Below w.heap.size w (w.alloc (.cells #[.slice none 0 0] 108)):=(Below.refl _ w).alloc (Nat.le_refl _) _
 refine wpIn_rangeFunc_ownH hro h1 (gf:=124) (lb:=#[.pointer (some ⟨Bs,0,none⟩)]) rfl h5 (enters_of Tryz.func124 (by kernel_rfl) rfl)
  (jcB F (n-1) h5 hro (by omega) Bs w.heap.size sv xs hlen _ (by simp;omega) (by simp) ((hB0.cell (p:=⟨Bs,0,none⟩) hBs).trans hcs) (hL.below hB0)) belowK_t (belowK_b (by simp)) (Below.refl _ _) (fun _=>rfl)
  (fun pre W=>(∃v,Boxed W w.heap.size 108 v∧W.ownsRow w.heap.size 162 3 v pre.length (pre.flatMap mkC)∧(v=.slice none 0 0↔pre=[]))∧Below w.heap.size w W)
  (fun _ _ _=>False)
  (OwnFrom.and (Go.Own.from (holdsRow_own w.heap.size w.heap.size 108 162 3 (fun pre=>pre.length) (fun pre=>pre.flatMap mkC) (fun pre v=>v=.slice none 0 0↔pre=[])) _) (ownFrom_below (Nat.le_refl _) (by simp)))
  (fun _ _ _ _ _ hs _ _=>hs)
  ⟨⟨_,bO,World.ownsRow_nil _ _ _ _,by simp⟩,hB0⟩
  (fun x a' W=>∃q,a'={ tmps:=#[.slice none 0 0,.func (.func 124) #[] #[.pointer (some ⟨Bs,0,none⟩)],.pointer (some ⟨w.heap.size,0,none⟩),undef,.slice none 0 0,.pointer (some ⟨q,0,none⟩),.func (.func 124) #[] #[.pointer (some ⟨Bs,0,none⟩)],.agg #[.string x.1,.int .i64 x.2.1,.float .f64 x.2.2],undef,undef,undef,undef,undef],defers:=[] }∧jaY W q x)
  (fun x a' s X Y row hs hg hr=>by
    obtain⟨q,e,hb⟩:=hs;exact⟨q,e,hb.kept hg hr⟩) ?assign ?body ?done ?stop
 case assign =>
  rintro l pre x W K ⟨⟨v,hv,hrow,hnil⟩,hB⟩ hK;have hle:w.heap.size≤W.heap.size:=hB.size;gi_wp2
  exact hK _ _ (KeepsFrom.of_grownBy (World.grownBy_alloc W _ none) (by simp)) ((Below.refl _ W).alloc hle _) ⟨⟨v,hv.alloc _,hrow.alloc _,hnil⟩,hB.alloc hle _⟩ ⟨W.heap.size,rfl,World.alloc_heap_new W _⟩
 case body =>
  rintro l pre x a' W hwl hrl ⟨⟨v,hv,hrow,hnil⟩,hB⟩ ⟨q,rfl,hbx⟩ hlt;have hc:=hv.cell;obtain⟨e0,e1,e2⟩:=hbx.cells;gi_wp2_with (gi_at_builtin;refine wpListIn_append_own _ rfl _ _ 108 rfl w.heap.size 162 i0 (.agg #[.string ByteArray.empty,.int .i64 0,.float .f64 0]) 3 32 Tryz.underlying108 hi hz0 hz1 hz2 rfl (by decide) _ _ _ rfl (hrow.alloc _) ⟨W.heap.size,0,none⟩ 1 1 (mkC x) rfl rfl (jeU W x) (jbL x) (by unfold maxLen;omega) (by omega) (by have:=hB.size;simp;omega) ?_;intro v' w1 hown' hgrow _;obtain⟨g',cap',rfl⟩:=ownsRow_succ hown';obtain⟨hv1,hv2,hr2,hk2,hb2⟩:=hv.appended (by decide) hrow hB.size (Nat.le_refl _) hown' hgrow;have hc1:=hv1.cell;have hf1:=hv1.frozen)
  exact⟨hk2.from _,hb2,⟨_,hv2,by simpa using hr2,by simp⟩,hB.trans hb2⟩
 case done =>
  rintro D ys W hD rfl ⟨⟨v,hv,hrow,hnil⟩,hB⟩ hK;have hc:=hv.cell;gi_wp2
  refine⟨by simp,.inl ⟨_,_,rfl,run_takeDeferred hK,?_⟩⟩;exact⟨_,results_tmp rfl _ _ _,v,rfl,⟨ownsRow_putObj hrow _ hK rfl,hnil⟩,hB.trans (belowK_b (w:=w) (Nat.le_refl _) W D _ _ (by simp at hD;omega) hK rfl rfl)⟩
 case stop =>
  rintro D c pre W _ _ h _;exact h.elim
theorem jdJ (Bs:Nat) (sv:Value) (xs:List Mk) (hlen:xs.length≤1000000) (w:World) (hBs:Bs<w.heap.size) (hcs:w.cell? ⟨Bs,0,none⟩=some sv) (hL:Mks w.heap.size w sv xs) :
 Calls Tryz.prog 122 #[.func (.func 124) #[] #[.pointer (some ⟨Bs,0,none⟩)]] w fun e W'=>∃v,e=.returned v∧jjZ w.heap.size W' v xs∧Below w.heap.size w W':=by
 have hA:Calls Tryz.prog 148 #[.slice none 0 0,.func (.func 124) #[] #[.pointer (some ⟨Bs,0,none⟩)]] w _ :=
  callsIn_wide.1 (jcC Fence.wide 3 trivial trivial rfl (by omega) Bs sv xs hlen w hBs hcs hL)
 have HC:=lH hA;clear hA hBs hcs hL;go_enter Tryz.func122,Tryz.ntmps122;go_wp2_with fail
 refine HC.out.mono ?_;rintro e w1 ⟨v,rfl,ho,hb⟩;have HO:=lH ho;have HB:=lH hb;clear ho hb;go_wp2_with fail
 go_ret;exact⟨v,rfl,HO.out,HB.out⟩
end Go.Proofs.YtmlgobiifebjkabGreat
namespace Go.Proofs.YtmlgobiifebjkabGreat
open Go.RowKit
theorem jbs (s1 s2 s3:Option Addr) (n1 e1 n2 e2 n3 e3:Nat) (a1 a2 a3 a4:Option Addr) (m1 c1 m2 c2 m3 c3 m4 c4:Nat) (p:Pd) (s:Clu) (w:World) (hs:jA w (zv (.slice s1 n1 e1) (.slice s2 n2 e2) (.slice s3 n3 e3)) s) (hl:jH s) (hp:js w (.slice a1 m1 c1) (.slice a2 m2 c2) (.slice a3 m3 c3) (.slice a4 m4 c4) p):Calls Tryz.prog 91 #[.agg #[.slice s1 n1 e1,.slice s2 n2 e2,.slice s3 n3 e3],jr p (.slice a1 m1 c1) (.slice a2 m2 c2) (.slice a3 m3 c3) (.slice a4 m4 c4)] w fun e w'=>∃v,e=.returned v∧Own ji 9 w' w.heap.size v (Jd s p s.nodes)∧Kept w w':=by
 obtain⟨i0,hi,hz0,hz1,hz2'⟩:=info_parts jfb;obtain⟨Z,hZ⟩:∃Z,(w.alloc (.cells #[.slice s1 n1 e1,.slice s2 n2 e2,.slice s3 n3 e3] 26)).alloc (.cells #[.string p.name,.string p.owner,.int .i64 p.prio,.slice a1 m1 c1,.slice a2 m2 c2,.slice a3 m3 c3,.slice a4 m4 c4,.string p.key,.int .i64 p.most,.string p.node,.bool p.hold] 35)=Z:=⟨_,rfl⟩
 have hkz:Kept w Z:=by rw[←hZ];exact jm _ _ _
 have Vd:=lH (jd w (.slice s1 n1 e1) [.slice s2 n2 e2,.slice s3 n3 e3] 26 Z (by rw[←hZ];exact ja _ _));have Vb:=lH (show jf (w.heap.size+1) [.string p.name,.string p.owner,.int .i64 p.prio,.slice a1 m1 c1,.slice a2 m2 c2,.slice a3 m3 c3,.slice a4 m4 c4,.string p.key,.int .i64 p.most,.string p.node,.bool p.hold] Z by
  have dd:=jd (w.alloc (.cells #[.slice s1 n1 e1,.slice s2 n2 e2,.slice s3 n3 e3] 26)) (.string p.name) [.string p.owner,.int .i64 p.prio,.slice a1 m1 c1,.slice a2 m2 c2,.slice a3 m3 c3,.slice a4 m4 c4,.string p.key,.int .i64 p.most,.string p.node,.bool p.hold] 35 Z (by rw[hZ];exact Kept.refl _);rw[World.size_alloc] at dd;exact dd)
 have K:=lH hkz;have HS:=lH (hs.kept hkz);have HP:=lH (hp.kept hkz);have HL:=lH hl;clear hs hp hkz hl;have VY:=lH HS.out.nAt.2;have hb1:n1≤100000:=by have:=HL.out.nodesN;have:=VY.out;omega
 have HN:=lH HS.out.nAt.1;have Ud:=lH (jlm s1 s2 s3 n1 e1 n2 e2 n3 e3 a1 a2 a3 a4 m1 c1 m2 c2 m3 c3 m4 c4 p s Z HS.out HL.out HP.out);unfold jr at Ud;have y0:=Vd.out.at_ 0 _ rfl;have y1:=Vd.out.at_ 1 _ rfl;have y2:=Vd.out.at_ 2 _ rfl;have r0:=Vb.out.at_ 0 _ rfl;have r1:=Vb.out.at_ 1 _ rfl;have r2:=Vb.out.at_ 2 _ rfl;have r3:=Vb.out.at_ 3 _ rfl;have r4:=Vb.out.at_ 4 _ rfl;have r5:=Vb.out.at_ 5 _ rfl;have r6:=Vb.out.at_ 6 _ rfl;have r7:=Vb.out.at_ 7 _ rfl;have r8:=Vb.out.at_ 8 _ rfl;have r9:=Vb.out.at_ 9 _ rfl;have r10:=Vb.out.at_ 10 _ rfl;unfold jr;go_enter Tryz.func91,Tryz.ntmps91;go_wp2_with fail
 try rw[hZ]
 clear hZ;refine Ud.out.mono ?_;rintro e w1 ⟨v9,rfl,hr,kk⟩;have Vd:=lH (Vd.out.kept kk);have HN:=lH (HN.out.kept kk);have K:=lH (K.out.trans kk);obtain⟨wa,wc,rfl,-,-,hrow⟩:=hr.reads;rw[jbG,←VY.out] at hrow;rw[jbG,←VY.out];have Tb:=lH hrow;clear kk hrow Ud HP Vb y0 y1 y2 r0 r1 r2 r3 r4 r5 r6 r7 r8 r9 r10;go_wp2;go_loopw [5,12] (fun v i wr=>∃k:Nat,k≤n1∧i=.int .i64 k∧∃la:List ByteArray,Jd s p (s.nodes.take k)=la∧Own ji 9 wr w1.heap.size v la∧Kept w1 wr) (fun _ i _=>n1-(intOf i).toNat)
 case atStart=>exact⟨0,Nat.zero_le _,rfl,[],rfl,Own.nil _ _ _,Kept.refl _⟩
 case round =>
  obtain⟨k,hk,rfl,la,hla,ho,hK⟩:=hrel;have HX:=lH hla;have HO:=lH ho;have HK:=lH hK;obtain⟨m,hm⟩:∃m,la.length=m:=⟨_,rfl⟩
  have hmk:m≤k:=by
   have:=Y8 s p (s.nodes.take k);rw[hla,hm,List.length_take] at this;omega
  have HT:=lH hm;have hbase:w1.heap.size≤wr.heap.size:=hK.size;by_cases hlt:k<n1
  · obtain⟨g,off,rfl⟩:=HN.out.form.resolve_left (by omega);obtain⟨n,b1,q1,f1,b2,q2,f2,b3,q3,f3,hn,hd,hb,u0,u1,u2,u3,u4,hat⟩:=(HN.out.kept hK).at_ hlt;obtain⟨bw,offw,rfl⟩:=Tb.out.form.resolve_left (by omega);obtain⟨c,hc,-,-,cw⟩:=(Tb.out.kept hK).err hlt;have TZ:=lH hat.size;have Ut:=lH (jbZ (s:=s) (p:=p) hn);have NP:=lH (show Yc s p n.name=c by rw[jlz hn] at hc;exact Option.some.inj hc);have hkk:(k:Int)<(n1:Int):=by omega
    have hk0:¬(k:Int)<0:=by omega
    have y0:=(Vd.out.kept hK).at_ 0 _ rfl;clear hd hb hn hc hat hla ho hm hK;obtain⟨xn,hxn⟩:∃x,n.name=x:=⟨_,rfl⟩
    rw[hxn] at u0 TZ Ut NP;clear hxn;by_cases h0:c=0
    · subst h0;have HV:=lH (show Jd s p (s.nodes.take (k+1))=la++[xn] by rw[Ut.out,HX.out,if_pos NP.out]);have Vy:=lH (show wr.ownsRow w1.heap.size 9 1 u5 m (jb ji la) by have:=HO.out.1;rw[HT.out] at this;exact this);go_wp2_with (at_builtin;refine wpList_append_lies _ rfl _ _ _ rfl w1.heap.size 9 i0 _ 1 16 Tryz.underlying58 hi hz0 hz1 hz2' rfl (by decide) u5 m (jb ji la) rfl (Vy.out.alloc _) ⟨wr.heap.size,0,none⟩ 1 1 (ji.cs xn) rfl rfl (World.news_of_block (cs:=#[.string xn]) (t:=9) (fr:=(0,0)) (heap_alloc_new wr _)) (Jm xn) (by decide) (by unfold maxLen;omega) (by omega) (by simp;omega) (wr.heap.size+1) (by simp) ?_;intro gg cap1 w4 hown1 hgrow hat hlt1)
      have VU:=lH ((show Below w1.heap.size w1 _ from HK.out.trans (ja wr _)).grown hgrow (by simp;omega) (fun j hj=>(Vy.out.lt j hj).1));go_wp2;go_roundw
      case rel=>exact⟨k+1,by omega,by go_num,la++[xn],HV.out,Own.snoc hown1 (by rw[HT.out]) HO.out.2 TZ.out,VU.out⟩
      case measure=>simp[intOf];omega
    · have h0b:(c==0)=false:=by simpa using h0
      have HV:=lH (show Jd s p (s.nodes.take (k+1))=la by rw[Ut.out,HX.out,if_neg (by rw[NP.out];exact h0),List.append_nil]);clear h0;go_wp2;go_roundw
      case rel=>exact⟨k+1,by omega,by go_num,la,HV.out,HO.out,HK.out⟩
      case measure=>simp[intOf];omega
  · have hge:¬(k:Int)<(n1:Int):=by omega
    have HE:=lH (show Jd s p s.nodes=la by rw[←hla,List.take_of_length_le (by rw[←VY.out];omega)]);clear hla ho hm hK;go_wp2;go_ret;exact⟨_,rfl,by rw[HE.out];exact HO.out.base_le K.out.size,K.out.trans HK.out⟩
attribute [local go_sem] run_store_float
def Z8 (s:Clu) (p:Pd) (names:List ByteArray) (l:List Mk):Prop:=l.map (·.1)=names∧∀x ∈ l,x.2.1=Zo s p x.1∧nrm x.2.2=JL s p x.1
theorem Z8.nil (s:Clu) (p:Pd):Z8 s p [] []:=⟨rfl,fun x h=>by cases h⟩
theorem Z8.snoc {s:Clu} {p:Pd} {names:List ByteArray} {l:List Mk} {x:ByteArray} {m:Int} {r:Nat} (h:Z8 s p names l) (hm:m=Zo s p x) (hr:nrm r=JL s p x):Z8 s p (names++[x]) (l++[(x,m,r)]):=by
 refine⟨by rw[List.map_append,h.1];rfl,fun y hy=>?_⟩;rcases List.mem_append.1 hy with hy | hy
 · exact h.2 y hy
 · obtain rfl:=List.mem_singleton.1 hy;exact⟨hm,hr⟩
theorem Z8.len {s:Clu} {p:Pd} {names:List ByteArray} {l:List Mk} (h:Z8 s p names l):l.length=names.length:=by rw[←h.1,List.length_map]
theorem jjO (s1 s2 s3:Option Addr) (n1 e1 n2 e2 n3 e3:Nat) (a1 a2 a3 a4:Option Addr) (m1 c1 m2 c2 m3 c3 m4 c4:Nat) (p:Pd) (s:Clu) (w:World) (hs:jA w (zv (.slice s1 n1 e1) (.slice s2 n2 e2) (.slice s3 n3 e3)) s) (hl:jH s) (hb:s.pods.length+1≤100000) (hp:js w (.slice a1 m1 c1) (.slice a2 m2 c2) (.slice a3 m3 c3) (.slice a4 m4 c4) p) (hlp:Ju p):Calls Tryz.prog 54 #[.agg #[.slice s1 n1 e1,.slice s2 n2 e2,.slice s3 n3 e3],jr p (.slice a1 m1 c1) (.slice a2 m2 c2) (.slice a3 m3 c3) (.slice a4 m4 c4)] w fun e w'=>∃(v:Value) (l:List Mk),e=.returned v∧Reads MkLay w' v l∧Z8 s p (Jd s p s.nodes) l∧Kept w w':=by
 obtain⟨i0,hi,hz0,hz1,hz2'⟩:=info_parts jiQ;obtain⟨Z,hZ⟩:∃Z,(w.alloc (.cells #[.slice s1 n1 e1,.slice s2 n2 e2,.slice s3 n3 e3] 26)).alloc (.cells #[.string p.name,.string p.owner,.int .i64 p.prio,.slice a1 m1 c1,.slice a2 m2 c2,.slice a3 m3 c3,.slice a4 m4 c4,.string p.key,.int .i64 p.most,.string p.node,.bool p.hold] 35)=Z:=⟨_,rfl⟩
 have hkz:Kept w Z:=by rw[←hZ];exact jm _ _ _
 have Vd:=lH (jd w (.slice s1 n1 e1) [.slice s2 n2 e2,.slice s3 n3 e3] 26 Z (by rw[←hZ];exact ja _ _));have Vb:=lH (show jf (w.heap.size+1) [.string p.name,.string p.owner,.int .i64 p.prio,.slice a1 m1 c1,.slice a2 m2 c2,.slice a3 m3 c3,.slice a4 m4 c4,.string p.key,.int .i64 p.most,.string p.node,.bool p.hold] Z by
  have dd:=jd (w.alloc (.cells #[.slice s1 n1 e1,.slice s2 n2 e2,.slice s3 n3 e3] 26)) (.string p.name) [.string p.owner,.int .i64 p.prio,.slice a1 m1 c1,.slice a2 m2 c2,.slice a3 m3 c3,.slice a4 m4 c4,.string p.key,.int .i64 p.most,.string p.node,.bool p.hold] 35 Z (by rw[hZ];exact Kept.refl _);rw[World.size_alloc] at dd;exact dd)
 have K:=lH hkz;have HS:=lH (hs.kept hkz);have HP:=lH (hp.kept hkz);have HL:=lH hl;have Vl:=lH hb;have V1:=lH hlp;clear hs hp hkz hl hb hlp;have HF:=lH (show ∀W,Kept Z W→W.cell? ⟨w.heap.size,0,none⟩=some (.slice s1 n1 e1)∧W.cell? ⟨w.heap.size,1,none⟩=some (.slice s2 n2 e2)∧W.cell? ⟨w.heap.size,2,none⟩=some (.slice s3 n3 e3)∧W.cell? ⟨w.heap.size+1,0,none⟩=some (.string p.name)∧W.cell? ⟨w.heap.size+1,1,none⟩=some (.string p.owner)∧W.cell? ⟨w.heap.size+1,2,none⟩=some (.int .i64 p.prio)∧W.cell? ⟨w.heap.size+1,3,none⟩=some (.slice a1 m1 c1)∧W.cell? ⟨w.heap.size+1,4,none⟩=some (.slice a2 m2 c2)∧W.cell? ⟨w.heap.size+1,5,none⟩=some (.slice a3 m3 c3)∧W.cell? ⟨w.heap.size+1,6,none⟩=some (.slice a4 m4 c4)∧W.cell? ⟨w.heap.size+1,7,none⟩=some (.string p.key)∧W.cell? ⟨w.heap.size+1,8,none⟩=some (.int .i64 p.most)∧W.cell? ⟨w.heap.size+1,9,none⟩=some (.string p.node)∧W.cell? ⟨w.heap.size+1,10,none⟩=some (.bool p.hold) from fun W kk=>by
  have h:=Vd.out.kept kk;have q:=Vb.out.kept kk;exact⟨h.at_ 0 _ rfl,h.at_ 1 _ rfl,h.at_ 2 _ rfl,q.at_ 0 _ rfl,q.at_ 1 _ rfl,q.at_ 2 _ rfl,q.at_ 3 _ rfl,q.at_ 4 _ rfl,q.at_ 5 _ rfl,q.at_ 6 _ rfl,q.at_ 7 _ rfl,q.at_ 8 _ rfl,q.at_ 9 _ rfl,q.at_ 10 _ rfl⟩)
 have TG:=lH (jbs s1 s2 s3 n1 e1 n2 e2 n3 e3 a1 a2 a3 a4 m1 c1 m2 c2 m3 c3 m4 c4 p s Z HS.out HL.out HP.out);unfold jr at TG;have hfl:=Y8 s p s.nodes;have VY:=HL.out.nodesN;have y0:=Vd.out.at_ 0 _ rfl;have y1:=Vd.out.at_ 1 _ rfl;have y2:=Vd.out.at_ 2 _ rfl;have r0:=Vb.out.at_ 0 _ rfl;have r1:=Vb.out.at_ 1 _ rfl;have r2:=Vb.out.at_ 2 _ rfl;have r3:=Vb.out.at_ 3 _ rfl;have r4:=Vb.out.at_ 4 _ rfl;have r5:=Vb.out.at_ 5 _ rfl;have r6:=Vb.out.at_ 6 _ rfl;have r7:=Vb.out.at_ 7 _ rfl;have r8:=Vb.out.at_ 8 _ rfl;have r9:=Vb.out.at_ 9 _ rfl;have r10:=Vb.out.at_ 10 _ rfl;unfold jr;go_enter Tryz.func54,Tryz.ntmps54;go_wp2_with fail
 try rw[hZ]
 clear hZ;refine TG.out.mono ?_;rintro e w1 ⟨v9,rfl,hr,kk⟩;obtain⟨names,hnm⟩:∃q,Jd s p s.nodes=q:=⟨_,rfl⟩
 rw[hnm] at hr hfl;have T3:=lH hnm;clear hnm;obtain⟨wa,wc,rfl,-,-,hrow⟩:=hr.reads;obtain⟨n9,hn9⟩:∃q,names.length=q:=⟨_,rfl⟩
 rw[hn9] at hrow hfl ⊢;have Le:=lH hr.2;have UB:=lH hn9;have Tb:=lH hrow;have hn5:n9≤100000:=by omega
 have J1:=lH kk;clear kk hr hrow hn9 hfl VY TG y0 y1 y2 r0 r1 r2 r3 r4 r5 r6 r7 r8 r9 r10;go_wp2;go_loopw [5,7,12] (fun v _ i wr=>∃k:Nat,k≤n9∧i=.int .i64 k∧∃la:List Mk,Z8 s p (names.take k) la∧Own MkLay 162 wr w1.heap.size v la∧Kept w1 wr) (fun _ _ i _=>n9-(intOf i).toNat)
 case atStart=>exact⟨0,Nat.zero_le _,rfl,[],Z8.nil _ _,Own.nil _ _ _,Kept.refl _⟩
 case round =>
  obtain⟨k,hk,rfl,la,hla,ho,hK⟩:=hrel;have HX:=lH hla;have HO:=lH ho;have HK:=lH hK;obtain⟨m,hm⟩:∃m,la.length=m:=⟨_,rfl⟩
  have hmk:m≤k:=by
   have:=hla.len;rw[hm,List.length_take] at this;omega
  have HT:=lH hm;have hbase:w1.heap.size≤wr.heap.size:=hK.size;by_cases hlt:k<n9
  · obtain⟨b9,o9,rfl⟩:=Tb.out.form.resolve_left (by omega);obtain⟨xn,hxn,-,-,hxs,cw⟩:=(Tb.out.kept hK).str hlt;have Ut:=lH (show names.take (k+1)=names.take k++[xn] by rw[List.take_add_one,hxn];rfl);have UG:=lH hxs;have hkk:(k:Int)<(n9:Int):=by omega
    have hk0:¬(k:Int)<0:=by omega
    have J:=lH ((J1.out.trans hK).trans (Kept.drew wr));clear hla ho hm hxn hxs hK;go_upto_region 5 with fail
    clear cw hkk hk0;refine wp_region_held_drew (S:=fun W=>W.cell? ⟨w.heap.size,0,none⟩=some (.slice s1 n1 e1)∧W.cell? ⟨w.heap.size,1,none⟩=some (.slice s2 n2 e2)∧W.cell? ⟨w.heap.size,2,none⟩=some (.slice s3 n3 e3)∧W.cell? ⟨w.heap.size+1,0,none⟩=some (.string p.name)∧W.cell? ⟨w.heap.size+1,1,none⟩=some (.string p.owner)∧W.cell? ⟨w.heap.size+1,2,none⟩=some (.int .i64 p.prio)∧W.cell? ⟨w.heap.size+1,3,none⟩=some (.slice a1 m1 c1)∧W.cell? ⟨w.heap.size+1,4,none⟩=some (.slice a2 m2 c2)∧W.cell? ⟨w.heap.size+1,5,none⟩=some (.slice a3 m3 c3)∧W.cell? ⟨w.heap.size+1,6,none⟩=some (.slice a4 m4 c4)∧W.cell? ⟨w.heap.size+1,7,none⟩=some (.string p.key)∧W.cell? ⟨w.heap.size+1,8,none⟩=some (.int .i64 p.most)∧W.cell? ⟨w.heap.size+1,9,none⟩=some (.string p.node)∧W.cell? ⟨w.heap.size+1,10,none⟩=some (.bool p.hold)) (by kernel_rfl) (HF.out _ J.out) (fun hHeld=>?_);obtain⟨wd,hwd⟩:∃W,wr.drew=W:=⟨_,rfl⟩
    have JR:=lH (Kept.drew wr);rw[hwd] at J JR hHeld;try rw[hwd]
    clear hwd;refine tkI 0 ?_;refine tkI 1 ?_;refine tkI 2 ?_;refine tkI 3 ?_;refine tkI 4 ?_;refine tkI 5 ?_;refine tkI 9 ?_;refine tkI 10 ?_;refine tkI 11 ?_;try simp only[nP]
    refine rd1 6 fun K9 Ky=>?_;go_simp;refine(YY s1 s2 s3 n1 e1 n2 e2 n3 e3 s xn _ (HS.out.kept J.out) HL.out).mono ?_;rintro e w2 ⟨b1,k1,d1,b2,k2,d2,b3,k3,d3,rfl,hn,kk⟩;have Ru:=lH hn.taints;have J:=lH (J.out.trans kk);have JR:=lH (JR.out.trans kk);clear kk hn;unfold zw;refine Ky.out _ _ (HF.out _ J.out) (fun _=>?_);clear Ky K9;try simp only[nP]
    have hfd:=fun W=>jli (zb s xn).name (.slice b1 k1 d1) (.slice b2 k2 d2) (.slice b3 k3 d3) (zb s xn).cordon W;refine tkI 7 ?_;try simp only[nP]
    clear hfd;obtain⟨sf,hsf⟩:∃q,softN p.tols (zb s xn).taints=q:=⟨_,rfl⟩
    have MV:=lH (show (sf:Int)=Zo s p xn by unfold Zo;rw[hsf]);refine rd1 8 fun K9 Ky=>?_;go_simp;refine(jmD (HP.out.kept J.out).tols Ru.out hsf).mono ?_;rintro e w3 ⟨rfl,kk⟩;have J:=lH (J.out.trans kk);have JR:=lH (JR.out.trans kk);clear kk hsf Ru;refine Ky.out _ _ (HF.out _ J.out) (fun _=>?_);clear Ky K9;try simp only[nP]
    refine rd1 12 fun K9 Ky=>?_;go_simp;have RP:=qc s1 s2 s3 n1 e1 n2 e2 n3 e3 a1 a2 a3 a4 m1 c1 m2 c2 m3 c3 m4 c4 p s xn w3 (HS.out.kept J.out) HL.out Vl.out (HP.out.kept J.out) V1.out UG.out;unfold jr at RP;refine RP.mono ?_;rintro e w4 ⟨r,rfl,hr,hrt,kk⟩;have HR:=lH hr;have RU:=lH hrt;have J:=lH (J.out.trans kk);have JR:=lH (JR.out.trans kk);clear kk RP hr hrt;refine Ky.out _ _ (HF.out _ J.out) (fun _=>?_);clear Ky K9;try simp only[nP]
    refine tkI 13 ?_;try simp only[nP]
    refine rd1 14 fun K9 Ky=>?_;go_simp;refine Ky.out _ _ (HF.out _ (J.out.trans (ja _ _))) (fun _=>?_);clear Ky K9;try simp only[nP]
    obtain⟨w5,hw5⟩:∃W,w4.alloc (.cells #[.string xn,.int .i64 sf,.float .f64 r] 162)=W:=⟨_,rfl⟩
    have k5:Kept w4 w5:=by rw[←hw5];exact ja _ _
    have U8:=lH (show w5.heap[w4.heap.size]?=some (.cells #[.string xn,.int .i64 sf,.float .f64 r] 162) by rw[←hw5];exact World.alloc_heap_new w4 _);have J:=lH (J.out.trans k5);have JR:=lH (JR.out.trans k5);try rw[hw5]
    clear hw5 k5;have Vy:=lH (show w5.ownsRow w1.heap.size 162 3 u5 m (jb MkLay la) by have:=(HO.out.kept JR.out).1;rw[HT.out] at this;exact this);refine rd1 15 fun K9 Ky=>?_;refine step_append_lies _ (by rfl) _ _ _ (by rfl) w1.heap.size 162 i0 _ 3 32 Tryz.underlying108 hi hz0 hz1 hz2' rfl (by decide) u5 m (jb MkLay la) (by rfl) Vy.out ⟨w4.heap.size,0,none⟩ 1 1 (mkC (xn,(sf:Int),r)) (by rfl) (by rfl) (World.news_of_block (cs:=#[.string xn,.int .i64 sf,.float .f64 r]) (t:=162) (fr:=(0,0)) U8.out) (jbL (xn,(sf:Int),r)) (by decide) (by unfold maxLen;omega) (by omega) (by have:=JR.out.size;omega) _ rfl ?_;intro gg cap1 w6 hown1 hgrow hat hlt1;have VU:=lH ((show Below w1.heap.size w1 _ from HK.out.trans JR.out).grown hgrow (by have:=JR.out.size;omega) (fun j hj=>(Vy.out.lt j hj).1));have V2:=lH hown1;have J6:=lH (show Kept Z w6 from J1.out.trans VU.out);clear hgrow hat hlt1 hown1;refine Ky.out _ _ (HF.out _ J6.out) (fun _=>?_);clear Ky K9;try simp only[nP]
    refine tkI 16 ?_;try simp only[nP]
    refine wpAnyH_done (by kernel_rfl) ?_ _;go_wp2;go_roundw
    case rel=>exact⟨k+1,by omega,by go_num,la++[(xn,(sf:Int),r)],by rw[Ut.out];exact HX.out.snoc MV.out HR.out,Own.snoc V2.out (by rw[HT.out]) HO.out.2 ⟨UG.out,RU.out⟩,VU.out⟩
    case measure=>simp[intOf];omega
  · have hge:¬(k:Int)<(n9:Int):=by omega
    have HE:=lH (show Z8 s p names la by have:=hla;rw[List.take_of_length_le (by rw[UB.out];omega)] at this;exact this);clear hla ho hm hK;go_wp2;go_ret;exact⟨_,rfl,la,HO.out.reads,by rw[T3.out];exact HE.out,K.out.trans (J1.out.trans HK.out)⟩
end Go.Proofs.YtmlgobiifebjkabGreat
namespace Go.Proofs.YtmlgobiifebjkabGreat
open Go.RowKit
attribute [local go_sem] run_store_float
theorem jhD (pack:Bool) (x y:Nat) (w:World):Calls Tryz.prog 125 #[.float .f64 x,.float .f64 y,.bool pack] w fun e w'=>e=.returned (.int .i64 (cpM pack x y))∧Grw w w':=by
 cases pack with
 | true =>
  have HC:=lH (ja7 y x w);have HV:=lH (show cpM true x y=cp y x from rfl);go_enter Tryz.func125,Tryz.ntmps125;go_wp2_with fail
  refine HC.out.mono ?_;rintro e w1 ⟨rfl,c,t,rfl⟩;go_wp2;go_ret;exact⟨jc HV.out.symm,Grw.alloc _ _⟩
 | false =>
  have HC:=lH (ja7 x y w);have HV:=lH (show cpM false x y=cp x y from rfl);go_enter Tryz.func125,Tryz.ntmps125;go_wp2_with fail
  refine HC.out.mono ?_;rintro e w1 ⟨rfl,c,t,rfl⟩;go_wp2;go_ret;exact⟨jc HV.out.symm,Grw.alloc _ _⟩
theorem jhB (W:World) (x y z:Int) (T:TypeId) (i:Nat) (u:Int) (hi:([x,y,z]:List Int)[i]?=some u):(W.alloc (.cells #[.int .i64 x,.int .i64 y,.int .i64 z] T)).cell? ⟨W.heap.size,i,none⟩=some (.int .i64 u):=by
 refine(jd W (.int .i64 x) [.int .i64 y,.int .i64 z] T _ (Kept.refl _)).at_ i _ ?_
 match i,hi with
 | 0,h=>simpa using h
 | 1,h=>simpa using h
 | 2,h=>simpa using h
 | j+3,h=>simp at h
theorem jeF (pack:Bool) (a1 b1:ByteArray) (a2 b2:Int) (a3 b3:Nat) (w:World):Calls Tryz.prog 90 #[.agg #[.string a1,.int .i64 a2,.float .f64 a3],.agg #[.string b1,.int .i64 b2,.float .f64 b3],.bool pack] w fun e w'=>e=.returned (.int .i64 (cfM pack (a1,a2,a3) (b1,b2,b3)))∧Grw w w':=by
 obtain⟨Z,hZ⟩:∃Z,(w.alloc (.cells #[.string a1,.int .i64 a2,.float .f64 a3] 162)).alloc (.cells #[.string b1,.int .i64 b2,.float .f64 b3] 162)=Z:=⟨_,rfl⟩
 have hkz:Kept w Z:=by rw[←hZ];exact jm _ _ _
 have HG:=lH (show Grw w Z by rw[←hZ];exact(Grw.alloc _ _).trans (Grw.alloc _ _));have Vd:=lH (jd w (.string a1) [.int .i64 a2,.float .f64 a3] 162 Z (by rw[←hZ];exact ja _ _));have Vb:=lH (show jf (w.heap.size+1) [.string b1,.int .i64 b2,.float .f64 b3] Z by
  have dd:=jd (w.alloc (.cells #[.string a1,.int .i64 a2,.float .f64 a3] 162)) (.string b1) [.int .i64 b2,.float .f64 b3] 162 Z (by rw[hZ];exact Kept.refl _);rw[World.size_alloc] at dd;exact dd)
 have HF:=lH (show ∀W,Kept Z W→W.cell? ⟨w.heap.size,0,none⟩=some (.string a1)∧W.cell? ⟨w.heap.size,1,none⟩=some (.int .i64 a2)∧W.cell? ⟨w.heap.size,2,none⟩=some (.float .f64 a3)∧W.cell? ⟨w.heap.size+1,0,none⟩=some (.string b1)∧W.cell? ⟨w.heap.size+1,1,none⟩=some (.int .i64 b2)∧W.cell? ⟨w.heap.size+1,2,none⟩=some (.float .f64 b3) from fun W kk=>by
  have h:=Vd.out.kept kk;have q:=Vb.out.kept kk;exact⟨h.at_ 0 _ rfl,h.at_ 1 _ rfl,h.at_ 2 _ rfl,q.at_ 0 _ rfl,q.at_ 1 _ rfl,q.at_ 2 _ rfl⟩)
 obtain⟨x,hx⟩:∃x,ZZ a2 b2=x:=⟨_,rfl⟩
 obtain⟨y,hy⟩:∃x,cpM pack a3 b3=x:=⟨_,rfl⟩
 obtain⟨z,hz⟩:∃x,Xe a1 b1=x:=⟨_,rfl⟩
 have HV:=lH (show cfM pack (a1,a2,a3) (b1,b2,b3)=orL [x,y,z] by
  show (if ZZ a2 b2≠0 then ZZ a2 b2 else if cpM pack a3 b3≠0 then cpM pack a3 b3 else Xe a1 b1)=_;rw[hx,hy,hz];show _=if x≠0 then x else if y≠0 then y else if z≠0 then z else 0
  by_cases q:z=0
  · subst q;simp
  · rw[if_pos q])
 have EI:=lH (fun W=>jkp a2 b2 W);have EC:=lH (fun W=>jhD pack a3 b3 W);have ES:=lH (fun W=>jjY a1 b1 W);rw[hx] at EI;rw[hy] at EC;rw[hz] at ES;clear hx hy hz hkz;go_enter Tryz.func90,Tryz.ntmps90;go_upto_region 1 with fail
 try rw[hZ]
 clear hZ;have J:=lH (Grw.drewN Z 1);refine wp_region_held_drew (S:=fun W=>W.cell? ⟨w.heap.size,0,none⟩=some (.string a1)∧W.cell? ⟨w.heap.size,1,none⟩=some (.int .i64 a2)∧W.cell? ⟨w.heap.size,2,none⟩=some (.float .f64 a3)∧W.cell? ⟨w.heap.size+1,0,none⟩=some (.string b1)∧W.cell? ⟨w.heap.size+1,1,none⟩=some (.int .i64 b2)∧W.cell? ⟨w.heap.size+1,2,none⟩=some (.float .f64 b3)) (by kernel_rfl) (HF.out _ J.out.kept) (fun hHeld=>?_);obtain⟨wd,hwd⟩:∃W,Z.drew=W:=⟨_,rfl⟩
 rw[show Z.drewN 1=wd from hwd] at J;rw[hwd] at hHeld;try rw[hwd]
 clear hwd;refine tkI 0 ?_;refine tkI 1 ?_;refine tkI 2 ?_;refine tkI 3 ?_;refine tkI 5 ?_;refine tkI 6 ?_;refine tkI 7 ?_;refine tkI 8 ?_;refine tkI 9 ?_;refine tkI 11 ?_;refine tkI 12 ?_;refine tkI 13 ?_;refine tkI 14 ?_;try simp only[nP]
 refine rd1 4 fun K9 Ky=>?_;go_simp;refine(EI.out _).mono ?_;rintro e w1 ⟨rfl,rfl⟩;refine Ky.out _ _ (HF.out _ J.out.kept) (fun _=>?_);clear Ky K9;try simp only[nP]
 refine rd1 10 fun K9 Ky=>?_;go_simp;refine(EC.out _).mono ?_;rintro e w2 ⟨rfl,kk⟩;have J:=lH (J.out.trans kk);clear kk;refine Ky.out _ _ (HF.out _ J.out.kept) (fun _=>?_);clear Ky K9;try simp only[nP]
 refine rd1 15 fun K9 Ky=>?_;go_simp;refine(ES.out _).mono ?_;rintro e w3 ⟨rfl,rfl⟩;refine Ky.out _ _ (HF.out _ J.out.kept) (fun _=>?_);clear Ky K9;try simp only[nP]
 refine rd1 16 fun K9 Ky=>?_;go_simp;refine Ky.out _ _ (HF.out _ (J.out.trans (Grw.alloc _ _)).kept) (fun _=>?_);clear Ky K9;try simp only[nP]
 have TW:=lH (show Calls Tryz.prog 67 #[.slice (some ⟨w2.heap.size,0,none⟩) 3 3] (w2.alloc (.cells #[.int .i64 x,.int .i64 y,.int .i64 z] 3)) _ from jla w2.heap.size 3 [x,y,z] _ rfl (by decide) (jhB w2 x y z 3));obtain⟨w4,hw4⟩:∃W,w2.alloc (.cells #[.int .i64 x,.int .i64 y,.int .i64 z] 3)=W:=⟨_,rfl⟩
 have J:=lH (show Grw Z w4 by rw[←hw4];exact J.out.trans (Grw.alloc _ _));rw[hw4] at TW;try rw[hw4]
 clear hw4;refine rd1 17 fun K9 Ky=>?_;go_simp;refine TW.out.mono ?_;rintro e w5 ⟨rfl,rfl⟩;refine Ky.out _ _ (HF.out _ J.out.kept) (fun _=>?_);clear Ky K9;try simp only[nP]
 refine tkI 18 ?_;try simp only[nP]
 refine wpAnyH_done (by kernel_rfl) ?_ _;go_wp2;go_ret;exact⟨jc HV.out.symm,HG.out.trans J.out⟩
theorem je6 (q:Nat) (pack:Bool) (a1 b1:ByteArray) (a2 b2:Int) (a3 b3:Nat) (w:World) (hq:w.cell? ⟨q,0,none⟩=some (.bool pack)):Calls Tryz.prog 89 #[.agg #[.string a1,.int .i64 a2,.float .f64 a3],.agg #[.string b1,.int .i64 b2,.float .f64 b3],.pointer (some ⟨q,0,none⟩)] w fun e w'=>e=.returned (.int .i64 (cfM pack (a1,a2,a3) (b1,b2,b3)))∧Grw w w':=by
 obtain⟨Z,hZ⟩:∃Z,(w.alloc (.cells #[.string a1,.int .i64 a2,.float .f64 a3] 162)).alloc (.cells #[.string b1,.int .i64 b2,.float .f64 b3] 162)=Z:=⟨_,rfl⟩
 have hkz:Kept w Z:=by rw[←hZ];exact jm _ _ _
 have HG:=lH (show Grw w Z by rw[←hZ];exact(Grw.alloc _ _).trans (Grw.alloc _ _));have hb1:=jd w (.string a1) [.int .i64 a2,.float .f64 a3] 162 Z (by rw[←hZ];exact ja _ _);have hb2:jf (w.heap.size+1) [.string b1,.int .i64 b2,.float .f64 b3] Z:=by
  have dd:=jd (w.alloc (.cells #[.string a1,.int .i64 a2,.float .f64 a3] 162)) (.string b1) [.int .i64 b2,.float .f64 b3] 162 Z (by rw[hZ];exact Kept.refl _);rw[World.size_alloc] at dd;exact dd
 have hq2:=cell_later hkz hq;have HC:=lH (jeF pack a1 b1 a2 b2 a3 b3 Z);have y0:=hb1.at_ 0 _ rfl;have y1:=hb1.at_ 1 _ rfl;have y2:=hb1.at_ 2 _ rfl;have z0:=hb2.at_ 0 _ rfl;have z1:=hb2.at_ 1 _ rfl;have z2:=hb2.at_ 2 _ rfl;clear hb1 hb2 hq hkz;go_enter Tryz.func89,Tryz.ntmps89;go_wp2_with fail
 try rw[hZ]
 clear hZ;refine HC.out.mono ?_;rintro e w1 ⟨rfl,kk⟩;have J:=lH (HG.out.trans kk);clear kk HC y0 y1 y2 z0 z1 z2 hq2;go_wp2;go_ret;exact⟨rfl,J.out⟩
end Go.Proofs.YtmlgobiifebjkabGreat
namespace Go.Proofs.YtmlgobiifebjkabGreat
open Go.Shelf
def jhQ:Go.Shelf.Ren:=⟨fun | 6=>123 | 15=>150 | 14=>149 | 28=>177 | 29=>178 | 20=>169 | 21=>170 | 22=>171 | 23=>172 | 24=>173 | 25=>174 | 26=>175 | 27=>176 | 46=>196 | 47=>197 | 48=>198 | 49=>199 | 50=>200 | 57=>209 | n=>n,fun | 22=>108 | 24=>162 | 25=>167 | 3=>3 | 39=>223 | 0=>0 | 53=>245 | 55=>182 | 4=>4 | 46=>239 | 45=>238 | 50=>118 | 5=>5 | 9=>9 | 66=>266 | 70=>270 | 76=>275 | 77=>276 | n=>n,fun | n=>n⟩
theorem jir:Go.Proofs.SlLaysF0.n6 Tryz.prog jhQ:={
 mixed:=by kernel_rfl
 f6:=⟨Tryz.f123.name,by decide,Tryz.func123.trans (congrArg some (by kernel_rfl))⟩
 f14:=⟨Tryz.f149.name,by decide,Tryz.func149.trans (congrArg some (by kernel_rfl))⟩
 f15:=Tryz.func150.trans (congrArg some (by kernel_rfl))
 f20:=⟨Tryz.f169.name,by decide,Tryz.func169.trans (congrArg some (by kernel_rfl))⟩
 f21:=⟨Tryz.f170.name,by decide,Tryz.func170.trans (congrArg some (by kernel_rfl))⟩
 f22:=⟨Tryz.f171.name,by decide,Tryz.func171.trans (congrArg some (by kernel_rfl))⟩
 f23:=⟨Tryz.f172.name,by decide,Tryz.func172.trans (congrArg some (by kernel_rfl))⟩
 f24:=⟨Tryz.f173.name,by decide,Tryz.func173.trans (congrArg some (by kernel_rfl))⟩
 f25:=⟨Tryz.f174.name,by decide,Tryz.func174.trans (congrArg some (by kernel_rfl))⟩
 f26:=⟨Tryz.f175.name,by decide,Tryz.func175.trans (congrArg some (by kernel_rfl))⟩
 f27:=⟨Tryz.f176.name,by decide,Tryz.func176.trans (congrArg some (by kernel_rfl))⟩
 f28:=Tryz.func177.trans (congrArg some (by kernel_rfl))
 f29:=Tryz.func178.trans (congrArg some (by kernel_rfl))
 f46:=⟨Tryz.f196.name,by decide,Tryz.func196.trans (congrArg some (by kernel_rfl))⟩
 f47:=Tryz.func197.trans (congrArg some (by kernel_rfl))
 f48:=Tryz.func198.trans (congrArg some (by kernel_rfl))
 f49:=⟨Tryz.f199.name,by decide,Tryz.func199.trans (congrArg some (by kernel_rfl))⟩
 f50:=⟨Tryz.f200.name,by decide,Tryz.func200.trans (congrArg some (by kernel_rfl))⟩
 f57:=⟨Tryz.f209.name,by decide,Tryz.func209.trans (congrArg some (by kernel_rfl))⟩
 t0:=Tryz.underlying0
 a0:=Tryz.isAgg0
 z0:=Tryz.sizeOf0
 v0:=Tryz.zeroValue0
 t3:=Tryz.underlying3
 a3:=Tryz.isAgg3
 z3:=Tryz.sizeOf3
 v3:=Tryz.zeroValue3
 t4:=Tryz.underlying4
 a4:=Tryz.isAgg4
 z4:=Tryz.sizeOf4
 v4:=Tryz.zeroValue4
 t5:=Tryz.underlying5
 a5:=Tryz.isAgg5
 z5:=Tryz.sizeOf5
 v5:=Tryz.zeroValue5
 t9:=Tryz.underlying9
 a9:=Tryz.isAgg9
 z9:=Tryz.sizeOf9
 v9:=Tryz.zeroValue9
 t22:=Tryz.underlying108
 a22:=Tryz.isAgg108
 z22:=Tryz.sizeOf108
 v22:=Tryz.zeroValue108
 t25:=Tryz.underlying167
 a25:=Tryz.isAgg167
 z25:=Tryz.sizeOf167
 v25:=Tryz.zeroValue167
 t39:=Tryz.underlying223
 a39:=Tryz.isAgg223
 z39:=Tryz.sizeOf223
 v39:=Tryz.zeroValue223
 t45:=Tryz.underlying238
 a45:=Tryz.isAgg238
 z45:=Tryz.sizeOf238
 v45:=Tryz.zeroValue238
 t46:=Tryz.underlying239
 a46:=Tryz.isAgg239
 z46:=Tryz.sizeOf239
 v46:=Tryz.zeroValue239
 t50:=Tryz.underlying118
 a50:=Tryz.isAgg118
 z50:=Tryz.sizeOf118
 v50:=Tryz.zeroValue118
 t53:=Tryz.underlying245
 a53:=Tryz.isAgg245
 z53:=Tryz.sizeOf245
 v53:=Tryz.zeroValue245
 t55:=Tryz.underlying182
 a55:=Tryz.isAgg182
 z55:=Tryz.sizeOf182
 v55:=Tryz.zeroValue182
 t66:=Tryz.underlying266
 a66:=Tryz.isAgg266
 z66:=Tryz.sizeOf266
 v66:=Tryz.zeroValue266
 t70:=Tryz.underlying270
 a70:=Tryz.isAgg270
 z70:=Tryz.sizeOf270
 v70:=Tryz.zeroValue270
 t76:=Tryz.underlying275
 a76:=Tryz.isAgg275
 z76:=Tryz.sizeOf275
 v76:=Tryz.zeroValue275
 t77:=Tryz.underlying276
 a77:=Tryz.isAgg276
 z77:=Tryz.sizeOf276
 v77:=Tryz.zeroValue276 }
open Go.RowKit Go.Shelf Go.Lib Go.Sort
theorem qZ (pack:Bool) (x y:Mk):ltOf (cfM pack) x y=YQ pack x y:=by
 unfold ltOf
 cases h:YQ pack x y with
 | true=>exact decide_eq_true ((jgr pack x y).2 h)
 | false=>exact decide_eq_false (fun e=>by rw[(jgr pack x y).1 e] at h;cases h)
theorem jld (pack:Bool):SWO (ltOf (cfM pack)) where
 irrefl x:=by rw[qZ];exact jae _ _ _ _
 trans x y z h1 h2:=by rw[qZ] at *;exact Xv h1 h2
 ntrans x y z h1 h2:=by rw[qZ] at *;exact jaf h1 h2
theorem jdU:∀args w,(callFunc 89 args).run Tryz.prog w=.ok (.enter 89 args) w:=enters_of Tryz.func89 (by kernel_rfl) rfl
theorem jjb (q:Nat) (pack:Bool) (blk size:Nat) (w:World) (hq:w.cell? ⟨q,0,none⟩=some (.bool pack)) (hne:q≠blk) (hlt:q<w.heap.size):CmpLays Tryz.prog 89 #[.pointer (some ⟨q,0,none⟩)] mkC 3 (cfM pack) blk 0 size w:=fun m os dk hs x y=>by
 refine je6 q pack x.1 y.1 x.2.1 y.2.1 x.2.2 y.2.2 _ ?_;show (grow (putRowK mkC 3 (Sort.ahead w m) blk 0 dk) os).cell? ⟨q,0,none⟩=_;rw[cell?_grow _ _ _ (by rw[size_putRowK];exact hlt),cell?_putRowK_other mkC 3 _ blk 0 dk ⟨q,0,none⟩ hne];exact hq
theorem jiW {B:Nat} {w0 w:World} {blk n:Nat} {d:Array Mk} {os:Array Obj} (h:Go.RowKit.Below B w0 w) (hg:B≤blk) (hB:B≤w.heap.size):Go.RowKit.Below B w0 (sortWorldK mkC 3 w blk 0 n d os):=by
 unfold sortWorldK;refine(below_putRow (enc:=id) (q:=n) (d:=flatK mkC 3 d) h hg).trans ?_;exact below_grow B (putRowK mkC 3 (Sort.ahead w n) blk 0 d) (by rw[size_putRowK];exact hB) 0 os
theorem jhi {W:World} {base:Nat} {v:Value} {zs:List Mk} (h:jjZ base W v zs) (hv:v≠.slice none 0 0):∃g cap,v=.slice (some ⟨g,0,none⟩) zs.length cap∧base≤g∧g<W.heap.size∧zs.length≤cap∧cap≤maxLen∧HoldsK mkC 3 W g 0 zs.toArray:=by
 rcases h.1.2 with ⟨e0,_⟩ | ⟨g,cap,cur,rfl,hb,hg,hn,hm,hs,ht⟩
 · exact absurd e0 hv
 · have hlt:g<W.heap.size:=by
    rcases Nat.lt_or_ge g W.heap.size with h' | h'
    · exact h'
    · rw[Array.getElem?_eq_none h'] at hg;cases hg
   refine⟨g,cap,rfl,hb,hlt,hn,hm,fun t htl=>?_⟩;have htl2:t<zs.length*3:=by simpa using htl
   have h3:t / 3<zs.length:=by omega
   have h4:t % 3<3:=Nat.mod_lt _ (by decide);refine⟨?_,by simp[World.frozen?,hg]⟩;rw[get_flatK _ _ _ _ (by simpa using htl2)];have e2:=Y4 MkLay zs (t / 3) zs[t / 3] (t % 3) ((mkC zs[t / 3])[t % 3]'h4) (List.getElem?_eq_getElem h3) (List.getElem?_eq_getElem h4);have e1:(cur.toList.take (zs.length*3))[t]?=(jb MkLay zs)[t]?:=by rw[ht];rfl
   rw[show t / 3*MkLay.m+t % 3=t from by show t / 3*3+t % 3=t;omega] at e2;rw[e2,List.getElem?_take,if_pos htl2,Array.getElem?_toList] at e1;simp only[World.cell?,hg,Nat.zero_add];simp only[Option.isSome_none,Bool.false_eq_true,if_false];rw[e1,getElem!_pos zs.toArray (t / 3) (by simpa using h3),getElem!_pos (mkC _) (t % 3) h4];simp;rfl
theorem jha {W:World} {g:Nat} {l:List Mk} (h:HoldsK mkC 3 W g 0 l.toArray) (hg:g<W.heap.size) (hm:l.length≤maxLen) (hf:∀x ∈ l,MkLay.fine x):jh MkLay W (some ⟨g,0,none⟩) l.length l:=by
 refine⟨rfl,hm,hf,.inr ⟨g,0,rfl,hg,fun i x j u hi hj=>?_⟩⟩;obtain⟨hil,ex⟩:=List.getElem?_eq_some_iff.1 hi;have hj':(mkC x)[j]?=some u:=hj;obtain⟨hjl,eu⟩:=List.getElem?_eq_some_iff.1 hj';have hj3:j<3:=hjl;have:=(h.cell (i:=i) (c:=j) (by simpa using hil) hj3).1;rw[getElem!_pos l.toArray i (by simpa using hil)] at this;simp only[List.getElem_toArray] at this;rw[ex,getElem!_pos (mkC x) j hjl,eu] at this;exact this
def jnd (pack:Bool) (xs:List Mk) (w:World) (e:Ending) (w':World):Prop:=∃v l,e=.returned v∧l.Perm xs∧(l.Pairwise fun a b=>YQ pack b a=false)∧Reads MkLay w' v l∧Kept w w'
theorem jcZ (q:Nat) (pack:Bool) (Bs:Nat) (sv:Value) (xs:List Mk) (hlen:xs.length≤1000000) (hx:∀x ∈ xs,MkLay.fine x) (w:World) (hq:w.cell? ⟨q,0,none⟩=some (.bool pack)) (hBs:Bs<w.heap.size) (hcs:w.cell? ⟨Bs,0,none⟩=some sv) (hL:Mks w.heap.size w sv xs) :
 Calls Tryz.prog 87 #[.func (.func 124) #[] #[.pointer (some ⟨Bs,0,none⟩)],.func (.func 89) #[] #[.pointer (some ⟨q,0,none⟩)]] w (jnd pack xs w):=by
 have HC:=lH (jdJ Bs sv xs hlen w hBs hcs hL);have hql:q<w.heap.size:=World.block_lt_of_cell? _ _ hq;have HQ:=lH hq;have Mp:=lH hql;have HX:=lH hx;have TF:=lH hlen;clear hBs hcs hL hq hql hx hlen;go_enter Tryz.func87,Tryz.ntmps87;go_wp2_with fail
 refine HC.out.mono ?_;rintro e w1 ⟨v,rfl,ho,hb⟩;by_cases hv:v=.slice none 0 0
 · have hxs:=ho.2.1 hv;have HS:=lH (AnyF.slices_SortFunc_none jir none 0 (.func (.func 89) #[] #[.pointer (some ⟨q,0,none⟩)]) w1);change Hid (Calls Tryz.prog 123 _ _ _) at HS;subst hv hxs;have HB:=lH hb;clear hb ho;go_wp2_with fail
   refine HS.out.mono ?_;rintro e w2 ⟨rfl,rfl⟩;go_wp2_with fail
   go_ret;exact⟨_,[],rfl,List.Perm.refl _,List.Pairwise.nil,Reads.nil _,HB.out⟩
 · obtain⟨g,cap,rfl,hg1,hg2,hc1,hc2,hH⟩:=jhi ho hv;have hne:q≠g:=by have:=Mp.out;omega
   have hst:=AnyQ.slices_SortFunc jir 3 Tryz.isAgg162 Tryz.sizeOf162 mkC (fun _=>rfl) jbL (cfM pack) (jld pack) 89 #[.pointer (some ⟨q,0,none⟩)] g 0 cap xs.toArray w1 jdU (jjb q pack g _ w1 (cell_later hb HQ.out) hne (Nat.lt_of_lt_of_le Mp.out hb.size)) hH hg2 (by have:=TF.out;simp;omega);change Calls Tryz.prog 123 _ _ _ at hst;have HB:=lH hb;have HS:=lH hst;have HG:=lH hg1;have Ts:=lH hg2;have HH:=lH hH;have HP:=lH (And.intro hc1 hc2);clear hb ho hst hg1 hg2 hH hc1 hc2 hv hne;simp only[List.size_toArray] at HS;go_wp2_with fail
   refine HS.out.mono ?_;rintro e w2 ⟨rfl,d',n,os,hp,hs,hw⟩;have P1:=lH hp;have P2:=lH hs;have P3:=lH hw;clear hp hs hw;go_wp2_with fail
   go_ret;have hsz:d'.size=xs.length:=by simpa using P1.out.1
   have hperm:d'.toList.Perm xs:=by
    have:=P1.out.2.2;simp only[Array.toList_extract,List.extract_eq_take_drop,List.drop_zero,Nat.sub_zero] at this;rw[List.take_of_length_le (by simp;omega),List.take_of_length_le (by simp)] at this;exact this
   have hlen:d'.toList.length=xs.length:=by simpa using hsz
   refine⟨_,d'.toList,rfl,hperm,?_,?_,?_⟩
   · rw[List.pairwise_iff_getElem];intro i j hi hj hij;have h2:=P2.out i j (Nat.zero_le _) hij (by omega);rw[qZ,getElem!_pos d' j (by simpa using hj),getElem!_pos d' i (by simpa using hi)] at h2;simpa using h2
   · have hh:HoldsK mkC 3 w2 g 0 d'.toList.toArray:=by
      rw[P3.out];simp only[Array.toArray_toList];exact holdsK_sortWorldK mkC 3 w1 g 0 n xs.toArray d' os Ts.out HH.out (by simpa using hsz)
     have hg3:g<w2.heap.size:=by rw[P3.out];exact lt_sortWorldK mkC 3 w1 g 0 n d' os Ts.out
     refine⟨_,cap,by rw[hlen];rfl,by rw[hlen];exact HP.out.1,HP.out.2,jha hh hg3 (by rw[hlen];exact Nat.le_trans HP.out.1 HP.out.2) (fun x hx=>HX.out x (hperm.mem_iff.1 hx))⟩
   · rw[P3.out];exact jiW HB.out HG.out HB.out.size
open Go.RowKit
attribute [local go_sem] run_store_float
theorem jh.mark {w:World} {b off len:Nat} {l:List Mk} {k:Nat} (h:jh MkLay w (some ⟨b,off,none⟩) len l) (hk:k<len):∃x:Mk,l[k]?=some x∧x.1.size≤maxLen∧w.cell? ⟨b,off+k*3,none⟩=some (.string x.1)∧w.cell? ⟨b,off+k*3+1,none⟩=some (.int .i64 x.2.1)∧w.cell? ⟨b,off+k*3+2,none⟩=some (.float .f64 x.2.2):=by
 obtain⟨x,h1,-,-,h4,h5⟩:=h.cells hk;exact⟨x,h1,h4.1,h5 0 _ rfl,h5 1 _ rfl,h5 2 _ rfl⟩
theorem jhm (pack:Bool) (v:Value) (xs:List Mk) (w:World) (hr:Reads MkLay w v xs) (hlen:xs.length≤100000):Calls Tryz.prog 53 #[v,.bool pack] w fun e w'=>∃(y:Value) (l:List Mk),e=.returned y∧l.Perm xs∧(l.Pairwise fun a b=>YQ pack b a=false)∧Own ji 9 w' w.heap.size y (l.map (·.1))∧Kept w w':=by
 have hmf:=hmfL (P:=Tryz.prog);obtain⟨i0,hi,hz0,hz1,hz2'⟩:=info_parts jfb;obtain⟨Z,hZ⟩:∃Z,w.alloc (.cells #[.bool pack] 4)=Z:=⟨_,rfl⟩
 have hkz:Kept w Z:=by rw[←hZ];exact ja _ _
 have hq:Z.cell? ⟨w.heap.size,0,none⟩=some (.bool pack):=by rw[←hZ];simp
 have HR:=lH (hr.kept hkz);have K:=lH hkz;have HF:=lH (hr.fine);obtain⟨a,cap,rfl,-,-,-⟩:=hr;obtain⟨nx,hnx⟩:∃q,xs.length=q:=⟨_,rfl⟩
 obtain⟨Y,hY⟩:∃Y,Z.alloc (.cells #[.slice a nx cap] 108)=Y:=⟨_,rfl⟩
 have hky:Kept Z Y:=by rw[←hY];exact ja _ _
 have hys:Z.heap.size<Y.heap.size:=by rw[←hY];simp
 have hyc:Y.cell? ⟨Z.heap.size,0,none⟩=some (.slice a nx cap):=by rw[←hY];simp
 have HV:=lH (jej a nx cap Z);have HS:=lH (jcZ w.heap.size pack Z.heap.size (.slice a nx cap) xs (by omega) HF.out Y (cell_later hky hq) hys hyc (by have:=(HR.out.kept hky).mks;rw[hnx] at this;exact this));rw[hY] at HV;rw[hnx];have KY:=lH hky;have V3:=lH hnx;rw[hnx] at hlen;clear hq hkz hky hys hyc hnx;go_enter Tryz.func53,Tryz.ntmps53;go_wp2_with fail
 try rw[hZ]
 clear hZ;refine HV.out.mono ?_;rintro e w1 ⟨rfl,rfl⟩;clear hY;go_wp2_with fail
 refine HS.out.mono ?_;rintro e w1 ⟨v9,l,rfl,hp,hs,hv,kk⟩;have Tc:=lH hp;have MW:=lH hs;have K:=lH (K.out.trans (KY.out.trans kk));have hll:l.length=nx:=hp.length_eq.trans V3.out;obtain⟨wa,wc,rfl,-,-,hrow⟩:=hv;rw[hll] at hrow ⊢;have Tb:=lH hrow;have UM:=lH hll;clear kk hp hs hrow hll HS HV;have KW:=lH (Kept.refl w1);go_wp2;go_loopw [6,15] (fun v i wr=>∃k:Nat,k≤nx∧i=.int .i64 k∧∃la:List ByteArray,(l.take k).map (·.1)=la∧Own ji 9 wr w1.heap.size v la∧Kept w1 wr) (fun _ i _=>nx-(intOf i).toNat)
 case atStart=>exact⟨0,Nat.zero_le _,rfl,[],rfl,Own.nil _ _ _,Kept.refl _⟩
 case round =>
  obtain⟨k,hk,rfl,la,hla,ho,hK⟩:=hrel;have HX:=lH hla;have HO:=lH ho;have HK:=lH hK;obtain⟨m,hm⟩:∃m,la.length=m:=⟨_,rfl⟩
  have hmk:m≤k:=by
   have:=congrArg List.length hla;rw[List.length_map,List.length_take,hm] at this;omega
  have HT:=lH hm;have hbase:w1.heap.size≤wr.heap.size:=hK.size;by_cases hlt:k<nx
  · obtain⟨b9,o9,rfl⟩:=Tb.out.form.resolve_left (by omega);obtain⟨⟨x1,x2,x3⟩,hx,hxs,c0,c1,c2⟩:=(Tb.out.kept hK).mark hlt;dsimp only at hxs c0 c1 c2;have TZ:=lH hxs;have HV:=lH (show (l.take (k+1)).map (·.1)=la++[x1] by rw[List.take_add_one,hx,List.map_append,HX.out];rfl);have hkk:(k:Int)<(nx:Int):=by omega
    have hk0:¬(k:Int)<0:=by omega
    obtain⟨wx,hwx⟩:∃W,wr.alloc (.cells #[.string x1,.int .i64 x2,.float .f64 x3] 162)=W:=⟨_,rfl⟩
    have hkx:Kept wr wx:=by rw[←hwx];exact ja _ _
    have RV:=lH (jd wr (.string x1) [.int .i64 x2,.float .f64 x3] 162 wx (by rw[hwx];exact Kept.refl _));obtain⟨bq,hbq⟩:∃z,wr.heap.size=z:=⟨_,rfl⟩
    rw[hbq] at RV;have KX:=lH hkx;go_upto_region 6 with fail
    try rw[hwx]
    try rw[hbq]
    clear hwx hbq hx hxs hkx hk0 hkk hla ho hm hK c0 c1 c2;have t0:=RV.out.at_ 0 _ rfl;have Vy:=lH (show wx.ownsRow w1.heap.size 9 1 u6 m (jb ji la) by have:=(HO.out.kept KX.out).1;rw[HT.out] at this;exact this);have hs1:wr.heap.size≤wx.heap.size:=Below.size KX.out;go_wp2_with (at_builtin;refine wpList_append_lies _ rfl _ _ _ rfl w1.heap.size 9 i0 _ 1 16 Tryz.underlying58 hi hz0 hz1 hz2' rfl (by decide) u6 m (jb ji la) rfl (Vy.out.alloc _) ⟨wx.heap.size,0,none⟩ 1 1 (ji.cs x1) rfl rfl (World.news_of_block (cs:=#[.string x1]) (t:=9) (fr:=(0,0)) (heap_alloc_new wx _)) (Jm x1) (by decide) (by unfold maxLen;omega) (by omega) (by simp;omega) (wx.heap.size+1) (by simp) ?_;intro gg cap1 w4 hown1 hgrow hat hlt1)
    have VU:=lH ((show Below w1.heap.size w1 _ from HK.out.trans (KX.out.trans (ja wx _))).grown hgrow (by simp;omega) (fun j hj=>(Vy.out.lt j hj).1));go_wp2;go_roundw
    case rel=>exact⟨k+1,by omega,by go_num,la++[x1],HV.out,Own.snoc hown1 (by rw[HT.out]) HO.out.2 TZ.out,VU.out⟩
    case measure=>simp[intOf];omega
  · have hge:¬(k:Int)<(nx:Int):=by omega
    have HE:=lH (show l.map (·.1)=la by rw[←hla,List.take_of_length_le (by rw[UM.out];omega)]);clear hla ho hm hK;go_wp2;go_ret;exact⟨_,rfl,l,Tc.out,MW.out,by rw[HE.out];exact HO.out.base_le K.out.size,K.out.trans HK.out⟩
end Go.Proofs.YtmlgobiifebjkabGreat
namespace Go.Proofs.YtmlgobiifebjkabGreat
open Go.RowKit
theorem jme {s:Clu} {p:Pd} {pack:Bool} {xs l:List Mk} (ht:Z8 s p (Jd s p s.nodes) xs) (hp:l.Perm xs) (hs:l.Pairwise fun a b=>YQ pack b a=false):Zh s p pack (l.map (·.1)):=by
 refine⟨by rw[←ht.1];exact hp.map _,?_⟩;rw[List.pairwise_map];refine List.Pairwise.imp_of_mem (fun {a b} ha hb h=>?_) hs;have h1:=ht.2 a (hp.mem_iff.1 ha);have h2:=ht.2 b (hp.mem_iff.1 hb);unfold jT;rw[←h1.1,←h1.2,←h2.1,←h2.2];exact h
def jcH (s:Clu) (p:Pd) (pack:Bool) (w:World) (e:Ending) (w':World):Prop:=∃(v:Value) (l:List ByteArray),e=.returned v∧Zh s p pack l∧Own ji 9 w' w.heap.size v l∧Kept w w'
def jcA (s:Clu) (p:Pd) (pack:Bool) (w:World) (e:Ending) (w':World):Prop:=∃l:List ByteArray,Zh s p pack l∧e=.returned (.tuple #[.string (l.headD ⟨#[]⟩),.bool (!l.isEmpty)])∧Kept w w'
theorem jaD (s1 s2 s3:Option Addr) (n1 e1 n2 e2 n3 e3:Nat) (a1 a2 a3 a4:Option Addr) (m1 c1 m2 c2 m3 c3 m4 c4:Nat) (pack:Bool) (p:Pd) (s:Clu) (w:World) (hs:jA w (zv (.slice s1 n1 e1) (.slice s2 n2 e2) (.slice s3 n3 e3)) s) (hl:jH s) (hb:s.pods.length+1≤100000) (hp:js w (.slice a1 m1 c1) (.slice a2 m2 c2) (.slice a3 m3 c3) (.slice a4 m4 c4) p) (hlp:Ju p):Calls Tryz.prog 15 #[.agg #[.slice s1 n1 e1,.slice s2 n2 e2,.slice s3 n3 e3],jr p (.slice a1 m1 c1) (.slice a2 m2 c2) (.slice a3 m3 c3) (.slice a4 m4 c4),.bool pack] w (jcH s p pack w):=by
 obtain⟨Z,hZ⟩:∃Z,(w.alloc (.cells #[.slice s1 n1 e1,.slice s2 n2 e2,.slice s3 n3 e3] 26)).alloc (.cells #[.string p.name,.string p.owner,.int .i64 p.prio,.slice a1 m1 c1,.slice a2 m2 c2,.slice a3 m3 c3,.slice a4 m4 c4,.string p.key,.int .i64 p.most,.string p.node,.bool p.hold] 35)=Z:=⟨_,rfl⟩
 have hkz:Kept w Z:=by rw[←hZ];exact jm _ _ _
 have Vd:=lH (jd w (.slice s1 n1 e1) [.slice s2 n2 e2,.slice s3 n3 e3] 26 Z (by rw[←hZ];exact ja _ _));have Vb:=lH (show jf (w.heap.size+1) [.string p.name,.string p.owner,.int .i64 p.prio,.slice a1 m1 c1,.slice a2 m2 c2,.slice a3 m3 c3,.slice a4 m4 c4,.string p.key,.int .i64 p.most,.string p.node,.bool p.hold] Z by
  have dd:=jd (w.alloc (.cells #[.slice s1 n1 e1,.slice s2 n2 e2,.slice s3 n3 e3] 26)) (.string p.name) [.string p.owner,.int .i64 p.prio,.slice a1 m1 c1,.slice a2 m2 c2,.slice a3 m3 c3,.slice a4 m4 c4,.string p.key,.int .i64 p.most,.string p.node,.bool p.hold] 35 Z (by rw[hZ];exact Kept.refl _);rw[World.size_alloc] at dd;exact dd)
 have K:=lH hkz;have HS:=lH (hs.kept hkz);have HP:=lH (hp.kept hkz);have HL:=lH hl;have Vl:=lH hb;have V1:=lH hlp;clear hs hp hkz hl hb hlp;have Td:=lH (jjO s1 s2 s3 n1 e1 n2 e2 n3 e3 a1 a2 a3 a4 m1 c1 m2 c2 m3 c3 m4 c4 p s Z HS.out HL.out Vl.out HP.out V1.out);unfold jr at Td;have hfl:=Y8 s p s.nodes;have VY:=HL.out.nodesN;have y0:=Vd.out.at_ 0 _ rfl;have y1:=Vd.out.at_ 1 _ rfl;have y2:=Vd.out.at_ 2 _ rfl;have r0:=Vb.out.at_ 0 _ rfl;have r1:=Vb.out.at_ 1 _ rfl;have r2:=Vb.out.at_ 2 _ rfl;have r3:=Vb.out.at_ 3 _ rfl;have r4:=Vb.out.at_ 4 _ rfl;have r5:=Vb.out.at_ 5 _ rfl;have r6:=Vb.out.at_ 6 _ rfl;have r7:=Vb.out.at_ 7 _ rfl;have r8:=Vb.out.at_ 8 _ rfl;have r9:=Vb.out.at_ 9 _ rfl;have r10:=Vb.out.at_ 10 _ rfl;unfold jr;go_enter Tryz.func15,Tryz.ntmps15;go_wp2_with fail
 try rw[hZ]
 clear hZ;refine Td.out.mono ?_;rintro e w1 ⟨v,xs,rfl,hr,ht,kk⟩;have HN:=lH (jhm pack v xs w1 hr (by rw[ht.len];omega));have HT:=lH ht;have K:=lH (K.out.trans kk);clear kk hr ht hfl VY Td y0 y1 y2 r0 r1 r2 r3 r4 r5 r6 r7 r8 r9 r10;go_wp2_with fail
 refine HN.out.mono ?_;rintro e w2 ⟨y,l,rfl,hp,hs,ho,kk⟩;have HO:=lH (ho.base_le K.out.size);have HD:=lH (jme HT.out hp hs);have K:=lH (K.out.trans kk);clear kk ho hp hs HN;go_wp2;go_ret;exact⟨_,_,rfl,HD.out,HO.out,K.out⟩
theorem Xh (s1 s2 s3:Option Addr) (n1 e1 n2 e2 n3 e3:Nat) (a1 a2 a3 a4:Option Addr) (m1 c1 m2 c2 m3 c3 m4 c4:Nat) (pack:Bool) (p:Pd) (s:Clu) (w:World) (hs:jA w (zv (.slice s1 n1 e1) (.slice s2 n2 e2) (.slice s3 n3 e3)) s) (hl:jH s) (hb:s.pods.length+1≤100000) (hp:js w (.slice a1 m1 c1) (.slice a2 m2 c2) (.slice a3 m3 c3) (.slice a4 m4 c4) p) (hlp:Ju p):Calls Tryz.prog 20 #[.agg #[.slice s1 n1 e1,.slice s2 n2 e2,.slice s3 n3 e3],jr p (.slice a1 m1 c1) (.slice a2 m2 c2) (.slice a3 m3 c3) (.slice a4 m4 c4),.bool pack] w (jcA s p pack w):=by
 obtain⟨Z,hZ⟩:∃Z,(w.alloc (.cells #[.slice s1 n1 e1,.slice s2 n2 e2,.slice s3 n3 e3] 26)).alloc (.cells #[.string p.name,.string p.owner,.int .i64 p.prio,.slice a1 m1 c1,.slice a2 m2 c2,.slice a3 m3 c3,.slice a4 m4 c4,.string p.key,.int .i64 p.most,.string p.node,.bool p.hold] 35)=Z:=⟨_,rfl⟩
 have hkz:Kept w Z:=by rw[←hZ];exact jm _ _ _
 have Vd:=lH (jd w (.slice s1 n1 e1) [.slice s2 n2 e2,.slice s3 n3 e3] 26 Z (by rw[←hZ];exact ja _ _));have Vb:=lH (show jf (w.heap.size+1) [.string p.name,.string p.owner,.int .i64 p.prio,.slice a1 m1 c1,.slice a2 m2 c2,.slice a3 m3 c3,.slice a4 m4 c4,.string p.key,.int .i64 p.most,.string p.node,.bool p.hold] Z by
  have dd:=jd (w.alloc (.cells #[.slice s1 n1 e1,.slice s2 n2 e2,.slice s3 n3 e3] 26)) (.string p.name) [.string p.owner,.int .i64 p.prio,.slice a1 m1 c1,.slice a2 m2 c2,.slice a3 m3 c3,.slice a4 m4 c4,.string p.key,.int .i64 p.most,.string p.node,.bool p.hold] 35 Z (by rw[hZ];exact Kept.refl _);rw[World.size_alloc] at dd;exact dd)
 have K:=lH hkz;have HS:=lH (hs.kept hkz);have HP:=lH (hp.kept hkz);have HL:=lH hl;have Vl:=lH hb;have V1:=lH hlp;clear hs hp hkz hl hb hlp;have Td:=lH (jaD s1 s2 s3 n1 e1 n2 e2 n3 e3 a1 a2 a3 a4 m1 c1 m2 c2 m3 c3 m4 c4 pack p s Z HS.out HL.out Vl.out HP.out V1.out);unfold jr at Td;have y0:=Vd.out.at_ 0 _ rfl;have y1:=Vd.out.at_ 1 _ rfl;have y2:=Vd.out.at_ 2 _ rfl;have r0:=Vb.out.at_ 0 _ rfl;have r1:=Vb.out.at_ 1 _ rfl;have r2:=Vb.out.at_ 2 _ rfl;have r3:=Vb.out.at_ 3 _ rfl;have r4:=Vb.out.at_ 4 _ rfl;have r5:=Vb.out.at_ 5 _ rfl;have r6:=Vb.out.at_ 6 _ rfl;have r7:=Vb.out.at_ 7 _ rfl;have r8:=Vb.out.at_ 8 _ rfl;have r9:=Vb.out.at_ 9 _ rfl;have r10:=Vb.out.at_ 10 _ rfl;unfold jr;go_enter Tryz.func20,Tryz.ntmps20;go_wp2_with fail
 try rw[hZ]
 clear hZ;refine Td.out.mono ?_;rintro e w1 ⟨v,l,rfl,hd,ho,kk⟩;have HD:=lH hd;have K:=lH (K.out.trans kk);obtain⟨a,cap,rfl,-,-,hrow⟩:=ho.at_;clear kk hd ho Td y0 y1 y2 r0 r1 r2 r3 r4 r5 r6 r7 r8 r9 r10
 cases l with
 | nil =>
  have h0:(((([]:List ByteArray).length:Nat):Int)==0)=true:=rfl;go_wp2;go_ret2
  exact⟨[],HD.out,rfl,K.out⟩
 | cons x t =>
  obtain⟨b,off,rfl⟩:=hrow.form.resolve_left (by simp);obtain⟨x9,hx9,-,-,-,c0⟩:=hrow.str (k:=0) (by simp);obtain rfl:x=x9:=by simpa using hx9
  rw[Nat.add_zero] at c0;obtain⟨n,hn⟩:∃n,(x::t).length=n:=⟨_,rfl⟩
  have hn1:0<n:=by rw[←hn];simp
  have hn0:((n:Int)==0)=false:=by simp;omega
  have hn2:(0:Int)<(n:Int):=by omega
  rw[hn];clear hx9 hrow hn;go_wp2;go_ret2
  exact⟨x::t,HD.out,rfl,K.out⟩
def scC:Nod:={ Nod.zero with name:=⟨#[99]⟩ }
def scS:Clu:=⟨[jcG ⟨#[97]⟩ 10,jcG ⟨#[98]⟩ 10,scC],[jbJ ⟨#[120]⟩ 5 ⟨#[97]⟩],[]⟩
def scY:Pd:=jbJ ⟨#[121]⟩ 2 ⟨#[]⟩
def scZ:Pd:=jbJ ⟨#[122]⟩ 11 ⟨#[]⟩
def scK:Pd:={ Pd.zero with name:=⟨#[107]⟩ }
theorem Xb:jH scS:=⟨fun n hn=>by
 unfold scS at hn;simp only[List.mem_cons,List.not_mem_nil,or_false] at hn;rcases hn with rfl | rfl | rfl
 · exact⟨(by decide:(1:Nat)≤1000000),(by decide:(0:Nat)≤1000000),(by decide:(0:Nat)≤1000000)⟩
 · exact⟨(by decide:(1:Nat)≤1000000),(by decide:(0:Nat)≤1000000),(by decide:(0:Nat)≤1000000)⟩
 · exact⟨(by decide:(0:Nat)≤1000000),(by decide:(0:Nat)≤1000000),(by decide:(0:Nat)≤1000000)⟩,
 fun n hn=>by
  unfold scS at hn;obtain rfl:=List.mem_singleton.1 hn;exact⟨(by decide:(1:Nat)≤1000000),(by decide:(0:Nat)≤1000000),(by decide:(0:Nat)≤1000000),(by decide:(0:Nat)≤1000000)⟩,(fun n h=>by cases h),(by decide:(3:Nat)≤100000),(by decide:(1:Nat)≤100000),(by decide:(0:Nat)≤100000)⟩
theorem XN (x y:ByteArray) (c:Int):Ju (jbJ x c y):=⟨(by decide:(1:Nat)≤1000000),(by decide:(0:Nat)≤1000000),(by decide:(0:Nat)≤1000000),(by decide:(0:Nat)≤1000000)⟩
theorem jlp:Ju scK:=⟨(by decide:(0:Nat)≤1000000),(by decide:(0:Nat)≤1000000),(by decide:(0:Nat)≤1000000),(by decide:(0:Nat)≤1000000)⟩
theorem qp:scS.pods.length+1≤100000:=(by decide:(2:Nat)≤100000)
theorem jl9:Jd scS scY scS.nodes=[⟨#[97]⟩,⟨#[98]⟩]:=by kernel_rfl
theorem jm5:Jd scS scZ scS.nodes=[]:=by kernel_rfl
theorem jmR:Jd scS scK scS.nodes=[⟨#[97]⟩,⟨#[98]⟩,⟨#[99]⟩]:=by kernel_rfl
theorem jm2:zu scS ⟨#[97]⟩ ⟨#[99,112,117]⟩=some 4602678819172646912:=by kernel_rfl
theorem jne:zu scS ⟨#[97]⟩ ⟨#[109,101,109]⟩=none:=by kernel_rfl
theorem jmT:JL scS scY ⟨#[97]⟩=some 4604480259023595110:=by kernel_rfl
theorem jm1:JL scS scY ⟨#[99]⟩=none:=by kernel_rfl
theorem jm9:jT scS scY false ⟨#[97]⟩ ⟨#[98]⟩=false:=by kernel_rfl
theorem jm6:jT scS scY true ⟨#[98]⟩ ⟨#[97]⟩=false:=by kernel_rfl
theorem jm8:jT scS scK false ⟨#[97]⟩ ⟨#[98]⟩=false:=by kernel_rfl
theorem jmX:jT scS scK false ⟨#[99]⟩ ⟨#[98]⟩=false:=by kernel_rfl
theorem jmV:jT scS scK false ⟨#[99]⟩ ⟨#[97]⟩=false:=by kernel_rfl
theorem jbo {r:ByteArray→ByteArray→Prop} {x y:ByteArray} (h:r x y):[x,y].Pairwise r:=List.Pairwise.cons (fun z hz=>by obtain rfl:=List.mem_singleton.1 hz;exact h) (List.Pairwise.cons (fun z hz=>by cases hz) List.Pairwise.nil)
theorem jnb:Zh scS scY false [⟨#[98]⟩,⟨#[97]⟩]:=⟨by rw[jl9];exact List.Perm.swap _ _ _,jbo jm9⟩
theorem jmI:Zh scS scY true [⟨#[97]⟩,⟨#[98]⟩]:=⟨by rw[jl9],jbo jm6⟩
theorem jmU:Zh scS scZ true []:=⟨by rw[jm5],List.Pairwise.nil⟩
theorem jnc:Zh scS scK false [⟨#[98]⟩,⟨#[97]⟩,⟨#[99]⟩]:=⟨by rw[jmR];exact List.Perm.swap _ _ _,List.Pairwise.cons (fun z hz=>by
 rcases List.mem_cons.1 hz with rfl | hz
 · exact jm8
 · obtain rfl:=List.mem_singleton.1 hz;exact jmX) (jbo jmV)⟩
theorem jcA.is {s:Clu} {p:Pd} {pack:Bool} {w w':World} {e:Ending} {l:List ByteArray} (h:jcA s p pack w e w') (ho:Zh s p pack l):Say (.tuple #[.string (l.headD ⟨#[]⟩),.bool (!l.isEmpty)]) w e w':=by
 obtain⟨m,hm,he,kk⟩:=h;rw[hm.unique ho] at he;exact⟨he,kk⟩
theorem Yh.is {x:Option Nat} {z:Nat} {w w':World} {e:Ending} (h:Yh x w e w') (hx:x=some z):Say (.float .f64 z) w e w':=by
 obtain⟨r,he,hr,-,kk⟩:=h;rw[hx] at hr;obtain⟨-,rfl⟩:=JM.1 hr;exact⟨he,kk⟩
def jkw (w:World) (e:Ending) (w':World):Prop:=∃r,e=.returned (.float .f64 r)∧cls r=6∧Kept w w'
theorem Yh.not {x:Option Nat} {w w':World} {e:Ending} (h:Yh x w e w') (hx:x=none):jkw w e w':=by
 obtain⟨r,he,hr,-,kk⟩:=h;rw[hx] at hr;exact⟨r,he,by unfold cls;rw[Jo.1 hr];rfl,kk⟩
theorem jcH.is {s:Clu} {p:Pd} {pack:Bool} {w w':World} {e:Ending} {l:List ByteArray} (h:jcH s p pack w e w') (ho:Zh s p pack l):∃v,e=.returned v∧Own ji 9 w' w.heap.size v l∧Kept w w':=by
 obtain⟨v,m,he,hm,h2,kk⟩:=h;rw[hm.unique ho] at h2;exact⟨v,he,h2,kk⟩
theorem jlA (w:World):js w (.slice none 0 0) (.slice none 0 0) (.slice none 0 0) (.slice none 0 0) scK:=⟨(by decide:(1:Nat)≤maxLen),(by decide:(0:Nat)≤maxLen),(by decide:(0:Nat)≤maxLen),(by decide:(0:Nat)≤maxLen),(by decide:(-9223372036854775808:Int)≤0∧(0:Int)≤9223372036854775807),(by decide:(-9223372036854775808:Int)≤0∧(0:Int)≤9223372036854775807),⟨none,0,rfl,Nat.le_refl _,by decide,Vec.jw.nil w⟩,Reads.nil _,Reads.nil _,Reads.nil _⟩
theorem jlF:(FloatKind.f64.format.order 4602678819172646912 4602678819172646912==some .eq)=true:=by kernel_rfl
theorem jl8:(FloatKind.f64.format.order 4604480259023595110 4604480259023595110==some .eq)=true:=by kernel_rfl
theorem jf3 (w:World):Calls Tryz.prog 5 #[] w (Say (.bool true) w):=by
 go_enter Tryz.func5,Tryz.ntmps5;go_wp2_with fail
 refine(jff ⟨#[97]⟩ 10 (by decide:(-9223372036854775808:Int)≤10∧(10:Int)≤9223372036854775807) (by decide:(1:Nat)≤maxLen) _).mono ?_;rintro e w1 ⟨b1,n1,d1,rfl,ha,k⟩;have K:=lH k;have Tm:=lH ha;clear k ha;go_wp2_with fail
 refine(jff ⟨#[98]⟩ 10 (by decide:(-9223372036854775808:Int)≤10∧(10:Int)≤9223372036854775807) (by decide:(1:Nat)≤maxLen) _).mono ?_;rintro e w2 ⟨b2,n2,d2,rfl,ha,k⟩;have K:=lH (K.out.trans k);have Tm:=lH (Tm.out.kept k);have Mq:=lH ha;clear k ha;obtain⟨gB,hgB⟩:∃g,w2.heap.size=g:=⟨_,rfl⟩
 obtain⟨wB,hwB⟩:∃W,w2.alloc (.cells #[.string ⟨#[97]⟩,.slice b1 n1 d1,.slice none 0 0,.slice none 0 0,.bool false,.string ⟨#[98]⟩,.slice b2 n2 d2,.slice none 0 0,.slice none 0 0,.bool false,.string ⟨#[99]⟩,.slice none 0 0,.slice none 0 0,.slice none 0 0,.bool false] 71)=W:=⟨_,rfl⟩
 have kk:Kept w2 wB:=by rw[←hwB];exact ja _ _
 have hsz:wB.heap.size=gB+1:=by rw[←hwB,World.size_alloc,hgB]
 have MX:=lH hsz;have CB:=lH (show jf gB [.string ⟨#[97]⟩,.slice b1 n1 d1,.slice none 0 0,.slice none 0 0,.bool false,.string ⟨#[98]⟩,.slice b2 n2 d2,.slice none 0 0,.slice none 0 0,.bool false,.string ⟨#[99]⟩,.slice none 0 0,.slice none 0 0,.slice none 0 0,.bool false] wB from by
  have c:=jd w2 (.string ⟨#[97]⟩) [.slice b1 n1 d1,.slice none 0 0,.slice none 0 0,.bool false,.string ⟨#[98]⟩,.slice b2 n2 d2,.slice none 0 0,.slice none 0 0,.bool false,.string ⟨#[99]⟩,.slice none 0 0,.slice none 0 0,.slice none 0 0,.bool false] 71 wB (by rw[hwB];exact Kept.refl _);rw[hgB] at c;exact c)
 have Tv:=lH hgB;have RW:=lH hwB;clear hgB hwB hsz;have UT:=lH (show jE wB (some ⟨gB,0,none⟩) 3 scS.nodes from Y7 (lx:=[(jcG ⟨#[97]⟩ 10,(b1,n1,d1),(none,0,0),(none,0,0)),(jcG ⟨#[98]⟩ 10,(b2,n2,d2),(none,0,0),(none,0,0)),(scC,(none,0,0),(none,0,0),(none,0,0))]) (Y6 rfl CB.out (fun _ _=>trivial) (by decide:(3:Nat)≤maxLen)) (fun z hz=>by
  rcases List.mem_cons.1 hz with rfl | hz
  · exact Tm.out.kept kk
  rcases List.mem_cons.1 hz with rfl | hz
  · exact Mq.out.kept kk
  obtain rfl:=List.mem_singleton.1 hz;exact⟨(by decide:(1:Nat)≤maxLen),⟨none,0,rfl,Nat.le_refl _,by decide,Vec.jw.nil wB⟩,Reads.nil _,Reads.nil _⟩))
 have K:=lH (K.out.trans kk);clear kk CB Tm Mq;go_wp2_with fail
 rw[RW.out];try rw[Tv.out]
 clear RW;refine(jbp ⟨#[120]⟩ 5 ⟨#[97]⟩ (by decide:(-9223372036854775808:Int)≤5∧(5:Int)≤9223372036854775807) (by decide:(1:Nat)≤maxLen) (by decide:(1:Nat)≤maxLen) _).mono ?_;rintro e w3 ⟨p1,q1,r1,rfl,ha,kk⟩;have K:=lH (K.out.trans kk);have UT:=lH (UT.out.kept kk);have Mr:=lH ha;clear kk ha;obtain⟨gS,hgS⟩:∃g,w3.heap.size=g:=⟨_,rfl⟩
 obtain⟨wS,hwS⟩:∃W,w3.alloc (.cells #[.string ⟨#[120]⟩,.string ⟨#[]⟩,.int .i64 0,.slice p1 q1 r1,.slice none 0 0,.slice none 0 0,.slice none 0 0,.string ⟨#[]⟩,.int .i64 0,.string ⟨#[97]⟩,.bool false] 35)=W:=⟨_,rfl⟩
 have kk:Kept w3 wS:=by rw[←hwS];exact ja _ _
 have hsz:wS.heap.size=gS+1:=by rw[←hwS,World.size_alloc,hgS]
 have NQ:=lH hsz;have CS:=lH (show jf gS [.string ⟨#[120]⟩,.string ⟨#[]⟩,.int .i64 0,.slice p1 q1 r1,.slice none 0 0,.slice none 0 0,.slice none 0 0,.string ⟨#[]⟩,.int .i64 0,.string ⟨#[97]⟩,.bool false] wS from by
  have c:=jd w3 (.string ⟨#[120]⟩) [.string ⟨#[]⟩,.int .i64 0,.slice p1 q1 r1,.slice none 0 0,.slice none 0 0,.slice none 0 0,.string ⟨#[]⟩,.int .i64 0,.string ⟨#[97]⟩,.bool false] 35 wS (by rw[hwS];exact Kept.refl _);rw[hgS] at c;exact c)
 have NR:=lH hgS;have RY:=lH hwS;clear hgS hwS hsz;have Ms:=lH (show jN wS (some ⟨gS,0,none⟩) 1 scS.pods from jbA (lx:=[(jbJ ⟨#[120]⟩ 5 ⟨#[97]⟩,(p1,q1,r1),(none,0,0),(none,0,0),(none,0,0))]) (Y6 rfl CS.out (fun _ _=>trivial) (by decide:(1:Nat)≤maxLen)) (fun z hz=>by
  obtain rfl:=List.mem_singleton.1 hz;exact Mr.out.kept kk))
 have UT:=lH (UT.out.kept kk);have K:=lH (K.out.trans kk);clear kk CS Mr;obtain⟨gQ,hgQ⟩:∃g,wS.heap.size=g:=⟨_,rfl⟩
 obtain⟨wQ,hwQ⟩:∃W,wS.alloc (.cells #[.slice (some ⟨gB,0,none⟩) 3 3,.slice (some ⟨gS,0,none⟩) 1 1,.slice none 0 0] 26)=W:=⟨_,rfl⟩
 have kk:Kept wS wQ:=by rw[←hwQ];exact ja _ _
 have hsz:wQ.heap.size=gQ+1:=by rw[←hwQ,World.size_alloc,hgQ]
 have MY:=lH hsz;have CQ:=lH (show jf gQ [.slice (some ⟨gB,0,none⟩) 3 3,.slice (some ⟨gS,0,none⟩) 1 1,.slice none 0 0] wQ from by
  have c:=jd wS (.slice (some ⟨gB,0,none⟩) 3 3) [.slice (some ⟨gS,0,none⟩) 1 1,.slice none 0 0] 26 wQ (by rw[hwQ];exact Kept.refl _);rw[hgQ] at c;exact c)
 have RZ:=lH hgQ;have R0:=lH hwQ;clear hgQ hwQ hsz;have HC:=lH (show jA wQ (.agg #[.slice (some ⟨gB,0,none⟩) 3 3,.slice (some ⟨gS,0,none⟩) 1 1,.slice none 0 0]) scS from⟨_,_,_,rfl,⟨⟨_,_,rfl,(by decide:(3:Nat)≤3),(by decide:(3:Nat)≤maxLen),UT.out.kept kk⟩,⟨_,_,rfl,(by decide:(1:Nat)≤1),(by decide:(1:Nat)≤maxLen),Ms.out.kept kk⟩,⟨_,_,rfl,(by decide:(0:Nat)≤0),(by decide:(0:Nat)≤maxLen),jaC _⟩⟩⟩);have K:=lH (K.out.trans kk);clear kk UT Ms;have hgq:gQ=gS+1:=RZ.out.symm.trans NQ.out;have RS:=lH hgq;clear hgq;go_upto_region 2 with fail
 rw[RY.out];try rw[NR.out]
 rw[R0.out];try rw[←RS.out]
 try rw[RZ.out]
 clear RY R0;go_wp2_with fail
 refine(jbp ⟨#[121]⟩ 2 ⟨#[]⟩ (by decide:(-9223372036854775808:Int)≤2∧(2:Int)≤9223372036854775807) (by decide:(1:Nat)≤maxLen) (by decide:(0:Nat)≤maxLen) _).mono ?_;rintro e w4 ⟨p2,q2,r2,rfl,ha,kk⟩;have K:=lH (K.out.trans kk);have HC:=lH (HC.out.kept kk);have CQ:=lH (CQ.out.kept kk);have HY:=lH ha;clear kk ha;obtain⟨gR,hgR⟩:∃g,w4.heap.size=g:=⟨_,rfl⟩
 obtain⟨wR,hwR⟩:∃W,w4.alloc (.cells #[.string ⟨#[121]⟩,.string ⟨#[]⟩,.int .i64 0,.slice p2 q2 r2,.slice none 0 0,.slice none 0 0,.slice none 0 0,.string ⟨#[]⟩,.int .i64 0,.string ⟨#[]⟩,.bool false] 35)=W:=⟨_,rfl⟩
 have kk:Kept w4 wR:=by rw[←hwR];exact ja _ _
 have hsz:wR.heap.size=gR+1:=by rw[←hwR,World.size_alloc,hgR]
 have MZ:=lH hsz;have CR:=lH (show jf gR [.string ⟨#[121]⟩,.string ⟨#[]⟩,.int .i64 0,.slice p2 q2 r2,.slice none 0 0,.slice none 0 0,.slice none 0 0,.string ⟨#[]⟩,.int .i64 0,.string ⟨#[]⟩,.bool false] wR from by
  have c:=jd w4 (.string ⟨#[121]⟩) [.string ⟨#[]⟩,.int .i64 0,.slice p2 q2 r2,.slice none 0 0,.slice none 0 0,.slice none 0 0,.string ⟨#[]⟩,.int .i64 0,.string ⟨#[]⟩,.bool false] 35 wR (by rw[hwR];exact Kept.refl _);rw[hgR] at c;exact c)
 have NU:=lH hgR;have R5:=lH hwR;clear hgR hwR hsz;have K:=lH (K.out.trans kk);have HC:=lH (HC.out.kept kk);have CQ:=lH (CQ.out.kept kk);have HY:=lH (HY.out.kept kk);clear kk;go_upto_region 3 with fail
 rw[R5.out];try rw[NU.out]
 clear R5;have TQ:=lH (show ∀W,Kept wR W→Calls Tryz.prog 20 #[.agg #[.slice (some ⟨gB,0,none⟩) 3 3,.slice (some ⟨gS,0,none⟩) 1 1,.slice none 0 0],.agg #[.string ⟨#[121]⟩,.string ⟨#[]⟩,.int .i64 0,.slice p2 q2 r2,.slice none 0 0,.slice none 0 0,.slice none 0 0,.string ⟨#[]⟩,.int .i64 0,.string ⟨#[]⟩,.bool false],.bool false] W (Say (.tuple #[.string ⟨#[98]⟩,.bool true]) W) from fun W k=>(Xh (some ⟨gB,0,none⟩) (some ⟨gS,0,none⟩) none 3 3 1 1 0 0 p2 none none none q2 r2 0 0 0 0 0 0 false scY scS W (HC.out.kept k) Xb qp (HY.out.kept k) (XN _ _ _)).mono fun e w h=>h.is jnb);have U7:=lH (show ∀W,Kept wR W→Calls Tryz.prog 20 #[.agg #[.slice (some ⟨gB,0,none⟩) 3 3,.slice (some ⟨gS,0,none⟩) 1 1,.slice none 0 0],.agg #[.string ⟨#[121]⟩,.string ⟨#[]⟩,.int .i64 0,.slice p2 q2 r2,.slice none 0 0,.slice none 0 0,.slice none 0 0,.string ⟨#[]⟩,.int .i64 0,.string ⟨#[]⟩,.bool false],.bool true] W (Say (.tuple #[.string ⟨#[97]⟩,.bool true]) W) from fun W k=>(Xh (some ⟨gB,0,none⟩) (some ⟨gS,0,none⟩) none 3 3 1 1 0 0 p2 none none none q2 r2 0 0 0 0 0 0 true scY scS W (HC.out.kept k) Xb qp (HY.out.kept k) (XN _ _ _)).mono fun e w h=>h.is jmI);have Np:=lH (show ∀W,Kept wR W→Calls Tryz.prog 12 #[.agg #[.slice (some ⟨gB,0,none⟩) 3 3,.slice (some ⟨gS,0,none⟩) 1 1,.slice none 0 0],.string ⟨#[97]⟩,.string ⟨#[99,112,117]⟩] W (Say (.float .f64 4602678819172646912) W) from fun W k=>(qX (some ⟨gB,0,none⟩) (some ⟨gS,0,none⟩) none 3 3 1 1 0 0 scS ⟨#[97]⟩ ⟨#[99,112,117]⟩ W (HC.out.kept k) Xb).mono fun e w h=>h.is jm2);have Nq:=lH (show ∀W,Kept wR W→Calls Tryz.prog 12 #[.agg #[.slice (some ⟨gB,0,none⟩) 3 3,.slice (some ⟨gS,0,none⟩) 1 1,.slice none 0 0],.string ⟨#[97]⟩,.string ⟨#[109,101,109]⟩] W (jkw W) from fun W k=>(qX (some ⟨gB,0,none⟩) (some ⟨gS,0,none⟩) none 3 3 1 1 0 0 scS ⟨#[97]⟩ ⟨#[109,101,109]⟩ W (HC.out.kept k) Xb).mono fun e w h=>h.not jne);have UU:=lH (show ∀W,Kept wR W→Calls Tryz.prog 18 #[.agg #[.slice (some ⟨gB,0,none⟩) 3 3,.slice (some ⟨gS,0,none⟩) 1 1,.slice none 0 0],.agg #[.string ⟨#[121]⟩,.string ⟨#[]⟩,.int .i64 0,.slice p2 q2 r2,.slice none 0 0,.slice none 0 0,.slice none 0 0,.string ⟨#[]⟩,.int .i64 0,.string ⟨#[]⟩,.bool false],.string ⟨#[97]⟩] W (Say (.float .f64 4604480259023595110) W) from fun W k=>(qc (some ⟨gB,0,none⟩) (some ⟨gS,0,none⟩) none 3 3 1 1 0 0 p2 none none none q2 r2 0 0 0 0 0 0 scY scS ⟨#[97]⟩ W (HC.out.kept k) Xb qp (HY.out.kept k) (XN _ _ _) (by decide:(1:Nat)≤maxLen)).mono fun e w h=>h.is jmT);have UW:=lH (show ∀W,Kept wR W→Calls Tryz.prog 18 #[.agg #[.slice (some ⟨gB,0,none⟩) 3 3,.slice (some ⟨gS,0,none⟩) 1 1,.slice none 0 0],.agg #[.string ⟨#[121]⟩,.string ⟨#[]⟩,.int .i64 0,.slice p2 q2 r2,.slice none 0 0,.slice none 0 0,.slice none 0 0,.string ⟨#[]⟩,.int .i64 0,.string ⟨#[]⟩,.bool false],.string ⟨#[99]⟩] W (jkw W) from fun W k=>(qc (some ⟨gB,0,none⟩) (some ⟨gS,0,none⟩) none 3 3 1 1 0 0 p2 none none none q2 r2 0 0 0 0 0 0 scY scS ⟨#[99]⟩ W (HC.out.kept k) Xb qp (HY.out.kept k) (XN _ _ _) (by decide:(1:Nat)≤maxLen)).mono fun e w h=>h.not jm1);have KW:=lH (Kept.refl wR);have s0:=(CQ.out.kept KW.out).at_ 0 _ rfl;have s1:=(CQ.out.kept KW.out).at_ 1 _ rfl;have s2:=(CQ.out.kept KW.out).at_ 2 _ rfl;have u0:=(CR.out.kept KW.out).at_ 0 _ rfl;have u1:=(CR.out.kept KW.out).at_ 1 _ rfl;have u2:=(CR.out.kept KW.out).at_ 2 _ rfl;have u3:=(CR.out.kept KW.out).at_ 3 _ rfl;have u4:=(CR.out.kept KW.out).at_ 4 _ rfl;have u5:=(CR.out.kept KW.out).at_ 5 _ rfl;have u6:=(CR.out.kept KW.out).at_ 6 _ rfl;have u7:=(CR.out.kept KW.out).at_ 7 _ rfl;have u8:=(CR.out.kept KW.out).at_ 8 _ rfl;have u9:=(CR.out.kept KW.out).at_ 9 _ rfl;have u10:=(CR.out.kept KW.out).at_ 10 _ rfl;go_wp2_with fail
 refine(TQ.out _ KW.out).mono ?_;rintro e y1 ⟨rfl,kk⟩;have KW:=lH (KW.out.trans kk);clear kk;clear s0 s1 s2 u0 u1 u2 u3 u4 u5 u6 u7 u8 u9 u10;have s0:=(CQ.out.kept KW.out).at_ 0 _ rfl;have s1:=(CQ.out.kept KW.out).at_ 1 _ rfl;have s2:=(CQ.out.kept KW.out).at_ 2 _ rfl;have u0:=(CR.out.kept KW.out).at_ 0 _ rfl;have u1:=(CR.out.kept KW.out).at_ 1 _ rfl;have u2:=(CR.out.kept KW.out).at_ 2 _ rfl;have u3:=(CR.out.kept KW.out).at_ 3 _ rfl;have u4:=(CR.out.kept KW.out).at_ 4 _ rfl;have u5:=(CR.out.kept KW.out).at_ 5 _ rfl;have u6:=(CR.out.kept KW.out).at_ 6 _ rfl;have u7:=(CR.out.kept KW.out).at_ 7 _ rfl;have u8:=(CR.out.kept KW.out).at_ 8 _ rfl;have u9:=(CR.out.kept KW.out).at_ 9 _ rfl;have u10:=(CR.out.kept KW.out).at_ 10 _ rfl;go_wp2_with fail
 refine(U7.out _ KW.out).mono ?_;rintro e y2 ⟨rfl,kk⟩;have KW:=lH (KW.out.trans kk);clear kk;clear s0 s1 s2 u0 u1 u2 u3 u4 u5 u6 u7 u8 u9 u10;have NW:=lH (show ∀W,Kept wR W→W.cell? ⟨gQ,0,none⟩=some (.slice (some ⟨gB,0,none⟩) 3 3)∧W.cell? ⟨gQ,1,none⟩=some (.slice (some ⟨gS,0,none⟩) 1 1)∧W.cell? ⟨gQ,2,none⟩=some (.slice none 0 0) from fun W k=>by
  have h:=CQ.out.kept k;exact⟨h.at_ 0 _ rfl,h.at_ 1 _ rfl,h.at_ 2 _ rfl⟩)
 go_upto_region 5 with fail
 refine wp_region_held_drew (S:=fun W=>W.cell? ⟨gQ,0,none⟩=some (.slice (some ⟨gB,0,none⟩) 3 3)∧W.cell? ⟨gQ,1,none⟩=some (.slice (some ⟨gS,0,none⟩) 1 1)∧W.cell? ⟨gQ,2,none⟩=some (.slice none 0 0)) (by kernel_rfl) (NW.out _ (KW.out.trans (Kept.drew y2))) (fun hHeld=>?_);refine tkI 0 ?_;try simp only[nP]
 have KW:=lH (KW.out.trans (Kept.drew y2));obtain⟨wd,hwd⟩:∃W,y2.drew=W:=⟨_,rfl⟩
 rw[hwd] at hHeld KW;try rw[hwd]
 clear hwd;refine rd1 1 fun K9 Ky=>?_;go_simp;refine(jbp ⟨#[122]⟩ 11 ⟨#[]⟩ (by decide:(-9223372036854775808:Int)≤11∧(11:Int)≤9223372036854775807) (by decide:(1:Nat)≤maxLen) (by decide:(0:Nat)≤maxLen) _).mono ?_;rintro e y3 ⟨p3,q3,r3,rfl,ha,kk⟩;have KW:=lH (KW.out.trans kk);have HZ:=lH ha;clear kk ha;refine Ky.out _ _ (NW.out _ KW.out) (fun _=>?_);clear Ky K9;try simp only[nP]
 refine rd1 2 fun K9 Ky=>?_;go_simp;refine((Xh (some ⟨gB,0,none⟩) (some ⟨gS,0,none⟩) none 3 3 1 1 0 0 p3 none none none q3 r3 0 0 0 0 0 0 true scZ scS y3 (HC.out.kept KW.out) Xb qp HZ.out (XN _ _ _)).mono fun e w h=>h.is jmU).mono ?_;rintro e y4 ⟨rfl,kk⟩;have KW:=lH (KW.out.trans kk);clear kk HZ;refine Ky.out _ _ (NW.out _ KW.out) (fun _=>?_);clear Ky K9;try simp only[nP]
 refine tkI 3 ?_;refine tkI 4 ?_;refine tkI 5 ?_;refine tkI 6 ?_;refine tkI 7 ?_;try simp only[nP]
 refine wpAnyH_done (by kernel_rfl) ?_ _;have s0:=(CQ.out.kept KW.out).at_ 0 _ rfl;have s1:=(CQ.out.kept KW.out).at_ 1 _ rfl;have s2:=(CQ.out.kept KW.out).at_ 2 _ rfl;have u0:=(CR.out.kept KW.out).at_ 0 _ rfl;have u1:=(CR.out.kept KW.out).at_ 1 _ rfl;have u2:=(CR.out.kept KW.out).at_ 2 _ rfl;have u3:=(CR.out.kept KW.out).at_ 3 _ rfl;have u4:=(CR.out.kept KW.out).at_ 4 _ rfl;have u5:=(CR.out.kept KW.out).at_ 5 _ rfl;have u6:=(CR.out.kept KW.out).at_ 6 _ rfl;have u7:=(CR.out.kept KW.out).at_ 7 _ rfl;have u8:=(CR.out.kept KW.out).at_ 8 _ rfl;have u9:=(CR.out.kept KW.out).at_ 9 _ rfl;have u10:=(CR.out.kept KW.out).at_ 10 _ rfl;go_wp2_with fail
 refine((jaD (some ⟨gB,0,none⟩) (some ⟨gS,0,none⟩) none 3 3 1 1 0 0 none none none none 0 0 0 0 0 0 0 0 false scK scS y4 (HC.out.kept KW.out) Xb qp (jlA _) jlp).mono fun e w h=>h.is jnc).mono ?_;rintro e y5 ⟨v9,rfl,ho,kk⟩;have HV:=lH ho.reads;have KW:=lH (KW.out.trans kk);clear kk ho;clear s0 s1 s2 u0 u1 u2 u3 u4 u5 u6 u7 u8 u9 u10;have s0:=(CQ.out.kept KW.out).at_ 0 _ rfl;have s1:=(CQ.out.kept KW.out).at_ 1 _ rfl;have s2:=(CQ.out.kept KW.out).at_ 2 _ rfl;have u0:=(CR.out.kept KW.out).at_ 0 _ rfl;have u1:=(CR.out.kept KW.out).at_ 1 _ rfl;have u2:=(CR.out.kept KW.out).at_ 2 _ rfl;have u3:=(CR.out.kept KW.out).at_ 3 _ rfl;have u4:=(CR.out.kept KW.out).at_ 4 _ rfl;have u5:=(CR.out.kept KW.out).at_ 5 _ rfl;have u6:=(CR.out.kept KW.out).at_ 6 _ rfl;have u7:=(CR.out.kept KW.out).at_ 7 _ rfl;have u8:=(CR.out.kept KW.out).at_ 8 _ rfl;have u9:=(CR.out.kept KW.out).at_ 9 _ rfl;have u10:=(CR.out.kept KW.out).at_ 10 _ rfl;have eb:(((⟨#[98]⟩:ByteArray).toList==(⟨#[98]⟩:ByteArray).toList))=true:=by simp
 have ea:(((⟨#[97]⟩:ByteArray).toList==(⟨#[97]⟩:ByteArray).toList))=true:=by simp
 have eh:=jlF;have es:=jl8;go_wp2_with fail
 refine(Np.out _ KW.out).mono ?_;rintro e y6 ⟨rfl,kk⟩;have KW:=lH (KW.out.trans kk);have HV:=lH (HV.out.kept kk);clear kk;clear s0 s1 s2 u0 u1 u2 u3 u4 u5 u6 u7 u8 u9 u10;have s0:=(CQ.out.kept KW.out).at_ 0 _ rfl;have s1:=(CQ.out.kept KW.out).at_ 1 _ rfl;have s2:=(CQ.out.kept KW.out).at_ 2 _ rfl;have u0:=(CR.out.kept KW.out).at_ 0 _ rfl;have u1:=(CR.out.kept KW.out).at_ 1 _ rfl;have u2:=(CR.out.kept KW.out).at_ 2 _ rfl;have u3:=(CR.out.kept KW.out).at_ 3 _ rfl;have u4:=(CR.out.kept KW.out).at_ 4 _ rfl;have u5:=(CR.out.kept KW.out).at_ 5 _ rfl;have u6:=(CR.out.kept KW.out).at_ 6 _ rfl;have u7:=(CR.out.kept KW.out).at_ 7 _ rfl;have u8:=(CR.out.kept KW.out).at_ 8 _ rfl;have u9:=(CR.out.kept KW.out).at_ 9 _ rfl;have u10:=(CR.out.kept KW.out).at_ 10 _ rfl;go_wp2_with fail
 refine(Nq.out _ KW.out).mono ?_;rintro e y7 ⟨r1x,rfl,hn1,kk⟩;have KW:=lH (KW.out.trans kk);have HV:=lH (HV.out.kept kk);clear kk;clear s0 s1 s2 u0 u1 u2 u3 u4 u5 u6 u7 u8 u9 u10;have s0:=(CQ.out.kept KW.out).at_ 0 _ rfl;have s1:=(CQ.out.kept KW.out).at_ 1 _ rfl;have s2:=(CQ.out.kept KW.out).at_ 2 _ rfl;have u0:=(CR.out.kept KW.out).at_ 0 _ rfl;have u1:=(CR.out.kept KW.out).at_ 1 _ rfl;have u2:=(CR.out.kept KW.out).at_ 2 _ rfl;have u3:=(CR.out.kept KW.out).at_ 3 _ rfl;have u4:=(CR.out.kept KW.out).at_ 4 _ rfl;have u5:=(CR.out.kept KW.out).at_ 5 _ rfl;have u6:=(CR.out.kept KW.out).at_ 6 _ rfl;have u7:=(CR.out.kept KW.out).at_ 7 _ rfl;have u8:=(CR.out.kept KW.out).at_ 8 _ rfl;have u9:=(CR.out.kept KW.out).at_ 9 _ rfl;have u10:=(CR.out.kept KW.out).at_ 10 _ rfl;go_wp2_with fail
 refine(XQ r1x _).mono ?_;rintro e y8 ⟨rfl,rfl⟩;rw[hn1];go_wp2_with fail
 refine(UU.out _ KW.out).mono ?_;rintro e y9 ⟨rfl,kk⟩;have KW:=lH (KW.out.trans kk);have HV:=lH (HV.out.kept kk);clear kk;clear s0 s1 s2 u0 u1 u2 u3 u4 u5 u6 u7 u8 u9 u10;have s0:=(CQ.out.kept KW.out).at_ 0 _ rfl;have s1:=(CQ.out.kept KW.out).at_ 1 _ rfl;have s2:=(CQ.out.kept KW.out).at_ 2 _ rfl;have u0:=(CR.out.kept KW.out).at_ 0 _ rfl;have u1:=(CR.out.kept KW.out).at_ 1 _ rfl;have u2:=(CR.out.kept KW.out).at_ 2 _ rfl;have u3:=(CR.out.kept KW.out).at_ 3 _ rfl;have u4:=(CR.out.kept KW.out).at_ 4 _ rfl;have u5:=(CR.out.kept KW.out).at_ 5 _ rfl;have u6:=(CR.out.kept KW.out).at_ 6 _ rfl;have u7:=(CR.out.kept KW.out).at_ 7 _ rfl;have u8:=(CR.out.kept KW.out).at_ 8 _ rfl;have u9:=(CR.out.kept KW.out).at_ 9 _ rfl;have u10:=(CR.out.kept KW.out).at_ 10 _ rfl;go_wp2_with fail
 refine(UW.out _ KW.out).mono ?_;rintro e y10 ⟨r2x,rfl,hn2,kk⟩;have KW:=lH (KW.out.trans kk);have HV:=lH (HV.out.kept kk);clear kk;clear s0 s1 s2 u0 u1 u2 u3 u4 u5 u6 u7 u8 u9 u10;have s0:=(CQ.out.kept KW.out).at_ 0 _ rfl;have s1:=(CQ.out.kept KW.out).at_ 1 _ rfl;have s2:=(CQ.out.kept KW.out).at_ 2 _ rfl;have u0:=(CR.out.kept KW.out).at_ 0 _ rfl;have u1:=(CR.out.kept KW.out).at_ 1 _ rfl;have u2:=(CR.out.kept KW.out).at_ 2 _ rfl;have u3:=(CR.out.kept KW.out).at_ 3 _ rfl;have u4:=(CR.out.kept KW.out).at_ 4 _ rfl;have u5:=(CR.out.kept KW.out).at_ 5 _ rfl;have u6:=(CR.out.kept KW.out).at_ 6 _ rfl;have u7:=(CR.out.kept KW.out).at_ 7 _ rfl;have u8:=(CR.out.kept KW.out).at_ 8 _ rfl;have u9:=(CR.out.kept KW.out).at_ 9 _ rfl;have u10:=(CR.out.kept KW.out).at_ 10 _ rfl;go_wp2_with fail
 refine(XQ r2x _).mono ?_;rintro e y11 ⟨rfl,rfl⟩;rw[hn2];obtain⟨gL,hgL⟩:∃g,y10.heap.size=g:=⟨_,rfl⟩
 obtain⟨yL,hyL⟩:∃W,y10.alloc (.cells #[.string ⟨#[98]⟩,.string ⟨#[97]⟩,.string ⟨#[99]⟩] 9)=W:=⟨_,rfl⟩
 have kk:Kept y10 yL:=by rw[←hyL];exact ja _ _
 have hsz:yL.heap.size=gL+1:=by rw[←hyL,World.size_alloc,hgL]
 have M0:=lH hsz;have CL:=lH (show jf gL [.string ⟨#[98]⟩,.string ⟨#[97]⟩,.string ⟨#[99]⟩] yL from by
  have c:=jd y10 (.string ⟨#[98]⟩) [.string ⟨#[97]⟩,.string ⟨#[99]⟩] 9 yL (by rw[hyL];exact Kept.refl _);rw[hgL] at c;exact c)
 have NY:=lH hgL;have NZ:=lH hyL;clear hgL hyL hsz;have M4:=lH (show Reads ji yL (.slice (some ⟨gL,0,none⟩) 3 3) [⟨#[98]⟩,⟨#[97]⟩,⟨#[99]⟩] from⟨_,3,rfl,(by decide:(3:Nat)≤3),(by decide:(3:Nat)≤maxLen),Y6 rfl CL.out (fun x hx=>by
  rcases List.mem_cons.1 hx with rfl | hx
  · exact(by decide:(1:Nat)≤maxLen)
  rcases List.mem_cons.1 hx with rfl | hx
  · exact(by decide:(1:Nat)≤maxLen)
  obtain rfl:=List.mem_singleton.1 hx;exact(by decide:(1:Nat)≤maxLen)) (by decide:(3:Nat)≤maxLen)⟩)
 have HV:=lH (HV.out.kept kk);have KW:=lH (KW.out.trans kk);clear kk CL;go_wp2_with fail
 rw[NZ.out];try rw[NY.out]
 refine(jiD HV.out M4.out).mono ?_;rintro e ym ⟨rfl,kk⟩;have KW:=lH (KW.out.trans kk);clear kk;go_wp2;go_ret;exact⟨rfl,K.out.trans KW.out⟩
end Go.Proofs.YtmlgobiifebjkabGreat
