/- C. -/
import Derived.Test.YtibepooajeakfaaGreatG0
import Derived.Test.YtibepooajeakfaaGreatG3
import Derived.Test.YtibepooajeakfaaGreatG9
import Derived.Test.YtibepooajeakfaaGreatG22
import Derived.Lib.OwnBridge
import Derived.Shelf.SlSortCmp.NoneTotal
set_option linter.unusedVariables false
set_option maxRecDepth 100000
set_option maxHeartbeats 25600000
namespace Go.Proofs.YtibepooajeakfaaGreat
open Go.RowKit
theorem jcQ {s:Clu} (h:jA s) (x:ByteArray):jA (Zr s x):=⟨fun n hn=>by
 obtain rfl:=List.mem_singleton.1 hn;exact jc9 h x,fun n hn=>by
 unfold Zr onP at hn;split at hn
 · cases hn
 · exact h.pods n (List.mem_filter.1 hn).1,(fun n hn=>by cases hn),(by decide:(1:Nat)≤100000),by
 unfold Zr onP;split
 · exact(by decide:(0:Nat)≤100000)
 · exact Nat.le_trans (List.length_filter_le _ _) h.podsN,(by decide:(0:Nat)≤100000)⟩
theorem jl0 (x:ByteArray) (l:List Pd):(onP x l).length≤l.length:=by
 unfold onP;split
 · exact Nat.zero_le _
 · exact List.length_filter_le _ _
theorem jhb {p:Pd} (h:Jq p) (x:ByteArray):Jq { p with node:=x }:=⟨h.need,h.labels,h.sel,h.tols⟩
theorem jkt {s:Clu} {p:Pd} (h:jA s) (hp:Jq p) (hn:s.pods.length+1≤100000):jA (Jb s p):=⟨h.nodes,fun q hq=>by
 rcases ins_mem hq with rfl | hq
 · exact hp
 · exact h.pods q (JQ hq),h.buds,h.nodesN,by
 show (Jw p (j0 p.name s.pods)).length≤100000;rw[jcn];exact Nat.le_trans (Nat.succ_le_succ (jbf _ _)) hn,h.budsN⟩
theorem jjE (s1 s2 s3:Option Addr) (n1 e1 n2 e2 n3 e3:Nat) (a1 a2 a3 a4:Option Addr) (m1 c1 m2 c2 m3 c3 m4 c4:Nat) (p:Pd) (s:Clu) (name:ByteArray) (w:World) (hs:jB w (zO (.slice s1 n1 e1) (.slice s2 n2 e2) (.slice s3 n3 e3)) s) (hl:jA s) (hb:s.pods.length+1≤100000) (hp:ji w (.slice a1 m1 c1) (.slice a2 m2 c2) (.slice a3 m3 c3) (.slice a4 m4 c4) p) (hlp:Jq p) (hx:name.size≤maxLen):Calls Tryz.prog 237 #[.agg #[.slice s1 n1 e1,.slice s2 n2 e2,.slice s3 n3 e3],jw p (.slice a1 m1 c1) (.slice a2 m2 c2) (.slice a3 m3 c3) (.slice a4 m4 c4),.string name] w (jcz (X3 s p name) w):=by
 obtain⟨Z,hZ⟩:=eX ((w.alloc (.cells #[.slice s1 n1 e1,.slice s2 n2 e2,.slice s3 n3 e3] 26)).alloc (.cells #[.string p.name,.string p.owner,.int .i64 p.prio,.slice a1 m1 c1,.slice a2 m2 c2,.slice a3 m3 c3,.slice a4 m4 c4,.string p.key,.int .i64 p.most,.string p.node,.bool p.hold] 52))
 have hkz:Kept w Z:=by rw[←hZ];exact jm _ _ _
 have hzs:Z.heap.size=w.heap.size+2:=by rw[←hZ];simp
 have hq1:=jb w (.slice s1 n1 e1) [.slice s2 n2 e2,.slice s3 n3 e3] 26 Z (by rw[←hZ];exact ja _ _);have hq2:je (w.heap.size+1) [.string p.name,.string p.owner,.int .i64 p.prio,.slice a1 m1 c1,.slice a2 m2 c2,.slice a3 m3 c3,.slice a4 m4 c4,.string p.key,.int .i64 p.most,.string p.node,.bool p.hold] Z:=by
  have dd:=jb (w.alloc (.cells #[.slice s1 n1 e1,.slice s2 n2 e2,.slice s3 n3 e3] 26)) (.string p.name) [.string p.owner,.int .i64 p.prio,.slice a1 m1 c1,.slice a2 m2 c2,.slice a3 m3 c3,.slice a4 m4 c4,.string p.key,.int .i64 p.most,.string p.node,.bool p.hold] 52 Z (by rw[hZ];exact Kept.refl _);rw[World.size_alloc] at dd;exact dd
 obtain⟨Y,hY⟩:=eX (Z.setCell ⟨w.heap.size+1,9,none⟩ (.string name))
 have hky:Kept w Y:=by rw[←hY];exact hkz.setCell (p:=⟨w.heap.size+1,9,none⟩) (by show w.heap.size≤w.heap.size+1;omega) _
 obtain⟨Vg,Vi,HS,HP,K,HL,Ud,Ta⟩:=lH8 (show je (w.heap.size+1) [.string p.name,.string p.owner,.int .i64 p.prio,.slice a1 m1 c1,.slice a2 m2 c2,.slice a3 m3 c3,.slice a4 m4 c4,.string p.key,.int .i64 p.most,.string name,.bool p.hold] Y by rw[←hY];exact hq2.set (j:=9) (u:=.string name) (by simp)) (show je w.heap.size [.slice s1 n1 e1,.slice s2 n2 e2,.slice s3 n3 e3] Y by rw[←hY];exact hq1.other (by omega)) (hs.kept hky) (show ji Y (.slice a1 m1 c1) (.slice a2 m2 c2) (.slice a3 m3 c3) (.slice a4 m4 c4) { p with node:=name } from by have h:=hp.kept hky;exact⟨h.name,h.owner,h.key,hx,h.prio,h.most,h.need,h.labels,h.sel,h.tols⟩) hky hl (jhb hlp name) hb;have HV:=lH (show X3 s p name=jbX (Jb (Zr s name) { p with node:=name }) name from rfl);have u9:=hq2.at_ 9 _ rfl;have f9:=hq2.free 9;have HF:=lH (show ∀W,Kept Y W→W.cell? ⟨w.heap.size,0,none⟩=some (.slice s1 n1 e1)∧W.cell? ⟨w.heap.size,1,none⟩=some (.slice s2 n2 e2)∧W.cell? ⟨w.heap.size,2,none⟩=some (.slice s3 n3 e3)∧W.cell? ⟨w.heap.size+1,0,none⟩=some (.string p.name)∧W.cell? ⟨w.heap.size+1,1,none⟩=some (.string p.owner)∧W.cell? ⟨w.heap.size+1,2,none⟩=some (.int .i64 p.prio)∧W.cell? ⟨w.heap.size+1,3,none⟩=some (.slice a1 m1 c1)∧W.cell? ⟨w.heap.size+1,4,none⟩=some (.slice a2 m2 c2)∧W.cell? ⟨w.heap.size+1,5,none⟩=some (.slice a3 m3 c3)∧W.cell? ⟨w.heap.size+1,6,none⟩=some (.slice a4 m4 c4)∧W.cell? ⟨w.heap.size+1,7,none⟩=some (.string p.key)∧W.cell? ⟨w.heap.size+1,8,none⟩=some (.int .i64 p.most)∧W.cell? ⟨w.heap.size+1,9,none⟩=some (.string name)∧W.cell? ⟨w.heap.size+1,10,none⟩=some (.bool p.hold) from fun W kk=>by
  have h:=Vi.out.kept kk;have q:=Vg.out.kept kk;exact⟨h.at_ 0 _ rfl,h.at_ 1 _ rfl,h.at_ 2 _ rfl,q.at_ 0 _ rfl,q.at_ 1 _ rfl,q.at_ 2 _ rfl,q.at_ 3 _ rfl,q.at_ 4 _ rfl,q.at_ 5 _ rfl,q.at_ 6 _ rfl,q.at_ 7 _ rfl,q.at_ 8 _ rfl,q.at_ 9 _ rfl,q.at_ 10 _ rfl⟩)
 clear hs hp hkz hky hl hlp hb hq1 hq2;unfold jw;go_enter Tryz.func237,Tryz.ntmps237;go_upto_region 1 with fail
 try rw[hZ]
 clear hZ;go_upto_region 2 with fail
 try rw[hY]
 clear hY u9 f9 hzs;have J:=lH (Kept.drew Y);refine wp_region_held_drew (S:=fun W=>W.cell? ⟨w.heap.size,0,none⟩=some (.slice s1 n1 e1)∧W.cell? ⟨w.heap.size,1,none⟩=some (.slice s2 n2 e2)∧W.cell? ⟨w.heap.size,2,none⟩=some (.slice s3 n3 e3)∧W.cell? ⟨w.heap.size+1,0,none⟩=some (.string p.name)∧W.cell? ⟨w.heap.size+1,1,none⟩=some (.string p.owner)∧W.cell? ⟨w.heap.size+1,2,none⟩=some (.int .i64 p.prio)∧W.cell? ⟨w.heap.size+1,3,none⟩=some (.slice a1 m1 c1)∧W.cell? ⟨w.heap.size+1,4,none⟩=some (.slice a2 m2 c2)∧W.cell? ⟨w.heap.size+1,5,none⟩=some (.slice a3 m3 c3)∧W.cell? ⟨w.heap.size+1,6,none⟩=some (.slice a4 m4 c4)∧W.cell? ⟨w.heap.size+1,7,none⟩=some (.string p.key)∧W.cell? ⟨w.heap.size+1,8,none⟩=some (.int .i64 p.most)∧W.cell? ⟨w.heap.size+1,9,none⟩=some (.string name)∧W.cell? ⟨w.heap.size+1,10,none⟩=some (.bool p.hold)) (by kernel_rfl) (HF.out _ J.out) (fun hHeld=>?_);obtain⟨wd,hwd⟩:=eX (Y.drew)
 rw[hwd] at J hHeld;try rw[hwd]
 clear hwd;refine wpAnyH_take  (i:=0) (v:=?_) (by rw[List.getElem?_toArray];exact rfl) (by kernel_rfl) (by kernel_rfl) (by kernel_rfl) (by exact fun _ _ _ h=>h) (Or.inl ⟨by rfl,(by rintro W ⟨o0,o1,o2,o3,o4,o5,o6,o7,o8,o9,o10,o11,o12,o13⟩;go_simp<;>with_reducible rfl)⟩) (by assumption) ?_;try simp only  [Act.put,List.setIfInBounds_toArray,List.set_cons_zero,List.set_cons_succ]
 refine wpAnyH_take  (i:=1) (v:=?_) (by rw[List.getElem?_toArray];exact rfl) (by kernel_rfl) (by kernel_rfl) (by kernel_rfl) (by exact fun _ _ _ h=>h) (Or.inl ⟨by rfl,(by rintro W ⟨o0,o1,o2,o3,o4,o5,o6,o7,o8,o9,o10,o11,o12,o13⟩;go_simp<;>with_reducible rfl)⟩) (by assumption) ?_;try simp only  [Act.put,List.setIfInBounds_toArray,List.set_cons_zero,List.set_cons_succ]
 refine wpAnyH_take  (i:=3) (v:=?_) (by rw[List.getElem?_toArray];exact rfl) (by kernel_rfl) (by kernel_rfl) (by kernel_rfl) (by exact fun _ _ _ h=>h) (Or.inl ⟨by rfl,(by rintro W ⟨o0,o1,o2,o3,o4,o5,o6,o7,o8,o9,o10,o11,o12,o13⟩;go_simp<;>with_reducible rfl)⟩) (by assumption) ?_;try simp only  [Act.put,List.setIfInBounds_toArray,List.set_cons_zero,List.set_cons_succ]
 refine wpAnyH_take  (i:=5) (v:=?_) (by rw[List.getElem?_toArray];exact rfl) (by kernel_rfl) (by kernel_rfl) (by kernel_rfl) (by exact fun _ _ _ h=>h) (Or.inl ⟨by rfl,(by rintro W ⟨o0,o1,o2,o3,o4,o5,o6,o7,o8,o9,o10,o11,o12,o13⟩;go_simp<;>with_reducible rfl)⟩) (by assumption) ?_;try simp only  [Act.put,List.setIfInBounds_toArray,List.set_cons_zero,List.set_cons_succ]
 refine wpAnyH_ready  (rs:=[2]) (by kernel_rfl) (by simp) (AllReadyH.cons  (by rw[List.getElem?_toArray];exact rfl) (fun K9 Ky=>?_) AllReadyH.nil);go_simp;refine(ji6 s1 s2 s3 n1 e1 n2 e2 n3 e3 s name _ (HS.out.kept J.out) HL.out).mono ?_;rintro e w1 ⟨y,rfl,hy,kk⟩;have HY:=lH hy;have J:=lH (J.out.trans kk);clear kk hy;refine Ky.out _ _ (HF.out _ J.out) (fun _=>?_);clear Ky K9;try simp only  [Act.put,List.setIfInBounds_toArray,List.set_cons_zero,List.set_cons_succ]
 refine wpAnyH_ready  (rs:=[4]) (by kernel_rfl) (by simp) (AllReadyH.cons  (by rw[List.getElem?_toArray];exact rfl) (fun K9 Ky=>?_) AllReadyH.nil);go_simp;refine(jmn HY.out (p:={ p with node:=name }) ⟨_,_,_,_,rfl,HP.out.kept J.out⟩ (jcQ HL.out name) Ud.out).mono ?_;rintro e w2 ⟨y2,rfl,hy,kk⟩;obtain⟨t1,k1,d1,t2,k2,d2,t3,k3,d3,rfl⟩:=hy.spelt;have Tm:=lH hy;have J:=lH (J.out.trans kk);clear kk hy HY;refine Ky.out _ _ (HF.out _ J.out) (fun _=>?_);clear Ky K9;try simp only  [Act.put,List.setIfInBounds_toArray,List.set_cons_zero,List.set_cons_succ]
 refine wpAnyH_ready  (rs:=[6]) (by kernel_rfl) (by simp) (AllReadyH.cons  (by rw[List.getElem?_toArray];exact rfl) (fun K9 Ky=>?_) AllReadyH.nil);go_simp;have U8:=jjn t1 t2 t3 k1 d1 k2 d2 k3 d3 _ name w2 Tm.out (jkt (jcQ HL.out name) Ud.out (by have:=Ta.out;have:(Zr s name).pods.length≤s.pods.length:=jl0 name s.pods;omega));try unfold zO at U8
 refine U8.mono ?_;rintro e w3 ⟨r,rfl,hr,hrt,kk⟩;have HR:=lH (hr.trans HV.out.symm);have J:=lH (J.out.trans kk);clear kk hr U8 Tm;refine Ky.out _ _ (HF.out _ J.out) (fun _=>?_);clear Ky K9;try simp only  [Act.put,List.setIfInBounds_toArray,List.set_cons_zero,List.set_cons_succ]
 refine wpAnyH_take  (i:=7) (v:=?_) (by rw[List.getElem?_toArray];exact rfl) (by kernel_rfl) (by kernel_rfl) (by kernel_rfl) (by exact fun _ _ _ h=>h) (Or.inl ⟨by rfl,(by rintro W ⟨o0,o1,o2,o3,o4,o5,o6,o7,o8,o9,o10,o11,o12,o13⟩;go_simp<;>with_reducible rfl)⟩) (by assumption) ?_;try simp only  [Act.put,List.setIfInBounds_toArray,List.set_cons_zero,List.set_cons_succ]
 refine wpAnyH_done (by kernel_rfl) ?_ _;go_wp2;go_ret;exact jeP HR.out hrt (K.out.trans J.out)
open Go.RowKit Go.Shelf
attribute [local go_sem] Oper.semAt_some Zk
def mkC (x:Mk):List Value:=[.string x.1,.int .i64 x.2.1,.float .f64 x.2.2]
theorem jbY (x:Mk) (u:Value) (h:u ∈ mkC x):u.oneCell'=true:=by
 have e:u=Value.string x.1∨u=Value.int .i64 x.2.1∨u=Value.float .f64 x.2.2:=by simpa [mkC] using h
 rcases e with e | e | e<;>rw[e]<;>rfl
def MkLay:Lay Mk:={ m:=3,cs:=mkC,fine:=fun x=>x.1.size≤maxLen∧x.2.2<TOP,len:=fun _=>rfl,one:=jbY,pos:=by decide }
def mk0:Mk:=(⟨#[]⟩,0,0)
def Zh (zs:List Mk) (k:Nat):List Mk:=(List.range k).map fun j=>zs[j]?.getD mk0
theorem jhI (zs:List Mk) (k:Nat):Zh zs (k+1)=Zh zs k++[zs[k]?.getD mk0]:=by simp[Zh,List.range_succ]
theorem jeY (zs:List Mk) (k:Nat):(Zh zs k).length=k:=by simp[Zh]
theorem jbL (zs:List Mk) {k:Nat} (hk:k≤zs.length):Zh zs k=zs.take k:=by
 apply List.ext_getElem
 · simp[Zh,hk]
 · intro i h1 h2;have:i<zs.length:=by simp[Zh] at h1;omega
   simp[Zh,this]
theorem jiq (zs:List Mk):Zh zs zs.length=zs:=by rw[jbL zs (Nat.le_refl _),List.take_length]
theorem jdX (F:Fence) (n:Nat) (h7:F.fn 261) (hro:F.round=none) (hn:1≤n) (l Bs n₀ b off len cap:Nat) (zs:List Mk) (hreach:len≤1000000) (hb:b<n₀) (J Jx:List Mk→World→Prop)
 (hY:∀pre x W,J pre W→pre.length<len→YieldAt F (n-1) Tryz.prog l #[.agg #[.string x.1,.int .i64 x.2.1,.float .f64 x.2.2]] W fun e W' =>
   (e=.returned (.bool true)∧J (pre++[x]) W'∧Below n₀ W W')∨(e=.returned (.bool false)∧Jx (pre++[x]) W'))
 (W:World) (hJ:AbidesFrom W.heap.size J) (hnW:n₀≤W.heap.size) (hBs:W.cell? ⟨Bs,0,none⟩=some (.slice (some ⟨b,off,none⟩) len cap))
 (hc:∀j,j<len→W.cell? ⟨b,off+j*3,none⟩=some (.string (zs[j]?.getD mk0).1)∧W.cell? ⟨b,off+j*3+1,none⟩=some (.int .i64 (zs[j]?.getD mk0).2.1)∧W.cell? ⟨b,off+j*3+2,none⟩=some (.float .f64 (zs[j]?.getD mk0).2.2)) (h0:J [] W) :
 CallsIn F n Tryz.prog 261 #[.func (.yield l) #[] #[],.pointer (some ⟨Bs,0,none⟩)] W fun e W'=>(∃v,e=.returned v) ∧
  ((∃ys,ys=Zh zs len∧J ys W')∨(∃pre,(∃k,k≤len∧pre=Zh zs k)∧Jx pre W')):=by
 refine callsIn_of_wp Tryz.func261 rfl h7 ?_ hro;simp only[Tryz.ntmps261,List.size_toArray,List.length_cons,List.length_nil,Nat.reduceAdd,Nat.reduceSub,Array.replicate_succ,Array.replicate_zero,List.push_toArray,List.append_toArray,List.nil_append,List.cons_append];gi_wp2
 gi_loopw [7] (fun i wr=>∃k:Nat,k≤len∧i=.int .i64 k∧J (Zh zs k) wr∧Below n₀ W wr∧W.heap.size≤wr.heap.size)
  (fun i _=>len-(intOf i).toNat)
 case atStart=>exact⟨0,Nat.zero_le _,rfl,h0,Below.refl _ _,Nat.le_refl _⟩
 case round =>
  obtain⟨k,hk,rfl,hJs,hnx,hsz⟩:=hrel;have hcx:k<len→wr.cell? ⟨b,off+k*3,none⟩=some (.string (zs[k]?.getD mk0).1)∧wr.cell? ⟨b,off+k*3+1,none⟩=some (.int .i64 (zs[k]?.getD mk0).2.1)∧wr.cell? ⟨b,off+k*3+2,none⟩=some (.float .f64 (zs[k]?.getD mk0).2.2):=fun h=>⟨(hnx.cell (p:=⟨b,off+k*3,none⟩) hb).trans (hc k h).1,(hnx.cell (p:=⟨b,off+k*3+1,none⟩) hb).trans (hc k h).2.1,(hnx.cell (p:=⟨b,off+k*3+2,none⟩) hb).trans (hc k h).2.2⟩
  by_cases hlt:k<len
  · obtain⟨c0,c1,c2⟩:=hcx hlt;have hus:=lH (jhI zs k);obtain⟨y,hy⟩:=eX (zs[k]?.getD mk0)
    rw[hy] at c0 c1 c2 hus;obtain⟨y1,y2,y3⟩:=y;clear hcx hy;obtain⟨w2,hw2⟩:=eX (wr.alloc (.cells #[.string y1,.int .i64 y2,.float .f64 y3] 302))
    have hJ2:J (Zh zs k) w2:=by rw[←hw2];exact hJ _ wr _ none hJs (World.grownBy_alloc _ _ none) (fun r e=>by cases e)
    have hb2:Below n₀ wr w2:=by rw[←hw2];exact(Below.refl _ wr).alloc (by have:=hnx.size;omega) _
    have hs2:W.heap.size≤w2.heap.size:=by rw[←hw2];simp;omega
    obtain⟨fn,tmps,assign,body,hyy,hR⟩:=hY _ (y1,y2,y3) w2 hJ2 (by rw[jeY];exact hlt);dsimp only at hyy;rw[←hw2] at hyy hR;have Uv:=lH hw2;clear hw2;gi_wp2
    refine hR.mono ?_;rintro e W3 (⟨rfl,hJ3,hk3⟩ | ⟨rfl,hJx3⟩)
    · rw[Uv.out] at hk3;gi_wp2
      go_roundw
      case rel=>exact⟨k+1,by omega,by simp,by rw[hus.out];exact hJ3,hnx.trans (hb2.trans hk3),Nat.le_trans hs2 hk3.size⟩
      case measure=>simp[intOf];omega
    · gi_wp2
      refine bodyPost_ret (results_none rfl _ _ _) rfl ?_;exact⟨⟨_,rfl⟩,.inr ⟨_,⟨k+1,by omega,hus.out.symm⟩,hJx3⟩⟩
  · obtain rfl:k=len:=by omega
    gi_wp2
    go_end0
    exact⟨⟨_,rfl⟩,.inl ⟨_,rfl,hJs⟩⟩
def Mks (n₀:Nat) (W:World) (sv:Value) (zs:List Mk):Prop :=
 ∃a cap,sv=.slice a zs.length cap∧(zs.length=0∨∃b off,a=some ⟨b,off,none⟩∧b<n₀∧∀j,j<zs.length→W.cell? ⟨b,off+j*3,none⟩=some (.string (zs[j]?.getD mk0).1)∧W.cell? ⟨b,off+j*3+1,none⟩=some (.int .i64 (zs[j]?.getD mk0).2.1)∧W.cell? ⟨b,off+j*3+2,none⟩=some (.float .f64 (zs[j]?.getD mk0).2.2))
theorem Mks.below {n₀:Nat} {A B:World} (h:Below n₀ A B) {sv:Value} {zs:List Mk} (hf:Mks n₀ A sv zs):Mks n₀ B sv zs:=by
 obtain⟨a,cap,e,hc⟩:=hf;refine⟨a,cap,e,hc.imp id ?_⟩;rintro ⟨b,off,ea,hb,hc⟩;exact⟨b,off,ea,hb,fun j hj=>⟨(h.cell (p:=⟨b,off+j*3,none⟩) hb).trans (hc j hj).1,(h.cell (p:=⟨b,off+j*3+1,none⟩) hb).trans (hc j hj).2.1,(h.cell (p:=⟨b,off+j*3+2,none⟩) hb).trans (hc j hj).2.2⟩⟩
theorem Reads.mks {w:World} {v:Value} {l:List Mk} (h:Reads MkLay w v l):Mks w.heap.size w v l:=by
 obtain⟨a,cap,rfl,h1,h2,h3⟩:=h;refine⟨a,cap,rfl,?_⟩;rcases Nat.eq_zero_or_pos l.length with hz | hz
 · exact .inl hz
 · rcases h3.form with h4 | ⟨b,off,rfl⟩
   · exact .inl h4
   · obtain⟨-,-,-,hb,-⟩:=h3.cells hz;refine .inr ⟨b,off,rfl,hb,fun j hj=>?_⟩;obtain⟨x,hx,-,-,-,hc⟩:=h3.cells hj;rw[hx];exact⟨hc 0 _ rfl,hc 1 _ rfl,hc 2 _ rfl⟩
theorem jbr (F:Fence) (n:Nat) (h7:F.fn 261) (hro:F.round=none) (l Bs:Nat) (a:Option Addr) (cap:Nat) (J:List Mk→World→Prop) (W:World) (hBs:W.cell? ⟨Bs,0,none⟩=some (.slice a 0 cap)) (h0:J [] W) :
 CallsIn F n Tryz.prog 261 #[.func (.yield l) #[] #[],.pointer (some ⟨Bs,0,none⟩)] W fun e W'=>(∃v,e=.returned v)∧J [] W':=by
 refine callsIn_of_wp Tryz.func261 rfl h7 ?_ hro;simp only[Tryz.ntmps261,List.size_toArray,List.length_cons,List.length_nil,Nat.reduceAdd,Nat.reduceSub,Array.replicate_succ,Array.replicate_zero,List.push_toArray,List.append_toArray,List.nil_append,List.cons_append];gi_wp2
 gi_loopw [7] (fun i wr=>i=.int .i64 0∧J [] wr) (fun _ _=>0)
 case atStart=>exact⟨rfl,h0⟩
 case round =>
  obtain⟨rfl,hJs⟩:=hrel;gi_wp2
  go_end0
  exact⟨⟨_,rfl⟩,hJs⟩
theorem jd3 (a:Option Addr) (len cap:Nat) (w:World) :
 Calls Tryz.prog 232 #[.slice a len cap] w fun e w'=>e=.returned (.func (.func 261) #[] #[.pointer (some ⟨w.heap.size,0,none⟩)])∧w.alloc (.cells #[.slice a len cap] 268)=w':=by
 go_enter Tryz.func232,Tryz.ntmps232;go_wp2;go_ret;exact⟨rfl,rfl⟩
theorem jcB (F:Fence) (n:Nat) (h7:F.fn 261) (hro:F.round=none) (hn:1≤n) (Bs n₀:Nat) (sv:Value) (zs:List Mk) (hreach:zs.length≤1000000) (w:World) (hBs:Bs<w.heap.size) (hn₀:n₀≤w.heap.size)
 (hc:w.cell? ⟨Bs,0,none⟩=some sv) (hI:Mks n₀ w sv zs) :
 SeqStopsK F n Tryz.prog 261 #[.pointer (some ⟨Bs,0,none⟩)] (fun x:Mk=>#[.agg #[.string x.1,.int .i64 x.2.1,.float .f64 x.2.2]]) (Below n₀) (fun ys=>ys=zs) (fun pre=>pre <+: zs) zs.length w:=fun l J Jx W hW hJ _ hY h0=>by
 have hc':=(hW.cell (p:=⟨Bs,0,none⟩) hBs).trans hc;obtain⟨a,cap,rfl,h3⟩:=hI.below (hW.mono hn₀);rcases h3 with hz | ⟨b,off,rfl,hb,hcs⟩
 · have hzs:zs=[]:=List.length_eq_zero_iff.1 hz;subst hzs;exact(jbr F n h7 hro l Bs a cap J W hc' h0).mono fun e W' ⟨he,hj⟩=>⟨he,.inl ⟨_,rfl,hj⟩⟩
 · refine(jdX F n h7 hro hn l Bs n₀ b off zs.length cap zs hreach hb J Jx hY W hJ (Nat.le_trans hn₀ hW.size) hc' hcs h0).mono ?_;rintro e W' ⟨he,⟨ys,rfl,hj⟩ | ⟨pre,⟨k,hk,rfl⟩,hj⟩⟩
   · exact⟨he,.inl ⟨_,jiq zs,hj⟩⟩
   · exact⟨he,.inr ⟨_,by rw[jbL zs hk];exact List.take_prefix _ _,hj⟩⟩
theorem jjo:(Tryz.prog.info? 302).map (fun i=>(i.zero,i.size,i.bytes))=some (some (.agg #[.string ByteArray.empty,.int .i64 0,.float .f64 0]),3,32):=by kernel_rfl
def jaJ (W:World) (q:Nat) (x:Mk):Prop:=W.heap[q]?=some (.cells #[.string x.1,.int .i64 x.2.1,.float .f64 x.2.2] 302 (0,0))
theorem jaJ.cells {W:World} {q:Nat} {x:Mk} (h:jaJ W q x):W.cell? ⟨q,0,none⟩=some (.string x.1)∧W.cell? ⟨q,1,none⟩=some (.int .i64 x.2.1)∧W.cell? ⟨q,2,none⟩=some (.float .f64 x.2.2) :=
 ⟨by rw[Lib.cell_of_heap h];rfl,by rw[Lib.cell_of_heap h];rfl,by rw[Lib.cell_of_heap h];rfl⟩
theorem jaJ.kept {B q:Nat} {x:Mk} {X Y:World} {row:Option Nat} (h:jaJ X q x) (hg:X.grownBy Y row) (hrow:∀r,row=some r→B≤r∧∃o:Obj,X.heap[r]?=some o∧o.isCells=false):jaJ Y q x :=
 (hg.block q (Array.getElem?_eq_some_iff.1 h).1 (fun e'=>by
   obtain⟨-,o,ho,hc⟩:=hrow q e'.symm;rw[show X.heap[q]?=_ from h] at ho;cases ho;cases hc)).trans h
theorem je5 (w:World) (x:Mk):∀j u,(mkC x)[j]?=some u→(w.alloc (.cells #[.string x.1,.int .i64 x.2.1,.float .f64 x.2.2] 302)).cell? ((⟨w.heap.size,0,none⟩:Addr).add j)=some u:=fun j u h=>by
 match j,h with
 | 0,h=>cases h;simp[Addr.add]
 | 1,h=>cases h;simp[Addr.add]
 | 2,h=>cases h;simp[Addr.add]
 | j+3,h=>cases h
def jkM (base:Nat) (W:World) (v:Value) (zs:List Mk):Prop:=W.ownsRow base 302 3 v zs.length (zs.flatMap mkC)∧(v=.slice none 0 0↔zs=[])
theorem jct (F:Fence) (n:Nat) (h3:F.fn 273) (h5:F.fn 261) (hro:F.round=none) (hn:3≤n) (Bs:Nat) (sv:Value) (xs:List Mk) (hlen:xs.length≤1000000) (w:World)
 (hBs:Bs<w.heap.size) (hcs:w.cell? ⟨Bs,0,none⟩=some sv) (hL:Mks w.heap.size w sv xs) :
 CallsIn F n Tryz.prog 273 #[.slice none 0 0,.func (.func 261) #[] #[.pointer (some ⟨Bs,0,none⟩)]] w fun e W'=>∃v,e=.returned v∧jkM w.heap.size W' v xs∧Below w.heap.size w W':=by
 have h1:1≤n:=by omega
 obtain⟨i0,hi,hz0,hz1,hz2⟩:=info_parts jjo;refine callsIn_of_wp_marks Tryz.func273 rfl h3 ?_ hro;simp only[Tryz.ntmps273,List.size_toArray,List.length_cons,List.length_nil,Nat.reduceAdd,Nat.reduceSub,Array.replicate_succ,Array.replicate_zero,List.push_toArray,List.append_toArray,List.nil_append,List.cons_append];gi_wp2
 have bO:=Boxed.new w 268 (.slice none 0 0);have hB0:Below w.heap.size w (w.alloc (.cells #[.slice none 0 0] 268)):=(Below.refl _ w).alloc (Nat.le_refl _) _
 refine wpIn_rangeFunc_ownH hro h1 (gf:=261) (lb:=#[.pointer (some ⟨Bs,0,none⟩)]) rfl h5 (enters_of Tryz.func261 (by kernel_rfl) rfl)
  (jcB F (n-1) h5 hro (by omega) Bs w.heap.size sv xs hlen _ (by simp;omega) (by simp) ((hB0.cell (p:=⟨Bs,0,none⟩) hBs).trans hcs) (hL.below hB0)) belowK_t (belowK_b (by simp)) (Below.refl _ _) (fun _=>rfl)
  (fun pre W=>(∃v,Boxed W w.heap.size 268 v∧W.ownsRow w.heap.size 302 3 v pre.length (pre.flatMap mkC)∧(v=.slice none 0 0↔pre=[]))∧Below w.heap.size w W)
  (fun _ _ _=>False)
  (OwnFrom.and (Go.Own.from (holdsRow_own w.heap.size w.heap.size 268 302 3 (fun pre=>pre.length) (fun pre=>pre.flatMap mkC) (fun pre v=>v=.slice none 0 0↔pre=[])) _) (ownFrom_below (Nat.le_refl _) (by simp)))
  (fun _ _ _ _ _ hs _ _=>hs)
  ⟨⟨_,bO,World.ownsRow_nil _ _ _ _,by simp⟩,hB0⟩
  (fun x a' W=>∃q,a'={ tmps:=#[.slice none 0 0,.func (.func 261) #[] #[.pointer (some ⟨Bs,0,none⟩)],.pointer (some ⟨w.heap.size,0,none⟩),undef,.slice none 0 0,.pointer (some ⟨q,0,none⟩),.func (.func 261) #[] #[.pointer (some ⟨Bs,0,none⟩)],.agg #[.string x.1,.int .i64 x.2.1,.float .f64 x.2.2],undef,undef,undef,undef,undef],defers:=[] }∧jaJ W q x)
  (fun x a' s X Y row hs hg hr=>by
    obtain⟨q,e,hb⟩:=hs;exact⟨q,e,hb.kept hg hr⟩) ?assign ?body ?done ?stop
 case assign =>
  rintro l pre x W K ⟨⟨v,hv,hrow,hnil⟩,hB⟩ hK;have hle:w.heap.size≤W.heap.size:=hB.size;gi_wp2
  exact hK _ _ (KeepsFrom.of_grownBy (World.grownBy_alloc W _ none) (by simp)) ((Below.refl _ W).alloc hle _) ⟨⟨v,hv.alloc _,hrow.alloc _,hnil⟩,hB.alloc hle _⟩ ⟨W.heap.size,rfl,World.alloc_heap_new W _⟩
 case body =>
  rintro l pre x a' W hwl hrl ⟨⟨v,hv,hrow,hnil⟩,hB⟩ ⟨q,rfl,hbx⟩ hlt;have hc:=hv.cell;obtain⟨e0,e1,e2⟩:=hbx.cells;gi_wp2_with (gi_at_builtin;refine wpListIn_append_own _ rfl _ _ 268 rfl w.heap.size 302 i0 (.agg #[.string ByteArray.empty,.int .i64 0,.float .f64 0]) 3 32 Tryz.underlying268 hi hz0 hz1 hz2 rfl (by decide) _ _ _ rfl (hrow.alloc _) ⟨W.heap.size,0,none⟩ 1 1 (mkC x) rfl rfl (je5 W x) (jbY x) (by unfold maxLen;omega) (by omega) (by have:=hB.size;simp;omega) ?_;intro v' w1 hown' hgrow _;obtain⟨g',cap',rfl⟩:=ownsRow_succ hown';obtain⟨hv1,hv2,hr2,hk2,hb2⟩:=hv.appended (by decide) hrow hB.size (Nat.le_refl _) hown' hgrow;have hc1:=hv1.cell;have hf1:=hv1.frozen)
  exact⟨hk2.from _,hb2,⟨_,hv2,by simpa using hr2,by simp⟩,hB.trans hb2⟩
 case done =>
  rintro D ys W hD rfl ⟨⟨v,hv,hrow,hnil⟩,hB⟩ hK;have hc:=hv.cell;gi_wp2
  refine⟨by simp,.inl ⟨_,_,rfl,run_takeDeferred hK,?_⟩⟩;exact⟨_,results_tmp rfl _ _ _,v,rfl,⟨ownsRow_putObj hrow _ hK rfl,hnil⟩,hB.trans (belowK_b (w:=w) (Nat.le_refl _) W D _ _ (by simp at hD;omega) hK rfl rfl)⟩
 case stop =>
  rintro D c pre W _ _ h _;exact h.elim
theorem jdv (Bs:Nat) (sv:Value) (xs:List Mk) (hlen:xs.length≤1000000) (w:World) (hBs:Bs<w.heap.size) (hcs:w.cell? ⟨Bs,0,none⟩=some sv) (hL:Mks w.heap.size w sv xs) :
 Calls Tryz.prog 259 #[.func (.func 261) #[] #[.pointer (some ⟨Bs,0,none⟩)]] w fun e W'=>∃v,e=.returned v∧jkM w.heap.size W' v xs∧Below w.heap.size w W':=by
 have hA:Calls Tryz.prog 273 #[.slice none 0 0,.func (.func 261) #[] #[.pointer (some ⟨Bs,0,none⟩)]] w _ :=
  callsIn_wide.1 (jct Fence.wide 3 trivial trivial rfl (by omega) Bs sv xs hlen w hBs hcs hL)
 have HC:=lH hA;clear hA hBs hcs hL;go_enter Tryz.func259,Tryz.ntmps259;go_wp2_with fail
 refine HC.out.mono ?_;rintro e w1 ⟨v,rfl,ho,hb⟩;have HO:=lH ho;have HB:=lH hb;clear ho hb;go_wp2_with fail
 go_ret;exact⟨v,rfl,HO.out,HB.out⟩
end Go.Proofs.YtibepooajeakfaaGreat
namespace Go.Proofs.YtibepooajeakfaaGreat
open Go.RowKit
theorem YC (s1 s2 s3:Option Addr) (n1 e1 n2 e2 n3 e3:Nat) (a1 a2 a3 a4:Option Addr) (m1 c1 m2 c2 m3 c3 m4 c4:Nat) (p:Pd) (s:Clu) (w:World) (hs:jB w (zO (.slice s1 n1 e1) (.slice s2 n2 e2) (.slice s3 n3 e3)) s) (hl:jA s) (hp:ji w (.slice a1 m1 c1) (.slice a2 m2 c2) (.slice a3 m3 c3) (.slice a4 m4 c4) p):Calls Tryz.prog 20 #[.agg #[.slice s1 n1 e1,.slice s2 n2 e2,.slice s3 n3 e3],jw p (.slice a1 m1 c1) (.slice a2 m2 c2) (.slice a3 m3 c3) (.slice a4 m4 c4)] w fun e w'=>∃v,e=.returned v∧Own j8 9 w' w.heap.size v (jO s p s.nodes)∧Kept w w':=by
 obtain⟨i0,hi,hz0,hz1,hz2'⟩:=info_parts jit;obtain⟨Z,hZ⟩:=eX ((w.alloc (.cells #[.slice s1 n1 e1,.slice s2 n2 e2,.slice s3 n3 e3] 26)).alloc (.cells #[.string p.name,.string p.owner,.int .i64 p.prio,.slice a1 m1 c1,.slice a2 m2 c2,.slice a3 m3 c3,.slice a4 m4 c4,.string p.key,.int .i64 p.most,.string p.node,.bool p.hold] 52))
 have hkz:Kept w Z:=by rw[←hZ];exact jm _ _ _
 have Vi:=lH (jb w (.slice s1 n1 e1) [.slice s2 n2 e2,.slice s3 n3 e3] 26 Z (by rw[←hZ];exact ja _ _));have Vg:=lH (show je (w.heap.size+1) [.string p.name,.string p.owner,.int .i64 p.prio,.slice a1 m1 c1,.slice a2 m2 c2,.slice a3 m3 c3,.slice a4 m4 c4,.string p.key,.int .i64 p.most,.string p.node,.bool p.hold] Z by
  have dd:=jb (w.alloc (.cells #[.slice s1 n1 e1,.slice s2 n2 e2,.slice s3 n3 e3] 26)) (.string p.name) [.string p.owner,.int .i64 p.prio,.slice a1 m1 c1,.slice a2 m2 c2,.slice a3 m3 c3,.slice a4 m4 c4,.string p.key,.int .i64 p.most,.string p.node,.bool p.hold] 52 Z (by rw[hZ];exact Kept.refl _);rw[World.size_alloc] at dd;exact dd)
 obtain⟨K,HS,HP,HL⟩:=lH4 hkz (hs.kept hkz) (hp.kept hkz) hl;clear hs hp hkz hl;have VP:=lH HS.out.nAt.2;have hb1:n1≤100000:=by have:=HL.out.nodesN;have:=VP.out;omega
 have HN:=lH HS.out.nAt.1;have Ue:=lH (jll s1 s2 s3 n1 e1 n2 e2 n3 e3 a1 a2 a3 a4 m1 c1 m2 c2 m3 c3 m4 c4 p s Z HS.out HL.out HP.out);unfold jw at Ue;obtain⟨y0,y1,y2⟩:=Vi.out.at3;obtain⟨r0,r1,r2,r3,r4,r5,r6,r7,r8,r9,r10⟩:=Vg.out.at11;unfold jw;go_enter Tryz.func20,Tryz.ntmps20;go_wp2_with fail
 try rw[hZ]
 clear hZ;refine Ue.out.mono ?_;rintro e w1 ⟨v9,rfl,hr,kk⟩;obtain⟨Vi,HN,K⟩:=lH3 (Vi.out.kept kk) (HN.out.kept kk) (K.out.trans kk);obtain⟨wa,wc,rfl,-,-,hrow⟩:=hr.reads;rw[jbe,←VP.out] at hrow;rw[jbe,←VP.out];have UX:=lH hrow;clear kk hrow Ue HP Vg y0 y1 y2 r0 r1 r2 r3 r4 r5 r6 r7 r8 r9 r10;go_wp2;go_loopw [5,12] (fun v i wr=>∃k:Nat,k≤n1∧i=.int .i64 k∧∃la:List ByteArray,jO s p (s.nodes.take k)=la∧Own j8 9 wr w1.heap.size v la∧Kept w1 wr) (fun _ i _=>n1-(intOf i).toNat)
 case atStart=>exact⟨0,Nat.zero_le _,rfl,[],rfl,Own.nil _ _ _,Kept.refl _⟩
 case round =>
  obtain⟨k,hk,rfl,la,hla,ho,hK⟩:=hrel;obtain⟨HX,HO,HK⟩:=lH3 hla ho hK;obtain⟨m,hm⟩:=eX (la.length)
  have hmk:m≤k:=by
   have:=jas s p (s.nodes.take k);rw[hla,hm,List.length_take] at this;omega
  have HT:=lH hm;have hbase:w1.heap.size≤wr.heap.size:=hK.size;by_cases hlt:k<n1
  · obtain⟨g,off,rfl⟩:=HN.out.form.resolve_left (by omega);obtain⟨n,b1,q1,f1,b2,q2,f2,b3,q3,f3,hn,hd,hb,u0,u1,u2,u3,u4,hat⟩:=(HN.out.kept hK).at_ hlt;obtain⟨bw,offw,rfl⟩:=UX.out.form.resolve_left (by omega);obtain⟨c,hc,-,-,cw⟩:=(UX.out.kept hK).err hlt;obtain⟨TU,UA,Tb⟩:=lH3 hat.size (jhx (s:=s) (p:=p) hn) (show Yu s p n.name=c by rw[jlA hn] at hc;exact Option.some.inj hc);have hkk:(k:Int)<(n1:Int):=by omega
    have hk0:¬(k:Int)<0:=by omega
    have y0:=(Vi.out.kept hK).at_ 0 _ rfl;clear hd hb hn hc hat hla ho hm hK;obtain⟨xn,hxn⟩:=eX (n.name)
    rw[hxn] at u0 TU UA Tb;clear hxn;by_cases h0:c=0
    · subst h0;have HV:=lH (show jO s p (s.nodes.take (k+1))=la++[xn] by rw[UA.out,HX.out,if_pos Tb.out]);have Vx:=lH (show wr.ownsRow w1.heap.size 9 1 u5 m (jd j8 la) by have:=HO.out.1;rw[HT.out] at this;exact this);go_wp2_with (at_builtin;refine wpList_append_lies _ rfl _ _ _ rfl w1.heap.size 9 i0 _ 1 16 Tryz.underlying72 hi hz0 hz1 hz2' rfl (by decide) u5 m (jd j8 la) rfl (Vx.out.alloc _) ⟨wr.heap.size,0,none⟩ 1 1 (j8.cs xn) rfl rfl (World.news_of_block (cs:=#[.string xn]) (t:=9) (fr:=(0,0)) (heap_alloc_new wr _)) (jeM xn) (by decide) (by unfold maxLen;omega) (by omega) (by simp;omega) (wr.heap.size+1) (by simp) ?_;intro gg cap1 w4 hown1 hgrow hat hlt1)
      have VL:=lH ((show Below w1.heap.size w1 _ from HK.out.trans (ja wr _)).grown hgrow (by simp;omega) (fun j hj=>(Vx.out.lt j hj).1));go_wp2;go_roundw
      case rel=>exact⟨k+1,by omega,by go_num,la++[xn],HV.out,Own.snoc hown1 (by rw[HT.out]) HO.out.2 TU.out,VL.out⟩
      case measure=>simp[intOf];omega
    · have h0b:(c==0)=false:=by simpa using h0
      have HV:=lH (show jO s p (s.nodes.take (k+1))=la by rw[UA.out,HX.out,if_neg (by rw[Tb.out];exact h0),List.append_nil]);clear h0;go_wp2;go_roundw
      case rel=>exact⟨k+1,by omega,by go_num,la,HV.out,HO.out,HK.out⟩
      case measure=>simp[intOf];omega
  · have hge:¬(k:Int)<(n1:Int):=by omega
    have HE:=lH (show jO s p s.nodes=la by rw[←hla,List.take_of_length_le (by rw[←VP.out];omega)]);clear hla ho hm hK;go_wp2;go_ret;exact⟨_,rfl,by rw[HE.out];exact HO.out.base_le K.out.size,K.out.trans HK.out⟩
attribute [local go_sem] Zk
def ZS (s:Clu) (p:Pd) (names:List ByteArray) (l:List Mk):Prop:=l.map (·.1)=names∧∀x ∈ l,x.2.1=jaF s p x.1∧nrm x.2.2=X3 s p x.1
theorem ZS.nil (s:Clu) (p:Pd):ZS s p [] []:=⟨rfl,fun x h=>by cases h⟩
theorem ZS.snoc {s:Clu} {p:Pd} {names:List ByteArray} {l:List Mk} {x:ByteArray} {m:Int} {r:Nat} (h:ZS s p names l) (hm:m=jaF s p x) (hr:nrm r=X3 s p x):ZS s p (names++[x]) (l++[(x,m,r)]):=by
 refine⟨by rw[List.map_append,h.1];rfl,fun y hy=>?_⟩;rcases List.mem_append.1 hy with hy | hy
 · exact h.2 y hy
 · obtain rfl:=List.mem_singleton.1 hy;exact⟨hm,hr⟩
theorem ZS.len {s:Clu} {p:Pd} {names:List ByteArray} {l:List Mk} (h:ZS s p names l):l.length=names.length:=by rw[←h.1,List.length_map]
theorem jja (s1 s2 s3:Option Addr) (n1 e1 n2 e2 n3 e3:Nat) (a1 a2 a3 a4:Option Addr) (m1 c1 m2 c2 m3 c3 m4 c4:Nat) (p:Pd) (s:Clu) (w:World) (hs:jB w (zO (.slice s1 n1 e1) (.slice s2 n2 e2) (.slice s3 n3 e3)) s) (hl:jA s) (hb:s.pods.length+1≤100000) (hp:ji w (.slice a1 m1 c1) (.slice a2 m2 c2) (.slice a3 m3 c3) (.slice a4 m4 c4) p) (hlp:Jq p):Calls Tryz.prog 198 #[.agg #[.slice s1 n1 e1,.slice s2 n2 e2,.slice s3 n3 e3],jw p (.slice a1 m1 c1) (.slice a2 m2 c2) (.slice a3 m3 c3) (.slice a4 m4 c4)] w fun e w'=>∃(v:Value) (l:List Mk),e=.returned v∧Reads MkLay w' v l∧ZS s p (jO s p s.nodes) l∧Kept w w':=by
 obtain⟨i0,hi,hz0,hz1,hz2'⟩:=info_parts jjo;obtain⟨Z,hZ⟩:=eX ((w.alloc (.cells #[.slice s1 n1 e1,.slice s2 n2 e2,.slice s3 n3 e3] 26)).alloc (.cells #[.string p.name,.string p.owner,.int .i64 p.prio,.slice a1 m1 c1,.slice a2 m2 c2,.slice a3 m3 c3,.slice a4 m4 c4,.string p.key,.int .i64 p.most,.string p.node,.bool p.hold] 52))
 have hkz:Kept w Z:=by rw[←hZ];exact jm _ _ _
 have Vi:=lH (jb w (.slice s1 n1 e1) [.slice s2 n2 e2,.slice s3 n3 e3] 26 Z (by rw[←hZ];exact ja _ _));have Vg:=lH (show je (w.heap.size+1) [.string p.name,.string p.owner,.int .i64 p.prio,.slice a1 m1 c1,.slice a2 m2 c2,.slice a3 m3 c3,.slice a4 m4 c4,.string p.key,.int .i64 p.most,.string p.node,.bool p.hold] Z by
  have dd:=jb (w.alloc (.cells #[.slice s1 n1 e1,.slice s2 n2 e2,.slice s3 n3 e3] 26)) (.string p.name) [.string p.owner,.int .i64 p.prio,.slice a1 m1 c1,.slice a2 m2 c2,.slice a3 m3 c3,.slice a4 m4 c4,.string p.key,.int .i64 p.most,.string p.node,.bool p.hold] 52 Z (by rw[hZ];exact Kept.refl _);rw[World.size_alloc] at dd;exact dd)
 obtain⟨K,HS,HP,HL,Ta,Ud⟩:=lH6 hkz (hs.kept hkz) (hp.kept hkz) hl hb hlp;clear hs hp hkz hl hb hlp;have HF:=lH (show ∀W,Kept Z W→W.cell? ⟨w.heap.size,0,none⟩=some (.slice s1 n1 e1)∧W.cell? ⟨w.heap.size,1,none⟩=some (.slice s2 n2 e2)∧W.cell? ⟨w.heap.size,2,none⟩=some (.slice s3 n3 e3)∧W.cell? ⟨w.heap.size+1,0,none⟩=some (.string p.name)∧W.cell? ⟨w.heap.size+1,1,none⟩=some (.string p.owner)∧W.cell? ⟨w.heap.size+1,2,none⟩=some (.int .i64 p.prio)∧W.cell? ⟨w.heap.size+1,3,none⟩=some (.slice a1 m1 c1)∧W.cell? ⟨w.heap.size+1,4,none⟩=some (.slice a2 m2 c2)∧W.cell? ⟨w.heap.size+1,5,none⟩=some (.slice a3 m3 c3)∧W.cell? ⟨w.heap.size+1,6,none⟩=some (.slice a4 m4 c4)∧W.cell? ⟨w.heap.size+1,7,none⟩=some (.string p.key)∧W.cell? ⟨w.heap.size+1,8,none⟩=some (.int .i64 p.most)∧W.cell? ⟨w.heap.size+1,9,none⟩=some (.string p.node)∧W.cell? ⟨w.heap.size+1,10,none⟩=some (.bool p.hold) from fun W kk=>by
  have h:=Vi.out.kept kk;have q:=Vg.out.kept kk;exact⟨h.at_ 0 _ rfl,h.at_ 1 _ rfl,h.at_ 2 _ rfl,q.at_ 0 _ rfl,q.at_ 1 _ rfl,q.at_ 2 _ rfl,q.at_ 3 _ rfl,q.at_ 4 _ rfl,q.at_ 5 _ rfl,q.at_ 6 _ rfl,q.at_ 7 _ rfl,q.at_ 8 _ rfl,q.at_ 9 _ rfl,q.at_ 10 _ rfl⟩)
 have TB:=lH (YC s1 s2 s3 n1 e1 n2 e2 n3 e3 a1 a2 a3 a4 m1 c1 m2 c2 m3 c3 m4 c4 p s Z HS.out HL.out HP.out);unfold jw at TB;have hfl:=jas s p s.nodes;have VP:=HL.out.nodesN;obtain⟨y0,y1,y2⟩:=Vi.out.at3;obtain⟨r0,r1,r2,r3,r4,r5,r6,r7,r8,r9,r10⟩:=Vg.out.at11;unfold jw;go_enter Tryz.func198,Tryz.ntmps198;go_wp2_with fail
 try rw[hZ]
 clear hZ;refine TB.out.mono ?_;rintro e w1 ⟨v9,rfl,hr,kk⟩;obtain⟨names,hnm⟩:=eX (jO s p s.nodes)
 rw[hnm] at hr hfl;have Rj:=lH hnm;clear hnm;obtain⟨wa,wc,rfl,-,-,hrow⟩:=hr.reads;obtain⟨n9,hn9⟩:=eX (names.length)
 rw[hn9] at hrow hfl ⊢;obtain⟨Rl,TT,UX⟩:=lH3 hr.2 hn9 hrow;have hn5:n9≤100000:=by omega
 have J1:=lH kk;clear kk hr hrow hn9 hfl VP TB y0 y1 y2 r0 r1 r2 r3 r4 r5 r6 r7 r8 r9 r10;go_wp2;go_loopw [5,7,12] (fun v _ i wr=>∃k:Nat,k≤n9∧i=.int .i64 k∧∃la:List Mk,ZS s p (names.take k) la∧Own MkLay 302 wr w1.heap.size v la∧Kept w1 wr) (fun _ _ i _=>n9-(intOf i).toNat)
 case atStart=>exact⟨0,Nat.zero_le _,rfl,[],ZS.nil _ _,Own.nil _ _ _,Kept.refl _⟩
 case round =>
  obtain⟨k,hk,rfl,la,hla,ho,hK⟩:=hrel;obtain⟨HX,HO,HK⟩:=lH3 hla ho hK;obtain⟨m,hm⟩:=eX (la.length)
  have hmk:m≤k:=by
   have:=hla.len;rw[hm,List.length_take] at this;omega
  have HT:=lH hm;have hbase:w1.heap.size≤wr.heap.size:=hK.size;by_cases hlt:k<n9
  · obtain⟨b9,o9,rfl⟩:=UX.out.form.resolve_left (by omega);obtain⟨xn,hxn,-,-,hxs,cw⟩:=(UX.out.kept hK).str hlt;have UA:=lH (show names.take (k+1)=names.take k++[xn] by rw[List.take_add_one,hxn];rfl);have UH:=lH hxs;have hkk:(k:Int)<(n9:Int):=by omega
    have hk0:¬(k:Int)<0:=by omega
    have J:=lH ((J1.out.trans hK).trans (Kept.drew wr));clear hla ho hm hxn hxs hK;go_upto_region 5 with fail
    clear cw hkk hk0;refine wp_region_held_drew (S:=fun W=>W.cell? ⟨w.heap.size,0,none⟩=some (.slice s1 n1 e1)∧W.cell? ⟨w.heap.size,1,none⟩=some (.slice s2 n2 e2)∧W.cell? ⟨w.heap.size,2,none⟩=some (.slice s3 n3 e3)∧W.cell? ⟨w.heap.size+1,0,none⟩=some (.string p.name)∧W.cell? ⟨w.heap.size+1,1,none⟩=some (.string p.owner)∧W.cell? ⟨w.heap.size+1,2,none⟩=some (.int .i64 p.prio)∧W.cell? ⟨w.heap.size+1,3,none⟩=some (.slice a1 m1 c1)∧W.cell? ⟨w.heap.size+1,4,none⟩=some (.slice a2 m2 c2)∧W.cell? ⟨w.heap.size+1,5,none⟩=some (.slice a3 m3 c3)∧W.cell? ⟨w.heap.size+1,6,none⟩=some (.slice a4 m4 c4)∧W.cell? ⟨w.heap.size+1,7,none⟩=some (.string p.key)∧W.cell? ⟨w.heap.size+1,8,none⟩=some (.int .i64 p.most)∧W.cell? ⟨w.heap.size+1,9,none⟩=some (.string p.node)∧W.cell? ⟨w.heap.size+1,10,none⟩=some (.bool p.hold)) (by kernel_rfl) (HF.out _ J.out) (fun hHeld=>?_);obtain⟨wd,hwd⟩:=eX (wr.drew)
    have JR:=lH (Kept.drew wr);rw[hwd] at J JR hHeld;try rw[hwd]
    clear hwd;refine wpAnyH_take  (i:=0) (v:=?_) (by rw[List.getElem?_toArray];exact rfl) (by kernel_rfl) (by kernel_rfl) (by kernel_rfl) (by exact fun _ _ _ h=>h) (Or.inl ⟨by rfl,(by rintro W ⟨o0,o1,o2,o3,o4,o5,o6,o7,o8,o9,o10,o11,o12,o13⟩;go_simp<;>with_reducible rfl)⟩) (by assumption) ?_;try simp only  [Act.put,List.setIfInBounds_toArray,List.set_cons_zero,List.set_cons_succ]
    refine wpAnyH_take  (i:=1) (v:=?_) (by rw[List.getElem?_toArray];exact rfl) (by kernel_rfl) (by kernel_rfl) (by kernel_rfl) (by exact fun _ _ _ h=>h) (Or.inl ⟨by rfl,(by rintro W ⟨o0,o1,o2,o3,o4,o5,o6,o7,o8,o9,o10,o11,o12,o13⟩;go_simp<;>with_reducible rfl)⟩) (by assumption) ?_;try simp only  [Act.put,List.setIfInBounds_toArray,List.set_cons_zero,List.set_cons_succ]
    refine wpAnyH_take  (i:=2) (v:=?_) (by rw[List.getElem?_toArray];exact rfl) (by kernel_rfl) (by kernel_rfl) (by kernel_rfl) (by exact fun _ _ _ h=>h) (Or.inl ⟨by rfl,(by rintro W ⟨o0,o1,o2,o3,o4,o5,o6,o7,o8,o9,o10,o11,o12,o13⟩;go_simp<;>with_reducible rfl)⟩) (by assumption) ?_;try simp only  [Act.put,List.setIfInBounds_toArray,List.set_cons_zero,List.set_cons_succ]
    refine wpAnyH_take  (i:=3) (v:=?_) (by rw[List.getElem?_toArray];exact rfl) (by kernel_rfl) (by kernel_rfl) (by kernel_rfl) (by exact fun _ _ _ h=>h) (Or.inl ⟨by rfl,(by rintro W ⟨o0,o1,o2,o3,o4,o5,o6,o7,o8,o9,o10,o11,o12,o13⟩;go_simp<;>with_reducible rfl)⟩) (by assumption) ?_;try simp only  [Act.put,List.setIfInBounds_toArray,List.set_cons_zero,List.set_cons_succ]
    refine wpAnyH_take  (i:=4) (v:=?_) (by rw[List.getElem?_toArray];exact rfl) (by kernel_rfl) (by kernel_rfl) (by kernel_rfl) (by exact fun _ _ _ h=>h) (Or.inl ⟨by rfl,(by rintro W ⟨o0,o1,o2,o3,o4,o5,o6,o7,o8,o9,o10,o11,o12,o13⟩;go_simp<;>with_reducible rfl)⟩) (by assumption) ?_;try simp only  [Act.put,List.setIfInBounds_toArray,List.set_cons_zero,List.set_cons_succ]
    refine wpAnyH_take  (i:=5) (v:=?_) (by rw[List.getElem?_toArray];exact rfl) (by kernel_rfl) (by kernel_rfl) (by kernel_rfl) (by exact fun _ _ _ h=>h) (Or.inl ⟨by rfl,(by rintro W ⟨o0,o1,o2,o3,o4,o5,o6,o7,o8,o9,o10,o11,o12,o13⟩;go_simp<;>with_reducible rfl)⟩) (by assumption) ?_;try simp only  [Act.put,List.setIfInBounds_toArray,List.set_cons_zero,List.set_cons_succ]
    refine wpAnyH_take  (i:=9) (v:=?_) (by rw[List.getElem?_toArray];exact rfl) (by kernel_rfl) (by kernel_rfl) (by kernel_rfl) (by exact fun _ _ _ h=>h) (Or.inl ⟨by rfl,(by rintro W ⟨o0,o1,o2,o3,o4,o5,o6,o7,o8,o9,o10,o11,o12,o13⟩;go_simp<;>with_reducible rfl)⟩) (by assumption) ?_;try simp only  [Act.put,List.setIfInBounds_toArray,List.set_cons_zero,List.set_cons_succ]
    refine wpAnyH_take  (i:=10) (v:=?_) (by rw[List.getElem?_toArray];exact rfl) (by kernel_rfl) (by kernel_rfl) (by kernel_rfl) (by exact fun _ _ _ h=>h) (Or.inl ⟨by rfl,(by rintro W ⟨o0,o1,o2,o3,o4,o5,o6,o7,o8,o9,o10,o11,o12,o13⟩;go_simp<;>with_reducible rfl)⟩) (by assumption) ?_;try simp only  [Act.put,List.setIfInBounds_toArray,List.set_cons_zero,List.set_cons_succ]
    refine wpAnyH_take  (i:=11) (v:=?_) (by rw[List.getElem?_toArray];exact rfl) (by kernel_rfl) (by kernel_rfl) (by kernel_rfl) (by exact fun _ _ _ h=>h) (Or.inl ⟨by rfl,(by rintro W ⟨o0,o1,o2,o3,o4,o5,o6,o7,o8,o9,o10,o11,o12,o13⟩;go_simp<;>with_reducible rfl)⟩) (by assumption) ?_;try simp only  [Act.put,List.setIfInBounds_toArray,List.set_cons_zero,List.set_cons_succ]
    refine wpAnyH_ready  (rs:=[6]) (by kernel_rfl) (by simp) (AllReadyH.cons  (by rw[List.getElem?_toArray];exact rfl) (fun K9 Ky=>?_) AllReadyH.nil);go_simp;refine(XT s1 s2 s3 n1 e1 n2 e2 n3 e3 s xn _ (HS.out.kept J.out) HL.out).mono ?_;rintro e w2 ⟨b1,k1,d1,b2,k2,d2,b3,k3,d3,rfl,hn,kk⟩;obtain⟨RV,J,JR⟩:=lH3 hn.taints (J.out.trans kk) (JR.out.trans kk);clear kk hn;unfold zC;refine Ky.out _ _ (HF.out _ J.out) (fun _=>?_);clear Ky K9;try simp only  [Act.put,List.setIfInBounds_toArray,List.set_cons_zero,List.set_cons_succ]
    have hfd:=fun W=>jlm (JC s xn).name (.slice b1 k1 d1) (.slice b2 k2 d2) (.slice b3 k3 d3) (JC s xn).cordon W;refine wpAnyH_take  (i:=7) (v:=?_) (by rw[List.getElem?_toArray];exact rfl) (by kernel_rfl) (by kernel_rfl) (by kernel_rfl) (by exact fun _ _ _ h=>h) (Or.inl ⟨by rfl,(by rintro W ⟨o0,o1,o2,o3,o4,o5,o6,o7,o8,o9,o10,o11,o12,o13⟩;go_simp<;>with_reducible rfl)⟩) (by assumption) ?_;try simp only  [Act.put,List.setIfInBounds_toArray,List.set_cons_zero,List.set_cons_succ]
    clear hfd;obtain⟨sf,hsf⟩:=eX (softN p.tols (JC s xn).taints)
    have ND:=lH (show (sf:Int)=jaF s p xn by unfold jaF;rw[hsf]);refine wpAnyH_ready  (rs:=[8]) (by kernel_rfl) (by simp) (AllReadyH.cons  (by rw[List.getElem?_toArray];exact rfl) (fun K9 Ky=>?_) AllReadyH.nil);go_simp;refine(jmC (HP.out.kept J.out).tols RV.out hsf).mono ?_;rintro e w3 ⟨rfl,kk⟩;have J:=lH (J.out.trans kk);have JR:=lH (JR.out.trans kk);clear kk hsf RV;refine Ky.out _ _ (HF.out _ J.out) (fun _=>?_);clear Ky K9;try simp only  [Act.put,List.setIfInBounds_toArray,List.set_cons_zero,List.set_cons_succ]
    refine wpAnyH_ready  (rs:=[12]) (by kernel_rfl) (by simp) (AllReadyH.cons  (by rw[List.getElem?_toArray];exact rfl) (fun K9 Ky=>?_) AllReadyH.nil);go_simp;have TP:=jjE s1 s2 s3 n1 e1 n2 e2 n3 e3 a1 a2 a3 a4 m1 c1 m2 c2 m3 c3 m4 c4 p s xn w3 (HS.out.kept J.out) HL.out Ta.out (HP.out.kept J.out) Ud.out UH.out;unfold jw at TP;refine TP.mono ?_;rintro e w4 ⟨r,rfl,hr,hrt,kk⟩;obtain⟨HR,Rh,J,JR⟩:=lH4 hr hrt (J.out.trans kk) (JR.out.trans kk);clear kk TP hr hrt;refine Ky.out _ _ (HF.out _ J.out) (fun _=>?_);clear Ky K9;try simp only  [Act.put,List.setIfInBounds_toArray,List.set_cons_zero,List.set_cons_succ]
    refine wpAnyH_take  (i:=13) (v:=?_) (by rw[List.getElem?_toArray];exact rfl) (by kernel_rfl) (by kernel_rfl) (by kernel_rfl) (by exact fun _ _ _ h=>h) (Or.inl ⟨by rfl,(by rintro W ⟨o0,o1,o2,o3,o4,o5,o6,o7,o8,o9,o10,o11,o12,o13⟩;go_simp<;>with_reducible rfl)⟩) (by assumption) ?_;try simp only  [Act.put,List.setIfInBounds_toArray,List.set_cons_zero,List.set_cons_succ]
    refine wpAnyH_ready  (rs:=[14]) (by kernel_rfl) (by simp) (AllReadyH.cons  (by rw[List.getElem?_toArray];exact rfl) (fun K9 Ky=>?_) AllReadyH.nil);go_simp;refine Ky.out _ _ (HF.out _ (J.out.trans (ja _ _))) (fun _=>?_);clear Ky K9;try simp only  [Act.put,List.setIfInBounds_toArray,List.set_cons_zero,List.set_cons_succ]
    obtain⟨w5,hw5⟩:=eX (w4.alloc (.cells #[.string xn,.int .i64 sf,.float .f64 r] 302))
    have k5:Kept w4 w5:=by rw[←hw5];exact ja _ _
    obtain⟨Uw,J,JR⟩:=lH3 (show w5.heap[w4.heap.size]?=some (.cells #[.string xn,.int .i64 sf,.float .f64 r] 302) by rw[←hw5];exact World.alloc_heap_new w4 _) (J.out.trans k5) (JR.out.trans k5);try rw[hw5]
    clear hw5 k5;have Vx:=lH (show w5.ownsRow w1.heap.size 302 3 u5 m (jd MkLay la) by have:=(HO.out.kept JR.out).1;rw[HT.out] at this;exact this);refine wpAnyH_ready  (rs:=[15]) (by kernel_rfl) (by simp) (AllReadyH.cons  (by rw[List.getElem?_toArray];exact rfl) (fun K9 Ky=>?_) AllReadyH.nil);refine step_append_lies _ (by rfl) _ _ _ (by rfl) w1.heap.size 302 i0 _ 3 32 Tryz.underlying268 hi hz0 hz1 hz2' rfl (by decide) u5 m (jd MkLay la) (by rfl) Vx.out ⟨w4.heap.size,0,none⟩ 1 1 (mkC (xn,(sf:Int),r)) (by rfl) (by rfl) (World.news_of_block (cs:=#[.string xn,.int .i64 sf,.float .f64 r]) (t:=302) (fr:=(0,0)) Uw.out) (jbY (xn,(sf:Int),r)) (by decide) (by unfold maxLen;omega) (by omega) (by have:=JR.out.size;omega) _ rfl ?_;intro gg cap1 w6 hown1 hgrow hat hlt1;have VL:=lH ((show Below w1.heap.size w1 _ from HK.out.trans JR.out).grown hgrow (by have:=JR.out.size;omega) (fun j hj=>(Vx.out.lt j hj).1));have VH:=lH hown1;have J6:=lH (show Kept Z w6 from J1.out.trans VL.out);clear hgrow hat hlt1 hown1;refine Ky.out _ _ (HF.out _ J6.out) (fun _=>?_);clear Ky K9;try simp only  [Act.put,List.setIfInBounds_toArray,List.set_cons_zero,List.set_cons_succ]
    refine wpAnyH_take  (i:=16) (v:=?_) (by rw[List.getElem?_toArray];exact rfl) (by kernel_rfl) (by kernel_rfl) (by kernel_rfl) (by exact fun _ _ _ h=>h) (Or.inl ⟨by rfl,(by rintro W ⟨o0,o1,o2,o3,o4,o5,o6,o7,o8,o9,o10,o11,o12,o13⟩;go_simp<;>with_reducible rfl)⟩) (by assumption) ?_;try simp only  [Act.put,List.setIfInBounds_toArray,List.set_cons_zero,List.set_cons_succ]
    refine wpAnyH_done (by kernel_rfl) ?_ _;go_wp2;go_roundw
    case rel=>exact⟨k+1,by omega,by go_num,la++[(xn,(sf:Int),r)],by rw[UA.out];exact HX.out.snoc ND.out HR.out,Own.snoc VH.out (by rw[HT.out]) HO.out.2 ⟨UH.out,Rh.out⟩,VL.out⟩
    case measure=>simp[intOf];omega
  · have hge:¬(k:Int)<(n9:Int):=by omega
    have HE:=lH (show ZS s p names la by have:=hla;rw[List.take_of_length_le (by rw[TT.out];omega)] at this;exact this);clear hla ho hm hK;go_wp2;go_ret;exact⟨_,rfl,la,HO.out.reads,by rw[Rj.out];exact HE.out,K.out.trans (J1.out.trans HK.out)⟩
end Go.Proofs.YtibepooajeakfaaGreat
namespace Go.Proofs.YtibepooajeakfaaGreat
open Go.RowKit
attribute [local go_sem] Zk
theorem jhB (pack:Bool) (x y:Nat) (w:World):Calls Tryz.prog 262 #[.float .f64 x,.float .f64 y,.bool pack] w fun e w'=>e=.returned (.int .i64 (cpM pack x y))∧Grw w w':=by
 cases pack with
 | true =>
  have HC:=lH (jaS y x w);have HV:=lH (show cpM true x y=cp y x from rfl);go_enter Tryz.func262,Tryz.ntmps262;go_wp2_with fail
  refine HC.out.mono ?_;rintro e w1 ⟨rfl,c,t,rfl⟩;go_wp2;go_ret;exact⟨jc HV.out.symm,Grw.alloc _ _⟩
 | false =>
  have HC:=lH (jaS x y w);have HV:=lH (show cpM false x y=cp x y from rfl);go_enter Tryz.func262,Tryz.ntmps262;go_wp2_with fail
  refine HC.out.mono ?_;rintro e w1 ⟨rfl,c,t,rfl⟩;go_wp2;go_ret;exact⟨jc HV.out.symm,Grw.alloc _ _⟩
theorem jhj (W:World) (x y z:Int) (T:TypeId) (i:Nat) (u:Int) (hi:([x,y,z]:List Int)[i]?=some u):(W.alloc (.cells #[.int .i64 x,.int .i64 y,.int .i64 z] T)).cell? ⟨W.heap.size,i,none⟩=some (.int .i64 u):=by
 refine(jb W (.int .i64 x) [.int .i64 y,.int .i64 z] T _ (Kept.refl _)).at_ i _ ?_
 match i,hi with
 | 0,h=>simpa using h
 | 1,h=>simpa using h
 | 2,h=>simpa using h
 | j+3,h=>simp at h
theorem jeG (pack:Bool) (a1 b1:ByteArray) (a2 b2:Int) (a3 b3:Nat) (w:World):Calls Tryz.prog 234 #[.agg #[.string a1,.int .i64 a2,.float .f64 a3],.agg #[.string b1,.int .i64 b2,.float .f64 b3],.bool pack] w fun e w'=>e=.returned (.int .i64 (cfM pack (a1,a2,a3) (b1,b2,b3)))∧Grw w w':=by
 obtain⟨Z,hZ⟩:=eX ((w.alloc (.cells #[.string a1,.int .i64 a2,.float .f64 a3] 302)).alloc (.cells #[.string b1,.int .i64 b2,.float .f64 b3] 302))
 have hkz:Kept w Z:=by rw[←hZ];exact jm _ _ _
 have HG:=lH (show Grw w Z by rw[←hZ];exact(Grw.alloc _ _).trans (Grw.alloc _ _));have Vi:=lH (jb w (.string a1) [.int .i64 a2,.float .f64 a3] 302 Z (by rw[←hZ];exact ja _ _));have Vg:=lH (show je (w.heap.size+1) [.string b1,.int .i64 b2,.float .f64 b3] Z by
  have dd:=jb (w.alloc (.cells #[.string a1,.int .i64 a2,.float .f64 a3] 302)) (.string b1) [.int .i64 b2,.float .f64 b3] 302 Z (by rw[hZ];exact Kept.refl _);rw[World.size_alloc] at dd;exact dd)
 have HF:=lH (show ∀W,Kept Z W→W.cell? ⟨w.heap.size,0,none⟩=some (.string a1)∧W.cell? ⟨w.heap.size,1,none⟩=some (.int .i64 a2)∧W.cell? ⟨w.heap.size,2,none⟩=some (.float .f64 a3)∧W.cell? ⟨w.heap.size+1,0,none⟩=some (.string b1)∧W.cell? ⟨w.heap.size+1,1,none⟩=some (.int .i64 b2)∧W.cell? ⟨w.heap.size+1,2,none⟩=some (.float .f64 b3) from fun W kk=>by
  have h:=Vi.out.kept kk;have q:=Vg.out.kept kk;exact⟨h.at_ 0 _ rfl,h.at_ 1 _ rfl,h.at_ 2 _ rfl,q.at_ 0 _ rfl,q.at_ 1 _ rfl,q.at_ 2 _ rfl⟩)
 obtain⟨x,hx⟩:=eX (JX a2 b2)
 obtain⟨y,hy⟩:=eX (cpM pack a3 b3)
 obtain⟨z,hz⟩:=eX (ZW a1 b1)
 have HV:=lH (show cfM pack (a1,a2,a3) (b1,b2,b3)=orL [x,y,z] by
  show (if JX a2 b2≠0 then JX a2 b2 else if cpM pack a3 b3≠0 then cpM pack a3 b3 else ZW a1 b1)=_;rw[hx,hy,hz];show _=if x≠0 then x else if y≠0 then y else if z≠0 then z else 0
  by_cases q:z=0
  · subst q;simp
  · rw[if_pos q])
 obtain⟨EI,EC,ES⟩:=lH3 (fun W=>jep a2 b2 W) (fun W=>jhB pack a3 b3 W) (fun W=>je8 a1 b1 W);rw[hx] at EI;rw[hy] at EC;rw[hz] at ES;clear hx hy hz hkz;go_enter Tryz.func234,Tryz.ntmps234;go_upto_region 1 with fail
 try rw[hZ]
 clear hZ;have J:=lH (Grw.drewN Z 1);refine wp_region_held_drew (S:=fun W=>W.cell? ⟨w.heap.size,0,none⟩=some (.string a1)∧W.cell? ⟨w.heap.size,1,none⟩=some (.int .i64 a2)∧W.cell? ⟨w.heap.size,2,none⟩=some (.float .f64 a3)∧W.cell? ⟨w.heap.size+1,0,none⟩=some (.string b1)∧W.cell? ⟨w.heap.size+1,1,none⟩=some (.int .i64 b2)∧W.cell? ⟨w.heap.size+1,2,none⟩=some (.float .f64 b3)) (by kernel_rfl) (HF.out _ J.out.kept) (fun hHeld=>?_);obtain⟨wd,hwd⟩:=eX (Z.drew)
 rw[show Z.drewN 1=wd from hwd] at J;rw[hwd] at hHeld;try rw[hwd]
 clear hwd;refine wpAnyH_take  (i:=0) (v:=?_) (by rw[List.getElem?_toArray];exact rfl) (by kernel_rfl) (by kernel_rfl) (by kernel_rfl) (by exact fun _ _ _ h=>h) (Or.inl ⟨by rfl,(by rintro W ⟨o0,o1,o2,o3,o4,o5⟩;go_simp<;>with_reducible rfl)⟩) (by assumption) ?_;try simp only  [Act.put,List.setIfInBounds_toArray,List.set_cons_zero,List.set_cons_succ]
 refine wpAnyH_take  (i:=1) (v:=?_) (by rw[List.getElem?_toArray];exact rfl) (by kernel_rfl) (by kernel_rfl) (by kernel_rfl) (by exact fun _ _ _ h=>h) (Or.inl ⟨by rfl,(by rintro W ⟨o0,o1,o2,o3,o4,o5⟩;go_simp<;>with_reducible rfl)⟩) (by assumption) ?_;try simp only  [Act.put,List.setIfInBounds_toArray,List.set_cons_zero,List.set_cons_succ]
 refine wpAnyH_take  (i:=2) (v:=?_) (by rw[List.getElem?_toArray];exact rfl) (by kernel_rfl) (by kernel_rfl) (by kernel_rfl) (by exact fun _ _ _ h=>h) (Or.inl ⟨by rfl,(by rintro W ⟨o0,o1,o2,o3,o4,o5⟩;go_simp<;>with_reducible rfl)⟩) (by assumption) ?_;try simp only  [Act.put,List.setIfInBounds_toArray,List.set_cons_zero,List.set_cons_succ]
 refine wpAnyH_take  (i:=3) (v:=?_) (by rw[List.getElem?_toArray];exact rfl) (by kernel_rfl) (by kernel_rfl) (by kernel_rfl) (by exact fun _ _ _ h=>h) (Or.inl ⟨by rfl,(by rintro W ⟨o0,o1,o2,o3,o4,o5⟩;go_simp<;>with_reducible rfl)⟩) (by assumption) ?_;try simp only  [Act.put,List.setIfInBounds_toArray,List.set_cons_zero,List.set_cons_succ]
 refine wpAnyH_take  (i:=5) (v:=?_) (by rw[List.getElem?_toArray];exact rfl) (by kernel_rfl) (by kernel_rfl) (by kernel_rfl) (by exact fun _ _ _ h=>h) (Or.inl ⟨by rfl,(by rintro W ⟨o0,o1,o2,o3,o4,o5⟩;go_simp<;>with_reducible rfl)⟩) (by assumption) ?_;try simp only  [Act.put,List.setIfInBounds_toArray,List.set_cons_zero,List.set_cons_succ]
 refine wpAnyH_take  (i:=6) (v:=?_) (by rw[List.getElem?_toArray];exact rfl) (by kernel_rfl) (by kernel_rfl) (by kernel_rfl) (by exact fun _ _ _ h=>h) (Or.inl ⟨by rfl,(by rintro W ⟨o0,o1,o2,o3,o4,o5⟩;go_simp<;>with_reducible rfl)⟩) (by assumption) ?_;try simp only  [Act.put,List.setIfInBounds_toArray,List.set_cons_zero,List.set_cons_succ]
 refine wpAnyH_take  (i:=7) (v:=?_) (by rw[List.getElem?_toArray];exact rfl) (by kernel_rfl) (by kernel_rfl) (by kernel_rfl) (by exact fun _ _ _ h=>h) (Or.inl ⟨by rfl,(by rintro W ⟨o0,o1,o2,o3,o4,o5⟩;go_simp<;>with_reducible rfl)⟩) (by assumption) ?_;try simp only  [Act.put,List.setIfInBounds_toArray,List.set_cons_zero,List.set_cons_succ]
 refine wpAnyH_take  (i:=8) (v:=?_) (by rw[List.getElem?_toArray];exact rfl) (by kernel_rfl) (by kernel_rfl) (by kernel_rfl) (by exact fun _ _ _ h=>h) (Or.inl ⟨by rfl,(by rintro W ⟨o0,o1,o2,o3,o4,o5⟩;go_simp<;>with_reducible rfl)⟩) (by assumption) ?_;try simp only  [Act.put,List.setIfInBounds_toArray,List.set_cons_zero,List.set_cons_succ]
 refine wpAnyH_take  (i:=9) (v:=?_) (by rw[List.getElem?_toArray];exact rfl) (by kernel_rfl) (by kernel_rfl) (by kernel_rfl) (by exact fun _ _ _ h=>h) (Or.inl ⟨by rfl,(by rintro W ⟨o0,o1,o2,o3,o4,o5⟩;go_simp<;>with_reducible rfl)⟩) (by assumption) ?_;try simp only  [Act.put,List.setIfInBounds_toArray,List.set_cons_zero,List.set_cons_succ]
 refine wpAnyH_take  (i:=11) (v:=?_) (by rw[List.getElem?_toArray];exact rfl) (by kernel_rfl) (by kernel_rfl) (by kernel_rfl) (by exact fun _ _ _ h=>h) (Or.inl ⟨by rfl,(by rintro W ⟨o0,o1,o2,o3,o4,o5⟩;go_simp<;>with_reducible rfl)⟩) (by assumption) ?_;try simp only  [Act.put,List.setIfInBounds_toArray,List.set_cons_zero,List.set_cons_succ]
 refine wpAnyH_take  (i:=12) (v:=?_) (by rw[List.getElem?_toArray];exact rfl) (by kernel_rfl) (by kernel_rfl) (by kernel_rfl) (by exact fun _ _ _ h=>h) (Or.inl ⟨by rfl,(by rintro W ⟨o0,o1,o2,o3,o4,o5⟩;go_simp<;>with_reducible rfl)⟩) (by assumption) ?_;try simp only  [Act.put,List.setIfInBounds_toArray,List.set_cons_zero,List.set_cons_succ]
 refine wpAnyH_take  (i:=13) (v:=?_) (by rw[List.getElem?_toArray];exact rfl) (by kernel_rfl) (by kernel_rfl) (by kernel_rfl) (by exact fun _ _ _ h=>h) (Or.inl ⟨by rfl,(by rintro W ⟨o0,o1,o2,o3,o4,o5⟩;go_simp<;>with_reducible rfl)⟩) (by assumption) ?_;try simp only  [Act.put,List.setIfInBounds_toArray,List.set_cons_zero,List.set_cons_succ]
 refine wpAnyH_take  (i:=14) (v:=?_) (by rw[List.getElem?_toArray];exact rfl) (by kernel_rfl) (by kernel_rfl) (by kernel_rfl) (by exact fun _ _ _ h=>h) (Or.inl ⟨by rfl,(by rintro W ⟨o0,o1,o2,o3,o4,o5⟩;go_simp<;>with_reducible rfl)⟩) (by assumption) ?_;try simp only  [Act.put,List.setIfInBounds_toArray,List.set_cons_zero,List.set_cons_succ]
 refine wpAnyH_ready  (rs:=[4]) (by kernel_rfl) (by simp) (AllReadyH.cons  (by rw[List.getElem?_toArray];exact rfl) (fun K9 Ky=>?_) AllReadyH.nil);go_simp;refine(EI.out _).mono ?_;rintro e w1 ⟨rfl,rfl⟩;refine Ky.out _ _ (HF.out _ J.out.kept) (fun _=>?_);clear Ky K9;try simp only  [Act.put,List.setIfInBounds_toArray,List.set_cons_zero,List.set_cons_succ]
 refine wpAnyH_ready  (rs:=[10]) (by kernel_rfl) (by simp) (AllReadyH.cons  (by rw[List.getElem?_toArray];exact rfl) (fun K9 Ky=>?_) AllReadyH.nil);go_simp;refine(EC.out _).mono ?_;rintro e w2 ⟨rfl,kk⟩;have J:=lH (J.out.trans kk);clear kk;refine Ky.out _ _ (HF.out _ J.out.kept) (fun _=>?_);clear Ky K9;try simp only  [Act.put,List.setIfInBounds_toArray,List.set_cons_zero,List.set_cons_succ]
 refine wpAnyH_ready  (rs:=[15]) (by kernel_rfl) (by simp) (AllReadyH.cons  (by rw[List.getElem?_toArray];exact rfl) (fun K9 Ky=>?_) AllReadyH.nil);go_simp;refine(ES.out _).mono ?_;rintro e w3 ⟨rfl,rfl⟩;refine Ky.out _ _ (HF.out _ J.out.kept) (fun _=>?_);clear Ky K9;try simp only  [Act.put,List.setIfInBounds_toArray,List.set_cons_zero,List.set_cons_succ]
 refine wpAnyH_ready  (rs:=[16]) (by kernel_rfl) (by simp) (AllReadyH.cons  (by rw[List.getElem?_toArray];exact rfl) (fun K9 Ky=>?_) AllReadyH.nil);go_simp;refine Ky.out _ _ (HF.out _ (J.out.trans (Grw.alloc _ _)).kept) (fun _=>?_);clear Ky K9;try simp only  [Act.put,List.setIfInBounds_toArray,List.set_cons_zero,List.set_cons_succ]
 have UJ:=lH (show Calls Tryz.prog 71 #[.slice (some ⟨w2.heap.size,0,none⟩) 3 3] (w2.alloc (.cells #[.int .i64 x,.int .i64 y,.int .i64 z] 3)) _ from jf7 w2.heap.size 3 [x,y,z] _ rfl (by decide) (jhj w2 x y z 3));obtain⟨w4,hw4⟩:=eX (w2.alloc (.cells #[.int .i64 x,.int .i64 y,.int .i64 z] 3))
 have J:=lH (show Grw Z w4 by rw[←hw4];exact J.out.trans (Grw.alloc _ _));rw[hw4] at UJ;try rw[hw4]
 clear hw4;refine wpAnyH_ready  (rs:=[17]) (by kernel_rfl) (by simp) (AllReadyH.cons  (by rw[List.getElem?_toArray];exact rfl) (fun K9 Ky=>?_) AllReadyH.nil);go_simp;refine UJ.out.mono ?_;rintro e w5 ⟨rfl,rfl⟩;refine Ky.out _ _ (HF.out _ J.out.kept) (fun _=>?_);clear Ky K9;try simp only  [Act.put,List.setIfInBounds_toArray,List.set_cons_zero,List.set_cons_succ]
 refine wpAnyH_take  (i:=18) (v:=?_) (by rw[List.getElem?_toArray];exact rfl) (by kernel_rfl) (by kernel_rfl) (by kernel_rfl) (by exact fun _ _ _ h=>h) (Or.inl ⟨by rfl,(by rintro W ⟨o0,o1,o2,o3,o4,o5⟩;go_simp<;>with_reducible rfl)⟩) (by assumption) ?_;try simp only  [Act.put,List.setIfInBounds_toArray,List.set_cons_zero,List.set_cons_succ]
 refine wpAnyH_done (by kernel_rfl) ?_ _;go_wp2;go_ret;exact⟨jc HV.out.symm,HG.out.trans J.out⟩
theorem jeV (q:Nat) (pack:Bool) (a1 b1:ByteArray) (a2 b2:Int) (a3 b3:Nat) (w:World) (hq:w.cell? ⟨q,0,none⟩=some (.bool pack)):Calls Tryz.prog 233 #[.agg #[.string a1,.int .i64 a2,.float .f64 a3],.agg #[.string b1,.int .i64 b2,.float .f64 b3],.pointer (some ⟨q,0,none⟩)] w fun e w'=>e=.returned (.int .i64 (cfM pack (a1,a2,a3) (b1,b2,b3)))∧Grw w w':=by
 obtain⟨Z,hZ⟩:=eX ((w.alloc (.cells #[.string a1,.int .i64 a2,.float .f64 a3] 302)).alloc (.cells #[.string b1,.int .i64 b2,.float .f64 b3] 302))
 have hkz:Kept w Z:=by rw[←hZ];exact jm _ _ _
 have HG:=lH (show Grw w Z by rw[←hZ];exact(Grw.alloc _ _).trans (Grw.alloc _ _));have hb1:=jb w (.string a1) [.int .i64 a2,.float .f64 a3] 302 Z (by rw[←hZ];exact ja _ _);have hb2:je (w.heap.size+1) [.string b1,.int .i64 b2,.float .f64 b3] Z:=by
  have dd:=jb (w.alloc (.cells #[.string a1,.int .i64 a2,.float .f64 a3] 302)) (.string b1) [.int .i64 b2,.float .f64 b3] 302 Z (by rw[hZ];exact Kept.refl _);rw[World.size_alloc] at dd;exact dd
 have hq2:=cell_later hkz hq;have HC:=lH (jeG pack a1 b1 a2 b2 a3 b3 Z);have y0:=hb1.at_ 0 _ rfl;have y1:=hb1.at_ 1 _ rfl;have y2:=hb1.at_ 2 _ rfl;have z0:=hb2.at_ 0 _ rfl;have z1:=hb2.at_ 1 _ rfl;have z2:=hb2.at_ 2 _ rfl;clear hb1 hb2 hq hkz;go_enter Tryz.func233,Tryz.ntmps233;go_wp2_with fail
 try rw[hZ]
 clear hZ;refine HC.out.mono ?_;rintro e w1 ⟨rfl,kk⟩;have J:=lH (HG.out.trans kk);clear kk HC y0 y1 y2 z0 z1 z2 hq2;go_wp2;go_ret;exact⟨rfl,J.out⟩
end Go.Proofs.YtibepooajeakfaaGreat
namespace Go.Proofs.YtibepooajeakfaaGreat
open Go.Shelf
def jhz:Go.Shelf.Ren:=⟨fun | 6=>260 | 15=>275 | 14=>274 | 28=>291 | 29=>292 | 20=>283 | 21=>284 | 22=>285 | 23=>286 | 24=>287 | 25=>288 | 26=>289 | 27=>290 | 46=>301 | 47=>302 | 48=>303 | 49=>304 | 50=>305 | 57=>313 | n=>n,fun | 22=>268 | 24=>302 | 25=>307 | 3=>3 | 39=>239 | 0=>0 | 53=>353 | 55=>355 | 4=>4 | 46=>347 | 45=>346 | 50=>264 | 5=>5 | 9=>9 | 66=>358 | 70=>362 | 76=>367 | 77=>368 | n=>n,fun | n=>n⟩
theorem jh2:Go.Proofs.SlLaysF0.n6 Tryz.prog jhz:={
 mixed:=by kernel_rfl
 f6:=⟨Tryz.f260.name,by decide,Tryz.func260.trans (congrArg some (by kernel_rfl))⟩
 f14:=⟨Tryz.f274.name,by decide,Tryz.func274.trans (congrArg some (by kernel_rfl))⟩
 f15:=Tryz.func275.trans (congrArg some (by kernel_rfl))
 f20:=⟨Tryz.f283.name,by decide,Tryz.func283.trans (congrArg some (by kernel_rfl))⟩
 f21:=⟨Tryz.f284.name,by decide,Tryz.func284.trans (congrArg some (by kernel_rfl))⟩
 f22:=⟨Tryz.f285.name,by decide,Tryz.func285.trans (congrArg some (by kernel_rfl))⟩
 f23:=⟨Tryz.f286.name,by decide,Tryz.func286.trans (congrArg some (by kernel_rfl))⟩
 f24:=⟨Tryz.f287.name,by decide,Tryz.func287.trans (congrArg some (by kernel_rfl))⟩
 f25:=⟨Tryz.f288.name,by decide,Tryz.func288.trans (congrArg some (by kernel_rfl))⟩
 f26:=⟨Tryz.f289.name,by decide,Tryz.func289.trans (congrArg some (by kernel_rfl))⟩
 f27:=⟨Tryz.f290.name,by decide,Tryz.func290.trans (congrArg some (by kernel_rfl))⟩
 f28:=Tryz.func291.trans (congrArg some (by kernel_rfl))
 f29:=Tryz.func292.trans (congrArg some (by kernel_rfl))
 f46:=⟨Tryz.f301.name,by decide,Tryz.func301.trans (congrArg some (by kernel_rfl))⟩
 f47:=Tryz.func302.trans (congrArg some (by kernel_rfl))
 f48:=Tryz.func303.trans (congrArg some (by kernel_rfl))
 f49:=⟨Tryz.f304.name,by decide,Tryz.func304.trans (congrArg some (by kernel_rfl))⟩
 f50:=⟨Tryz.f305.name,by decide,Tryz.func305.trans (congrArg some (by kernel_rfl))⟩
 f57:=⟨Tryz.f313.name,by decide,Tryz.func313.trans (congrArg some (by kernel_rfl))⟩
 t0:=Tryz.underlying0
 a0:=Tryz.isAgg0
 z0:=Tryz.sizeOf0
 v0:=Tryz.zeroValue0
 t3:=Tryz.underlying3
 a3:=Tryz.isAgg3
 z3:=Tryz.sizeOf3
 v3:=Tryz.zeroValue3
 t4:=Tryz.underlying4
 a4:=Tryz.isAgg4
 z4:=Tryz.sizeOf4
 v4:=Tryz.zeroValue4
 t5:=Tryz.underlying5
 a5:=Tryz.isAgg5
 z5:=Tryz.sizeOf5
 v5:=Tryz.zeroValue5
 t9:=Tryz.underlying9
 a9:=Tryz.isAgg9
 z9:=Tryz.sizeOf9
 v9:=Tryz.zeroValue9
 t22:=Tryz.underlying268
 a22:=Tryz.isAgg268
 z22:=Tryz.sizeOf268
 v22:=Tryz.zeroValue268
 t25:=Tryz.underlying307
 a25:=Tryz.isAgg307
 z25:=Tryz.sizeOf307
 v25:=Tryz.zeroValue307
 t39:=Tryz.underlying239
 a39:=Tryz.isAgg239
 z39:=Tryz.sizeOf239
 v39:=Tryz.zeroValue239
 t45:=Tryz.underlying346
 a45:=Tryz.isAgg346
 z45:=Tryz.sizeOf346
 v45:=Tryz.zeroValue346
 t46:=Tryz.underlying347
 a46:=Tryz.isAgg347
 z46:=Tryz.sizeOf347
 v46:=Tryz.zeroValue347
 t50:=Tryz.underlying264
 a50:=Tryz.isAgg264
 z50:=Tryz.sizeOf264
 v50:=Tryz.zeroValue264
 t53:=Tryz.underlying353
 a53:=Tryz.isAgg353
 z53:=Tryz.sizeOf353
 v53:=Tryz.zeroValue353
 t55:=Tryz.underlying355
 a55:=Tryz.isAgg355
 z55:=Tryz.sizeOf355
 v55:=Tryz.zeroValue355
 t66:=Tryz.underlying358
 a66:=Tryz.isAgg358
 z66:=Tryz.sizeOf358
 v66:=Tryz.zeroValue358
 t70:=Tryz.underlying362
 a70:=Tryz.isAgg362
 z70:=Tryz.sizeOf362
 v70:=Tryz.zeroValue362
 t76:=Tryz.underlying367
 a76:=Tryz.isAgg367
 z76:=Tryz.sizeOf367
 v76:=Tryz.zeroValue367
 t77:=Tryz.underlying368
 a77:=Tryz.isAgg368
 z77:=Tryz.sizeOf368
 v77:=Tryz.zeroValue368 }
end Go.Proofs.YtibepooajeakfaaGreat
