/- C. -/
import Derived.Test.YtibepooajeakfaaGreatG0
import Derived.Test.YtibepooajeakfaaGreatG2
import Derived.Test.YtibepooajeakfaaGreatG3
import Derived.Test.YtibepooajeakfaaGreatG8
import Derived.Test.YtibepooajeakfaaGreatG16
import Derived.Test.YtibepooajeakfaaGreatG18
import Derived.Lib.OwnBridge
import Derived.Shelf.SlSortCmp.NoneTotal
set_option linter.unusedVariables false
set_option maxRecDepth 100000
set_option maxHeartbeats 25600000
namespace Go.Proofs.YtibepooajeakfaaGreat
open Go.RowKit
theorem jdU {s:Clu} (h:jE s) (x:ByteArray):jE (ZS s x):=⟨fun n hn=>by
 obtain rfl:=List.mem_singleton.1 hn;exact jee h x,fun n hn=>by
 unfold ZS onP at hn;split at hn
 · cases hn
 · exact h.pods n (List.mem_filter.1 hn).1,(fun n hn=>by cases hn),(by decide:(1:Nat)≤100000),by
 unfold ZS onP;split
 · exact(by decide:(0:Nat)≤100000)
 · exact Nat.le_trans (List.length_filter_le _ _) h.podsN,(by decide:(0:Nat)≤100000)⟩
theorem jnQ (x:ByteArray) (l:List Pd):(onP x l).length≤l.length:=by
 unfold onP;split
 · exact Nat.zero_le _
 · exact List.length_filter_le _ _
theorem jh0 {p:Pd} (h:JL p) (x:ByteArray):JL { p with node:=x }:=⟨h.need,h.labels,h.sel,h.tols⟩
theorem jlO {s:Clu} {p:Pd} (h:jE s) (hp:JL p) (hn:s.pods.length+1≤100000):jE (Jv s p):=⟨h.nodes,fun q hq=>by
 rcases ins_mem hq with rfl | hq
 · exact hp
 · exact h.pods q (Zl hq),h.buds,h.nodesN,by
 show (JX p (zc p.name s.pods)).length≤100000;rw[jdz];exact Nat.le_trans (Nat.succ_le_succ (jb2 _ _)) hn,h.budsN⟩
theorem jjE (s1 s2 s3:Option Addr) (n1 e1 n2 e2 n3 e3:Nat) (a1 a2 a3 a4:Option Addr) (m1 c1 m2 c2 m3 c3 m4 c4:Nat) (p:Pd) (s:Clu) (name:ByteArray) (w:World) (hs:jC w (Jh (.slice s1 n1 e1) (.slice s2 n2 e2) (.slice s3 n3 e3)) s) (hl:jE s) (hb:s.pods.length+1≤100000) (hp:ji w (.slice a1 m1 c1) (.slice a2 m2 c2) (.slice a3 m3 c3) (.slice a4 m4 c4) p) (hlp:JL p) (hx:name.size≤maxLen):Calls Tryz.prog 237 #[.agg #[.slice s1 n1 e1,.slice s2 n2 e2,.slice s3 n3 e3],jy p (.slice a1 m1 c1) (.slice a2 m2 c2) (.slice a3 m3 c3) (.slice a4 m4 c4),.string name] w (jdA (qv s p name) w):=by
 obtain⟨Z,hZ⟩:=eX ((w.alloc (.cells #[.slice s1 n1 e1,.slice s2 n2 e2,.slice s3 n3 e3] 26)).alloc (.cells #[.string p.name,.string p.owner,.int .i64 p.prio,.slice a1 m1 c1,.slice a2 m2 c2,.slice a3 m3 c3,.slice a4 m4 c4,.string p.key,.int .i64 p.most,.string p.node,.bool p.hold] 52))
 have hkz:Kept w Z:=by rw[←hZ];exact jn _ _ _
 have hzs:Z.heap.size=w.heap.size+2:=by rw[←hZ];simp
 have hq1:=jc w (.slice s1 n1 e1) [.slice s2 n2 e2,.slice s3 n3 e3] 26 Z (by rw[←hZ];exact ja _ _);have hq2:jf (w.heap.size+1) [.string p.name,.string p.owner,.int .i64 p.prio,.slice a1 m1 c1,.slice a2 m2 c2,.slice a3 m3 c3,.slice a4 m4 c4,.string p.key,.int .i64 p.most,.string p.node,.bool p.hold] Z:=by
  have dd:=jc (w.alloc (.cells #[.slice s1 n1 e1,.slice s2 n2 e2,.slice s3 n3 e3] 26)) (.string p.name) [.string p.owner,.int .i64 p.prio,.slice a1 m1 c1,.slice a2 m2 c2,.slice a3 m3 c3,.slice a4 m4 c4,.string p.key,.int .i64 p.most,.string p.node,.bool p.hold] 52 Z (by rw[hZ];exact Kept.refl _);rw[World.size_alloc] at dd;exact dd
 obtain⟨Y,hY⟩:=eX (Z.setCell ⟨w.heap.size+1,9,none⟩ (.string name))
 have hky:Kept w Y:=by rw[←hY];exact hkz.setCell (p:=⟨w.heap.size+1,9,none⟩) (by show w.heap.size≤w.heap.size+1;omega) _
 obtain⟨Vg,Vj,HS,HP,K,HL,Ud,Tg⟩:=lH8 (show jf (w.heap.size+1) [.string p.name,.string p.owner,.int .i64 p.prio,.slice a1 m1 c1,.slice a2 m2 c2,.slice a3 m3 c3,.slice a4 m4 c4,.string p.key,.int .i64 p.most,.string name,.bool p.hold] Y by rw[←hY];exact hq2.set (j:=9) (u:=.string name) (by simp)) (show jf w.heap.size [.slice s1 n1 e1,.slice s2 n2 e2,.slice s3 n3 e3] Y by rw[←hY];exact hq1.other (by omega)) (hs.kept hky) (show ji Y (.slice a1 m1 c1) (.slice a2 m2 c2) (.slice a3 m3 c3) (.slice a4 m4 c4) { p with node:=name } from by have h:=hp.kept hky;exact⟨h.name,h.owner,h.key,hx,h.prio,h.most,h.need,h.labels,h.sel,h.tols⟩) hky hl (jh0 hlp name) hb;have HV:=lH (show qv s p name=jc1 (Jv (ZS s name) { p with node:=name }) name from rfl);have u9:=hq2.at_ 9 _ rfl;have f9:=hq2.free 9;have HF:=lH (show ∀W,Kept Y W→W.cell? ⟨w.heap.size,0,none⟩=some (.slice s1 n1 e1)∧W.cell? ⟨w.heap.size,1,none⟩=some (.slice s2 n2 e2)∧W.cell? ⟨w.heap.size,2,none⟩=some (.slice s3 n3 e3)∧W.cell? ⟨w.heap.size+1,0,none⟩=some (.string p.name)∧W.cell? ⟨w.heap.size+1,1,none⟩=some (.string p.owner)∧W.cell? ⟨w.heap.size+1,2,none⟩=some (.int .i64 p.prio)∧W.cell? ⟨w.heap.size+1,3,none⟩=some (.slice a1 m1 c1)∧W.cell? ⟨w.heap.size+1,4,none⟩=some (.slice a2 m2 c2)∧W.cell? ⟨w.heap.size+1,5,none⟩=some (.slice a3 m3 c3)∧W.cell? ⟨w.heap.size+1,6,none⟩=some (.slice a4 m4 c4)∧W.cell? ⟨w.heap.size+1,7,none⟩=some (.string p.key)∧W.cell? ⟨w.heap.size+1,8,none⟩=some (.int .i64 p.most)∧W.cell? ⟨w.heap.size+1,9,none⟩=some (.string name)∧W.cell? ⟨w.heap.size+1,10,none⟩=some (.bool p.hold) from fun W kk=>by
  have h:=Vj.out.kept kk;have q:=Vg.out.kept kk;exact⟨h.at_ 0 _ rfl,h.at_ 1 _ rfl,h.at_ 2 _ rfl,q.at_ 0 _ rfl,q.at_ 1 _ rfl,q.at_ 2 _ rfl,q.at_ 3 _ rfl,q.at_ 4 _ rfl,q.at_ 5 _ rfl,q.at_ 6 _ rfl,q.at_ 7 _ rfl,q.at_ 8 _ rfl,q.at_ 9 _ rfl,q.at_ 10 _ rfl⟩)
 clear hs hp hkz hky hl hlp hb hq1 hq2;unfold jy;go_enter Tryz.func237,Tryz.ntmps237;go_upto_region 1 with fail
 try rw[hZ]
 clear hZ;go_upto_region 2 with fail
 try rw[hY]
 clear hY u9 f9 hzs;have J:=lH (Kept.drew Y);refine wp_region_held_drew (S:=fun W=>W.cell? ⟨w.heap.size,0,none⟩=some (.slice s1 n1 e1)∧W.cell? ⟨w.heap.size,1,none⟩=some (.slice s2 n2 e2)∧W.cell? ⟨w.heap.size,2,none⟩=some (.slice s3 n3 e3)∧W.cell? ⟨w.heap.size+1,0,none⟩=some (.string p.name)∧W.cell? ⟨w.heap.size+1,1,none⟩=some (.string p.owner)∧W.cell? ⟨w.heap.size+1,2,none⟩=some (.int .i64 p.prio)∧W.cell? ⟨w.heap.size+1,3,none⟩=some (.slice a1 m1 c1)∧W.cell? ⟨w.heap.size+1,4,none⟩=some (.slice a2 m2 c2)∧W.cell? ⟨w.heap.size+1,5,none⟩=some (.slice a3 m3 c3)∧W.cell? ⟨w.heap.size+1,6,none⟩=some (.slice a4 m4 c4)∧W.cell? ⟨w.heap.size+1,7,none⟩=some (.string p.key)∧W.cell? ⟨w.heap.size+1,8,none⟩=some (.int .i64 p.most)∧W.cell? ⟨w.heap.size+1,9,none⟩=some (.string name)∧W.cell? ⟨w.heap.size+1,10,none⟩=some (.bool p.hold)) (by kernel_rfl) (HF.out _ J.out) (fun hHeld=>?_);obtain⟨wd,hwd⟩:=eX (Y.drew)
 rw[hwd] at J hHeld;try rw[hwd]
 clear hwd;refine tkI 0 ?_;refine tkI 1 ?_;refine tkI 3 ?_;refine tkI 5 ?_;try simp only[nP]
 refine rd1 2 fun K9 Ky=>?_;go_simp;refine(jkv s1 s2 s3 n1 e1 n2 e2 n3 e3 s name _ (HS.out.kept J.out) HL.out).mono ?_;rintro e w1 ⟨y,rfl,hy,kk⟩;have HY:=lH hy;have J:=lH (J.out.trans kk);clear kk hy;refine Ky.out _ _ (HF.out _ J.out) (fun _=>?_);clear Ky K9;try simp only[nP]
 refine rd1 4 fun K9 Ky=>?_;go_simp;refine(jnK HY.out (p:={ p with node:=name }) ⟨_,_,_,_,rfl,HP.out.kept J.out⟩ (jdU HL.out name) Ud.out).mono ?_;rintro e w2 ⟨y2,rfl,hy,kk⟩;obtain⟨t1,k1,d1,t2,k2,d2,t3,k3,d3,rfl⟩:=hy.spelt;have Tv:=lH hy;have J:=lH (J.out.trans kk);clear kk hy HY;refine Ky.out _ _ (HF.out _ J.out) (fun _=>?_);clear Ky K9;try simp only[nP]
 refine rd1 6 fun K9 Ky=>?_;go_simp;have Te:=jjp t1 t2 t3 k1 d1 k2 d2 k3 d3 _ name w2 Tv.out (jlO (jdU HL.out name) Ud.out (by have:=Tg.out;have:(ZS s name).pods.length≤s.pods.length:=jnQ name s.pods;omega));try unfold Jh at Te
 refine Te.mono ?_;rintro e w3 ⟨r,rfl,hr,hrt,kk⟩;have HR:=lH (hr.trans HV.out.symm);have J:=lH (J.out.trans kk);clear kk hr Te Tv;refine Ky.out _ _ (HF.out _ J.out) (fun _=>?_);clear Ky K9;try simp only[nP]
 refine tkI 7 ?_;try simp only[nP]
 refine wpAnyH_done (by kernel_rfl) ?_ _;go_wp2;go_ret;exact jfj HR.out hrt (K.out.trans J.out)
open Go.RowKit Go.Shelf
attribute [local go_sem] Oper.semAt_some ZO
def mkC (x:Mk):List Value:=[.string x.1,.int .i64 x.2.1,.float .f64 x.2.2]
theorem jdf (x:Mk) (u:Value) (h:u ∈ mkC x):u.oneCell'=true:=by
 have e:u=Value.string x.1∨u=Value.int .i64 x.2.1∨u=Value.float .f64 x.2.2:=by simpa [mkC] using h
 rcases e with e | e | e<;>rw[e]<;>rfl
def MkLay:Lay Mk:={ m:=3,cs:=mkC,fine:=fun x=>x.1.size≤maxLen∧x.2.2<TOP,len:=fun _=>rfl,one:=jdf,pos:=by decide }
def mk0:Mk:=(⟨#[]⟩,0,0)
def ZN (zs:List Mk) (k:Nat):List Mk:=(List.range k).map fun j=>zs[j]?.getD mk0
theorem jiq (zs:List Mk) (k:Nat):ZN zs (k+1)=ZN zs k++[zs[k]?.getD mk0]:=by simp[ZN,List.range_succ]
theorem jfG (zs:List Mk) (k:Nat):(ZN zs k).length=k:=by simp[ZN]
theorem jcM (zs:List Mk) {k:Nat} (hk:k≤zs.length):ZN zs k=zs.take k:=by
 apply List.ext_getElem
 · simp[ZN,hk]
 · intro i h1 h2;have:i<zs.length:=by simp[ZN] at h1;omega
   simp[ZN,this]
theorem jkq (zs:List Mk):ZN zs zs.length=zs:=by rw[jcM zs (Nat.le_refl _),List.take_length]
theorem jfr (F:Fence) (n:Nat) (h7:F.fn 261) (hro:F.round=none) (hn:1≤n) (l Bs n₀ b off len cap:Nat) (zs:List Mk) (hreach:len≤1000000) (hb:b<n₀) (J Jx:List Mk→World→Prop)
 (hY:∀pre x W,J pre W→pre.length<len→YieldAt F (n-1) Tryz.prog l #[.agg #[.string x.1,.int .i64 x.2.1,.float .f64 x.2.2]] W fun e W' =>
   (e=.returned (.bool true)∧J (pre++[x]) W'∧Below n₀ W W')∨(e=.returned (.bool false)∧Jx (pre++[x]) W'))
 (W:World) (hJ:AbidesFrom W.heap.size J) (hnW:n₀≤W.heap.size) (hBs:W.cell? ⟨Bs,0,none⟩=some (.slice (some ⟨b,off,none⟩) len cap))
 (hc:∀j,j<len→W.cell? ⟨b,off+j*3,none⟩=some (.string (zs[j]?.getD mk0).1)∧W.cell? ⟨b,off+j*3+1,none⟩=some (.int .i64 (zs[j]?.getD mk0).2.1)∧W.cell? ⟨b,off+j*3+2,none⟩=some (.float .f64 (zs[j]?.getD mk0).2.2)) (h0:J [] W) :
 CallsIn F n Tryz.prog 261 #[.func (.yield l) #[] #[],.pointer (some ⟨Bs,0,none⟩)] W fun e W'=>(∃v,e=.returned v) ∧
  ((∃ys,ys=ZN zs len∧J ys W')∨(∃pre,(∃k,k≤len∧pre=ZN zs k)∧Jx pre W')):=by
 refine callsIn_of_wp Tryz.func261 rfl h7 ?_ hro;simp only[Tryz.ntmps261,List.size_toArray,List.length_cons,List.length_nil,Nat.reduceAdd,Nat.reduceSub,Array.replicate_succ,Array.replicate_zero,List.push_toArray,List.append_toArray,List.nil_append,List.cons_append];gi_wp2
 gi_loopw [7] (fun i wr=>∃k:Nat,k≤len∧i=.int .i64 k∧J (ZN zs k) wr∧Below n₀ W wr∧W.heap.size≤wr.heap.size)
  (fun i _=>len-(intOf i).toNat)
 case atStart=>exact⟨0,Nat.zero_le _,rfl,h0,Below.refl _ _,Nat.le_refl _⟩
 case round =>
  obtain⟨k,hk,rfl,hJs,hnx,hsz⟩:=hrel;have hcx:k<len→wr.cell? ⟨b,off+k*3,none⟩=some (.string (zs[k]?.getD mk0).1)∧wr.cell? ⟨b,off+k*3+1,none⟩=some (.int .i64 (zs[k]?.getD mk0).2.1)∧wr.cell? ⟨b,off+k*3+2,none⟩=some (.float .f64 (zs[k]?.getD mk0).2.2):=fun h=>⟨(hnx.cell (p:=⟨b,off+k*3,none⟩) hb).trans (hc k h).1,(hnx.cell (p:=⟨b,off+k*3+1,none⟩) hb).trans (hc k h).2.1,(hnx.cell (p:=⟨b,off+k*3+2,none⟩) hb).trans (hc k h).2.2⟩
  by_cases hlt:k<len
  · obtain⟨c0,c1,c2⟩:=hcx hlt;have hus:=lH (jiq zs k);obtain⟨y,hy⟩:=eX (zs[k]?.getD mk0)
    rw[hy] at c0 c1 c2 hus;obtain⟨y1,y2,y3⟩:=y;clear hcx hy;obtain⟨w2,hw2⟩:=eX (wr.alloc (.cells #[.string y1,.int .i64 y2,.float .f64 y3] 302))
    have hJ2:J (ZN zs k) w2:=by rw[←hw2];exact hJ _ wr _ none hJs (World.grownBy_alloc _ _ none) (fun r e=>by cases e)
    have hb2:Below n₀ wr w2:=by rw[←hw2];exact(Below.refl _ wr).alloc (by have:=hnx.size;omega) _
    have hs2:W.heap.size≤w2.heap.size:=by rw[←hw2];simp;omega
    obtain⟨fn,tmps,assign,body,hyy,hR⟩:=hY _ (y1,y2,y3) w2 hJ2 (by rw[jfG];exact hlt);dsimp only at hyy;rw[←hw2] at hyy hR;have UB:=lH hw2;clear hw2;gi_wp2
    refine hR.mono ?_;rintro e W3 (⟨rfl,hJ3,hk3⟩ | ⟨rfl,hJx3⟩)
    · rw[UB.out] at hk3;gi_wp2
      go_roundw
      case rel=>exact⟨k+1,by omega,by simp,by rw[hus.out];exact hJ3,hnx.trans (hb2.trans hk3),Nat.le_trans hs2 hk3.size⟩
      case measure=>simp[intOf];omega
    · gi_wp2
      refine bodyPost_ret (results_none rfl _ _ _) rfl ?_;exact⟨⟨_,rfl⟩,.inr ⟨_,⟨k+1,by omega,hus.out.symm⟩,hJx3⟩⟩
  · obtain rfl:k=len:=by omega
    gi_wp2
    go_end0
    exact⟨⟨_,rfl⟩,.inl ⟨_,rfl,hJs⟩⟩
def Mks (n₀:Nat) (W:World) (sv:Value) (zs:List Mk):Prop :=
 ∃a cap,sv=.slice a zs.length cap∧(zs.length=0∨∃b off,a=some ⟨b,off,none⟩∧b<n₀∧∀j,j<zs.length→W.cell? ⟨b,off+j*3,none⟩=some (.string (zs[j]?.getD mk0).1)∧W.cell? ⟨b,off+j*3+1,none⟩=some (.int .i64 (zs[j]?.getD mk0).2.1)∧W.cell? ⟨b,off+j*3+2,none⟩=some (.float .f64 (zs[j]?.getD mk0).2.2))
theorem Mks.below {n₀:Nat} {A B:World} (h:Below n₀ A B) {sv:Value} {zs:List Mk} (hf:Mks n₀ A sv zs):Mks n₀ B sv zs:=by
 obtain⟨a,cap,e,hc⟩:=hf;refine⟨a,cap,e,hc.imp id ?_⟩;rintro ⟨b,off,ea,hb,hc⟩;exact⟨b,off,ea,hb,fun j hj=>⟨(h.cell (p:=⟨b,off+j*3,none⟩) hb).trans (hc j hj).1,(h.cell (p:=⟨b,off+j*3+1,none⟩) hb).trans (hc j hj).2.1,(h.cell (p:=⟨b,off+j*3+2,none⟩) hb).trans (hc j hj).2.2⟩⟩
theorem Reads.mks {w:World} {v:Value} {l:List Mk} (h:Reads MkLay w v l):Mks w.heap.size w v l:=by
 obtain⟨a,cap,rfl,h1,h2,h3⟩:=h;refine⟨a,cap,rfl,?_⟩;rcases Nat.eq_zero_or_pos l.length with hz | hz
 · exact .inl hz
 · rcases h3.form with h4 | ⟨b,off,rfl⟩
   · exact .inl h4
   · obtain⟨-,-,-,hb,-⟩:=h3.cells hz;refine .inr ⟨b,off,rfl,hb,fun j hj=>?_⟩;obtain⟨x,hx,-,-,-,hc⟩:=h3.cells hj;rw[hx];exact⟨hc 0 _ rfl,hc 1 _ rfl,hc 2 _ rfl⟩
theorem jb7 (F:Fence) (n:Nat) (h7:F.fn 261) (hro:F.round=none) (l Bs:Nat) (a:Option Addr) (cap:Nat) (J:List Mk→World→Prop) (W:World) (hBs:W.cell? ⟨Bs,0,none⟩=some (.slice a 0 cap)) (h0:J [] W) :
 CallsIn F n Tryz.prog 261 #[.func (.yield l) #[] #[],.pointer (some ⟨Bs,0,none⟩)] W fun e W'=>(∃v,e=.returned v)∧J [] W':=by
 refine callsIn_of_wp Tryz.func261 rfl h7 ?_ hro;simp only[Tryz.ntmps261,List.size_toArray,List.length_cons,List.length_nil,Nat.reduceAdd,Nat.reduceSub,Array.replicate_succ,Array.replicate_zero,List.push_toArray,List.append_toArray,List.nil_append,List.cons_append];gi_wp2
 gi_loopw [7] (fun i wr=>i=.int .i64 0∧J [] wr) (fun _ _=>0)
 case atStart=>exact⟨rfl,h0⟩
 case round =>
  obtain⟨rfl,hJs⟩:=hrel;gi_wp2
  go_end0
  exact⟨⟨_,rfl⟩,hJs⟩
theorem jf1 (a:Option Addr) (len cap:Nat) (w:World) :
 Calls Tryz.prog 232 #[.slice a len cap] w fun e w'=>e=.returned (.func (.func 261) #[] #[.pointer (some ⟨w.heap.size,0,none⟩)])∧w.alloc (.cells #[.slice a len cap] 268)=w':=by
 go_enter Tryz.func232,Tryz.ntmps232;go_wp2;go_ret;exact⟨rfl,rfl⟩
theorem jdn (F:Fence) (n:Nat) (h7:F.fn 261) (hro:F.round=none) (hn:1≤n) (Bs n₀:Nat) (sv:Value) (zs:List Mk) (hreach:zs.length≤1000000) (w:World) (hBs:Bs<w.heap.size) (hn₀:n₀≤w.heap.size)
 (hc:w.cell? ⟨Bs,0,none⟩=some sv) (hI:Mks n₀ w sv zs) :
 SeqStopsK F n Tryz.prog 261 #[.pointer (some ⟨Bs,0,none⟩)] (fun x:Mk=>#[.agg #[.string x.1,.int .i64 x.2.1,.float .f64 x.2.2]]) (Below n₀) (fun ys=>ys=zs) (fun pre=>pre <+: zs) zs.length w:=fun l J Jx W hW hJ _ hY h0=>by
 have hc':=(hW.cell (p:=⟨Bs,0,none⟩) hBs).trans hc;obtain⟨a,cap,rfl,h3⟩:=hI.below (hW.mono hn₀);rcases h3 with hz | ⟨b,off,rfl,hb,hcs⟩
 · have hzs:zs=[]:=List.length_eq_zero_iff.1 hz;subst hzs;exact(jb7 F n h7 hro l Bs a cap J W hc' h0).mono fun e W' ⟨he,hj⟩=>⟨he,.inl ⟨_,rfl,hj⟩⟩
 · refine(jfr F n h7 hro hn l Bs n₀ b off zs.length cap zs hreach hb J Jx hY W hJ (Nat.le_trans hn₀ hW.size) hc' hcs h0).mono ?_;rintro e W' ⟨he,⟨ys,rfl,hj⟩ | ⟨pre,⟨k,hk,rfl⟩,hj⟩⟩
   · exact⟨he,.inl ⟨_,jkq zs,hj⟩⟩
   · exact⟨he,.inr ⟨_,by rw[jcM zs hk];exact List.take_prefix _ _,hj⟩⟩
theorem jkA:(Tryz.prog.info? 302).map (fun i=>(i.zero,i.size,i.bytes))=some (some (.agg #[.string ByteArray.empty,.int .i64 0,.float .f64 0]),3,32):=by kernel_rfl
def jbu (W:World) (q:Nat) (x:Mk):Prop:=W.heap[q]?=some (.cells #[.string x.1,.int .i64 x.2.1,.float .f64 x.2.2] 302 (0,0))
theorem jbu.cells {W:World} {q:Nat} {x:Mk} (h:jbu W q x):W.cell? ⟨q,0,none⟩=some (.string x.1)∧W.cell? ⟨q,1,none⟩=some (.int .i64 x.2.1)∧W.cell? ⟨q,2,none⟩=some (.float .f64 x.2.2) :=
 ⟨by rw[Lib.cell_of_heap h];rfl,by rw[Lib.cell_of_heap h];rfl,by rw[Lib.cell_of_heap h];rfl⟩
theorem jbu.kept {B q:Nat} {x:Mk} {X Y:World} {row:Option Nat} (h:jbu X q x) (hg:X.grownBy Y row) (hrow:∀r,row=some r→B≤r∧∃o:Obj,X.heap[r]?=some o∧o.isCells=false):jbu Y q x :=
 (hg.block q (Array.getElem?_eq_some_iff.1 h).1 (fun e'=>by
   obtain⟨-,o,ho,hc⟩:=hrow q e'.symm;rw[show X.heap[q]?=_ from h] at ho;cases ho;cases hc)).trans h
theorem jgq (w:World) (x:Mk):∀j u,(mkC x)[j]?=some u→(w.alloc (.cells #[.string x.1,.int .i64 x.2.1,.float .f64 x.2.2] 302)).cell? ((⟨w.heap.size,0,none⟩:Addr).add j)=some u:=fun j u h=>by
 match j,h with
 | 0,h=>cases h;simp[Addr.add]
 | 1,h=>cases h;simp[Addr.add]
 | 2,h=>cases h;simp[Addr.add]
 | j+3,h=>cases h
def jmd (base:Nat) (W:World) (v:Value) (zs:List Mk):Prop:=W.ownsRow base 302 3 v zs.length (zs.flatMap mkC)∧(v=.slice none 0 0↔zs=[])
theorem jdx (F:Fence) (n:Nat) (h3:F.fn 273) (h5:F.fn 261) (hro:F.round=none) (hn:3≤n) (Bs:Nat) (sv:Value) (xs:List Mk) (hlen:xs.length≤1000000) (w:World)
 (hBs:Bs<w.heap.size) (hcs:w.cell? ⟨Bs,0,none⟩=some sv) (hL:Mks w.heap.size w sv xs) :
 CallsIn F n Tryz.prog 273 #[.slice none 0 0,.func (.func 261) #[] #[.pointer (some ⟨Bs,0,none⟩)]] w fun e W'=>∃v,e=.returned v∧jmd w.heap.size W' v xs∧Below w.heap.size w W':=by
 have h1:1≤n:=by omega
 obtain⟨i0,hi,hz0,hz1,hz2⟩:=info_parts jkA;refine callsIn_of_wp_marks Tryz.func273 rfl h3 ?_ hro;simp only[Tryz.ntmps273,List.size_toArray,List.length_cons,List.length_nil,Nat.reduceAdd,Nat.reduceSub,Array.replicate_succ,Array.replicate_zero,List.push_toArray,List.append_toArray,List.nil_append,List.cons_append];gi_wp2
 have bO:=Boxed.new w 268 (.slice none 0 0);have hB0:Below w.heap.size w (w.alloc (.cells #[.slice none 0 0] 268)):=(Below.refl _ w).alloc (Nat.le_refl _) _
 refine wpIn_rangeFunc_ownH hro h1 (gf:=261) (lb:=#[.pointer (some ⟨Bs,0,none⟩)]) rfl h5 (enters_of Tryz.func261 (by kernel_rfl) rfl)
  (jdn F (n-1) h5 hro (by omega) Bs w.heap.size sv xs hlen _ (by simp;omega) (by simp) ((hB0.cell (p:=⟨Bs,0,none⟩) hBs).trans hcs) (hL.below hB0)) belowK_t (belowK_b (by simp)) (Below.refl _ _) (fun _=>rfl)
  (fun pre W=>(∃v,Boxed W w.heap.size 268 v∧W.ownsRow w.heap.size 302 3 v pre.length (pre.flatMap mkC)∧(v=.slice none 0 0↔pre=[]))∧Below w.heap.size w W)
  (fun _ _ _=>False)
  (OwnFrom.and (Go.Own.from (holdsRow_own w.heap.size w.heap.size 268 302 3 (fun pre=>pre.length) (fun pre=>pre.flatMap mkC) (fun pre v=>v=.slice none 0 0↔pre=[])) _) (ownFrom_below (Nat.le_refl _) (by simp)))
  (fun _ _ _ _ _ hs _ _=>hs)
  ⟨⟨_,bO,World.ownsRow_nil _ _ _ _,by simp⟩,hB0⟩
  (fun x a' W=>∃q,a'={ tmps:=#[.slice none 0 0,.func (.func 261) #[] #[.pointer (some ⟨Bs,0,none⟩)],.pointer (some ⟨w.heap.size,0,none⟩),undef,.slice none 0 0,.pointer (some ⟨q,0,none⟩),.func (.func 261) #[] #[.pointer (some ⟨Bs,0,none⟩)],.agg #[.string x.1,.int .i64 x.2.1,.float .f64 x.2.2],undef,undef,undef,undef,undef],defers:=[] }∧jbu W q x)
  (fun x a' s X Y row hs hg hr=>by
    obtain⟨q,e,hb⟩:=hs;exact⟨q,e,hb.kept hg hr⟩) ?assign ?body ?done ?stop
 case assign =>
  rintro l pre x W K ⟨⟨v,hv,hrow,hnil⟩,hB⟩ hK;have hle:w.heap.size≤W.heap.size:=hB.size;gi_wp2
  exact hK _ _ (KeepsFrom.of_grownBy (World.grownBy_alloc W _ none) (by simp)) ((Below.refl _ W).alloc hle _) ⟨⟨v,hv.alloc _,hrow.alloc _,hnil⟩,hB.alloc hle _⟩ ⟨W.heap.size,rfl,World.alloc_heap_new W _⟩
 case body =>
  rintro l pre x a' W hwl hrl ⟨⟨v,hv,hrow,hnil⟩,hB⟩ ⟨q,rfl,hbx⟩ hlt;have hc:=hv.cell;obtain⟨e0,e1,e2⟩:=hbx.cells;gi_wp2_with (gi_at_builtin;refine wpListIn_append_own _ rfl _ _ 268 rfl w.heap.size 302 i0 (.agg #[.string ByteArray.empty,.int .i64 0,.float .f64 0]) 3 32 Tryz.underlying268 hi hz0 hz1 hz2 rfl (by decide) _ _ _ rfl (hrow.alloc _) ⟨W.heap.size,0,none⟩ 1 1 (mkC x) rfl rfl (jgq W x) (jdf x) (by unfold maxLen;omega) (by omega) (by have:=hB.size;simp;omega) ?_;intro v' w1 hown' hgrow _;obtain⟨g',cap',rfl⟩:=ownsRow_succ hown';obtain⟨hv1,hv2,hr2,hk2,hb2⟩:=hv.appended (by decide) hrow hB.size (Nat.le_refl _) hown' hgrow;have hc1:=hv1.cell;have hf1:=hv1.frozen)
  exact⟨hk2.from _,hb2,⟨_,hv2,by simpa using hr2,by simp⟩,hB.trans hb2⟩
 case done =>
  rintro D ys W hD rfl ⟨⟨v,hv,hrow,hnil⟩,hB⟩ hK;have hc:=hv.cell;gi_wp2
  refine⟨by simp,.inl ⟨_,_,rfl,run_takeDeferred hK,?_⟩⟩;exact⟨_,results_tmp rfl _ _ _,v,rfl,⟨ownsRow_putObj hrow _ hK rfl,hnil⟩,hB.trans (belowK_b (w:=w) (Nat.le_refl _) W D _ _ (by simp at hD;omega) hK rfl rfl)⟩
 case stop =>
  rintro D c pre W _ _ h _;exact h.elim
theorem jeG (Bs:Nat) (sv:Value) (xs:List Mk) (hlen:xs.length≤1000000) (w:World) (hBs:Bs<w.heap.size) (hcs:w.cell? ⟨Bs,0,none⟩=some sv) (hL:Mks w.heap.size w sv xs) :
 Calls Tryz.prog 259 #[.func (.func 261) #[] #[.pointer (some ⟨Bs,0,none⟩)]] w fun e W'=>∃v,e=.returned v∧jmd w.heap.size W' v xs∧Below w.heap.size w W':=by
 have hA:Calls Tryz.prog 273 #[.slice none 0 0,.func (.func 261) #[] #[.pointer (some ⟨Bs,0,none⟩)]] w _ :=
  callsIn_wide.1 (jdx Fence.wide 3 trivial trivial rfl (by omega) Bs sv xs hlen w hBs hcs hL)
 have HC:=lH hA;clear hA hBs hcs hL;go_enter Tryz.func259,Tryz.ntmps259;go_wp2_with fail
 refine HC.out.mono ?_;rintro e w1 ⟨v,rfl,ho,hb⟩;have HO:=lH ho;have HB:=lH hb;clear ho hb;go_wp2_with fail
 go_ret;exact⟨v,rfl,HO.out,HB.out⟩
end Go.Proofs.YtibepooajeakfaaGreat
namespace Go.Proofs.YtibepooajeakfaaGreat
open Go.RowKit
theorem jch (s1 s2 s3:Option Addr) (n1 e1 n2 e2 n3 e3:Nat) (a1 a2 a3 a4:Option Addr) (m1 c1 m2 c2 m3 c3 m4 c4:Nat) (p:Pd) (s:Clu) (w:World) (hs:jC w (Jh (.slice s1 n1 e1) (.slice s2 n2 e2) (.slice s3 n3 e3)) s) (hl:jE s) (hp:ji w (.slice a1 m1 c1) (.slice a2 m2 c2) (.slice a3 m3 c3) (.slice a4 m4 c4) p):Calls Tryz.prog 20 #[.agg #[.slice s1 n1 e1,.slice s2 n2 e2,.slice s3 n3 e3],jy p (.slice a1 m1 c1) (.slice a2 m2 c2) (.slice a3 m3 c3) (.slice a4 m4 c4)] w fun e w'=>∃v,e=.returned v∧Own zu 9 w' w.heap.size v (zN s p s.nodes)∧Kept w w':=by
 obtain⟨i0,hi,hz0,hz1,hz2'⟩:=info_parts jj2;obtain⟨Z,hZ⟩:=eX ((w.alloc (.cells #[.slice s1 n1 e1,.slice s2 n2 e2,.slice s3 n3 e3] 26)).alloc (.cells #[.string p.name,.string p.owner,.int .i64 p.prio,.slice a1 m1 c1,.slice a2 m2 c2,.slice a3 m3 c3,.slice a4 m4 c4,.string p.key,.int .i64 p.most,.string p.node,.bool p.hold] 52))
 have hkz:Kept w Z:=by rw[←hZ];exact jn _ _ _
 have Vj:=lH (jc w (.slice s1 n1 e1) [.slice s2 n2 e2,.slice s3 n3 e3] 26 Z (by rw[←hZ];exact ja _ _));have Vg:=lH (show jf (w.heap.size+1) [.string p.name,.string p.owner,.int .i64 p.prio,.slice a1 m1 c1,.slice a2 m2 c2,.slice a3 m3 c3,.slice a4 m4 c4,.string p.key,.int .i64 p.most,.string p.node,.bool p.hold] Z by
  have dd:=jc (w.alloc (.cells #[.slice s1 n1 e1,.slice s2 n2 e2,.slice s3 n3 e3] 26)) (.string p.name) [.string p.owner,.int .i64 p.prio,.slice a1 m1 c1,.slice a2 m2 c2,.slice a3 m3 c3,.slice a4 m4 c4,.string p.key,.int .i64 p.most,.string p.node,.bool p.hold] 52 Z (by rw[hZ];exact Kept.refl _);rw[World.size_alloc] at dd;exact dd)
 obtain⟨K,HS,HP,HL⟩:=lH4 hkz (hs.kept hkz) (hp.kept hkz) hl;clear hs hp hkz hl;have VR:=lH HS.out.nAt.2;have hb1:n1≤100000:=by have:=HL.out.nodesN;have:=VR.out;omega
 have HN:=lH HS.out.nAt.1;have Un:=lH (jnb s1 s2 s3 n1 e1 n2 e2 n3 e3 a1 a2 a3 a4 m1 c1 m2 c2 m3 c3 m4 c4 p s Z HS.out HL.out HP.out);unfold jy at Un;obtain⟨y0,y1,y2⟩:=Vj.out.at3;obtain⟨r0,r1,r2,r3,r4,r5,r6,r7,r8,r9,r10⟩:=Vg.out.at11;unfold jy;go_enter Tryz.func20,Tryz.ntmps20;go_wp2_with fail
 try rw[hZ]
 clear hZ;refine Un.out.mono ?_;rintro e w1 ⟨v9,rfl,hr,kk⟩;obtain⟨Vj,HN,K⟩:=lH3 (Vj.out.kept kk) (HN.out.kept kk) (K.out.trans kk);obtain⟨wa,wc,rfl,-,-,hrow⟩:=hr.reads;rw[jci,←VR.out] at hrow;rw[jci,←VR.out];have U2:=lH hrow;clear kk hrow Un HP Vg y0 y1 y2 r0 r1 r2 r3 r4 r5 r6 r7 r8 r9 r10;go_wp2;go_loopw [5,12] (fun v i wr=>∃k:Nat,k≤n1∧i=.int .i64 k∧∃la:List ByteArray,zN s p (s.nodes.take k)=la∧Own zu 9 wr w1.heap.size v la∧Kept w1 wr) (fun _ i _=>n1-(intOf i).toNat)
 case atStart=>exact⟨0,Nat.zero_le _,rfl,[],rfl,Own.nil _ _ _,Kept.refl _⟩
 case round =>
  obtain⟨k,hk,rfl,la,hla,ho,hK⟩:=hrel;obtain⟨HX,HO,HK⟩:=lH3 hla ho hK;obtain⟨m,hm⟩:=eX (la.length)
  have hmk:m≤k:=by
   have:=jbe s p (s.nodes.take k);rw[hla,hm,List.length_take] at this;omega
  have HT:=lH hm;have hbase:w1.heap.size≤wr.heap.size:=hK.size;by_cases hlt:k<n1
  · obtain⟨g,off,rfl⟩:=HN.out.form.resolve_left (by omega);obtain⟨n,b1,q1,f1,b2,q2,f2,b3,q3,f3,hn,hd,hb,u0,u1,u2,u3,u4,hat⟩:=(HN.out.kept hK).at_ hlt;obtain⟨bw,offw,rfl⟩:=U2.out.form.resolve_left (by omega);obtain⟨c,hc,-,-,cw⟩:=(U2.out.kept hK).err hlt;obtain⟨T4,UI,Th⟩:=lH3 hat.size (jiE (s:=s) (p:=p) hn) (show qk s p n.name=c by rw[jm6 hn] at hc;exact Option.some.inj hc);have hkk:(k:Int)<(n1:Int):=by omega
    have hk0:¬(k:Int)<0:=by omega
    have y0:=(Vj.out.kept hK).at_ 0 _ rfl;clear hd hb hn hc hat hla ho hm hK;obtain⟨xn,hxn⟩:=eX (n.name)
    rw[hxn] at u0 T4 UI Th;clear hxn;by_cases h0:c=0
    · subst h0;have HV:=lH (show zN s p (s.nodes.take (k+1))=la++[xn] by rw[UI.out,HX.out,if_pos Th.out]);have VF:=lH (show wr.ownsRow w1.heap.size 9 1 u5 m (je zu la) by have:=HO.out.1;rw[HT.out] at this;exact this);go_wp2_with (at_builtin;refine wpList_append_lies _ rfl _ _ _ rfl w1.heap.size 9 i0 _ 1 16 Tryz.underlying72 hi hz0 hz1 hz2' rfl (by decide) u5 m (je zu la) rfl (VF.out.alloc _) ⟨wr.heap.size,0,none⟩ 1 1 (zu.cs xn) rfl rfl (World.news_of_block (cs:=#[.string xn]) (t:=9) (fr:=(0,0)) (heap_alloc_new wr _)) (je0 xn) (by decide) (by unfold maxLen;omega) (by omega) (by simp;omega) (wr.heap.size+1) (by simp) ?_;intro gg cap1 w4 hown1 hgrow hat hlt1)
      have VQ:=lH ((show Below w1.heap.size w1 _ from HK.out.trans (ja wr _)).grown hgrow (by simp;omega) (fun j hj=>(VF.out.lt j hj).1));go_wp2;go_roundw
      case rel=>exact⟨k+1,by omega,by go_num,la++[xn],HV.out,Own.snoc hown1 (by rw[HT.out]) HO.out.2 T4.out,VQ.out⟩
      case measure=>simp[intOf];omega
    · have h0b:(c==0)=false:=by simpa using h0
      have HV:=lH (show zN s p (s.nodes.take (k+1))=la by rw[UI.out,HX.out,if_neg (by rw[Th.out];exact h0),List.append_nil]);clear h0;go_wp2;go_roundw
      case rel=>exact⟨k+1,by omega,by go_num,la,HV.out,HO.out,HK.out⟩
      case measure=>simp[intOf];omega
  · have hge:¬(k:Int)<(n1:Int):=by omega
    have HE:=lH (show zN s p s.nodes=la by rw[←hla,List.take_of_length_le (by rw[←VR.out];omega)]);clear hla ho hm hK;go_wp2;go_ret;exact⟨_,rfl,by rw[HE.out];exact HO.out.base_le K.out.size,K.out.trans HK.out⟩
attribute [local go_sem] ZO
def Ys (s:Clu) (p:Pd) (names:List ByteArray) (l:List Mk):Prop:=l.map (·.1)=names∧∀x ∈ l,x.2.1=jby s p x.1∧nrm x.2.2=qv s p x.1
theorem Ys.nil (s:Clu) (p:Pd):Ys s p [] []:=⟨rfl,fun x h=>by cases h⟩
theorem Ys.snoc {s:Clu} {p:Pd} {names:List ByteArray} {l:List Mk} {x:ByteArray} {m:Int} {r:Nat} (h:Ys s p names l) (hm:m=jby s p x) (hr:nrm r=qv s p x):Ys s p (names++[x]) (l++[(x,m,r)]):=by
 refine⟨by rw[List.map_append,h.1];rfl,fun y hy=>?_⟩;rcases List.mem_append.1 hy with hy | hy
 · exact h.2 y hy
 · obtain rfl:=List.mem_singleton.1 hy;exact⟨hm,hr⟩
theorem Ys.len {s:Clu} {p:Pd} {names:List ByteArray} {l:List Mk} (h:Ys s p names l):l.length=names.length:=by rw[←h.1,List.length_map]
theorem jkp (s1 s2 s3:Option Addr) (n1 e1 n2 e2 n3 e3:Nat) (a1 a2 a3 a4:Option Addr) (m1 c1 m2 c2 m3 c3 m4 c4:Nat) (p:Pd) (s:Clu) (w:World) (hs:jC w (Jh (.slice s1 n1 e1) (.slice s2 n2 e2) (.slice s3 n3 e3)) s) (hl:jE s) (hb:s.pods.length+1≤100000) (hp:ji w (.slice a1 m1 c1) (.slice a2 m2 c2) (.slice a3 m3 c3) (.slice a4 m4 c4) p) (hlp:JL p):Calls Tryz.prog 198 #[.agg #[.slice s1 n1 e1,.slice s2 n2 e2,.slice s3 n3 e3],jy p (.slice a1 m1 c1) (.slice a2 m2 c2) (.slice a3 m3 c3) (.slice a4 m4 c4)] w fun e w'=>∃(v:Value) (l:List Mk),e=.returned v∧Reads MkLay w' v l∧Ys s p (zN s p s.nodes) l∧Kept w w':=by
 obtain⟨i0,hi,hz0,hz1,hz2'⟩:=info_parts jkA;obtain⟨Z,hZ⟩:=eX ((w.alloc (.cells #[.slice s1 n1 e1,.slice s2 n2 e2,.slice s3 n3 e3] 26)).alloc (.cells #[.string p.name,.string p.owner,.int .i64 p.prio,.slice a1 m1 c1,.slice a2 m2 c2,.slice a3 m3 c3,.slice a4 m4 c4,.string p.key,.int .i64 p.most,.string p.node,.bool p.hold] 52))
 have hkz:Kept w Z:=by rw[←hZ];exact jn _ _ _
 have Vj:=lH (jc w (.slice s1 n1 e1) [.slice s2 n2 e2,.slice s3 n3 e3] 26 Z (by rw[←hZ];exact ja _ _));have Vg:=lH (show jf (w.heap.size+1) [.string p.name,.string p.owner,.int .i64 p.prio,.slice a1 m1 c1,.slice a2 m2 c2,.slice a3 m3 c3,.slice a4 m4 c4,.string p.key,.int .i64 p.most,.string p.node,.bool p.hold] Z by
  have dd:=jc (w.alloc (.cells #[.slice s1 n1 e1,.slice s2 n2 e2,.slice s3 n3 e3] 26)) (.string p.name) [.string p.owner,.int .i64 p.prio,.slice a1 m1 c1,.slice a2 m2 c2,.slice a3 m3 c3,.slice a4 m4 c4,.string p.key,.int .i64 p.most,.string p.node,.bool p.hold] 52 Z (by rw[hZ];exact Kept.refl _);rw[World.size_alloc] at dd;exact dd)
 obtain⟨K,HS,HP,HL,Tg,Ud⟩:=lH6 hkz (hs.kept hkz) (hp.kept hkz) hl hb hlp;clear hs hp hkz hl hb hlp;have HF:=lH (show ∀W,Kept Z W→W.cell? ⟨w.heap.size,0,none⟩=some (.slice s1 n1 e1)∧W.cell? ⟨w.heap.size,1,none⟩=some (.slice s2 n2 e2)∧W.cell? ⟨w.heap.size,2,none⟩=some (.slice s3 n3 e3)∧W.cell? ⟨w.heap.size+1,0,none⟩=some (.string p.name)∧W.cell? ⟨w.heap.size+1,1,none⟩=some (.string p.owner)∧W.cell? ⟨w.heap.size+1,2,none⟩=some (.int .i64 p.prio)∧W.cell? ⟨w.heap.size+1,3,none⟩=some (.slice a1 m1 c1)∧W.cell? ⟨w.heap.size+1,4,none⟩=some (.slice a2 m2 c2)∧W.cell? ⟨w.heap.size+1,5,none⟩=some (.slice a3 m3 c3)∧W.cell? ⟨w.heap.size+1,6,none⟩=some (.slice a4 m4 c4)∧W.cell? ⟨w.heap.size+1,7,none⟩=some (.string p.key)∧W.cell? ⟨w.heap.size+1,8,none⟩=some (.int .i64 p.most)∧W.cell? ⟨w.heap.size+1,9,none⟩=some (.string p.node)∧W.cell? ⟨w.heap.size+1,10,none⟩=some (.bool p.hold) from fun W kk=>by
  have h:=Vj.out.kept kk;have q:=Vg.out.kept kk;exact⟨h.at_ 0 _ rfl,h.at_ 1 _ rfl,h.at_ 2 _ rfl,q.at_ 0 _ rfl,q.at_ 1 _ rfl,q.at_ 2 _ rfl,q.at_ 3 _ rfl,q.at_ 4 _ rfl,q.at_ 5 _ rfl,q.at_ 6 _ rfl,q.at_ 7 _ rfl,q.at_ 8 _ rfl,q.at_ 9 _ rfl,q.at_ 10 _ rfl⟩)
 have UG:=lH (jch s1 s2 s3 n1 e1 n2 e2 n3 e3 a1 a2 a3 a4 m1 c1 m2 c2 m3 c3 m4 c4 p s Z HS.out HL.out HP.out);unfold jy at UG;have hfl:=jbe s p s.nodes;have VR:=HL.out.nodesN;obtain⟨y0,y1,y2⟩:=Vj.out.at3;obtain⟨r0,r1,r2,r3,r4,r5,r6,r7,r8,r9,r10⟩:=Vg.out.at11;unfold jy;go_enter Tryz.func198,Tryz.ntmps198;go_wp2_with fail
 try rw[hZ]
 clear hZ;refine UG.out.mono ?_;rintro e w1 ⟨v9,rfl,hr,kk⟩;obtain⟨names,hnm⟩:=eX (zN s p s.nodes)
 rw[hnm] at hr hfl;have Rw:=lH hnm;clear hnm;obtain⟨wa,wc,rfl,-,-,hrow⟩:=hr.reads;obtain⟨n9,hn9⟩:=eX (names.length)
 rw[hn9] at hrow hfl ⊢;obtain⟨N8,T3,U2⟩:=lH3 hr.2 hn9 hrow;have hn5:n9≤100000:=by omega
 have J1:=lH kk;clear kk hr hrow hn9 hfl VR UG y0 y1 y2 r0 r1 r2 r3 r4 r5 r6 r7 r8 r9 r10;go_wp2;go_loopw [5,7,12] (fun v _ i wr=>∃k:Nat,k≤n9∧i=.int .i64 k∧∃la:List Mk,Ys s p (names.take k) la∧Own MkLay 302 wr w1.heap.size v la∧Kept w1 wr) (fun _ _ i _=>n9-(intOf i).toNat)
 case atStart=>exact⟨0,Nat.zero_le _,rfl,[],Ys.nil _ _,Own.nil _ _ _,Kept.refl _⟩
 case round =>
  obtain⟨k,hk,rfl,la,hla,ho,hK⟩:=hrel;obtain⟨HX,HO,HK⟩:=lH3 hla ho hK;obtain⟨m,hm⟩:=eX (la.length)
  have hmk:m≤k:=by
   have:=hla.len;rw[hm,List.length_take] at this;omega
  have HT:=lH hm;have hbase:w1.heap.size≤wr.heap.size:=hK.size;by_cases hlt:k<n9
  · obtain⟨b9,o9,rfl⟩:=U2.out.form.resolve_left (by omega);obtain⟨xn,hxn,-,-,hxs,cw⟩:=(U2.out.kept hK).str hlt;have UI:=lH (show names.take (k+1)=names.take k++[xn] by rw[List.take_add_one,hxn];rfl);have UQ:=lH hxs;have hkk:(k:Int)<(n9:Int):=by omega
    have hk0:¬(k:Int)<0:=by omega
    have J:=lH ((J1.out.trans hK).trans (Kept.drew wr));clear hla ho hm hxn hxs hK;go_upto_region 5 with fail
    clear cw hkk hk0;refine wp_region_held_drew (S:=fun W=>W.cell? ⟨w.heap.size,0,none⟩=some (.slice s1 n1 e1)∧W.cell? ⟨w.heap.size,1,none⟩=some (.slice s2 n2 e2)∧W.cell? ⟨w.heap.size,2,none⟩=some (.slice s3 n3 e3)∧W.cell? ⟨w.heap.size+1,0,none⟩=some (.string p.name)∧W.cell? ⟨w.heap.size+1,1,none⟩=some (.string p.owner)∧W.cell? ⟨w.heap.size+1,2,none⟩=some (.int .i64 p.prio)∧W.cell? ⟨w.heap.size+1,3,none⟩=some (.slice a1 m1 c1)∧W.cell? ⟨w.heap.size+1,4,none⟩=some (.slice a2 m2 c2)∧W.cell? ⟨w.heap.size+1,5,none⟩=some (.slice a3 m3 c3)∧W.cell? ⟨w.heap.size+1,6,none⟩=some (.slice a4 m4 c4)∧W.cell? ⟨w.heap.size+1,7,none⟩=some (.string p.key)∧W.cell? ⟨w.heap.size+1,8,none⟩=some (.int .i64 p.most)∧W.cell? ⟨w.heap.size+1,9,none⟩=some (.string p.node)∧W.cell? ⟨w.heap.size+1,10,none⟩=some (.bool p.hold)) (by kernel_rfl) (HF.out _ J.out) (fun hHeld=>?_);obtain⟨wd,hwd⟩:=eX (wr.drew)
    have JR:=lH (Kept.drew wr);rw[hwd] at J JR hHeld;try rw[hwd]
    clear hwd;refine tkI 0 ?_;refine tkI 1 ?_;refine tkI 2 ?_;refine tkI 3 ?_;refine tkI 4 ?_;refine tkI 5 ?_;refine tkI 9 ?_;refine tkI 10 ?_;refine tkI 11 ?_;try simp only[nP]
    refine rd1 6 fun K9 Ky=>?_;go_simp;refine(qj s1 s2 s3 n1 e1 n2 e2 n3 e3 s xn _ (HS.out.kept J.out) HL.out).mono ?_;rintro e w2 ⟨b1,k1,d1,b2,k2,d2,b3,k3,d3,rfl,hn,kk⟩;obtain⟨R7,J,JR⟩:=lH3 hn.taints (J.out.trans kk) (JR.out.trans kk);clear kk hn;unfold zj;refine Ky.out _ _ (HF.out _ J.out) (fun _=>?_);clear Ky K9;try simp only[nP]
    have hfd:=fun W=>jmH (J8 s xn).name (.slice b1 k1 d1) (.slice b2 k2 d2) (.slice b3 k3 d3) (J8 s xn).cordon W;refine tkI 7 ?_;try simp only[nP]
    clear hfd;obtain⟨sf,hsf⟩:=eX (softN p.tols (J8 s xn).taints)
    have NK:=lH (show (sf:Int)=jby s p xn by unfold jby;rw[hsf]);refine rd1 8 fun K9 Ky=>?_;go_simp;refine(joj (HP.out.kept J.out).tols R7.out hsf).mono ?_;rintro e w3 ⟨rfl,kk⟩;have J:=lH (J.out.trans kk);have JR:=lH (JR.out.trans kk);clear kk hsf R7;refine Ky.out _ _ (HF.out _ J.out) (fun _=>?_);clear Ky K9;try simp only[nP]
    refine rd1 12 fun K9 Ky=>?_;go_simp;have TX:=jjE s1 s2 s3 n1 e1 n2 e2 n3 e3 a1 a2 a3 a4 m1 c1 m2 c2 m3 c3 m4 c4 p s xn w3 (HS.out.kept J.out) HL.out Tg.out (HP.out.kept J.out) Ud.out UQ.out;unfold jy at TX;refine TX.mono ?_;rintro e w4 ⟨r,rfl,hr,hrt,kk⟩;obtain⟨HR,Ru,J,JR⟩:=lH4 hr hrt (J.out.trans kk) (JR.out.trans kk);clear kk TX hr hrt;refine Ky.out _ _ (HF.out _ J.out) (fun _=>?_);clear Ky K9;try simp only[nP]
    refine tkI 13 ?_;try simp only[nP]
    refine rd1 14 fun K9 Ky=>?_;go_simp;refine Ky.out _ _ (HF.out _ (J.out.trans (ja _ _))) (fun _=>?_);clear Ky K9;try simp only[nP]
    obtain⟨w5,hw5⟩:=eX (w4.alloc (.cells #[.string xn,.int .i64 sf,.float .f64 r] 302))
    have k5:Kept w4 w5:=by rw[←hw5];exact ja _ _
    obtain⟨UC,J,JR⟩:=lH3 (show w5.heap[w4.heap.size]?=some (.cells #[.string xn,.int .i64 sf,.float .f64 r] 302) by rw[←hw5];exact World.alloc_heap_new w4 _) (J.out.trans k5) (JR.out.trans k5);try rw[hw5]
    clear hw5 k5;have VF:=lH (show w5.ownsRow w1.heap.size 302 3 u5 m (je MkLay la) by have:=(HO.out.kept JR.out).1;rw[HT.out] at this;exact this);refine rd1 15 fun K9 Ky=>?_;refine step_append_lies _ (by rfl) _ _ _ (by rfl) w1.heap.size 302 i0 _ 3 32 Tryz.underlying268 hi hz0 hz1 hz2' rfl (by decide) u5 m (je MkLay la) (by rfl) VF.out ⟨w4.heap.size,0,none⟩ 1 1 (mkC (xn,(sf:Int),r)) (by rfl) (by rfl) (World.news_of_block (cs:=#[.string xn,.int .i64 sf,.float .f64 r]) (t:=302) (fr:=(0,0)) UC.out) (jdf (xn,(sf:Int),r)) (by decide) (by unfold maxLen;omega) (by omega) (by have:=JR.out.size;omega) _ rfl ?_;intro gg cap1 w6 hown1 hgrow hat hlt1;have VQ:=lH ((show Below w1.heap.size w1 _ from HK.out.trans JR.out).grown hgrow (by have:=JR.out.size;omega) (fun j hj=>(VF.out.lt j hj).1));have VK:=lH hown1;have J6:=lH (show Kept Z w6 from J1.out.trans VQ.out);clear hgrow hat hlt1 hown1;refine Ky.out _ _ (HF.out _ J6.out) (fun _=>?_);clear Ky K9;try simp only[nP]
    refine tkI 16 ?_;try simp only[nP]
    refine wpAnyH_done (by kernel_rfl) ?_ _;go_wp2;go_roundw
    case rel=>exact⟨k+1,by omega,by go_num,la++[(xn,(sf:Int),r)],by rw[UI.out];exact HX.out.snoc NK.out HR.out,Own.snoc VK.out (by rw[HT.out]) HO.out.2 ⟨UQ.out,Ru.out⟩,VQ.out⟩
    case measure=>simp[intOf];omega
  · have hge:¬(k:Int)<(n9:Int):=by omega
    have HE:=lH (show Ys s p names la by have:=hla;rw[List.take_of_length_le (by rw[T3.out];omega)] at this;exact this);clear hla ho hm hK;go_wp2;go_ret;exact⟨_,rfl,la,HO.out.reads,by rw[Rw.out];exact HE.out,K.out.trans (J1.out.trans HK.out)⟩
end Go.Proofs.YtibepooajeakfaaGreat
namespace Go.Proofs.YtibepooajeakfaaGreat
open Go.RowKit
attribute [local go_sem] ZO
theorem jik (pack:Bool) (x y:Nat) (w:World):Calls Tryz.prog 262 #[.float .f64 x,.float .f64 y,.bool pack] w fun e w'=>e=.returned (.int .i64 (cpM pack x y))∧Grw w w':=by
 cases pack with
 | true =>
  have HC:=lH (jbJ y x w);have HV:=lH (show cpM true x y=cp y x from rfl);go_enter Tryz.func262,Tryz.ntmps262;go_wp2_with fail
  refine HC.out.mono ?_;rintro e w1 ⟨rfl,c,t,rfl⟩;go_wp2;go_ret;exact⟨jb HV.out.symm,Grw.alloc _ _⟩
 | false =>
  have HC:=lH (jbJ x y w);have HV:=lH (show cpM false x y=cp x y from rfl);go_enter Tryz.func262,Tryz.ntmps262;go_wp2_with fail
  refine HC.out.mono ?_;rintro e w1 ⟨rfl,c,t,rfl⟩;go_wp2;go_ret;exact⟨jb HV.out.symm,Grw.alloc _ _⟩
theorem jiQ (W:World) (x y z:Int) (T:TypeId) (i:Nat) (u:Int) (hi:([x,y,z]:List Int)[i]?=some u):(W.alloc (.cells #[.int .i64 x,.int .i64 y,.int .i64 z] T)).cell? ⟨W.heap.size,i,none⟩=some (.int .i64 u):=by
 refine(jc W (.int .i64 x) [.int .i64 y,.int .i64 z] T _ (Kept.refl _)).at_ i _ ?_
 match i,hi with
 | 0,h=>simpa using h
 | 1,h=>simpa using h
 | 2,h=>simpa using h
 | j+3,h=>simp at h
theorem jfb (pack:Bool) (a1 b1:ByteArray) (a2 b2:Int) (a3 b3:Nat) (w:World):Calls Tryz.prog 234 #[.agg #[.string a1,.int .i64 a2,.float .f64 a3],.agg #[.string b1,.int .i64 b2,.float .f64 b3],.bool pack] w fun e w'=>e=.returned (.int .i64 (cfM pack (a1,a2,a3) (b1,b2,b3)))∧Grw w w':=by
 obtain⟨Z,hZ⟩:=eX ((w.alloc (.cells #[.string a1,.int .i64 a2,.float .f64 a3] 302)).alloc (.cells #[.string b1,.int .i64 b2,.float .f64 b3] 302))
 have hkz:Kept w Z:=by rw[←hZ];exact jn _ _ _
 have HG:=lH (show Grw w Z by rw[←hZ];exact(Grw.alloc _ _).trans (Grw.alloc _ _));have Vj:=lH (jc w (.string a1) [.int .i64 a2,.float .f64 a3] 302 Z (by rw[←hZ];exact ja _ _));have Vg:=lH (show jf (w.heap.size+1) [.string b1,.int .i64 b2,.float .f64 b3] Z by
  have dd:=jc (w.alloc (.cells #[.string a1,.int .i64 a2,.float .f64 a3] 302)) (.string b1) [.int .i64 b2,.float .f64 b3] 302 Z (by rw[hZ];exact Kept.refl _);rw[World.size_alloc] at dd;exact dd)
 have HF:=lH (show ∀W,Kept Z W→W.cell? ⟨w.heap.size,0,none⟩=some (.string a1)∧W.cell? ⟨w.heap.size,1,none⟩=some (.int .i64 a2)∧W.cell? ⟨w.heap.size,2,none⟩=some (.float .f64 a3)∧W.cell? ⟨w.heap.size+1,0,none⟩=some (.string b1)∧W.cell? ⟨w.heap.size+1,1,none⟩=some (.int .i64 b2)∧W.cell? ⟨w.heap.size+1,2,none⟩=some (.float .f64 b3) from fun W kk=>by
  have h:=Vj.out.kept kk;have q:=Vg.out.kept kk;exact⟨h.at_ 0 _ rfl,h.at_ 1 _ rfl,h.at_ 2 _ rfl,q.at_ 0 _ rfl,q.at_ 1 _ rfl,q.at_ 2 _ rfl⟩)
 obtain⟨x,hx⟩:=eX (Zs a2 b2)
 obtain⟨y,hy⟩:=eX (cpM pack a3 b3)
 obtain⟨z,hz⟩:=eX (Yz a1 b1)
 have HV:=lH (show cfM pack (a1,a2,a3) (b1,b2,b3)=orL [x,y,z] by
  show (if Zs a2 b2≠0 then Zs a2 b2 else if cpM pack a3 b3≠0 then cpM pack a3 b3 else Yz a1 b1)=_;rw[hx,hy,hz];show _=if x≠0 then x else if y≠0 then y else if z≠0 then z else 0
  by_cases q:z=0
  · subst q;simp
  · rw[if_pos q])
 obtain⟨EI,EC,ES⟩:=lH3 (fun W=>jfl a2 b2 W) (fun W=>jik pack a3 b3 W) (fun W=>jfi a1 b1 W);rw[hx] at EI;rw[hy] at EC;rw[hz] at ES;clear hx hy hz hkz;go_enter Tryz.func234,Tryz.ntmps234;go_upto_region 1 with fail
 try rw[hZ]
 clear hZ;have J:=lH (Grw.drewN Z 1);refine wp_region_held_drew (S:=fun W=>W.cell? ⟨w.heap.size,0,none⟩=some (.string a1)∧W.cell? ⟨w.heap.size,1,none⟩=some (.int .i64 a2)∧W.cell? ⟨w.heap.size,2,none⟩=some (.float .f64 a3)∧W.cell? ⟨w.heap.size+1,0,none⟩=some (.string b1)∧W.cell? ⟨w.heap.size+1,1,none⟩=some (.int .i64 b2)∧W.cell? ⟨w.heap.size+1,2,none⟩=some (.float .f64 b3)) (by kernel_rfl) (HF.out _ J.out.kept) (fun hHeld=>?_);obtain⟨wd,hwd⟩:=eX (Z.drew)
 rw[show Z.drewN 1=wd from hwd] at J;rw[hwd] at hHeld;try rw[hwd]
 clear hwd;refine tkI 0 ?_;refine tkI 1 ?_;refine tkI 2 ?_;refine tkI 3 ?_;refine tkI 5 ?_;refine tkI 6 ?_;refine tkI 7 ?_;refine tkI 8 ?_;refine tkI 9 ?_;refine tkI 11 ?_;refine tkI 12 ?_;refine tkI 13 ?_;refine tkI 14 ?_;try simp only[nP]
 refine rd1 4 fun K9 Ky=>?_;go_simp;refine(EI.out _).mono ?_;rintro e w1 ⟨rfl,rfl⟩;refine Ky.out _ _ (HF.out _ J.out.kept) (fun _=>?_);clear Ky K9;try simp only[nP]
 refine rd1 10 fun K9 Ky=>?_;go_simp;refine(EC.out _).mono ?_;rintro e w2 ⟨rfl,kk⟩;have J:=lH (J.out.trans kk);clear kk;refine Ky.out _ _ (HF.out _ J.out.kept) (fun _=>?_);clear Ky K9;try simp only[nP]
 refine rd1 15 fun K9 Ky=>?_;go_simp;refine(ES.out _).mono ?_;rintro e w3 ⟨rfl,rfl⟩;refine Ky.out _ _ (HF.out _ J.out.kept) (fun _=>?_);clear Ky K9;try simp only[nP]
 refine rd1 16 fun K9 Ky=>?_;go_simp;refine Ky.out _ _ (HF.out _ (J.out.trans (Grw.alloc _ _)).kept) (fun _=>?_);clear Ky K9;try simp only[nP]
 have Ue:=lH (show Calls Tryz.prog 71 #[.slice (some ⟨w2.heap.size,0,none⟩) 3 3] (w2.alloc (.cells #[.int .i64 x,.int .i64 y,.int .i64 z] 3)) _ from jhN w2.heap.size 3 [x,y,z] _ rfl (by decide) (jiQ w2 x y z 3));obtain⟨w4,hw4⟩:=eX (w2.alloc (.cells #[.int .i64 x,.int .i64 y,.int .i64 z] 3))
 have J:=lH (show Grw Z w4 by rw[←hw4];exact J.out.trans (Grw.alloc _ _));rw[hw4] at Ue;try rw[hw4]
 clear hw4;refine rd1 17 fun K9 Ky=>?_;go_simp;refine Ue.out.mono ?_;rintro e w5 ⟨rfl,rfl⟩;refine Ky.out _ _ (HF.out _ J.out.kept) (fun _=>?_);clear Ky K9;try simp only[nP]
 refine tkI 18 ?_;try simp only[nP]
 refine wpAnyH_done (by kernel_rfl) ?_ _;go_wp2;go_ret;exact⟨jb HV.out.symm,HG.out.trans J.out⟩
theorem je8 (q:Nat) (pack:Bool) (a1 b1:ByteArray) (a2 b2:Int) (a3 b3:Nat) (w:World) (hq:w.cell? ⟨q,0,none⟩=some (.bool pack)):Calls Tryz.prog 233 #[.agg #[.string a1,.int .i64 a2,.float .f64 a3],.agg #[.string b1,.int .i64 b2,.float .f64 b3],.pointer (some ⟨q,0,none⟩)] w fun e w'=>e=.returned (.int .i64 (cfM pack (a1,a2,a3) (b1,b2,b3)))∧Grw w w':=by
 obtain⟨Z,hZ⟩:=eX ((w.alloc (.cells #[.string a1,.int .i64 a2,.float .f64 a3] 302)).alloc (.cells #[.string b1,.int .i64 b2,.float .f64 b3] 302))
 have hkz:Kept w Z:=by rw[←hZ];exact jn _ _ _
 have HG:=lH (show Grw w Z by rw[←hZ];exact(Grw.alloc _ _).trans (Grw.alloc _ _));have hb1:=jc w (.string a1) [.int .i64 a2,.float .f64 a3] 302 Z (by rw[←hZ];exact ja _ _);have hb2:jf (w.heap.size+1) [.string b1,.int .i64 b2,.float .f64 b3] Z:=by
  have dd:=jc (w.alloc (.cells #[.string a1,.int .i64 a2,.float .f64 a3] 302)) (.string b1) [.int .i64 b2,.float .f64 b3] 302 Z (by rw[hZ];exact Kept.refl _);rw[World.size_alloc] at dd;exact dd
 have hq2:=cell_later hkz hq;have HC:=lH (jfb pack a1 b1 a2 b2 a3 b3 Z);have y0:=hb1.at_ 0 _ rfl;have y1:=hb1.at_ 1 _ rfl;have y2:=hb1.at_ 2 _ rfl;have z0:=hb2.at_ 0 _ rfl;have z1:=hb2.at_ 1 _ rfl;have z2:=hb2.at_ 2 _ rfl;clear hb1 hb2 hq hkz;go_enter Tryz.func233,Tryz.ntmps233;go_wp2_with fail
 try rw[hZ]
 clear hZ;refine HC.out.mono ?_;rintro e w1 ⟨rfl,kk⟩;have J:=lH (HG.out.trans kk);clear kk HC y0 y1 y2 z0 z1 z2 hq2;go_wp2;go_ret;exact⟨rfl,J.out⟩
end Go.Proofs.YtibepooajeakfaaGreat
namespace Go.Proofs.YtibepooajeakfaaGreat
open Go.Shelf
def jid:Go.Shelf.Ren:=⟨fun | 6=>260 | 15=>275 | 14=>274 | 28=>291 | 29=>292 | 20=>283 | 21=>284 | 22=>285 | 23=>286 | 24=>287 | 25=>288 | 26=>289 | 27=>290 | 46=>301 | 47=>302 | 48=>303 | 49=>304 | 50=>305 | 57=>313 | n=>n,fun | 22=>268 | 24=>302 | 25=>307 | 3=>3 | 39=>239 | 0=>0 | 53=>353 | 55=>355 | 4=>4 | 46=>347 | 45=>346 | 50=>264 | 5=>5 | 9=>9 | 66=>358 | 70=>362 | 76=>367 | 77=>368 | n=>n,fun | n=>n⟩
theorem jkE:Go.Proofs.SlLaysF0.n6 Tryz.prog jid:={
 mixed:=by kernel_rfl
 f6:=⟨Tryz.f260.name,by decide,Tryz.func260.trans (congrArg some (by kernel_rfl))⟩
 f14:=⟨Tryz.f274.name,by decide,Tryz.func274.trans (congrArg some (by kernel_rfl))⟩
 f15:=Tryz.func275.trans (congrArg some (by kernel_rfl))
 f20:=⟨Tryz.f283.name,by decide,Tryz.func283.trans (congrArg some (by kernel_rfl))⟩
 f21:=⟨Tryz.f284.name,by decide,Tryz.func284.trans (congrArg some (by kernel_rfl))⟩
 f22:=⟨Tryz.f285.name,by decide,Tryz.func285.trans (congrArg some (by kernel_rfl))⟩
 f23:=⟨Tryz.f286.name,by decide,Tryz.func286.trans (congrArg some (by kernel_rfl))⟩
 f24:=⟨Tryz.f287.name,by decide,Tryz.func287.trans (congrArg some (by kernel_rfl))⟩
 f25:=⟨Tryz.f288.name,by decide,Tryz.func288.trans (congrArg some (by kernel_rfl))⟩
 f26:=⟨Tryz.f289.name,by decide,Tryz.func289.trans (congrArg some (by kernel_rfl))⟩
 f27:=⟨Tryz.f290.name,by decide,Tryz.func290.trans (congrArg some (by kernel_rfl))⟩
 f28:=Tryz.func291.trans (congrArg some (by kernel_rfl))
 f29:=Tryz.func292.trans (congrArg some (by kernel_rfl))
 f46:=⟨Tryz.f301.name,by decide,Tryz.func301.trans (congrArg some (by kernel_rfl))⟩
 f47:=Tryz.func302.trans (congrArg some (by kernel_rfl))
 f48:=Tryz.func303.trans (congrArg some (by kernel_rfl))
 f49:=⟨Tryz.f304.name,by decide,Tryz.func304.trans (congrArg some (by kernel_rfl))⟩
 f50:=⟨Tryz.f305.name,by decide,Tryz.func305.trans (congrArg some (by kernel_rfl))⟩
 f57:=⟨Tryz.f313.name,by decide,Tryz.func313.trans (congrArg some (by kernel_rfl))⟩
 t0:=Tryz.underlying0
 a0:=Tryz.isAgg0
 z0:=Tryz.sizeOf0
 v0:=Tryz.zeroValue0
 t3:=Tryz.underlying3
 a3:=Tryz.isAgg3
 z3:=Tryz.sizeOf3
 v3:=Tryz.zeroValue3
 t4:=Tryz.underlying4
 a4:=Tryz.isAgg4
 z4:=Tryz.sizeOf4
 v4:=Tryz.zeroValue4
 t5:=Tryz.underlying5
 a5:=Tryz.isAgg5
 z5:=Tryz.sizeOf5
 v5:=Tryz.zeroValue5
 t9:=Tryz.underlying9
 a9:=Tryz.isAgg9
 z9:=Tryz.sizeOf9
 v9:=Tryz.zeroValue9
 t22:=Tryz.underlying268
 a22:=Tryz.isAgg268
 z22:=Tryz.sizeOf268
 v22:=Tryz.zeroValue268
 t25:=Tryz.underlying307
 a25:=Tryz.isAgg307
 z25:=Tryz.sizeOf307
 v25:=Tryz.zeroValue307
 t39:=Tryz.underlying239
 a39:=Tryz.isAgg239
 z39:=Tryz.sizeOf239
 v39:=Tryz.zeroValue239
 t45:=Tryz.underlying346
 a45:=Tryz.isAgg346
 z45:=Tryz.sizeOf346
 v45:=Tryz.zeroValue346
 t46:=Tryz.underlying347
 a46:=Tryz.isAgg347
 z46:=Tryz.sizeOf347
 v46:=Tryz.zeroValue347
 t50:=Tryz.underlying264
 a50:=Tryz.isAgg264
 z50:=Tryz.sizeOf264
 v50:=Tryz.zeroValue264
 t53:=Tryz.underlying353
 a53:=Tryz.isAgg353
 z53:=Tryz.sizeOf353
 v53:=Tryz.zeroValue353
 t55:=Tryz.underlying355
 a55:=Tryz.isAgg355
 z55:=Tryz.sizeOf355
 v55:=Tryz.zeroValue355
 t66:=Tryz.underlying358
 a66:=Tryz.isAgg358
 z66:=Tryz.sizeOf358
 v66:=Tryz.zeroValue358
 t70:=Tryz.underlying362
 a70:=Tryz.isAgg362
 z70:=Tryz.sizeOf362
 v70:=Tryz.zeroValue362
 t76:=Tryz.underlying367
 a76:=Tryz.isAgg367
 z76:=Tryz.sizeOf367
 v76:=Tryz.zeroValue367
 t77:=Tryz.underlying368
 a77:=Tryz.isAgg368
 z77:=Tryz.sizeOf368
 v77:=Tryz.zeroValue368 }
open Go.RowKit Go.Shelf Go.Lib Go.Sort
theorem qT (pack:Bool) (x y:Mk):ltOf (cfM pack) x y=Y1 pack x y:=by
 unfold ltOf
 cases h:Y1 pack x y with
 | true=>exact decide_eq_true ((jhM pack x y).2 h)
 | false=>exact decide_eq_false (fun e=>by rw[(jhM pack x y).1 e] at h;cases h)
theorem jni (pack:Bool):SWO (ltOf (cfM pack)) where
 irrefl x:=by rw[qT];exact jaF _ _ _ _
 trans x y z h1 h2:=by rw[qT] at *;exact XG h1 h2
 ntrans x y z h1 h2:=by rw[qT] at *;exact jaE h1 h2
theorem jeA:∀args w,(callFunc 233 args).run Tryz.prog w=.ok (.enter 233 args) w:=enters_of Tryz.func233 (by kernel_rfl) rfl
theorem jj5 (q:Nat) (pack:Bool) (blk size:Nat) (w:World) (hq:w.cell? ⟨q,0,none⟩=some (.bool pack)) (hne:q≠blk) (hlt:q<w.heap.size):CmpLays Tryz.prog 233 #[.pointer (some ⟨q,0,none⟩)] mkC 3 (cfM pack) blk 0 size w:=fun m os dk hs x y=>by
 refine je8 q pack x.1 y.1 x.2.1 y.2.1 x.2.2 y.2.2 _ ?_;show (grow (putRowK mkC 3 (Sort.ahead w m) blk 0 dk) os).cell? ⟨q,0,none⟩=_;rw[cell?_grow _ _ _ (by rw[size_putRowK];exact hlt),cell?_putRowK_other mkC 3 _ blk 0 dk ⟨q,0,none⟩ hne];exact hq
theorem jkN {B:Nat} {w0 w:World} {blk n:Nat} {d:Array Mk} {os:Array Obj} (h:Go.RowKit.Below B w0 w) (hg:B≤blk) (hB:B≤w.heap.size):Go.RowKit.Below B w0 (sortWorldK mkC 3 w blk 0 n d os):=by
 unfold sortWorldK;refine(below_putRow (enc:=id) (q:=n) (d:=flatK mkC 3 d) h hg).trans ?_;exact below_grow B (putRowK mkC 3 (Sort.ahead w n) blk 0 d) (by rw[size_putRowK];exact hB) 0 os
theorem jiP {W:World} {base:Nat} {v:Value} {zs:List Mk} (h:jmd base W v zs) (hv:v≠.slice none 0 0):∃g cap,v=.slice (some ⟨g,0,none⟩) zs.length cap∧base≤g∧g<W.heap.size∧zs.length≤cap∧cap≤maxLen∧HoldsK mkC 3 W g 0 zs.toArray:=by
 rcases h.1.2 with ⟨e0,_⟩ | ⟨g,cap,cur,rfl,hb,hg,hn,hm,hs,ht⟩
 · exact absurd e0 hv
 · have hlt:g<W.heap.size:=by
    rcases Nat.lt_or_ge g W.heap.size with h' | h'
    · exact h'
    · rw[Array.getElem?_eq_none h'] at hg;cases hg
   refine⟨g,cap,rfl,hb,hlt,hn,hm,fun t htl=>?_⟩;have htl2:t<zs.length*3:=by simpa using htl
   have h3:t / 3<zs.length:=by omega
   have h4:t % 3<3:=Nat.mod_lt _ (by decide);refine⟨?_,by simp[World.frozen?,hg]⟩;rw[get_flatK _ _ _ _ (by simpa using htl2)];have e2:=Yn MkLay zs (t / 3) zs[t / 3] (t % 3) ((mkC zs[t / 3])[t % 3]'h4) (List.getElem?_eq_getElem h3) (List.getElem?_eq_getElem h4);have e1:(cur.toList.take (zs.length*3))[t]?=(je MkLay zs)[t]?:=by rw[ht];rfl
   rw[show t / 3*MkLay.m+t % 3=t from by show t / 3*3+t % 3=t;omega] at e2;rw[e2,List.getElem?_take,if_pos htl2,Array.getElem?_toList] at e1;simp only[World.cell?,hg,Nat.zero_add];simp only[Option.isSome_none,Bool.false_eq_true,if_false];rw[e1,getElem!_pos zs.toArray (t / 3) (by simpa using h3),getElem!_pos (mkC _) (t % 3) h4];simp;rfl
theorem jil {W:World} {g:Nat} {l:List Mk} (h:HoldsK mkC 3 W g 0 l.toArray) (hg:g<W.heap.size) (hm:l.length≤maxLen) (hf:∀x ∈ l,MkLay.fine x):jk MkLay W (some ⟨g,0,none⟩) l.length l:=by
 refine⟨rfl,hm,hf,.inr ⟨g,0,rfl,hg,fun i x j u hi hj=>?_⟩⟩;obtain⟨hil,ex⟩:=List.getElem?_eq_some_iff.1 hi;have hj':(mkC x)[j]?=some u:=hj;obtain⟨hjl,eu⟩:=List.getElem?_eq_some_iff.1 hj';have hj3:j<3:=hjl;have:=(h.cell (i:=i) (c:=j) (by simpa using hil) hj3).1;rw[getElem!_pos l.toArray i (by simpa using hil)] at this;simp only[List.getElem_toArray] at this;rw[ex,getElem!_pos (mkC x) j hjl,eu] at this;exact this
def joO (pack:Bool) (xs:List Mk) (w:World) (e:Ending) (w':World):Prop:=∃v l,e=.returned v∧l.Perm xs∧(l.Pairwise fun a b=>Y1 pack b a=false)∧Reads MkLay w' v l∧Kept w w'
theorem jdM (q:Nat) (pack:Bool) (Bs:Nat) (sv:Value) (xs:List Mk) (hlen:xs.length≤1000000) (hx:∀x ∈ xs,MkLay.fine x) (w:World) (hq:w.cell? ⟨q,0,none⟩=some (.bool pack)) (hBs:Bs<w.heap.size) (hcs:w.cell? ⟨Bs,0,none⟩=some sv) (hL:Mks w.heap.size w sv xs) :
 Calls Tryz.prog 231 #[.func (.func 261) #[] #[.pointer (some ⟨Bs,0,none⟩)],.func (.func 233) #[] #[.pointer (some ⟨q,0,none⟩)]] w (joO pack xs w):=by
 have HC:=lH (jeG Bs sv xs hlen w hBs hcs hL);have hql:q<w.heap.size:=World.block_lt_of_cell? _ _ hq;obtain⟨HQ,R8,HX,Ui⟩:=lH4 hq hql hx hlen;clear hBs hcs hL hq hql hx hlen;go_enter Tryz.func231,Tryz.ntmps231;go_wp2_with fail
 refine HC.out.mono ?_;rintro e w1 ⟨v,rfl,ho,hb⟩;by_cases hv:v=.slice none 0 0
 · have hxs:=ho.2.1 hv;have HS:=lH (AnyF.slices_SortFunc_none jkE none 0 (.func (.func 233) #[] #[.pointer (some ⟨q,0,none⟩)]) w1);change Hid (Calls Tryz.prog 260 _ _ _) at HS;subst hv hxs;have HB:=lH hb;clear hb ho;go_wp2_with fail
   refine HS.out.mono ?_;rintro e w2 ⟨rfl,rfl⟩;go_wp2_with fail
   go_ret;exact⟨_,[],rfl,List.Perm.refl _,List.Pairwise.nil,Reads.nil _,HB.out⟩
 · obtain⟨g,cap,rfl,hg1,hg2,hc1,hc2,hH⟩:=jiP ho hv;have hne:q≠g:=by have:=R8.out;omega
   have hst:=AnyQ.slices_SortFunc jkE 3 Tryz.isAgg302 Tryz.sizeOf302 mkC (fun _=>rfl) jdf (cfM pack) (jni pack) 233 #[.pointer (some ⟨q,0,none⟩)] g 0 cap xs.toArray w1 jeA (jj5 q pack g _ w1 (cell_later hb HQ.out) hne (Nat.lt_of_lt_of_le R8.out hb.size)) hH hg2 (by have:=Ui.out;simp;omega);change Calls Tryz.prog 260 _ _ _ at hst;obtain⟨HB,HS,HG,TK,HH,HP⟩:=lH6 hb hst hg1 hg2 hH (And.intro hc1 hc2);clear hb ho hst hg1 hg2 hH hc1 hc2 hv hne;simp only[List.size_toArray] at HS;go_wp2_with fail
   refine HS.out.mono ?_;rintro e w2 ⟨rfl,d',n,os,hp,hs,hw⟩;obtain⟨P1,P2,P3⟩:=lH3 hp hs hw;clear hp hs hw;go_wp2_with fail
   go_ret;have hsz:d'.size=xs.length:=by simpa using P1.out.1
   have hperm:d'.toList.Perm xs:=by
    have:=P1.out.2.2;simp only[Array.toList_extract,List.extract_eq_take_drop,List.drop_zero,Nat.sub_zero] at this;rw[List.take_of_length_le (by simp;omega),List.take_of_length_le (by simp)] at this;exact this
   have hlen:d'.toList.length=xs.length:=by simpa using hsz
   refine⟨_,d'.toList,rfl,hperm,?_,?_,?_⟩
   · rw[List.pairwise_iff_getElem];intro i j hi hj hij;have h2:=P2.out i j (Nat.zero_le _) hij (by omega);rw[qT,getElem!_pos d' j (by simpa using hj),getElem!_pos d' i (by simpa using hi)] at h2;simpa using h2
   · have hh:HoldsK mkC 3 w2 g 0 d'.toList.toArray:=by
      rw[P3.out];simp only[Array.toArray_toList];exact holdsK_sortWorldK mkC 3 w1 g 0 n xs.toArray d' os TK.out HH.out (by simpa using hsz)
     have hg3:g<w2.heap.size:=by rw[P3.out];exact lt_sortWorldK mkC 3 w1 g 0 n d' os TK.out
     refine⟨_,cap,by rw[hlen];rfl,by rw[hlen];exact HP.out.1,HP.out.2,jil hh hg3 (by rw[hlen];exact Nat.le_trans HP.out.1 HP.out.2) (fun x hx=>HX.out x (hperm.mem_iff.1 hx))⟩
   · rw[P3.out];exact jkN HB.out HG.out HB.out.size
open Go.RowKit
attribute [local go_sem] ZO
theorem jk.mark {w:World} {b off len:Nat} {l:List Mk} {k:Nat} (h:jk MkLay w (some ⟨b,off,none⟩) len l) (hk:k<len):∃x:Mk,l[k]?=some x∧x.1.size≤maxLen∧w.cell? ⟨b,off+k*3,none⟩=some (.string x.1)∧w.cell? ⟨b,off+k*3+1,none⟩=some (.int .i64 x.2.1)∧w.cell? ⟨b,off+k*3+2,none⟩=some (.float .f64 x.2.2):=by
 obtain⟨x,h1,-,-,h4,h5⟩:=h.cells hk;exact⟨x,h1,h4.1,h5 0 _ rfl,h5 1 _ rfl,h5 2 _ rfl⟩
theorem jiC (pack:Bool) (v:Value) (xs:List Mk) (w:World) (hr:Reads MkLay w v xs) (hlen:xs.length≤100000):Calls Tryz.prog 197 #[v,.bool pack] w fun e w'=>∃(y:Value) (l:List Mk),e=.returned y∧l.Perm xs∧(l.Pairwise fun a b=>Y1 pack b a=false)∧Own zu 9 w' w.heap.size y (l.map (·.1))∧Kept w w':=by
 have hmf:=hmfL (P:=Tryz.prog);obtain⟨i0,hi,hz0,hz1,hz2'⟩:=info_parts jj2;obtain⟨Z,hZ⟩:=eX (w.alloc (.cells #[.bool pack] 4))
 have hkz:Kept w Z:=by rw[←hZ];exact ja _ _
 have hq:Z.cell? ⟨w.heap.size,0,none⟩=some (.bool pack):=by rw[←hZ];simp
 obtain⟨HR,K,HF⟩:=lH3 (hr.kept hkz) hkz (hr.fine);obtain⟨a,cap,rfl,-,-,-⟩:=hr;obtain⟨nx,hnx⟩:=eX (xs.length)
 obtain⟨Y,hY⟩:=eX (Z.alloc (.cells #[.slice a nx cap] 268))
 have hky:Kept Z Y:=by rw[←hY];exact ja _ _
 have hys:Z.heap.size<Y.heap.size:=by rw[←hY];simp
 have hyc:Y.cell? ⟨Z.heap.size,0,none⟩=some (.slice a nx cap):=by rw[←hY];simp
 have HV:=lH (jf1 a nx cap Z);have HS:=lH (jdM w.heap.size pack Z.heap.size (.slice a nx cap) xs (by omega) HF.out Y (cell_later hky hq) hys hyc (by have:=(HR.out.kept hky).mks;rw[hnx] at this;exact this));rw[hY] at HV;rw[hnx];have KY:=lH hky;have VD:=lH hnx;rw[hnx] at hlen;clear hq hkz hky hys hyc hnx;go_enter Tryz.func197,Tryz.ntmps197;go_wp2_with fail
 try rw[hZ]
 clear hZ;refine HV.out.mono ?_;rintro e w1 ⟨rfl,rfl⟩;clear hY;go_wp2_with fail
 refine HS.out.mono ?_;rintro e w1 ⟨v9,l,rfl,hp,hs,hv,kk⟩;obtain⟨Rx,NM,K⟩:=lH3 hp hs (K.out.trans (KY.out.trans kk));have hll:l.length=nx:=hp.length_eq.trans VD.out;obtain⟨wa,wc,rfl,-,-,hrow⟩:=hv;rw[hll] at hrow ⊢;have U2:=lH hrow;have Td:=lH hll;clear kk hp hs hrow hll HS HV;have KW:=lH (Kept.refl w1);go_wp2;go_loopw [6,15] (fun v i wr=>∃k:Nat,k≤nx∧i=.int .i64 k∧∃la:List ByteArray,(l.take k).map (·.1)=la∧Own zu 9 wr w1.heap.size v la∧Kept w1 wr) (fun _ i _=>nx-(intOf i).toNat)
 case atStart=>exact⟨0,Nat.zero_le _,rfl,[],rfl,Own.nil _ _ _,Kept.refl _⟩
 case round =>
  obtain⟨k,hk,rfl,la,hla,ho,hK⟩:=hrel;obtain⟨HX,HO,HK⟩:=lH3 hla ho hK;obtain⟨m,hm⟩:=eX (la.length)
  have hmk:m≤k:=by
   have:=congrArg List.length hla;rw[List.length_map,List.length_take,hm] at this;omega
  have HT:=lH hm;have hbase:w1.heap.size≤wr.heap.size:=hK.size;by_cases hlt:k<nx
  · obtain⟨b9,o9,rfl⟩:=U2.out.form.resolve_left (by omega);obtain⟨⟨x1,x2,x3⟩,hx,hxs,c0,c1,c2⟩:=(U2.out.kept hK).mark hlt;dsimp only at hxs c0 c1 c2;have T4:=lH hxs;have HV:=lH (show (l.take (k+1)).map (·.1)=la++[x1] by rw[List.take_add_one,hx,List.map_append,HX.out];rfl);have hkk:(k:Int)<(nx:Int):=by omega
    have hk0:¬(k:Int)<0:=by omega
    obtain⟨wx,hwx⟩:=eX (wr.alloc (.cells #[.string x1,.int .i64 x2,.float .f64 x3] 302))
    have hkx:Kept wr wx:=by rw[←hwx];exact ja _ _
    have TR:=lH (jc wr (.string x1) [.int .i64 x2,.float .f64 x3] 302 wx (by rw[hwx];exact Kept.refl _));obtain⟨bq,hbq⟩:=eX (wr.heap.size)
    rw[hbq] at TR;have KX:=lH hkx;go_upto_region 6 with fail
    try rw[hwx]
    try rw[hbq]
    clear hwx hbq hx hxs hkx hk0 hkk hla ho hm hK c0 c1 c2;have t0:=TR.out.at_ 0 _ rfl;have VF:=lH (show wx.ownsRow w1.heap.size 9 1 u6 m (je zu la) by have:=(HO.out.kept KX.out).1;rw[HT.out] at this;exact this);have hs1:wr.heap.size≤wx.heap.size:=Below.size KX.out;go_wp2_with (at_builtin;refine wpList_append_lies _ rfl _ _ _ rfl w1.heap.size 9 i0 _ 1 16 Tryz.underlying72 hi hz0 hz1 hz2' rfl (by decide) u6 m (je zu la) rfl (VF.out.alloc _) ⟨wx.heap.size,0,none⟩ 1 1 (zu.cs x1) rfl rfl (World.news_of_block (cs:=#[.string x1]) (t:=9) (fr:=(0,0)) (heap_alloc_new wx _)) (je0 x1) (by decide) (by unfold maxLen;omega) (by omega) (by simp;omega) (wx.heap.size+1) (by simp) ?_;intro gg cap1 w4 hown1 hgrow hat hlt1)
    have VQ:=lH ((show Below w1.heap.size w1 _ from HK.out.trans (KX.out.trans (ja wx _))).grown hgrow (by simp;omega) (fun j hj=>(VF.out.lt j hj).1));go_wp2;go_roundw
    case rel=>exact⟨k+1,by omega,by go_num,la++[x1],HV.out,Own.snoc hown1 (by rw[HT.out]) HO.out.2 T4.out,VQ.out⟩
    case measure=>simp[intOf];omega
  · have hge:¬(k:Int)<(nx:Int):=by omega
    have HE:=lH (show l.map (·.1)=la by rw[←hla,List.take_of_length_le (by rw[Td.out];omega)]);clear hla ho hm hK;go_wp2;go_ret;exact⟨_,rfl,l,Rx.out,NM.out,by rw[HE.out];exact HO.out.base_le K.out.size,K.out.trans HK.out⟩
end Go.Proofs.YtibepooajeakfaaGreat
namespace Go.Proofs.YtibepooajeakfaaGreat
open Go.RowKit
theorem jnN {s:Clu} {p:Pd} {pack:Bool} {xs l:List Mk} (ht:Ys s p (zN s p s.nodes) xs) (hp:l.Perm xs) (hs:l.Pairwise fun a b=>Y1 pack b a=false):qo s p pack (l.map (·.1)):=by
 refine⟨by rw[←ht.1];exact hp.map _,?_⟩;rw[List.pairwise_map];refine List.Pairwise.imp_of_mem (fun {a b} ha hb h=>?_) hs;have h1:=ht.2 a (hp.mem_iff.1 ha);have h2:=ht.2 b (hp.mem_iff.1 hb);unfold YN;rw[←h1.1,←h1.2,←h2.1,←h2.2];exact h
def jlg (s:Clu) (p:Pd) (pack:Bool) (w:World) (e:Ending) (w':World):Prop:=∃(v:Value) (l:List ByteArray),e=.returned v∧qo s p pack l∧Own zu 9 w' w.heap.size v l∧Kept w w'
def jmc (s:Clu) (p:Pd) (pack:Bool) (w:World) (e:Ending) (w':World):Prop:=∃l:List ByteArray,qo s p pack l∧e=.returned (.tuple #[.string (l.headD ⟨#[]⟩),.bool (!l.isEmpty)])∧Kept w w'
theorem jjX (s1 s2 s3:Option Addr) (n1 e1 n2 e2 n3 e3:Nat) (a1 a2 a3 a4:Option Addr) (m1 c1 m2 c2 m3 c3 m4 c4:Nat) (pack:Bool) (p:Pd) (s:Clu) (w:World) (hs:jC w (Jh (.slice s1 n1 e1) (.slice s2 n2 e2) (.slice s3 n3 e3)) s) (hl:jE s) (hb:s.pods.length+1≤100000) (hp:ji w (.slice a1 m1 c1) (.slice a2 m2 c2) (.slice a3 m3 c3) (.slice a4 m4 c4) p) (hlp:JL p):Calls Tryz.prog 169 #[.agg #[.slice s1 n1 e1,.slice s2 n2 e2,.slice s3 n3 e3],jy p (.slice a1 m1 c1) (.slice a2 m2 c2) (.slice a3 m3 c3) (.slice a4 m4 c4),.bool pack] w (jlg s p pack w):=by
 obtain⟨Z,hZ⟩:=eX ((w.alloc (.cells #[.slice s1 n1 e1,.slice s2 n2 e2,.slice s3 n3 e3] 26)).alloc (.cells #[.string p.name,.string p.owner,.int .i64 p.prio,.slice a1 m1 c1,.slice a2 m2 c2,.slice a3 m3 c3,.slice a4 m4 c4,.string p.key,.int .i64 p.most,.string p.node,.bool p.hold] 52))
 have hkz:Kept w Z:=by rw[←hZ];exact jn _ _ _
 have Vj:=lH (jc w (.slice s1 n1 e1) [.slice s2 n2 e2,.slice s3 n3 e3] 26 Z (by rw[←hZ];exact ja _ _));have Vg:=lH (show jf (w.heap.size+1) [.string p.name,.string p.owner,.int .i64 p.prio,.slice a1 m1 c1,.slice a2 m2 c2,.slice a3 m3 c3,.slice a4 m4 c4,.string p.key,.int .i64 p.most,.string p.node,.bool p.hold] Z by
  have dd:=jc (w.alloc (.cells #[.slice s1 n1 e1,.slice s2 n2 e2,.slice s3 n3 e3] 26)) (.string p.name) [.string p.owner,.int .i64 p.prio,.slice a1 m1 c1,.slice a2 m2 c2,.slice a3 m3 c3,.slice a4 m4 c4,.string p.key,.int .i64 p.most,.string p.node,.bool p.hold] 52 Z (by rw[hZ];exact Kept.refl _);rw[World.size_alloc] at dd;exact dd)
 obtain⟨K,HS,HP,HL,Tg,Ud⟩:=lH6 hkz (hs.kept hkz) (hp.kept hkz) hl hb hlp;clear hs hp hkz hl hb hlp;have UX:=lH (jkp s1 s2 s3 n1 e1 n2 e2 n3 e3 a1 a2 a3 a4 m1 c1 m2 c2 m3 c3 m4 c4 p s Z HS.out HL.out Tg.out HP.out Ud.out);unfold jy at UX;have hfl:=jbe s p s.nodes;have VR:=HL.out.nodesN;obtain⟨y0,y1,y2⟩:=Vj.out.at3;obtain⟨r0,r1,r2,r3,r4,r5,r6,r7,r8,r9,r10⟩:=Vg.out.at11;unfold jy;go_enter Tryz.func169,Tryz.ntmps169;go_wp2_with fail
 try rw[hZ]
 clear hZ;refine UX.out.mono ?_;rintro e w1 ⟨v,xs,rfl,hr,ht,kk⟩;obtain⟨HN,HT,K⟩:=lH3 (jiC pack v xs w1 hr (by rw[ht.len];omega)) ht (K.out.trans kk);clear kk hr ht hfl VR UX y0 y1 y2 r0 r1 r2 r3 r4 r5 r6 r7 r8 r9 r10;go_wp2_with fail
 refine HN.out.mono ?_;rintro e w2 ⟨y,l,rfl,hp,hs,ho,kk⟩;obtain⟨HO,HD,K⟩:=lH3 (ho.base_le K.out.size) (jnN HT.out hp hs) (K.out.trans kk);clear kk ho hp hs HN;go_wp2;go_ret;exact⟨_,_,rfl,HD.out,HO.out,K.out⟩
theorem jh7 (s1 s2 s3:Option Addr) (n1 e1 n2 e2 n3 e3:Nat) (a1 a2 a3 a4:Option Addr) (m1 c1 m2 c2 m3 c3 m4 c4:Nat) (pack:Bool) (p:Pd) (s:Clu) (w:World) (hs:jC w (Jh (.slice s1 n1 e1) (.slice s2 n2 e2) (.slice s3 n3 e3)) s) (hl:jE s) (hb:s.pods.length+1≤100000) (hp:ji w (.slice a1 m1 c1) (.slice a2 m2 c2) (.slice a3 m3 c3) (.slice a4 m4 c4) p) (hlp:JL p):Calls Tryz.prog 122 #[.agg #[.slice s1 n1 e1,.slice s2 n2 e2,.slice s3 n3 e3],jy p (.slice a1 m1 c1) (.slice a2 m2 c2) (.slice a3 m3 c3) (.slice a4 m4 c4),.bool pack] w (jmc s p pack w):=by
 obtain⟨Z,hZ⟩:=eX ((w.alloc (.cells #[.slice s1 n1 e1,.slice s2 n2 e2,.slice s3 n3 e3] 26)).alloc (.cells #[.string p.name,.string p.owner,.int .i64 p.prio,.slice a1 m1 c1,.slice a2 m2 c2,.slice a3 m3 c3,.slice a4 m4 c4,.string p.key,.int .i64 p.most,.string p.node,.bool p.hold] 52))
 have hkz:Kept w Z:=by rw[←hZ];exact jn _ _ _
 have Vj:=lH (jc w (.slice s1 n1 e1) [.slice s2 n2 e2,.slice s3 n3 e3] 26 Z (by rw[←hZ];exact ja _ _));have Vg:=lH (show jf (w.heap.size+1) [.string p.name,.string p.owner,.int .i64 p.prio,.slice a1 m1 c1,.slice a2 m2 c2,.slice a3 m3 c3,.slice a4 m4 c4,.string p.key,.int .i64 p.most,.string p.node,.bool p.hold] Z by
  have dd:=jc (w.alloc (.cells #[.slice s1 n1 e1,.slice s2 n2 e2,.slice s3 n3 e3] 26)) (.string p.name) [.string p.owner,.int .i64 p.prio,.slice a1 m1 c1,.slice a2 m2 c2,.slice a3 m3 c3,.slice a4 m4 c4,.string p.key,.int .i64 p.most,.string p.node,.bool p.hold] 52 Z (by rw[hZ];exact Kept.refl _);rw[World.size_alloc] at dd;exact dd)
 obtain⟨K,HS,HP,HL,Tg,Ud⟩:=lH6 hkz (hs.kept hkz) (hp.kept hkz) hl hb hlp;clear hs hp hkz hl hb hlp;have UX:=lH (jjX s1 s2 s3 n1 e1 n2 e2 n3 e3 a1 a2 a3 a4 m1 c1 m2 c2 m3 c3 m4 c4 pack p s Z HS.out HL.out Tg.out HP.out Ud.out);unfold jy at UX;obtain⟨y0,y1,y2⟩:=Vj.out.at3;obtain⟨r0,r1,r2,r3,r4,r5,r6,r7,r8,r9,r10⟩:=Vg.out.at11;unfold jy;go_enter Tryz.func122,Tryz.ntmps122;go_wp2_with fail
 try rw[hZ]
 clear hZ;refine UX.out.mono ?_;rintro e w1 ⟨v,l,rfl,hd,ho,kk⟩;have HD:=lH hd;have K:=lH (K.out.trans kk);obtain⟨a,cap,rfl,-,-,hrow⟩:=ho.at_;clear kk hd ho UX y0 y1 y2 r0 r1 r2 r3 r4 r5 r6 r7 r8 r9 r10
 cases l with
 | nil =>
  have h0:(((([]:List ByteArray).length:Nat):Int)==0)=true:=rfl;go_wp2;go_ret2
  exact⟨[],HD.out,rfl,K.out⟩
 | cons x t =>
  obtain⟨b,off,rfl⟩:=hrow.form.resolve_left (by simp);obtain⟨x9,hx9,-,-,-,c0⟩:=hrow.str (k:=0) (by simp);obtain rfl:x=x9:=by simpa using hx9
  rw[Nat.add_zero] at c0;obtain⟨n,hn⟩:=eX ((x::t).length)
  have hn1:0<n:=by rw[←hn];simp
  have hn0:((n:Int)==0)=false:=by simp;omega
  have hn2:(0:Int)<(n:Int):=by omega
  rw[hn];clear hx9 hrow hn;go_wp2;go_ret2
  exact⟨x::t,HD.out,rfl,K.out⟩
theorem jmc.is {s:Clu} {p:Pd} {pack:Bool} {w w':World} {e:Ending} {l:List ByteArray} (h:jmc s p pack w e w') (ho:qo s p pack l):Say (.tuple #[.string (l.headD ⟨#[]⟩),.bool (!l.isEmpty)]) w e w':=by
 obtain⟨m,hm,he,kk⟩:=h;rw[hm.unique ho] at he;exact⟨he,kk⟩
theorem jdA.is {x:Option Nat} {z:Nat} {w w':World} {e:Ending} (h:jdA x w e w') (hx:x=some z):Say (.float .f64 z) w e w':=by
 obtain⟨r,he,hr,-,kk⟩:=h;rw[hx] at hr;obtain⟨-,rfl⟩:=Y0.1 hr;exact⟨he,kk⟩
theorem jlg.is {s:Clu} {p:Pd} {pack:Bool} {w w':World} {e:Ending} {l:List ByteArray} (h:jlg s p pack w e w') (ho:qo s p pack l):∃v,e=.returned v∧Own zu 9 w' w.heap.size v l∧Kept w w':=by
 obtain⟨v,m,he,hm,h2,kk⟩:=h;rw[hm.unique ho] at h2;exact⟨v,he,h2,kk⟩
end Go.Proofs.YtibepooajeakfaaGreat
