/- C. -/
import Derived.Test.YtokdjfoalkmhiaaGreatG0
import Derived.Test.YtokdjfoalkmhiaaGreatG1
import Derived.Test.YtokdjfoalkmhiaaGreatG2
import Derived.Test.YtokdjfoalkmhiaaGreatG5
import Derived.Test.YtokdjfoalkmhiaaGreatG6
import Derived.Test.YtokdjfoalkmhiaaGreatG9
import Derived.Test.YtokdjfoalkmhiaaGreatG10
import Derived.Test.YtokdjfoalkmhiaaGreatG11
import Derived.Lib.OwnBridge
import Derived.Shelf.SlSortCmp.NoneTotal
set_option linter.unusedVariables false
set_option maxRecDepth 100000
set_option maxHeartbeats 25600000
namespace Go.Proofs.YtokdjfoalkmhiaaGreat
open Go.RowKit
theorem jd8 {s:Clu} (h:jE s) (x:ByteArray):jE (ZT s x):=⟨fun n hn=>by
 obtain rfl:=List.mem_singleton.1 hn;exact jel h x,fun n hn=>by
 unfold ZT onP at hn;split at hn
 · cases hn
 · exact h.pods n (List.mem_filter.1 hn).1,(fun n hn=>by cases hn),(by decide:(1:Nat)≤100000),by
 unfold ZT onP;split
 · exact(by decide:(0:Nat)≤100000)
 · exact Nat.le_trans (List.length_filter_le _ _) h.podsN,(by decide:(0:Nat)≤100000)⟩
theorem jn3 (x:ByteArray) (l:List Pd):(onP x l).length≤l.length:=by
 unfold onP;split
 · exact Nat.zero_le _
 · exact List.length_filter_le _ _
theorem jiv {p:Pd} (h:JO p) (x:ByteArray):JO { p with node:=x }:=⟨h.need,h.labels,h.sel,h.tols⟩
theorem jlo {s:Clu} {p:Pd} (h:jE s) (hp:JO p) (hn:s.pods.length+1≤100000):jE (Jv s p):=⟨h.nodes,fun q hq=>by
 rcases ins_mem hq with rfl | hq
 · exact hp
 · exact h.pods q (Zl hq),h.buds,h.nodesN,by
 show (JU p (zc p.name s.pods)).length≤100000;rw[jdy];exact Nat.le_trans (Nat.succ_le_succ (jb7 _ _)) hn,h.budsN⟩
theorem jju (s1 s2 s3:Option Addr) (n1 e1 n2 e2 n3 e3:Nat) (a1 a2 a3 a4:Option Addr) (m1 c1 m2 c2 m3 c3 m4 c4:Nat) (p:Pd) (s:Clu) (name:ByteArray) (w:World) (hs:jC w (Jg (.slice s1 n1 e1) (.slice s2 n2 e2) (.slice s3 n3 e3)) s) (hl:jE s) (hb:s.pods.length+1≤100000) (hp:ji w (.slice a1 m1 c1) (.slice a2 m2 c2) (.slice a3 m3 c3) (.slice a4 m4 c4) p) (hlp:JO p) (hx:name.size≤maxLen):Calls Tryz.prog 21 #[.agg #[.slice s1 n1 e1,.slice s2 n2 e2,.slice s3 n3 e3],jx p (.slice a1 m1 c1) (.slice a2 m2 c2) (.slice a3 m3 c3) (.slice a4 m4 c4),.string name] w (jdm (qu s p name) w):=by
 obtain⟨Z,hZ⟩:=eX ((w.alloc (.cells #[.slice s1 n1 e1,.slice s2 n2 e2,.slice s3 n3 e3] 26)).alloc (.cells #[.string p.name,.string p.owner,.int .i64 p.prio,.slice a1 m1 c1,.slice a2 m2 c2,.slice a3 m3 c3,.slice a4 m4 c4,.string p.key,.int .i64 p.most,.string p.node,.bool p.hold] 44))
 have hkz:Kept w Z:=by rw[←hZ];exact jn _ _ _
 have hzs:Z.heap.size=w.heap.size+2:=by rw[←hZ];simp
 have hq1:=jc w (.slice s1 n1 e1) [.slice s2 n2 e2,.slice s3 n3 e3] 26 Z (by rw[←hZ];exact ja _ _);have hq2:jf (w.heap.size+1) [.string p.name,.string p.owner,.int .i64 p.prio,.slice a1 m1 c1,.slice a2 m2 c2,.slice a3 m3 c3,.slice a4 m4 c4,.string p.key,.int .i64 p.most,.string p.node,.bool p.hold] Z:=by
  have dd:=jc (w.alloc (.cells #[.slice s1 n1 e1,.slice s2 n2 e2,.slice s3 n3 e3] 26)) (.string p.name) [.string p.owner,.int .i64 p.prio,.slice a1 m1 c1,.slice a2 m2 c2,.slice a3 m3 c3,.slice a4 m4 c4,.string p.key,.int .i64 p.most,.string p.node,.bool p.hold] 44 Z (by rw[hZ];exact Kept.refl _);rw[World.size_alloc] at dd;exact dd
 obtain⟨Y,hY⟩:=eX (Z.setCell ⟨w.heap.size+1,9,none⟩ (.string name))
 have hky:Kept w Y:=by rw[←hY];exact hkz.setCell (p:=⟨w.heap.size+1,9,none⟩) (by show w.heap.size≤w.heap.size+1;omega) _
 obtain⟨Vg,Vk,HS,HP,K,HL,Ud,Tg⟩:=lH8 (show jf (w.heap.size+1) [.string p.name,.string p.owner,.int .i64 p.prio,.slice a1 m1 c1,.slice a2 m2 c2,.slice a3 m3 c3,.slice a4 m4 c4,.string p.key,.int .i64 p.most,.string name,.bool p.hold] Y by rw[←hY];exact hq2.set (j:=9) (u:=.string name) (by simp)) (show jf w.heap.size [.slice s1 n1 e1,.slice s2 n2 e2,.slice s3 n3 e3] Y by rw[←hY];exact hq1.other (by omega)) (hs.kept hky) (show ji Y (.slice a1 m1 c1) (.slice a2 m2 c2) (.slice a3 m3 c3) (.slice a4 m4 c4) { p with node:=name } from by have h:=hp.kept hky;exact⟨h.name,h.owner,h.key,hx,h.prio,h.most,h.need,h.labels,h.sel,h.tols⟩) hky hl (jiv hlp name) hb;have HV:=lH (show qu s p name=jcR (Jv (ZT s name) { p with node:=name }) name from rfl);have u9:=hq2.at_ 9 _ rfl;have f9:=hq2.free 9;have HF:=lH (show ∀W,Kept Y W→W.cell? ⟨w.heap.size,0,none⟩=some (.slice s1 n1 e1)∧W.cell? ⟨w.heap.size,1,none⟩=some (.slice s2 n2 e2)∧W.cell? ⟨w.heap.size,2,none⟩=some (.slice s3 n3 e3)∧W.cell? ⟨w.heap.size+1,0,none⟩=some (.string p.name)∧W.cell? ⟨w.heap.size+1,1,none⟩=some (.string p.owner)∧W.cell? ⟨w.heap.size+1,2,none⟩=some (.int .i64 p.prio)∧W.cell? ⟨w.heap.size+1,3,none⟩=some (.slice a1 m1 c1)∧W.cell? ⟨w.heap.size+1,4,none⟩=some (.slice a2 m2 c2)∧W.cell? ⟨w.heap.size+1,5,none⟩=some (.slice a3 m3 c3)∧W.cell? ⟨w.heap.size+1,6,none⟩=some (.slice a4 m4 c4)∧W.cell? ⟨w.heap.size+1,7,none⟩=some (.string p.key)∧W.cell? ⟨w.heap.size+1,8,none⟩=some (.int .i64 p.most)∧W.cell? ⟨w.heap.size+1,9,none⟩=some (.string name)∧W.cell? ⟨w.heap.size+1,10,none⟩=some (.bool p.hold) from fun W kk=>by
  have h:=Vk.out.kept kk;have q:=Vg.out.kept kk;exact⟨h.at_ 0 _ rfl,h.at_ 1 _ rfl,h.at_ 2 _ rfl,q.at_ 0 _ rfl,q.at_ 1 _ rfl,q.at_ 2 _ rfl,q.at_ 3 _ rfl,q.at_ 4 _ rfl,q.at_ 5 _ rfl,q.at_ 6 _ rfl,q.at_ 7 _ rfl,q.at_ 8 _ rfl,q.at_ 9 _ rfl,q.at_ 10 _ rfl⟩)
 clear hs hp hkz hky hl hlp hb hq1 hq2;unfold jx;go_enter Tryz.func21,Tryz.ntmps21;go_upto_region 1 with fail
 try rw[hZ]
 clear hZ;go_upto_region 2 with fail
 try rw[hY]
 clear hY u9 f9 hzs;have J:=lH (Kept.drew Y);refine wp_region_held_drew (S:=fun W=>W.cell? ⟨w.heap.size,0,none⟩=some (.slice s1 n1 e1)∧W.cell? ⟨w.heap.size,1,none⟩=some (.slice s2 n2 e2)∧W.cell? ⟨w.heap.size,2,none⟩=some (.slice s3 n3 e3)∧W.cell? ⟨w.heap.size+1,0,none⟩=some (.string p.name)∧W.cell? ⟨w.heap.size+1,1,none⟩=some (.string p.owner)∧W.cell? ⟨w.heap.size+1,2,none⟩=some (.int .i64 p.prio)∧W.cell? ⟨w.heap.size+1,3,none⟩=some (.slice a1 m1 c1)∧W.cell? ⟨w.heap.size+1,4,none⟩=some (.slice a2 m2 c2)∧W.cell? ⟨w.heap.size+1,5,none⟩=some (.slice a3 m3 c3)∧W.cell? ⟨w.heap.size+1,6,none⟩=some (.slice a4 m4 c4)∧W.cell? ⟨w.heap.size+1,7,none⟩=some (.string p.key)∧W.cell? ⟨w.heap.size+1,8,none⟩=some (.int .i64 p.most)∧W.cell? ⟨w.heap.size+1,9,none⟩=some (.string name)∧W.cell? ⟨w.heap.size+1,10,none⟩=some (.bool p.hold)) (by kernel_rfl) (HF.out _ J.out) (fun hHeld=>?_);obtain⟨wd,hwd⟩:=eX (Y.drew)
 rw[hwd] at J hHeld;try rw[hwd]
 clear hwd;refine tkI 0 ?_;refine tkI 1 ?_;refine tkI 3 ?_;refine tkI 5 ?_;try simp only[nP]
 refine rd1 2 fun K9 Ky=>?_;go_simp;refine(jkA s1 s2 s3 n1 e1 n2 e2 n3 e3 s name _ (HS.out.kept J.out) HL.out).mono ?_;rintro e w1 ⟨y,rfl,hy,kk⟩;have HY:=lH hy;have J:=lH (J.out.trans kk);clear kk hy;refine Ky.out _ _ (HF.out _ J.out) (fun _=>?_);clear Ky K9;try simp only[nP]
 refine rd1 4 fun K9 Ky=>?_;go_simp;refine(jnI HY.out (p:={ p with node:=name }) ⟨_,_,_,_,rfl,HP.out.kept J.out⟩ (jd8 HL.out name) Ud.out).mono ?_;rintro e w2 ⟨y2,rfl,hy,kk⟩;obtain⟨t1,k1,d1,t2,k2,d2,t3,k3,d3,rfl⟩:=hy.spelt;have Tv:=lH hy;have J:=lH (J.out.trans kk);clear kk hy HY;refine Ky.out _ _ (HF.out _ J.out) (fun _=>?_);clear Ky K9;try simp only[nP]
 refine rd1 6 fun K9 Ky=>?_;go_simp;have Te:=jkv t1 t2 t3 k1 d1 k2 d2 k3 d3 _ name w2 Tv.out (jlo (jd8 HL.out name) Ud.out (by have:=Tg.out;have:(ZT s name).pods.length≤s.pods.length:=jn3 name s.pods;omega));try unfold Jg at Te
 refine Te.mono ?_;rintro e w3 ⟨r,rfl,hr,hrt,kk⟩;have HR:=lH (hr.trans HV.out.symm);have J:=lH (J.out.trans kk);clear kk hr Te Tv;refine Ky.out _ _ (HF.out _ J.out) (fun _=>?_);clear Ky K9;try simp only[nP]
 refine tkI 7 ?_;try simp only[nP]
 refine wpAnyH_done (by kernel_rfl) ?_ _;go_wp2;go_ret;exact jft HR.out hrt (K.out.trans J.out)
open Go.RowKit Go.Shelf
attribute [local go_sem] Oper.semAt_some ZM
def mkC (x:Mk):List Value:=[.string x.1,.int .i64 x.2.1,.float .f64 x.2.2]
theorem jc2 (x:Mk) (u:Value) (h:u ∈ mkC x):u.oneCell'=true:=by
 have e:u=Value.string x.1∨u=Value.int .i64 x.2.1∨u=Value.float .f64 x.2.2:=by simpa [mkC] using h
 rcases e with e | e | e<;>rw[e]<;>rfl
def MkLay:Lay Mk:={ m:=3,cs:=mkC,fine:=fun x=>x.1.size≤maxLen∧x.2.2<TOP,len:=fun _=>rfl,one:=jc2,pos:=by decide }
def mk0:Mk:=(⟨#[]⟩,0,0)
def ZP (zs:List Mk) (k:Nat):List Mk:=(List.range k).map fun j=>zs[j]?.getD mk0
theorem jiH (zs:List Mk) (k:Nat):ZP zs (k+1)=ZP zs k++[zs[k]?.getD mk0]:=by simp[ZP,List.range_succ]
theorem jgw (zs:List Mk) (k:Nat):(ZP zs k).length=k:=by simp[ZP]
theorem jcZ (zs:List Mk) {k:Nat} (hk:k≤zs.length):ZP zs k=zs.take k:=by
 apply List.ext_getElem
 · simp[ZP,hk]
 · intro i h1 h2;have:i<zs.length:=by simp[ZP] at h1;omega
   simp[ZP,this]
theorem jkZ (zs:List Mk):ZP zs zs.length=zs:=by rw[jcZ zs (Nat.le_refl _),List.take_length]
theorem je1 (F:Fence) (n:Nat) (h7:F.fn 170) (hro:F.round=none) (hn:1≤n) (l Bs n₀ b off len cap:Nat) (zs:List Mk) (hreach:len≤1000000) (hb:b<n₀) (J Jx:List Mk→World→Prop)
 (hY:∀pre x W,J pre W→pre.length<len→YieldAt F (n-1) Tryz.prog l #[.agg #[.string x.1,.int .i64 x.2.1,.float .f64 x.2.2]] W fun e W' =>
   (e=.returned (.bool true)∧J (pre++[x]) W'∧Below n₀ W W')∨(e=.returned (.bool false)∧Jx (pre++[x]) W'))
 (W:World) (hJ:AbidesFrom W.heap.size J) (hnW:n₀≤W.heap.size) (hBs:W.cell? ⟨Bs,0,none⟩=some (.slice (some ⟨b,off,none⟩) len cap))
 (hc:∀j,j<len→W.cell? ⟨b,off+j*3,none⟩=some (.string (zs[j]?.getD mk0).1)∧W.cell? ⟨b,off+j*3+1,none⟩=some (.int .i64 (zs[j]?.getD mk0).2.1)∧W.cell? ⟨b,off+j*3+2,none⟩=some (.float .f64 (zs[j]?.getD mk0).2.2)) (h0:J [] W) :
 CallsIn F n Tryz.prog 170 #[.func (.yield l) #[] #[],.pointer (some ⟨Bs,0,none⟩)] W fun e W'=>(∃v,e=.returned v) ∧
  ((∃ys,ys=ZP zs len∧J ys W')∨(∃pre,(∃k,k≤len∧pre=ZP zs k)∧Jx pre W')):=by
 refine callsIn_of_wp Tryz.func170 rfl h7 ?_ hro;simp only[Tryz.ntmps170,List.size_toArray,List.length_cons,List.length_nil,Nat.reduceAdd,Nat.reduceSub,Array.replicate_succ,Array.replicate_zero,List.push_toArray,List.append_toArray,List.nil_append,List.cons_append];gi_wp2
 gi_loopw [7] (fun i wr=>∃k:Nat,k≤len∧i=.int .i64 k∧J (ZP zs k) wr∧Below n₀ W wr∧W.heap.size≤wr.heap.size)
  (fun i _=>len-(intOf i).toNat)
 case atStart=>exact⟨0,Nat.zero_le _,rfl,h0,Below.refl _ _,Nat.le_refl _⟩
 case round =>
  obtain⟨k,hk,rfl,hJs,hnx,hsz⟩:=hrel;have hcx:k<len→wr.cell? ⟨b,off+k*3,none⟩=some (.string (zs[k]?.getD mk0).1)∧wr.cell? ⟨b,off+k*3+1,none⟩=some (.int .i64 (zs[k]?.getD mk0).2.1)∧wr.cell? ⟨b,off+k*3+2,none⟩=some (.float .f64 (zs[k]?.getD mk0).2.2):=fun h=>⟨(hnx.cell (p:=⟨b,off+k*3,none⟩) hb).trans (hc k h).1,(hnx.cell (p:=⟨b,off+k*3+1,none⟩) hb).trans (hc k h).2.1,(hnx.cell (p:=⟨b,off+k*3+2,none⟩) hb).trans (hc k h).2.2⟩
  by_cases hlt:k<len
  · obtain⟨c0,c1,c2⟩:=hcx hlt;have hus:=lH (jiH zs k);obtain⟨y,hy⟩:=eX (zs[k]?.getD mk0)
    rw[hy] at c0 c1 c2 hus;obtain⟨y1,y2,y3⟩:=y;clear hcx hy;obtain⟨w2,hw2⟩:=eX (wr.alloc (.cells #[.string y1,.int .i64 y2,.float .f64 y3] 172))
    have hJ2:J (ZP zs k) w2:=by rw[←hw2];exact hJ _ wr _ none hJs (World.grownBy_alloc _ _ none) (fun r e=>by cases e)
    have hb2:Below n₀ wr w2:=by rw[←hw2];exact(Below.refl _ wr).alloc (by have:=hnx.size;omega) _
    have hs2:W.heap.size≤w2.heap.size:=by rw[←hw2];simp;omega
    obtain⟨fn,tmps,assign,body,hyy,hR⟩:=hY _ (y1,y2,y3) w2 hJ2 (by rw[jgw];exact hlt);dsimp only at hyy;rw[←hw2] at hyy hR;have UB:=lH hw2;clear hw2;gi_wp2
    refine hR.mono ?_;rintro e W3 (⟨rfl,hJ3,hk3⟩ | ⟨rfl,hJx3⟩)
    · rw[UB.out] at hk3;gi_wp2
      go_roundw
      case rel=>exact⟨k+1,by omega,by simp,by rw[hus.out];exact hJ3,hnx.trans (hb2.trans hk3),Nat.le_trans hs2 hk3.size⟩
      case measure=>simp[intOf];omega
    · gi_wp2
      refine bodyPost_ret (results_none rfl _ _ _) rfl ?_;exact⟨⟨_,rfl⟩,.inr ⟨_,⟨k+1,by omega,hus.out.symm⟩,hJx3⟩⟩
  · obtain rfl:k=len:=by omega
    gi_wp2
    go_end0
    exact⟨⟨_,rfl⟩,.inl ⟨_,rfl,hJs⟩⟩
def Mks (n₀:Nat) (W:World) (sv:Value) (zs:List Mk):Prop :=
 ∃a cap,sv=.slice a zs.length cap∧(zs.length=0∨∃b off,a=some ⟨b,off,none⟩∧b<n₀∧∀j,j<zs.length→W.cell? ⟨b,off+j*3,none⟩=some (.string (zs[j]?.getD mk0).1)∧W.cell? ⟨b,off+j*3+1,none⟩=some (.int .i64 (zs[j]?.getD mk0).2.1)∧W.cell? ⟨b,off+j*3+2,none⟩=some (.float .f64 (zs[j]?.getD mk0).2.2))
theorem Mks.below {n₀:Nat} {A B:World} (h:Below n₀ A B) {sv:Value} {zs:List Mk} (hf:Mks n₀ A sv zs):Mks n₀ B sv zs:=by
 obtain⟨a,cap,e,hc⟩:=hf;refine⟨a,cap,e,hc.imp id ?_⟩;rintro ⟨b,off,ea,hb,hc⟩;exact⟨b,off,ea,hb,fun j hj=>⟨(h.cell (p:=⟨b,off+j*3,none⟩) hb).trans (hc j hj).1,(h.cell (p:=⟨b,off+j*3+1,none⟩) hb).trans (hc j hj).2.1,(h.cell (p:=⟨b,off+j*3+2,none⟩) hb).trans (hc j hj).2.2⟩⟩
theorem Reads.mks {w:World} {v:Value} {l:List Mk} (h:Reads MkLay w v l):Mks w.heap.size w v l:=by
 obtain⟨a,cap,rfl,h1,h2,h3⟩:=h;refine⟨a,cap,rfl,?_⟩;rcases Nat.eq_zero_or_pos l.length with hz | hz
 · exact .inl hz
 · rcases h3.form with h4 | ⟨b,off,rfl⟩
   · exact .inl h4
   · obtain⟨-,-,-,hb,-⟩:=h3.cells hz;refine .inr ⟨b,off,rfl,hb,fun j hj=>?_⟩;obtain⟨x,hx,-,-,-,hc⟩:=h3.cells hj;rw[hx];exact⟨hc 0 _ rfl,hc 1 _ rfl,hc 2 _ rfl⟩
theorem jb8 (F:Fence) (n:Nat) (h7:F.fn 170) (hro:F.round=none) (l Bs:Nat) (a:Option Addr) (cap:Nat) (J:List Mk→World→Prop) (W:World) (hBs:W.cell? ⟨Bs,0,none⟩=some (.slice a 0 cap)) (h0:J [] W) :
 CallsIn F n Tryz.prog 170 #[.func (.yield l) #[] #[],.pointer (some ⟨Bs,0,none⟩)] W fun e W'=>(∃v,e=.returned v)∧J [] W':=by
 refine callsIn_of_wp Tryz.func170 rfl h7 ?_ hro;simp only[Tryz.ntmps170,List.size_toArray,List.length_cons,List.length_nil,Nat.reduceAdd,Nat.reduceSub,Array.replicate_succ,Array.replicate_zero,List.push_toArray,List.append_toArray,List.nil_append,List.cons_append];gi_wp2
 gi_loopw [7] (fun i wr=>i=.int .i64 0∧J [] wr) (fun _ _=>0)
 case atStart=>exact⟨rfl,h0⟩
 case round =>
  obtain⟨rfl,hJs⟩:=hrel;gi_wp2
  go_end0
  exact⟨⟨_,rfl⟩,hJs⟩
theorem jfF (a:Option Addr) (len cap:Nat) (w:World) :
 Calls Tryz.prog 109 #[.slice a len cap] w fun e w'=>e=.returned (.func (.func 170) #[] #[.pointer (some ⟨w.heap.size,0,none⟩)])∧w.alloc (.cells #[.slice a len cap] 102)=w':=by
 go_enter Tryz.func109,Tryz.ntmps109;go_wp2;go_ret;exact⟨rfl,rfl⟩
theorem jdi (F:Fence) (n:Nat) (h7:F.fn 170) (hro:F.round=none) (hn:1≤n) (Bs n₀:Nat) (sv:Value) (zs:List Mk) (hreach:zs.length≤1000000) (w:World) (hBs:Bs<w.heap.size) (hn₀:n₀≤w.heap.size)
 (hc:w.cell? ⟨Bs,0,none⟩=some sv) (hI:Mks n₀ w sv zs) :
 SeqStopsK F n Tryz.prog 170 #[.pointer (some ⟨Bs,0,none⟩)] (fun x:Mk=>#[.agg #[.string x.1,.int .i64 x.2.1,.float .f64 x.2.2]]) (Below n₀) (fun ys=>ys=zs) (fun pre=>pre <+: zs) zs.length w:=fun l J Jx W hW hJ _ hY h0=>by
 have hc':=(hW.cell (p:=⟨Bs,0,none⟩) hBs).trans hc;obtain⟨a,cap,rfl,h3⟩:=hI.below (hW.mono hn₀);rcases h3 with hz | ⟨b,off,rfl,hb,hcs⟩
 · have hzs:zs=[]:=List.length_eq_zero_iff.1 hz;subst hzs;exact(jb8 F n h7 hro l Bs a cap J W hc' h0).mono fun e W' ⟨he,hj⟩=>⟨he,.inl ⟨_,rfl,hj⟩⟩
 · refine(je1 F n h7 hro hn l Bs n₀ b off zs.length cap zs hreach hb J Jx hY W hJ (Nat.le_trans hn₀ hW.size) hc' hcs h0).mono ?_;rintro e W' ⟨he,⟨ys,rfl,hj⟩ | ⟨pre,⟨k,hk,rfl⟩,hj⟩⟩
   · exact⟨he,.inl ⟨_,jkZ zs,hj⟩⟩
   · exact⟨he,.inr ⟨_,by rw[jcZ zs hk];exact List.take_prefix _ _,hj⟩⟩
theorem jke:(Tryz.prog.info? 172).map (fun i=>(i.zero,i.size,i.bytes))=some (some (.agg #[.string ByteArray.empty,.int .i64 0,.float .f64 0]),3,32):=by kernel_rfl
def jbs (W:World) (q:Nat) (x:Mk):Prop:=W.heap[q]?=some (.cells #[.string x.1,.int .i64 x.2.1,.float .f64 x.2.2] 172 (0,0))
theorem jbs.cells {W:World} {q:Nat} {x:Mk} (h:jbs W q x):W.cell? ⟨q,0,none⟩=some (.string x.1)∧W.cell? ⟨q,1,none⟩=some (.int .i64 x.2.1)∧W.cell? ⟨q,2,none⟩=some (.float .f64 x.2.2) :=
 ⟨by rw[Lib.cell_of_heap h];rfl,by rw[Lib.cell_of_heap h];rfl,by rw[Lib.cell_of_heap h];rfl⟩
theorem jbs.kept {B q:Nat} {x:Mk} {X Y:World} {row:Option Nat} (h:jbs X q x) (hg:X.grownBy Y row) (hrow:∀r,row=some r→B≤r∧∃o:Obj,X.heap[r]?=some o∧o.isCells=false):jbs Y q x :=
 (hg.block q (Array.getElem?_eq_some_iff.1 h).1 (fun e'=>by
   obtain⟨-,o,ho,hc⟩:=hrow q e'.symm;rw[show X.heap[q]?=_ from h] at ho;cases ho;cases hc)).trans h
theorem jfu (w:World) (x:Mk):∀j u,(mkC x)[j]?=some u→(w.alloc (.cells #[.string x.1,.int .i64 x.2.1,.float .f64 x.2.2] 172)).cell? ((⟨w.heap.size,0,none⟩:Addr).add j)=some u:=fun j u h=>by
 match j,h with
 | 0,h=>cases h;simp[Addr.add]
 | 1,h=>cases h;simp[Addr.add]
 | 2,h=>cases h;simp[Addr.add]
 | j+3,h=>cases h
def jlK (base:Nat) (W:World) (v:Value) (zs:List Mk):Prop:=W.ownsRow base 172 3 v zs.length (zs.flatMap mkC)∧(v=.slice none 0 0↔zs=[])
theorem jdE (F:Fence) (n:Nat) (h3:F.fn 217) (h5:F.fn 170) (hro:F.round=none) (hn:3≤n) (Bs:Nat) (sv:Value) (xs:List Mk) (hlen:xs.length≤1000000) (w:World)
 (hBs:Bs<w.heap.size) (hcs:w.cell? ⟨Bs,0,none⟩=some sv) (hL:Mks w.heap.size w sv xs) :
 CallsIn F n Tryz.prog 217 #[.slice none 0 0,.func (.func 170) #[] #[.pointer (some ⟨Bs,0,none⟩)]] w fun e W'=>∃v,e=.returned v∧jlK w.heap.size W' v xs∧Below w.heap.size w W':=by
 have h1:1≤n:=by omega
 obtain⟨i0,hi,hz0,hz1,hz2⟩:=info_parts jke;refine callsIn_of_wp_marks Tryz.func217 rfl h3 ?_ hro;simp only[Tryz.ntmps217,List.size_toArray,List.length_cons,List.length_nil,Nat.reduceAdd,Nat.reduceSub,Array.replicate_succ,Array.replicate_zero,List.push_toArray,List.append_toArray,List.nil_append,List.cons_append];gi_wp2
 have bO:=Boxed.new w 102 (.slice none 0 0);have hB0:Below w.heap.size w (w.alloc (.cells #[.slice none 0 0] 102)):=(Below.refl _ w).alloc (Nat.le_refl _) _
 refine wpIn_rangeFunc_ownH hro h1 (gf:=170) (lb:=#[.pointer (some ⟨Bs,0,none⟩)]) rfl h5 (enters_of Tryz.func170 (by kernel_rfl) rfl)
  (jdi F (n-1) h5 hro (by omega) Bs w.heap.size sv xs hlen _ (by simp;omega) (by simp) ((hB0.cell (p:=⟨Bs,0,none⟩) hBs).trans hcs) (hL.below hB0)) belowK_t (belowK_b (by simp)) (Below.refl _ _) (fun _=>rfl)
  (fun pre W=>(∃v,Boxed W w.heap.size 102 v∧W.ownsRow w.heap.size 172 3 v pre.length (pre.flatMap mkC)∧(v=.slice none 0 0↔pre=[]))∧Below w.heap.size w W)
  (fun _ _ _=>False)
  (OwnFrom.and (Go.Own.from (holdsRow_own w.heap.size w.heap.size 102 172 3 (fun pre=>pre.length) (fun pre=>pre.flatMap mkC) (fun pre v=>v=.slice none 0 0↔pre=[])) _) (ownFrom_below (Nat.le_refl _) (by simp)))
  (fun _ _ _ _ _ hs _ _=>hs)
  ⟨⟨_,bO,World.ownsRow_nil _ _ _ _,by simp⟩,hB0⟩
  (fun x a' W=>∃q,a'={ tmps:=#[.slice none 0 0,.func (.func 170) #[] #[.pointer (some ⟨Bs,0,none⟩)],.pointer (some ⟨w.heap.size,0,none⟩),undef,.slice none 0 0,.pointer (some ⟨q,0,none⟩),.func (.func 170) #[] #[.pointer (some ⟨Bs,0,none⟩)],.agg #[.string x.1,.int .i64 x.2.1,.float .f64 x.2.2],undef,undef,undef,undef,undef],defers:=[] }∧jbs W q x)
  (fun x a' s X Y row hs hg hr=>by
    obtain⟨q,e,hb⟩:=hs;exact⟨q,e,hb.kept hg hr⟩) ?assign ?body ?done ?stop
 case assign =>
  rintro l pre x W K ⟨⟨v,hv,hrow,hnil⟩,hB⟩ hK;have hle:w.heap.size≤W.heap.size:=hB.size;gi_wp2
  exact hK _ _ (KeepsFrom.of_grownBy (World.grownBy_alloc W _ none) (by simp)) ((Below.refl _ W).alloc hle _) ⟨⟨v,hv.alloc _,hrow.alloc _,hnil⟩,hB.alloc hle _⟩ ⟨W.heap.size,rfl,World.alloc_heap_new W _⟩
 case body =>
  rintro l pre x a' W hwl hrl ⟨⟨v,hv,hrow,hnil⟩,hB⟩ ⟨q,rfl,hbx⟩ hlt;have hc:=hv.cell;obtain⟨e0,e1,e2⟩:=hbx.cells;gi_wp2_with (gi_at_builtin;refine wpListIn_append_own _ rfl _ _ 102 rfl w.heap.size 172 i0 (.agg #[.string ByteArray.empty,.int .i64 0,.float .f64 0]) 3 32 Tryz.underlying102 hi hz0 hz1 hz2 rfl (by decide) _ _ _ rfl (hrow.alloc _) ⟨W.heap.size,0,none⟩ 1 1 (mkC x) rfl rfl (jfu W x) (jc2 x) (by unfold maxLen;omega) (by omega) (by have:=hB.size;simp;omega) ?_;intro v' w1 hown' hgrow _;obtain⟨g',cap',rfl⟩:=ownsRow_succ hown';obtain⟨hv1,hv2,hr2,hk2,hb2⟩:=hv.appended (by decide) hrow hB.size (Nat.le_refl _) hown' hgrow;have hc1:=hv1.cell;have hf1:=hv1.frozen)
  exact⟨hk2.from _,hb2,⟨_,hv2,by simpa using hr2,by simp⟩,hB.trans hb2⟩
 case done =>
  rintro D ys W hD rfl ⟨⟨v,hv,hrow,hnil⟩,hB⟩ hK;have hc:=hv.cell;gi_wp2
  refine⟨by simp,.inl ⟨_,_,rfl,run_takeDeferred hK,?_⟩⟩;exact⟨_,results_tmp rfl _ _ _,v,rfl,⟨ownsRow_putObj hrow _ hK rfl,hnil⟩,hB.trans (belowK_b (w:=w) (Nat.le_refl _) W D _ _ (by simp at hD;omega) hK rfl rfl)⟩
 case stop =>
  rintro D c pre W _ _ h _;exact h.elim
theorem jeB (Bs:Nat) (sv:Value) (xs:List Mk) (hlen:xs.length≤1000000) (w:World) (hBs:Bs<w.heap.size) (hcs:w.cell? ⟨Bs,0,none⟩=some sv) (hL:Mks w.heap.size w sv xs) :
 Calls Tryz.prog 168 #[.func (.func 170) #[] #[.pointer (some ⟨Bs,0,none⟩)]] w fun e W'=>∃v,e=.returned v∧jlK w.heap.size W' v xs∧Below w.heap.size w W':=by
 have hA:Calls Tryz.prog 217 #[.slice none 0 0,.func (.func 170) #[] #[.pointer (some ⟨Bs,0,none⟩)]] w _ :=
  callsIn_wide.1 (jdE Fence.wide 3 trivial trivial rfl (by omega) Bs sv xs hlen w hBs hcs hL)
 have HC:=lH hA;clear hA hBs hcs hL;go_enter Tryz.func168,Tryz.ntmps168;go_wp2_with fail
 refine HC.out.mono ?_;rintro e w1 ⟨v,rfl,ho,hb⟩;have HO:=lH ho;have HB:=lH hb;clear ho hb;go_wp2_with fail
 go_ret;exact⟨v,rfl,HO.out,HB.out⟩
end Go.Proofs.YtokdjfoalkmhiaaGreat
namespace Go.Proofs.YtokdjfoalkmhiaaGreat
open Go.RowKit
theorem jco (s1 s2 s3:Option Addr) (n1 e1 n2 e2 n3 e3:Nat) (a1 a2 a3 a4:Option Addr) (m1 c1 m2 c2 m3 c3 m4 c4:Nat) (p:Pd) (s:Clu) (w:World) (hs:jC w (Jg (.slice s1 n1 e1) (.slice s2 n2 e2) (.slice s3 n3 e3)) s) (hl:jE s) (hp:ji w (.slice a1 m1 c1) (.slice a2 m2 c2) (.slice a3 m3 c3) (.slice a4 m4 c4) p):Calls Tryz.prog 10 #[.agg #[.slice s1 n1 e1,.slice s2 n2 e2,.slice s3 n3 e3],jx p (.slice a1 m1 c1) (.slice a2 m2 c2) (.slice a3 m3 c3) (.slice a4 m4 c4)] w fun e w'=>∃v,e=.returned v∧Own zl 9 w' w.heap.size v (zL s p s.nodes)∧Kept w w':=by
 obtain⟨i0,hi,hz0,hz1,hz2'⟩:=info_parts jkY;obtain⟨Z,hZ⟩:=eX ((w.alloc (.cells #[.slice s1 n1 e1,.slice s2 n2 e2,.slice s3 n3 e3] 26)).alloc (.cells #[.string p.name,.string p.owner,.int .i64 p.prio,.slice a1 m1 c1,.slice a2 m2 c2,.slice a3 m3 c3,.slice a4 m4 c4,.string p.key,.int .i64 p.most,.string p.node,.bool p.hold] 44))
 have hkz:Kept w Z:=by rw[←hZ];exact jn _ _ _
 have Vk:=lH (jc w (.slice s1 n1 e1) [.slice s2 n2 e2,.slice s3 n3 e3] 26 Z (by rw[←hZ];exact ja _ _));have Vg:=lH (show jf (w.heap.size+1) [.string p.name,.string p.owner,.int .i64 p.prio,.slice a1 m1 c1,.slice a2 m2 c2,.slice a3 m3 c3,.slice a4 m4 c4,.string p.key,.int .i64 p.most,.string p.node,.bool p.hold] Z by
  have dd:=jc (w.alloc (.cells #[.slice s1 n1 e1,.slice s2 n2 e2,.slice s3 n3 e3] 26)) (.string p.name) [.string p.owner,.int .i64 p.prio,.slice a1 m1 c1,.slice a2 m2 c2,.slice a3 m3 c3,.slice a4 m4 c4,.string p.key,.int .i64 p.most,.string p.node,.bool p.hold] 44 Z (by rw[hZ];exact Kept.refl _);rw[World.size_alloc] at dd;exact dd)
 obtain⟨K,HS,HP,HL⟩:=lH4 hkz (hs.kept hkz) (hp.kept hkz) hl;clear hs hp hkz hl;have VR:=lH HS.out.nAt.2;have hb1:n1≤100000:=by have:=HL.out.nodesN;have:=VR.out;omega
 have HN:=lH HS.out.nAt.1;have Un:=lH (jmN s1 s2 s3 n1 e1 n2 e2 n3 e3 a1 a2 a3 a4 m1 c1 m2 c2 m3 c3 m4 c4 p s Z HS.out HL.out HP.out);unfold jx at Un;obtain⟨y0,y1,y2⟩:=Vk.out.at3;obtain⟨r0,r1,r2,r3,r4,r5,r6,r7,r8,r9,r10⟩:=Vg.out.at11;unfold jx;go_enter Tryz.func10,Tryz.ntmps10;go_wp2_with fail
 try rw[hZ]
 clear hZ;refine Un.out.mono ?_;rintro e w1 ⟨v9,rfl,hr,kk⟩;obtain⟨Vk,HN,K⟩:=lH3 (Vk.out.kept kk) (HN.out.kept kk) (K.out.trans kk);obtain⟨wa,wc,rfl,-,-,hrow⟩:=hr.reads;rw[jb9,←VR.out] at hrow;rw[jb9,←VR.out];have U2:=lH hrow;clear kk hrow Un HP Vg y0 y1 y2 r0 r1 r2 r3 r4 r5 r6 r7 r8 r9 r10;go_wp2;go_loopw [5,12] (fun v i wr=>∃k:Nat,k≤n1∧i=.int .i64 k∧∃la:List ByteArray,zL s p (s.nodes.take k)=la∧Own zl 9 wr w1.heap.size v la∧Kept w1 wr) (fun _ i _=>n1-(intOf i).toNat)
 case atStart=>exact⟨0,Nat.zero_le _,rfl,[],rfl,Own.nil _ _ _,Kept.refl _⟩
 case round =>
  obtain⟨k,hk,rfl,la,hla,ho,hK⟩:=hrel;obtain⟨HX,HO,HK⟩:=lH3 hla ho hK;obtain⟨m,hm⟩:=eX (la.length)
  have hmk:m≤k:=by
   have:=jbe s p (s.nodes.take k);rw[hla,hm,List.length_take] at this;omega
  have HT:=lH hm;have hbase:w1.heap.size≤wr.heap.size:=hK.size;by_cases hlt:k<n1
  · obtain⟨g,off,rfl⟩:=HN.out.form.resolve_left (by omega);obtain⟨n,b1,q1,f1,b2,q2,f2,b3,q3,f3,hn,hd,hb,u0,u1,u2,u3,u4,hat⟩:=(HN.out.kept hK).at_ hlt;obtain⟨bw,offw,rfl⟩:=U2.out.form.resolve_left (by omega);obtain⟨c,hc,-,-,cw⟩:=(U2.out.kept hK).err hlt;obtain⟨T4,UJ,Th⟩:=lH3 hat.size (ji5 (s:=s) (p:=p) hn) (show qq s p n.name=c by rw[jmJ hn] at hc;exact Option.some.inj hc);have hkk:(k:Int)<(n1:Int):=by omega
    have hk0:¬(k:Int)<0:=by omega
    have y0:=(Vk.out.kept hK).at_ 0 _ rfl;clear hd hb hn hc hat hla ho hm hK;obtain⟨xn,hxn⟩:=eX (n.name)
    rw[hxn] at u0 T4 UJ Th;clear hxn;by_cases h0:c=0
    · subst h0;have HV:=lH (show zL s p (s.nodes.take (k+1))=la++[xn] by rw[UJ.out,HX.out,if_pos Th.out]);have VF:=lH (show wr.ownsRow w1.heap.size 9 1 u5 m (je zl la) by have:=HO.out.1;rw[HT.out] at this;exact this);go_wp2_with (at_builtin;refine wpList_append_lies _ rfl _ _ _ rfl w1.heap.size 9 i0 _ 1 16 Tryz.underlying34 hi hz0 hz1 hz2' rfl (by decide) u5 m (je zl la) rfl (VF.out.alloc _) ⟨wr.heap.size,0,none⟩ 1 1 (zl.cs xn) rfl rfl (World.news_of_block (cs:=#[.string xn]) (t:=9) (fr:=(0,0)) (heap_alloc_new wr _)) (jf5 xn) (by decide) (by unfold maxLen;omega) (by omega) (by simp;omega) (wr.heap.size+1) (by simp) ?_;intro gg cap1 w4 hown1 hgrow hat hlt1)
      have VQ:=lH ((show Below w1.heap.size w1 _ from HK.out.trans (ja wr _)).grown hgrow (by simp;omega) (fun j hj=>(VF.out.lt j hj).1));go_wp2;go_roundw
      case rel=>exact⟨k+1,by omega,by go_num,la++[xn],HV.out,Own.snoc hown1 (by rw[HT.out]) HO.out.2 T4.out,VQ.out⟩
      case measure=>simp[intOf];omega
    · have h0b:(c==0)=false:=by simpa using h0
      have HV:=lH (show zL s p (s.nodes.take (k+1))=la by rw[UJ.out,HX.out,if_neg (by rw[Th.out];exact h0),List.append_nil]);clear h0;go_wp2;go_roundw
      case rel=>exact⟨k+1,by omega,by go_num,la,HV.out,HO.out,HK.out⟩
      case measure=>simp[intOf];omega
  · have hge:¬(k:Int)<(n1:Int):=by omega
    have HE:=lH (show zL s p s.nodes=la by rw[←hla,List.take_of_length_le (by rw[←VR.out];omega)]);clear hla ho hm hK;go_wp2;go_ret;exact⟨_,rfl,by rw[HE.out];exact HO.out.base_le K.out.size,K.out.trans HK.out⟩
attribute [local go_sem] ZM
def Yx (s:Clu) (p:Pd) (names:List ByteArray) (l:List Mk):Prop:=l.map (·.1)=names∧∀x ∈ l,x.2.1=jbw s p x.1∧nrm x.2.2=qu s p x.1
theorem Yx.nil (s:Clu) (p:Pd):Yx s p [] []:=⟨rfl,fun x h=>by cases h⟩
theorem Yx.snoc {s:Clu} {p:Pd} {names:List ByteArray} {l:List Mk} {x:ByteArray} {m:Int} {r:Nat} (h:Yx s p names l) (hm:m=jbw s p x) (hr:nrm r=qu s p x):Yx s p (names++[x]) (l++[(x,m,r)]):=by
 refine⟨by rw[List.map_append,h.1];rfl,fun y hy=>?_⟩;rcases List.mem_append.1 hy with hy | hy
 · exact h.2 y hy
 · obtain rfl:=List.mem_singleton.1 hy;exact⟨hm,hr⟩
theorem Yx.len {s:Clu} {p:Pd} {names:List ByteArray} {l:List Mk} (h:Yx s p names l):l.length=names.length:=by rw[←h.1,List.length_map]
theorem jjZ (s1 s2 s3:Option Addr) (n1 e1 n2 e2 n3 e3:Nat) (a1 a2 a3 a4:Option Addr) (m1 c1 m2 c2 m3 c3 m4 c4:Nat) (p:Pd) (s:Clu) (w:World) (hs:jC w (Jg (.slice s1 n1 e1) (.slice s2 n2 e2) (.slice s3 n3 e3)) s) (hl:jE s) (hb:s.pods.length+1≤100000) (hp:ji w (.slice a1 m1 c1) (.slice a2 m2 c2) (.slice a3 m3 c3) (.slice a4 m4 c4) p) (hlp:JO p):Calls Tryz.prog 52 #[.agg #[.slice s1 n1 e1,.slice s2 n2 e2,.slice s3 n3 e3],jx p (.slice a1 m1 c1) (.slice a2 m2 c2) (.slice a3 m3 c3) (.slice a4 m4 c4)] w fun e w'=>∃(v:Value) (l:List Mk),e=.returned v∧Reads MkLay w' v l∧Yx s p (zL s p s.nodes) l∧Kept w w':=by
 obtain⟨i0,hi,hz0,hz1,hz2'⟩:=info_parts jke;obtain⟨Z,hZ⟩:=eX ((w.alloc (.cells #[.slice s1 n1 e1,.slice s2 n2 e2,.slice s3 n3 e3] 26)).alloc (.cells #[.string p.name,.string p.owner,.int .i64 p.prio,.slice a1 m1 c1,.slice a2 m2 c2,.slice a3 m3 c3,.slice a4 m4 c4,.string p.key,.int .i64 p.most,.string p.node,.bool p.hold] 44))
 have hkz:Kept w Z:=by rw[←hZ];exact jn _ _ _
 have Vk:=lH (jc w (.slice s1 n1 e1) [.slice s2 n2 e2,.slice s3 n3 e3] 26 Z (by rw[←hZ];exact ja _ _));have Vg:=lH (show jf (w.heap.size+1) [.string p.name,.string p.owner,.int .i64 p.prio,.slice a1 m1 c1,.slice a2 m2 c2,.slice a3 m3 c3,.slice a4 m4 c4,.string p.key,.int .i64 p.most,.string p.node,.bool p.hold] Z by
  have dd:=jc (w.alloc (.cells #[.slice s1 n1 e1,.slice s2 n2 e2,.slice s3 n3 e3] 26)) (.string p.name) [.string p.owner,.int .i64 p.prio,.slice a1 m1 c1,.slice a2 m2 c2,.slice a3 m3 c3,.slice a4 m4 c4,.string p.key,.int .i64 p.most,.string p.node,.bool p.hold] 44 Z (by rw[hZ];exact Kept.refl _);rw[World.size_alloc] at dd;exact dd)
 obtain⟨K,HS,HP,HL,Tg,Ud⟩:=lH6 hkz (hs.kept hkz) (hp.kept hkz) hl hb hlp;clear hs hp hkz hl hb hlp;have HF:=lH (show ∀W,Kept Z W→W.cell? ⟨w.heap.size,0,none⟩=some (.slice s1 n1 e1)∧W.cell? ⟨w.heap.size,1,none⟩=some (.slice s2 n2 e2)∧W.cell? ⟨w.heap.size,2,none⟩=some (.slice s3 n3 e3)∧W.cell? ⟨w.heap.size+1,0,none⟩=some (.string p.name)∧W.cell? ⟨w.heap.size+1,1,none⟩=some (.string p.owner)∧W.cell? ⟨w.heap.size+1,2,none⟩=some (.int .i64 p.prio)∧W.cell? ⟨w.heap.size+1,3,none⟩=some (.slice a1 m1 c1)∧W.cell? ⟨w.heap.size+1,4,none⟩=some (.slice a2 m2 c2)∧W.cell? ⟨w.heap.size+1,5,none⟩=some (.slice a3 m3 c3)∧W.cell? ⟨w.heap.size+1,6,none⟩=some (.slice a4 m4 c4)∧W.cell? ⟨w.heap.size+1,7,none⟩=some (.string p.key)∧W.cell? ⟨w.heap.size+1,8,none⟩=some (.int .i64 p.most)∧W.cell? ⟨w.heap.size+1,9,none⟩=some (.string p.node)∧W.cell? ⟨w.heap.size+1,10,none⟩=some (.bool p.hold) from fun W kk=>by
  have h:=Vk.out.kept kk;have q:=Vg.out.kept kk;exact⟨h.at_ 0 _ rfl,h.at_ 1 _ rfl,h.at_ 2 _ rfl,q.at_ 0 _ rfl,q.at_ 1 _ rfl,q.at_ 2 _ rfl,q.at_ 3 _ rfl,q.at_ 4 _ rfl,q.at_ 5 _ rfl,q.at_ 6 _ rfl,q.at_ 7 _ rfl,q.at_ 8 _ rfl,q.at_ 9 _ rfl,q.at_ 10 _ rfl⟩)
 have UH:=lH (jco s1 s2 s3 n1 e1 n2 e2 n3 e3 a1 a2 a3 a4 m1 c1 m2 c2 m3 c3 m4 c4 p s Z HS.out HL.out HP.out);unfold jx at UH;have hfl:=jbe s p s.nodes;have VR:=HL.out.nodesN;obtain⟨y0,y1,y2⟩:=Vk.out.at3;obtain⟨r0,r1,r2,r3,r4,r5,r6,r7,r8,r9,r10⟩:=Vg.out.at11;unfold jx;go_enter Tryz.func52,Tryz.ntmps52;go_wp2_with fail
 try rw[hZ]
 clear hZ;refine UH.out.mono ?_;rintro e w1 ⟨v9,rfl,hr,kk⟩;obtain⟨names,hnm⟩:=eX (zL s p s.nodes)
 rw[hnm] at hr hfl;have Rw:=lH hnm;clear hnm;obtain⟨wa,wc,rfl,-,-,hrow⟩:=hr.reads;obtain⟨n9,hn9⟩:=eX (names.length)
 rw[hn9] at hrow hfl ⊢;obtain⟨N8,T3,U2⟩:=lH3 hr.2 hn9 hrow;have hn5:n9≤100000:=by omega
 have J1:=lH kk;clear kk hr hrow hn9 hfl VR UH y0 y1 y2 r0 r1 r2 r3 r4 r5 r6 r7 r8 r9 r10;go_wp2;go_loopw [5,7,12] (fun v _ i wr=>∃k:Nat,k≤n9∧i=.int .i64 k∧∃la:List Mk,Yx s p (names.take k) la∧Own MkLay 172 wr w1.heap.size v la∧Kept w1 wr) (fun _ _ i _=>n9-(intOf i).toNat)
 case atStart=>exact⟨0,Nat.zero_le _,rfl,[],Yx.nil _ _,Own.nil _ _ _,Kept.refl _⟩
 case round =>
  obtain⟨k,hk,rfl,la,hla,ho,hK⟩:=hrel;obtain⟨HX,HO,HK⟩:=lH3 hla ho hK;obtain⟨m,hm⟩:=eX (la.length)
  have hmk:m≤k:=by
   have:=hla.len;rw[hm,List.length_take] at this;omega
  have HT:=lH hm;have hbase:w1.heap.size≤wr.heap.size:=hK.size;by_cases hlt:k<n9
  · obtain⟨b9,o9,rfl⟩:=U2.out.form.resolve_left (by omega);obtain⟨xn,hxn,-,-,hxs,cw⟩:=(U2.out.kept hK).str hlt;have UJ:=lH (show names.take (k+1)=names.take k++[xn] by rw[List.take_add_one,hxn];rfl);have UR:=lH hxs;have hkk:(k:Int)<(n9:Int):=by omega
    have hk0:¬(k:Int)<0:=by omega
    have J:=lH ((J1.out.trans hK).trans (Kept.drew wr));clear hla ho hm hxn hxs hK;go_upto_region 5 with fail
    clear cw hkk hk0;refine wp_region_held_drew (S:=fun W=>W.cell? ⟨w.heap.size,0,none⟩=some (.slice s1 n1 e1)∧W.cell? ⟨w.heap.size,1,none⟩=some (.slice s2 n2 e2)∧W.cell? ⟨w.heap.size,2,none⟩=some (.slice s3 n3 e3)∧W.cell? ⟨w.heap.size+1,0,none⟩=some (.string p.name)∧W.cell? ⟨w.heap.size+1,1,none⟩=some (.string p.owner)∧W.cell? ⟨w.heap.size+1,2,none⟩=some (.int .i64 p.prio)∧W.cell? ⟨w.heap.size+1,3,none⟩=some (.slice a1 m1 c1)∧W.cell? ⟨w.heap.size+1,4,none⟩=some (.slice a2 m2 c2)∧W.cell? ⟨w.heap.size+1,5,none⟩=some (.slice a3 m3 c3)∧W.cell? ⟨w.heap.size+1,6,none⟩=some (.slice a4 m4 c4)∧W.cell? ⟨w.heap.size+1,7,none⟩=some (.string p.key)∧W.cell? ⟨w.heap.size+1,8,none⟩=some (.int .i64 p.most)∧W.cell? ⟨w.heap.size+1,9,none⟩=some (.string p.node)∧W.cell? ⟨w.heap.size+1,10,none⟩=some (.bool p.hold)) (by kernel_rfl) (HF.out _ J.out) (fun hHeld=>?_);obtain⟨wd,hwd⟩:=eX (wr.drew)
    have JR:=lH (Kept.drew wr);rw[hwd] at J JR hHeld;try rw[hwd]
    clear hwd;refine tkI 0 ?_;refine tkI 1 ?_;refine tkI 2 ?_;refine tkI 3 ?_;refine tkI 4 ?_;refine tkI 5 ?_;refine tkI 9 ?_;refine tkI 10 ?_;refine tkI 11 ?_;try simp only[nP]
    refine rd1 6 fun K9 Ky=>?_;go_simp;refine(qm s1 s2 s3 n1 e1 n2 e2 n3 e3 s xn _ (HS.out.kept J.out) HL.out).mono ?_;rintro e w2 ⟨b1,k1,d1,b2,k2,d2,b3,k3,d3,rfl,hn,kk⟩;obtain⟨R7,J,JR⟩:=lH3 hn.taints (J.out.trans kk) (JR.out.trans kk);clear kk hn;unfold zj;refine Ky.out _ _ (HF.out _ J.out) (fun _=>?_);clear Ky K9;try simp only[nP]
    have hfd:=fun W=>jmF (J8 s xn).name (.slice b1 k1 d1) (.slice b2 k2 d2) (.slice b3 k3 d3) (J8 s xn).cordon W;refine tkI 7 ?_;try simp only[nP]
    clear hfd;obtain⟨sf,hsf⟩:=eX (softN p.tols (J8 s xn).taints)
    have NK:=lH (show (sf:Int)=jbw s p xn by unfold jbw;rw[hsf]);refine rd1 8 fun K9 Ky=>?_;go_simp;refine(job (HP.out.kept J.out).tols R7.out hsf).mono ?_;rintro e w3 ⟨rfl,kk⟩;have J:=lH (J.out.trans kk);have JR:=lH (JR.out.trans kk);clear kk hsf R7;refine Ky.out _ _ (HF.out _ J.out) (fun _=>?_);clear Ky K9;try simp only[nP]
    refine rd1 12 fun K9 Ky=>?_;go_simp;have TX:=jju s1 s2 s3 n1 e1 n2 e2 n3 e3 a1 a2 a3 a4 m1 c1 m2 c2 m3 c3 m4 c4 p s xn w3 (HS.out.kept J.out) HL.out Tg.out (HP.out.kept J.out) Ud.out UR.out;unfold jx at TX;refine TX.mono ?_;rintro e w4 ⟨r,rfl,hr,hrt,kk⟩;obtain⟨HR,Ru,J,JR⟩:=lH4 hr hrt (J.out.trans kk) (JR.out.trans kk);clear kk TX hr hrt;refine Ky.out _ _ (HF.out _ J.out) (fun _=>?_);clear Ky K9;try simp only[nP]
    refine tkI 13 ?_;try simp only[nP]
    refine rd1 14 fun K9 Ky=>?_;go_simp;refine Ky.out _ _ (HF.out _ (J.out.trans (ja _ _))) (fun _=>?_);clear Ky K9;try simp only[nP]
    obtain⟨w5,hw5⟩:=eX (w4.alloc (.cells #[.string xn,.int .i64 sf,.float .f64 r] 172))
    have k5:Kept w4 w5:=by rw[←hw5];exact ja _ _
    obtain⟨UC,J,JR⟩:=lH3 (show w5.heap[w4.heap.size]?=some (.cells #[.string xn,.int .i64 sf,.float .f64 r] 172) by rw[←hw5];exact World.alloc_heap_new w4 _) (J.out.trans k5) (JR.out.trans k5);try rw[hw5]
    clear hw5 k5;have VF:=lH (show w5.ownsRow w1.heap.size 172 3 u5 m (je MkLay la) by have:=(HO.out.kept JR.out).1;rw[HT.out] at this;exact this);refine rd1 15 fun K9 Ky=>?_;refine step_append_lies _ (by rfl) _ _ _ (by rfl) w1.heap.size 172 i0 _ 3 32 Tryz.underlying102 hi hz0 hz1 hz2' rfl (by decide) u5 m (je MkLay la) (by rfl) VF.out ⟨w4.heap.size,0,none⟩ 1 1 (mkC (xn,(sf:Int),r)) (by rfl) (by rfl) (World.news_of_block (cs:=#[.string xn,.int .i64 sf,.float .f64 r]) (t:=172) (fr:=(0,0)) UC.out) (jc2 (xn,(sf:Int),r)) (by decide) (by unfold maxLen;omega) (by omega) (by have:=JR.out.size;omega) _ rfl ?_;intro gg cap1 w6 hown1 hgrow hat hlt1;have VQ:=lH ((show Below w1.heap.size w1 _ from HK.out.trans JR.out).grown hgrow (by have:=JR.out.size;omega) (fun j hj=>(VF.out.lt j hj).1));have VK:=lH hown1;have J6:=lH (show Kept Z w6 from J1.out.trans VQ.out);clear hgrow hat hlt1 hown1;refine Ky.out _ _ (HF.out _ J6.out) (fun _=>?_);clear Ky K9;try simp only[nP]
    refine tkI 16 ?_;try simp only[nP]
    refine wpAnyH_done (by kernel_rfl) ?_ _;go_wp2;go_roundw
    case rel=>exact⟨k+1,by omega,by go_num,la++[(xn,(sf:Int),r)],by rw[UJ.out];exact HX.out.snoc NK.out HR.out,Own.snoc VK.out (by rw[HT.out]) HO.out.2 ⟨UR.out,Ru.out⟩,VQ.out⟩
    case measure=>simp[intOf];omega
  · have hge:¬(k:Int)<(n9:Int):=by omega
    have HE:=lH (show Yx s p names la by have:=hla;rw[List.take_of_length_le (by rw[T3.out];omega)] at this;exact this);clear hla ho hm hK;go_wp2;go_ret;exact⟨_,rfl,la,HO.out.reads,by rw[Rw.out];exact HE.out,K.out.trans (J1.out.trans HK.out)⟩
end Go.Proofs.YtokdjfoalkmhiaaGreat
namespace Go.Proofs.YtokdjfoalkmhiaaGreat
open Go.RowKit
attribute [local go_sem] ZM
theorem jjl (pack:Bool) (x y:Nat) (w:World):Calls Tryz.prog 171 #[.float .f64 x,.float .f64 y,.bool pack] w fun e w'=>e=.returned (.int .i64 (cpM pack x y))∧Grw w w':=by
 cases pack with
 | true =>
  have HC:=lH (jbL y x w);have HV:=lH (show cpM true x y=cp y x from rfl);go_enter Tryz.func171,Tryz.ntmps171;go_wp2_with fail
  refine HC.out.mono ?_;rintro e w1 ⟨rfl,c,t,rfl⟩;go_wp2;go_ret;exact⟨jb HV.out.symm,Grw.alloc _ _⟩
 | false =>
  have HC:=lH (jbL x y w);have HV:=lH (show cpM false x y=cp x y from rfl);go_enter Tryz.func171,Tryz.ntmps171;go_wp2_with fail
  refine HC.out.mono ?_;rintro e w1 ⟨rfl,c,t,rfl⟩;go_wp2;go_ret;exact⟨jb HV.out.symm,Grw.alloc _ _⟩
theorem jjk (W:World) (x y z:Int) (T:TypeId) (i:Nat) (u:Int) (hi:([x,y,z]:List Int)[i]?=some u):(W.alloc (.cells #[.int .i64 x,.int .i64 y,.int .i64 z] T)).cell? ⟨W.heap.size,i,none⟩=some (.int .i64 u):=by
 refine(jc W (.int .i64 x) [.int .i64 y,.int .i64 z] T _ (Kept.refl _)).at_ i _ ?_
 match i,hi with
 | 0,h=>simpa using h
 | 1,h=>simpa using h
 | 2,h=>simpa using h
 | j+3,h=>simp at h
theorem jfs (pack:Bool) (a1 b1:ByteArray) (a2 b2:Int) (a3 b3:Nat) (w:World):Calls Tryz.prog 111 #[.agg #[.string a1,.int .i64 a2,.float .f64 a3],.agg #[.string b1,.int .i64 b2,.float .f64 b3],.bool pack] w fun e w'=>e=.returned (.int .i64 (cfM pack (a1,a2,a3) (b1,b2,b3)))∧Grw w w':=by
 obtain⟨Z,hZ⟩:=eX ((w.alloc (.cells #[.string a1,.int .i64 a2,.float .f64 a3] 172)).alloc (.cells #[.string b1,.int .i64 b2,.float .f64 b3] 172))
 have hkz:Kept w Z:=by rw[←hZ];exact jn _ _ _
 have HG:=lH (show Grw w Z by rw[←hZ];exact(Grw.alloc _ _).trans (Grw.alloc _ _));have Vk:=lH (jc w (.string a1) [.int .i64 a2,.float .f64 a3] 172 Z (by rw[←hZ];exact ja _ _));have Vg:=lH (show jf (w.heap.size+1) [.string b1,.int .i64 b2,.float .f64 b3] Z by
  have dd:=jc (w.alloc (.cells #[.string a1,.int .i64 a2,.float .f64 a3] 172)) (.string b1) [.int .i64 b2,.float .f64 b3] 172 Z (by rw[hZ];exact Kept.refl _);rw[World.size_alloc] at dd;exact dd)
 have HF:=lH (show ∀W,Kept Z W→W.cell? ⟨w.heap.size,0,none⟩=some (.string a1)∧W.cell? ⟨w.heap.size,1,none⟩=some (.int .i64 a2)∧W.cell? ⟨w.heap.size,2,none⟩=some (.float .f64 a3)∧W.cell? ⟨w.heap.size+1,0,none⟩=some (.string b1)∧W.cell? ⟨w.heap.size+1,1,none⟩=some (.int .i64 b2)∧W.cell? ⟨w.heap.size+1,2,none⟩=some (.float .f64 b3) from fun W kk=>by
  have h:=Vk.out.kept kk;have q:=Vg.out.kept kk;exact⟨h.at_ 0 _ rfl,h.at_ 1 _ rfl,h.at_ 2 _ rfl,q.at_ 0 _ rfl,q.at_ 1 _ rfl,q.at_ 2 _ rfl⟩)
 obtain⟨x,hx⟩:=eX (Zs a2 b2)
 obtain⟨y,hy⟩:=eX (cpM pack a3 b3)
 obtain⟨z,hz⟩:=eX (YC a1 b1)
 have HV:=lH (show cfM pack (a1,a2,a3) (b1,b2,b3)=orL [x,y,z] by
  show (if Zs a2 b2≠0 then Zs a2 b2 else if cpM pack a3 b3≠0 then cpM pack a3 b3 else YC a1 b1)=_;rw[hx,hy,hz];show _=if x≠0 then x else if y≠0 then y else if z≠0 then z else 0
  by_cases q:z=0
  · subst q;simp
  · rw[if_pos q])
 obtain⟨EI,EC,ES⟩:=lH3 (fun W=>jgr a2 b2 W) (fun W=>jjl pack a3 b3 W) (fun W=>jfW a1 b1 W);rw[hx] at EI;rw[hy] at EC;rw[hz] at ES;clear hx hy hz hkz;go_enter Tryz.func111,Tryz.ntmps111;go_upto_region 1 with fail
 try rw[hZ]
 clear hZ;have J:=lH (Grw.drewN Z 1);refine wp_region_held_drew (S:=fun W=>W.cell? ⟨w.heap.size,0,none⟩=some (.string a1)∧W.cell? ⟨w.heap.size,1,none⟩=some (.int .i64 a2)∧W.cell? ⟨w.heap.size,2,none⟩=some (.float .f64 a3)∧W.cell? ⟨w.heap.size+1,0,none⟩=some (.string b1)∧W.cell? ⟨w.heap.size+1,1,none⟩=some (.int .i64 b2)∧W.cell? ⟨w.heap.size+1,2,none⟩=some (.float .f64 b3)) (by kernel_rfl) (HF.out _ J.out.kept) (fun hHeld=>?_);obtain⟨wd,hwd⟩:=eX (Z.drew)
 rw[show Z.drewN 1=wd from hwd] at J;rw[hwd] at hHeld;try rw[hwd]
 clear hwd;refine tkI 0 ?_;refine tkI 1 ?_;refine tkI 2 ?_;refine tkI 3 ?_;refine tkI 5 ?_;refine tkI 6 ?_;refine tkI 7 ?_;refine tkI 8 ?_;refine tkI 9 ?_;refine tkI 11 ?_;refine tkI 12 ?_;refine tkI 13 ?_;refine tkI 14 ?_;try simp only[nP]
 refine rd1 4 fun K9 Ky=>?_;go_simp;refine(EI.out _).mono ?_;rintro e w1 ⟨rfl,rfl⟩;refine Ky.out _ _ (HF.out _ J.out.kept) (fun _=>?_);clear Ky K9;try simp only[nP]
 refine rd1 10 fun K9 Ky=>?_;go_simp;refine(EC.out _).mono ?_;rintro e w2 ⟨rfl,kk⟩;have J:=lH (J.out.trans kk);clear kk;refine Ky.out _ _ (HF.out _ J.out.kept) (fun _=>?_);clear Ky K9;try simp only[nP]
 refine rd1 15 fun K9 Ky=>?_;go_simp;refine(ES.out _).mono ?_;rintro e w3 ⟨rfl,rfl⟩;refine Ky.out _ _ (HF.out _ J.out.kept) (fun _=>?_);clear Ky K9;try simp only[nP]
 refine rd1 16 fun K9 Ky=>?_;go_simp;refine Ky.out _ _ (HF.out _ (J.out.trans (Grw.alloc _ _)).kept) (fun _=>?_);clear Ky K9;try simp only[nP]
 have Ue:=lH (show Calls Tryz.prog 53 #[.slice (some ⟨w2.heap.size,0,none⟩) 3 3] (w2.alloc (.cells #[.int .i64 x,.int .i64 y,.int .i64 z] 3)) _ from jhU w2.heap.size 3 [x,y,z] _ rfl (by decide) (jjk w2 x y z 3));obtain⟨w4,hw4⟩:=eX (w2.alloc (.cells #[.int .i64 x,.int .i64 y,.int .i64 z] 3))
 have J:=lH (show Grw Z w4 by rw[←hw4];exact J.out.trans (Grw.alloc _ _));rw[hw4] at Ue;try rw[hw4]
 clear hw4;refine rd1 17 fun K9 Ky=>?_;go_simp;refine Ue.out.mono ?_;rintro e w5 ⟨rfl,rfl⟩;refine Ky.out _ _ (HF.out _ J.out.kept) (fun _=>?_);clear Ky K9;try simp only[nP]
 refine tkI 18 ?_;try simp only[nP]
 refine wpAnyH_done (by kernel_rfl) ?_ _;go_wp2;go_ret;exact⟨jb HV.out.symm,HG.out.trans J.out⟩
theorem jfo (q:Nat) (pack:Bool) (a1 b1:ByteArray) (a2 b2:Int) (a3 b3:Nat) (w:World) (hq:w.cell? ⟨q,0,none⟩=some (.bool pack)):Calls Tryz.prog 110 #[.agg #[.string a1,.int .i64 a2,.float .f64 a3],.agg #[.string b1,.int .i64 b2,.float .f64 b3],.pointer (some ⟨q,0,none⟩)] w fun e w'=>e=.returned (.int .i64 (cfM pack (a1,a2,a3) (b1,b2,b3)))∧Grw w w':=by
 obtain⟨Z,hZ⟩:=eX ((w.alloc (.cells #[.string a1,.int .i64 a2,.float .f64 a3] 172)).alloc (.cells #[.string b1,.int .i64 b2,.float .f64 b3] 172))
 have hkz:Kept w Z:=by rw[←hZ];exact jn _ _ _
 have HG:=lH (show Grw w Z by rw[←hZ];exact(Grw.alloc _ _).trans (Grw.alloc _ _));have hb1:=jc w (.string a1) [.int .i64 a2,.float .f64 a3] 172 Z (by rw[←hZ];exact ja _ _);have hb2:jf (w.heap.size+1) [.string b1,.int .i64 b2,.float .f64 b3] Z:=by
  have dd:=jc (w.alloc (.cells #[.string a1,.int .i64 a2,.float .f64 a3] 172)) (.string b1) [.int .i64 b2,.float .f64 b3] 172 Z (by rw[hZ];exact Kept.refl _);rw[World.size_alloc] at dd;exact dd
 have hq2:=cell_later hkz hq;have HC:=lH (jfs pack a1 b1 a2 b2 a3 b3 Z);have y0:=hb1.at_ 0 _ rfl;have y1:=hb1.at_ 1 _ rfl;have y2:=hb1.at_ 2 _ rfl;have z0:=hb2.at_ 0 _ rfl;have z1:=hb2.at_ 1 _ rfl;have z2:=hb2.at_ 2 _ rfl;clear hb1 hb2 hq hkz;go_enter Tryz.func110,Tryz.ntmps110;go_wp2_with fail
 try rw[hZ]
 clear hZ;refine HC.out.mono ?_;rintro e w1 ⟨rfl,kk⟩;have J:=lH (HG.out.trans kk);clear kk HC y0 y1 y2 z0 z1 z2 hq2;go_wp2;go_ret;exact⟨rfl,J.out⟩
end Go.Proofs.YtokdjfoalkmhiaaGreat
namespace Go.Proofs.YtokdjfoalkmhiaaGreat
open Go.Shelf
def jiQ:Go.Shelf.Ren:=⟨fun | 6=>169 | 15=>219 | 14=>218 | 28=>254 | 29=>255 | 20=>246 | 21=>247 | 22=>248 | 23=>249 | 24=>250 | 25=>251 | 26=>252 | 27=>253 | 46=>270 | 47=>271 | 48=>272 | 49=>273 | 50=>274 | 57=>280 | n=>n,fun | 22=>102 | 24=>172 | 25=>177 | 3=>3 | 39=>258 | 0=>0 | 53=>315 | 55=>233 | 4=>4 | 46=>309 | 45=>308 | 50=>262 | 5=>5 | 9=>9 | 66=>331 | 70=>335 | 76=>340 | 77=>341 | n=>n,fun | n=>n⟩
theorem jka:Go.Proofs.SlLaysF0.n6 Tryz.prog jiQ:={
 mixed:=by kernel_rfl
 f6:=⟨Tryz.f169.name,by decide,Tryz.func169.trans (congrArg some (by kernel_rfl))⟩
 f14:=⟨Tryz.f218.name,by decide,Tryz.func218.trans (congrArg some (by kernel_rfl))⟩
 f15:=Tryz.func219.trans (congrArg some (by kernel_rfl))
 f20:=⟨Tryz.f246.name,by decide,Tryz.func246.trans (congrArg some (by kernel_rfl))⟩
 f21:=⟨Tryz.f247.name,by decide,Tryz.func247.trans (congrArg some (by kernel_rfl))⟩
 f22:=⟨Tryz.f248.name,by decide,Tryz.func248.trans (congrArg some (by kernel_rfl))⟩
 f23:=⟨Tryz.f249.name,by decide,Tryz.func249.trans (congrArg some (by kernel_rfl))⟩
 f24:=⟨Tryz.f250.name,by decide,Tryz.func250.trans (congrArg some (by kernel_rfl))⟩
 f25:=⟨Tryz.f251.name,by decide,Tryz.func251.trans (congrArg some (by kernel_rfl))⟩
 f26:=⟨Tryz.f252.name,by decide,Tryz.func252.trans (congrArg some (by kernel_rfl))⟩
 f27:=⟨Tryz.f253.name,by decide,Tryz.func253.trans (congrArg some (by kernel_rfl))⟩
 f28:=Tryz.func254.trans (congrArg some (by kernel_rfl))
 f29:=Tryz.func255.trans (congrArg some (by kernel_rfl))
 f46:=⟨Tryz.f270.name,by decide,Tryz.func270.trans (congrArg some (by kernel_rfl))⟩
 f47:=Tryz.func271.trans (congrArg some (by kernel_rfl))
 f48:=Tryz.func272.trans (congrArg some (by kernel_rfl))
 f49:=⟨Tryz.f273.name,by decide,Tryz.func273.trans (congrArg some (by kernel_rfl))⟩
 f50:=⟨Tryz.f274.name,by decide,Tryz.func274.trans (congrArg some (by kernel_rfl))⟩
 f57:=⟨Tryz.f280.name,by decide,Tryz.func280.trans (congrArg some (by kernel_rfl))⟩
 t0:=Tryz.underlying0
 a0:=Tryz.isAgg0
 z0:=Tryz.sizeOf0
 v0:=Tryz.zeroValue0
 t3:=Tryz.underlying3
 a3:=Tryz.isAgg3
 z3:=Tryz.sizeOf3
 v3:=Tryz.zeroValue3
 t4:=Tryz.underlying4
 a4:=Tryz.isAgg4
 z4:=Tryz.sizeOf4
 v4:=Tryz.zeroValue4
 t5:=Tryz.underlying5
 a5:=Tryz.isAgg5
 z5:=Tryz.sizeOf5
 v5:=Tryz.zeroValue5
 t9:=Tryz.underlying9
 a9:=Tryz.isAgg9
 z9:=Tryz.sizeOf9
 v9:=Tryz.zeroValue9
 t22:=Tryz.underlying102
 a22:=Tryz.isAgg102
 z22:=Tryz.sizeOf102
 v22:=Tryz.zeroValue102
 t25:=Tryz.underlying177
 a25:=Tryz.isAgg177
 z25:=Tryz.sizeOf177
 v25:=Tryz.zeroValue177
 t39:=Tryz.underlying258
 a39:=Tryz.isAgg258
 z39:=Tryz.sizeOf258
 v39:=Tryz.zeroValue258
 t45:=Tryz.underlying308
 a45:=Tryz.isAgg308
 z45:=Tryz.sizeOf308
 v45:=Tryz.zeroValue308
 t46:=Tryz.underlying309
 a46:=Tryz.isAgg309
 z46:=Tryz.sizeOf309
 v46:=Tryz.zeroValue309
 t50:=Tryz.underlying262
 a50:=Tryz.isAgg262
 z50:=Tryz.sizeOf262
 v50:=Tryz.zeroValue262
 t53:=Tryz.underlying315
 a53:=Tryz.isAgg315
 z53:=Tryz.sizeOf315
 v53:=Tryz.zeroValue315
 t55:=Tryz.underlying233
 a55:=Tryz.isAgg233
 z55:=Tryz.sizeOf233
 v55:=Tryz.zeroValue233
 t66:=Tryz.underlying331
 a66:=Tryz.isAgg331
 z66:=Tryz.sizeOf331
 v66:=Tryz.zeroValue331
 t70:=Tryz.underlying335
 a70:=Tryz.isAgg335
 z70:=Tryz.sizeOf335
 v70:=Tryz.zeroValue335
 t76:=Tryz.underlying340
 a76:=Tryz.isAgg340
 z76:=Tryz.sizeOf340
 v76:=Tryz.zeroValue340
 t77:=Tryz.underlying341
 a77:=Tryz.isAgg341
 z77:=Tryz.sizeOf341
 v77:=Tryz.zeroValue341 }
open Go.RowKit Go.Shelf Go.Lib Go.Sort
theorem jag (pack:Bool) (x y:Mk):ltOf (cfM pack) x y=Y1 pack x y:=by
 unfold ltOf
 cases h:Y1 pack x y with
 | true=>exact decide_eq_true ((jhD pack x y).2 h)
 | false=>exact decide_eq_false (fun e=>by rw[(jhD pack x y).1 e] at h;cases h)
theorem jmC (pack:Bool):SWO (ltOf (cfM pack)) where
 irrefl x:=by rw[jag];exact jaJ _ _ _ _
 trans x y z h1 h2:=by rw[jag] at *;exact XP h1 h2
 ntrans x y z h1 h2:=by rw[jag] at *;exact jaF h1 h2
theorem jeS:∀args w,(callFunc 110 args).run Tryz.prog w=.ok (.enter 110 args) w:=enters_of Tryz.func110 (by kernel_rfl) rfl
theorem jkD (q:Nat) (pack:Bool) (blk size:Nat) (w:World) (hq:w.cell? ⟨q,0,none⟩=some (.bool pack)) (hne:q≠blk) (hlt:q<w.heap.size):CmpLays Tryz.prog 110 #[.pointer (some ⟨q,0,none⟩)] mkC 3 (cfM pack) blk 0 size w:=fun m os dk hs x y=>by
 refine jfo q pack x.1 y.1 x.2.1 y.2.1 x.2.2 y.2.2 _ ?_;show (grow (putRowK mkC 3 (Sort.ahead w m) blk 0 dk) os).cell? ⟨q,0,none⟩=_;rw[cell?_grow _ _ _ (by rw[size_putRowK];exact hlt),cell?_putRowK_other mkC 3 _ blk 0 dk ⟨q,0,none⟩ hne];exact hq
theorem jkM {B:Nat} {w0 w:World} {blk n:Nat} {d:Array Mk} {os:Array Obj} (h:Go.RowKit.Below B w0 w) (hg:B≤blk) (hB:B≤w.heap.size):Go.RowKit.Below B w0 (sortWorldK mkC 3 w blk 0 n d os):=by
 unfold sortWorldK;refine(below_putRow (enc:=id) (q:=n) (d:=flatK mkC 3 d) h hg).trans ?_;exact below_grow B (putRowK mkC 3 (Sort.ahead w n) blk 0 d) (by rw[size_putRowK];exact hB) 0 os
theorem ji3 {W:World} {base:Nat} {v:Value} {zs:List Mk} (h:jlK base W v zs) (hv:v≠.slice none 0 0):∃g cap,v=.slice (some ⟨g,0,none⟩) zs.length cap∧base≤g∧g<W.heap.size∧zs.length≤cap∧cap≤maxLen∧HoldsK mkC 3 W g 0 zs.toArray:=by
 rcases h.1.2 with ⟨e0,_⟩ | ⟨g,cap,cur,rfl,hb,hg,hn,hm,hs,ht⟩
 · exact absurd e0 hv
 · have hlt:g<W.heap.size:=by
    rcases Nat.lt_or_ge g W.heap.size with h' | h'
    · exact h'
    · rw[Array.getElem?_eq_none h'] at hg;cases hg
   refine⟨g,cap,rfl,hb,hlt,hn,hm,fun t htl=>?_⟩;have htl2:t<zs.length*3:=by simpa using htl
   have h3:t / 3<zs.length:=by omega
   have h4:t % 3<3:=Nat.mod_lt _ (by decide);refine⟨?_,by simp[World.frozen?,hg]⟩;rw[get_flatK _ _ _ _ (by simpa using htl2)];have e2:=Yr MkLay zs (t / 3) zs[t / 3] (t % 3) ((mkC zs[t / 3])[t % 3]'h4) (List.getElem?_eq_getElem h3) (List.getElem?_eq_getElem h4);have e1:(cur.toList.take (zs.length*3))[t]?=(je MkLay zs)[t]?:=by rw[ht];rfl
   rw[show t / 3*MkLay.m+t % 3=t from by show t / 3*3+t % 3=t;omega] at e2;rw[e2,List.getElem?_take,if_pos htl2,Array.getElem?_toList] at e1;simp only[World.cell?,hg,Nat.zero_add];simp only[Option.isSome_none,Bool.false_eq_true,if_false];rw[e1,getElem!_pos zs.toArray (t / 3) (by simpa using h3),getElem!_pos (mkC _) (t % 3) h4];simp;rfl
theorem jh3 {W:World} {g:Nat} {l:List Mk} (h:HoldsK mkC 3 W g 0 l.toArray) (hg:g<W.heap.size) (hm:l.length≤maxLen) (hf:∀x ∈ l,MkLay.fine x):jk MkLay W (some ⟨g,0,none⟩) l.length l:=by
 refine⟨rfl,hm,hf,.inr ⟨g,0,rfl,hg,fun i x j u hi hj=>?_⟩⟩;obtain⟨hil,ex⟩:=List.getElem?_eq_some_iff.1 hi;have hj':(mkC x)[j]?=some u:=hj;obtain⟨hjl,eu⟩:=List.getElem?_eq_some_iff.1 hj';have hj3:j<3:=hjl;have:=(h.cell (i:=i) (c:=j) (by simpa using hil) hj3).1;rw[getElem!_pos l.toArray i (by simpa using hil)] at this;simp only[List.getElem_toArray] at this;rw[ex,getElem!_pos (mkC x) j hjl,eu] at this;exact this
def joR (pack:Bool) (xs:List Mk) (w:World) (e:Ending) (w':World):Prop:=∃v l,e=.returned v∧l.Perm xs∧(l.Pairwise fun a b=>Y1 pack b a=false)∧Reads MkLay w' v l∧Kept w w'
theorem jdo (q:Nat) (pack:Bool) (Bs:Nat) (sv:Value) (xs:List Mk) (hlen:xs.length≤1000000) (hx:∀x ∈ xs,MkLay.fine x) (w:World) (hq:w.cell? ⟨q,0,none⟩=some (.bool pack)) (hBs:Bs<w.heap.size) (hcs:w.cell? ⟨Bs,0,none⟩=some sv) (hL:Mks w.heap.size w sv xs) :
 Calls Tryz.prog 108 #[.func (.func 170) #[] #[.pointer (some ⟨Bs,0,none⟩)],.func (.func 110) #[] #[.pointer (some ⟨q,0,none⟩)]] w (joR pack xs w):=by
 have HC:=lH (jeB Bs sv xs hlen w hBs hcs hL);have hql:q<w.heap.size:=World.block_lt_of_cell? _ _ hq;obtain⟨HQ,R8,HX,Ui⟩:=lH4 hq hql hx hlen;clear hBs hcs hL hq hql hx hlen;go_enter Tryz.func108,Tryz.ntmps108;go_wp2_with fail
 refine HC.out.mono ?_;rintro e w1 ⟨v,rfl,ho,hb⟩;by_cases hv:v=.slice none 0 0
 · have hxs:=ho.2.1 hv;have HS:=lH (AnyF.slices_SortFunc_none jka none 0 (.func (.func 110) #[] #[.pointer (some ⟨q,0,none⟩)]) w1);change Hid (Calls Tryz.prog 169 _ _ _) at HS;subst hv hxs;have HB:=lH hb;clear hb ho;go_wp2_with fail
   refine HS.out.mono ?_;rintro e w2 ⟨rfl,rfl⟩;go_wp2_with fail
   go_ret;exact⟨_,[],rfl,List.Perm.refl _,List.Pairwise.nil,Reads.nil _,HB.out⟩
 · obtain⟨g,cap,rfl,hg1,hg2,hc1,hc2,hH⟩:=ji3 ho hv;have hne:q≠g:=by have:=R8.out;omega
   have hst:=AnyQ.slices_SortFunc jka 3 Tryz.isAgg172 Tryz.sizeOf172 mkC (fun _=>rfl) jc2 (cfM pack) (jmC pack) 110 #[.pointer (some ⟨q,0,none⟩)] g 0 cap xs.toArray w1 jeS (jkD q pack g _ w1 (cell_later hb HQ.out) hne (Nat.lt_of_lt_of_le R8.out hb.size)) hH hg2 (by have:=Ui.out;simp;omega);change Calls Tryz.prog 169 _ _ _ at hst;obtain⟨HB,HS,HG,TK,HH,HP⟩:=lH6 hb hst hg1 hg2 hH (And.intro hc1 hc2);clear hb ho hst hg1 hg2 hH hc1 hc2 hv hne;simp only[List.size_toArray] at HS;go_wp2_with fail
   refine HS.out.mono ?_;rintro e w2 ⟨rfl,d',n,os,hp,hs,hw⟩;obtain⟨P1,P2,P3⟩:=lH3 hp hs hw;clear hp hs hw;go_wp2_with fail
   go_ret;have hsz:d'.size=xs.length:=by simpa using P1.out.1
   have hperm:d'.toList.Perm xs:=by
    have:=P1.out.2.2;simp only[Array.toList_extract,List.extract_eq_take_drop,List.drop_zero,Nat.sub_zero] at this;rw[List.take_of_length_le (by simp;omega),List.take_of_length_le (by simp)] at this;exact this
   have hlen:d'.toList.length=xs.length:=by simpa using hsz
   refine⟨_,d'.toList,rfl,hperm,?_,?_,?_⟩
   · rw[List.pairwise_iff_getElem];intro i j hi hj hij;have h2:=P2.out i j (Nat.zero_le _) hij (by omega);rw[jag,getElem!_pos d' j (by simpa using hj),getElem!_pos d' i (by simpa using hi)] at h2;simpa using h2
   · have hh:HoldsK mkC 3 w2 g 0 d'.toList.toArray:=by
      rw[P3.out];simp only[Array.toArray_toList];exact holdsK_sortWorldK mkC 3 w1 g 0 n xs.toArray d' os TK.out HH.out (by simpa using hsz)
     have hg3:g<w2.heap.size:=by rw[P3.out];exact lt_sortWorldK mkC 3 w1 g 0 n d' os TK.out
     refine⟨_,cap,by rw[hlen];rfl,by rw[hlen];exact HP.out.1,HP.out.2,jh3 hh hg3 (by rw[hlen];exact Nat.le_trans HP.out.1 HP.out.2) (fun x hx=>HX.out x (hperm.mem_iff.1 hx))⟩
   · rw[P3.out];exact jkM HB.out HG.out HB.out.size
open Go.RowKit
attribute [local go_sem] ZM
theorem jk.mark {w:World} {b off len:Nat} {l:List Mk} {k:Nat} (h:jk MkLay w (some ⟨b,off,none⟩) len l) (hk:k<len):∃x:Mk,l[k]?=some x∧x.1.size≤maxLen∧w.cell? ⟨b,off+k*3,none⟩=some (.string x.1)∧w.cell? ⟨b,off+k*3+1,none⟩=some (.int .i64 x.2.1)∧w.cell? ⟨b,off+k*3+2,none⟩=some (.float .f64 x.2.2):=by
 obtain⟨x,h1,-,-,h4,h5⟩:=h.cells hk;exact⟨x,h1,h4.1,h5 0 _ rfl,h5 1 _ rfl,h5 2 _ rfl⟩
theorem jiO (pack:Bool) (v:Value) (xs:List Mk) (w:World) (hr:Reads MkLay w v xs) (hlen:xs.length≤100000):Calls Tryz.prog 51 #[v,.bool pack] w fun e w'=>∃(y:Value) (l:List Mk),e=.returned y∧l.Perm xs∧(l.Pairwise fun a b=>Y1 pack b a=false)∧Own zl 9 w' w.heap.size y (l.map (·.1))∧Kept w w':=by
 have hmf:=hmfL (P:=Tryz.prog);obtain⟨i0,hi,hz0,hz1,hz2'⟩:=info_parts jkY;obtain⟨Z,hZ⟩:=eX (w.alloc (.cells #[.bool pack] 4))
 have hkz:Kept w Z:=by rw[←hZ];exact ja _ _
 have hq:Z.cell? ⟨w.heap.size,0,none⟩=some (.bool pack):=by rw[←hZ];simp
 obtain⟨HR,K,HF⟩:=lH3 (hr.kept hkz) hkz (hr.fine);obtain⟨a,cap,rfl,-,-,-⟩:=hr;obtain⟨nx,hnx⟩:=eX (xs.length)
 obtain⟨Y,hY⟩:=eX (Z.alloc (.cells #[.slice a nx cap] 102))
 have hky:Kept Z Y:=by rw[←hY];exact ja _ _
 have hys:Z.heap.size<Y.heap.size:=by rw[←hY];simp
 have hyc:Y.cell? ⟨Z.heap.size,0,none⟩=some (.slice a nx cap):=by rw[←hY];simp
 have HV:=lH (jfF a nx cap Z);have HS:=lH (jdo w.heap.size pack Z.heap.size (.slice a nx cap) xs (by omega) HF.out Y (cell_later hky hq) hys hyc (by have:=(HR.out.kept hky).mks;rw[hnx] at this;exact this));rw[hY] at HV;rw[hnx];have KY:=lH hky;have VD:=lH hnx;rw[hnx] at hlen;clear hq hkz hky hys hyc hnx;go_enter Tryz.func51,Tryz.ntmps51;go_wp2_with fail
 try rw[hZ]
 clear hZ;refine HV.out.mono ?_;rintro e w1 ⟨rfl,rfl⟩;clear hY;go_wp2_with fail
 refine HS.out.mono ?_;rintro e w1 ⟨v9,l,rfl,hp,hs,hv,kk⟩;obtain⟨Rx,NM,K⟩:=lH3 hp hs (K.out.trans (KY.out.trans kk));have hll:l.length=nx:=hp.length_eq.trans VD.out;obtain⟨wa,wc,rfl,-,-,hrow⟩:=hv;rw[hll] at hrow ⊢;have U2:=lH hrow;have Td:=lH hll;clear kk hp hs hrow hll HS HV;have KW:=lH (Kept.refl w1);go_wp2;go_loopw [6,15] (fun v i wr=>∃k:Nat,k≤nx∧i=.int .i64 k∧∃la:List ByteArray,(l.take k).map (·.1)=la∧Own zl 9 wr w1.heap.size v la∧Kept w1 wr) (fun _ i _=>nx-(intOf i).toNat)
 case atStart=>exact⟨0,Nat.zero_le _,rfl,[],rfl,Own.nil _ _ _,Kept.refl _⟩
 case round =>
  obtain⟨k,hk,rfl,la,hla,ho,hK⟩:=hrel;obtain⟨HX,HO,HK⟩:=lH3 hla ho hK;obtain⟨m,hm⟩:=eX (la.length)
  have hmk:m≤k:=by
   have:=congrArg List.length hla;rw[List.length_map,List.length_take,hm] at this;omega
  have HT:=lH hm;have hbase:w1.heap.size≤wr.heap.size:=hK.size;by_cases hlt:k<nx
  · obtain⟨b9,o9,rfl⟩:=U2.out.form.resolve_left (by omega);obtain⟨⟨x1,x2,x3⟩,hx,hxs,c0,c1,c2⟩:=(U2.out.kept hK).mark hlt;dsimp only at hxs c0 c1 c2;have T4:=lH hxs;have HV:=lH (show (l.take (k+1)).map (·.1)=la++[x1] by rw[List.take_add_one,hx,List.map_append,HX.out];rfl);have hkk:(k:Int)<(nx:Int):=by omega
    have hk0:¬(k:Int)<0:=by omega
    obtain⟨wx,hwx⟩:=eX (wr.alloc (.cells #[.string x1,.int .i64 x2,.float .f64 x3] 172))
    have hkx:Kept wr wx:=by rw[←hwx];exact ja _ _
    have TR:=lH (jc wr (.string x1) [.int .i64 x2,.float .f64 x3] 172 wx (by rw[hwx];exact Kept.refl _));obtain⟨bq,hbq⟩:=eX (wr.heap.size)
    rw[hbq] at TR;have KX:=lH hkx;go_upto_region 6 with fail
    try rw[hwx]
    try rw[hbq]
    clear hwx hbq hx hxs hkx hk0 hkk hla ho hm hK c0 c1 c2;have t0:=TR.out.at_ 0 _ rfl;have VF:=lH (show wx.ownsRow w1.heap.size 9 1 u6 m (je zl la) by have:=(HO.out.kept KX.out).1;rw[HT.out] at this;exact this);have hs1:wr.heap.size≤wx.heap.size:=Below.size KX.out;go_wp2_with (at_builtin;refine wpList_append_lies _ rfl _ _ _ rfl w1.heap.size 9 i0 _ 1 16 Tryz.underlying34 hi hz0 hz1 hz2' rfl (by decide) u6 m (je zl la) rfl (VF.out.alloc _) ⟨wx.heap.size,0,none⟩ 1 1 (zl.cs x1) rfl rfl (World.news_of_block (cs:=#[.string x1]) (t:=9) (fr:=(0,0)) (heap_alloc_new wx _)) (jf5 x1) (by decide) (by unfold maxLen;omega) (by omega) (by simp;omega) (wx.heap.size+1) (by simp) ?_;intro gg cap1 w4 hown1 hgrow hat hlt1)
    have VQ:=lH ((show Below w1.heap.size w1 _ from HK.out.trans (KX.out.trans (ja wx _))).grown hgrow (by simp;omega) (fun j hj=>(VF.out.lt j hj).1));go_wp2;go_roundw
    case rel=>exact⟨k+1,by omega,by go_num,la++[x1],HV.out,Own.snoc hown1 (by rw[HT.out]) HO.out.2 T4.out,VQ.out⟩
    case measure=>simp[intOf];omega
  · have hge:¬(k:Int)<(nx:Int):=by omega
    have HE:=lH (show l.map (·.1)=la by rw[←hla,List.take_of_length_le (by rw[Td.out];omega)]);clear hla ho hm hK;go_wp2;go_ret;exact⟨_,rfl,l,Rx.out,NM.out,by rw[HE.out];exact HO.out.base_le K.out.size,K.out.trans HK.out⟩
end Go.Proofs.YtokdjfoalkmhiaaGreat
namespace Go.Proofs.YtokdjfoalkmhiaaGreat
open Go.RowKit
theorem jnH {s:Clu} {p:Pd} {pack:Bool} {xs l:List Mk} (ht:Yx s p (zL s p s.nodes) xs) (hp:l.Perm xs) (hs:l.Pairwise fun a b=>Y1 pack b a=false):qj s p pack (l.map (·.1)):=by
 refine⟨by rw[←ht.1];exact hp.map _,?_⟩;rw[List.pairwise_map];refine List.Pairwise.imp_of_mem (fun {a b} ha hb h=>?_) hs;have h1:=ht.2 a (hp.mem_iff.1 ha);have h2:=ht.2 b (hp.mem_iff.1 hb);unfold YM;rw[←h1.1,←h1.2,←h2.1,←h2.2];exact h
def jlr (s:Clu) (p:Pd) (pack:Bool) (w:World) (e:Ending) (w':World):Prop:=∃(v:Value) (l:List ByteArray),e=.returned v∧qj s p pack l∧Own zl 9 w' w.heap.size v l∧Kept w w'
def jlI (s:Clu) (p:Pd) (pack:Bool) (w:World) (e:Ending) (w':World):Prop:=∃l:List ByteArray,qj s p pack l∧e=.returned (.tuple #[.string (l.headD ⟨#[]⟩),.bool (!l.isEmpty)])∧Kept w w'
theorem jkp (s1 s2 s3:Option Addr) (n1 e1 n2 e2 n3 e3:Nat) (a1 a2 a3 a4:Option Addr) (m1 c1 m2 c2 m3 c3 m4 c4:Nat) (pack:Bool) (p:Pd) (s:Clu) (w:World) (hs:jC w (Jg (.slice s1 n1 e1) (.slice s2 n2 e2) (.slice s3 n3 e3)) s) (hl:jE s) (hb:s.pods.length+1≤100000) (hp:ji w (.slice a1 m1 c1) (.slice a2 m2 c2) (.slice a3 m3 c3) (.slice a4 m4 c4) p) (hlp:JO p):Calls Tryz.prog 19 #[.agg #[.slice s1 n1 e1,.slice s2 n2 e2,.slice s3 n3 e3],jx p (.slice a1 m1 c1) (.slice a2 m2 c2) (.slice a3 m3 c3) (.slice a4 m4 c4),.bool pack] w (jlr s p pack w):=by
 obtain⟨Z,hZ⟩:=eX ((w.alloc (.cells #[.slice s1 n1 e1,.slice s2 n2 e2,.slice s3 n3 e3] 26)).alloc (.cells #[.string p.name,.string p.owner,.int .i64 p.prio,.slice a1 m1 c1,.slice a2 m2 c2,.slice a3 m3 c3,.slice a4 m4 c4,.string p.key,.int .i64 p.most,.string p.node,.bool p.hold] 44))
 have hkz:Kept w Z:=by rw[←hZ];exact jn _ _ _
 have Vk:=lH (jc w (.slice s1 n1 e1) [.slice s2 n2 e2,.slice s3 n3 e3] 26 Z (by rw[←hZ];exact ja _ _));have Vg:=lH (show jf (w.heap.size+1) [.string p.name,.string p.owner,.int .i64 p.prio,.slice a1 m1 c1,.slice a2 m2 c2,.slice a3 m3 c3,.slice a4 m4 c4,.string p.key,.int .i64 p.most,.string p.node,.bool p.hold] Z by
  have dd:=jc (w.alloc (.cells #[.slice s1 n1 e1,.slice s2 n2 e2,.slice s3 n3 e3] 26)) (.string p.name) [.string p.owner,.int .i64 p.prio,.slice a1 m1 c1,.slice a2 m2 c2,.slice a3 m3 c3,.slice a4 m4 c4,.string p.key,.int .i64 p.most,.string p.node,.bool p.hold] 44 Z (by rw[hZ];exact Kept.refl _);rw[World.size_alloc] at dd;exact dd)
 obtain⟨K,HS,HP,HL,Tg,Ud⟩:=lH6 hkz (hs.kept hkz) (hp.kept hkz) hl hb hlp;clear hs hp hkz hl hb hlp;have UY:=lH (jjZ s1 s2 s3 n1 e1 n2 e2 n3 e3 a1 a2 a3 a4 m1 c1 m2 c2 m3 c3 m4 c4 p s Z HS.out HL.out Tg.out HP.out Ud.out);unfold jx at UY;have hfl:=jbe s p s.nodes;have VR:=HL.out.nodesN;obtain⟨y0,y1,y2⟩:=Vk.out.at3;obtain⟨r0,r1,r2,r3,r4,r5,r6,r7,r8,r9,r10⟩:=Vg.out.at11;unfold jx;go_enter Tryz.func19,Tryz.ntmps19;go_wp2_with fail
 try rw[hZ]
 clear hZ;refine UY.out.mono ?_;rintro e w1 ⟨v,xs,rfl,hr,ht,kk⟩;obtain⟨HN,HT,K⟩:=lH3 (jiO pack v xs w1 hr (by rw[ht.len];omega)) ht (K.out.trans kk);clear kk hr ht hfl VR UY y0 y1 y2 r0 r1 r2 r3 r4 r5 r6 r7 r8 r9 r10;go_wp2_with fail
 refine HN.out.mono ?_;rintro e w2 ⟨y,l,rfl,hp,hs,ho,kk⟩;obtain⟨HO,HD,K⟩:=lH3 (ho.base_le K.out.size) (jnH HT.out hp hs) (K.out.trans kk);clear kk ho hp hs HN;go_wp2;go_ret;exact⟨_,_,rfl,HD.out,HO.out,K.out⟩
theorem jiw (s1 s2 s3:Option Addr) (n1 e1 n2 e2 n3 e3:Nat) (a1 a2 a3 a4:Option Addr) (m1 c1 m2 c2 m3 c3 m4 c4:Nat) (pack:Bool) (p:Pd) (s:Clu) (w:World) (hs:jC w (Jg (.slice s1 n1 e1) (.slice s2 n2 e2) (.slice s3 n3 e3)) s) (hl:jE s) (hb:s.pods.length+1≤100000) (hp:ji w (.slice a1 m1 c1) (.slice a2 m2 c2) (.slice a3 m3 c3) (.slice a4 m4 c4) p) (hlp:JO p):Calls Tryz.prog 47 #[.agg #[.slice s1 n1 e1,.slice s2 n2 e2,.slice s3 n3 e3],jx p (.slice a1 m1 c1) (.slice a2 m2 c2) (.slice a3 m3 c3) (.slice a4 m4 c4),.bool pack] w (jlI s p pack w):=by
 obtain⟨Z,hZ⟩:=eX ((w.alloc (.cells #[.slice s1 n1 e1,.slice s2 n2 e2,.slice s3 n3 e3] 26)).alloc (.cells #[.string p.name,.string p.owner,.int .i64 p.prio,.slice a1 m1 c1,.slice a2 m2 c2,.slice a3 m3 c3,.slice a4 m4 c4,.string p.key,.int .i64 p.most,.string p.node,.bool p.hold] 44))
 have hkz:Kept w Z:=by rw[←hZ];exact jn _ _ _
 have Vk:=lH (jc w (.slice s1 n1 e1) [.slice s2 n2 e2,.slice s3 n3 e3] 26 Z (by rw[←hZ];exact ja _ _));have Vg:=lH (show jf (w.heap.size+1) [.string p.name,.string p.owner,.int .i64 p.prio,.slice a1 m1 c1,.slice a2 m2 c2,.slice a3 m3 c3,.slice a4 m4 c4,.string p.key,.int .i64 p.most,.string p.node,.bool p.hold] Z by
  have dd:=jc (w.alloc (.cells #[.slice s1 n1 e1,.slice s2 n2 e2,.slice s3 n3 e3] 26)) (.string p.name) [.string p.owner,.int .i64 p.prio,.slice a1 m1 c1,.slice a2 m2 c2,.slice a3 m3 c3,.slice a4 m4 c4,.string p.key,.int .i64 p.most,.string p.node,.bool p.hold] 44 Z (by rw[hZ];exact Kept.refl _);rw[World.size_alloc] at dd;exact dd)
 obtain⟨K,HS,HP,HL,Tg,Ud⟩:=lH6 hkz (hs.kept hkz) (hp.kept hkz) hl hb hlp;clear hs hp hkz hl hb hlp;have UY:=lH (jkp s1 s2 s3 n1 e1 n2 e2 n3 e3 a1 a2 a3 a4 m1 c1 m2 c2 m3 c3 m4 c4 pack p s Z HS.out HL.out Tg.out HP.out Ud.out);unfold jx at UY;obtain⟨y0,y1,y2⟩:=Vk.out.at3;obtain⟨r0,r1,r2,r3,r4,r5,r6,r7,r8,r9,r10⟩:=Vg.out.at11;unfold jx;go_enter Tryz.func47,Tryz.ntmps47;go_wp2_with fail
 try rw[hZ]
 clear hZ;refine UY.out.mono ?_;rintro e w1 ⟨v,l,rfl,hd,ho,kk⟩;have HD:=lH hd;have K:=lH (K.out.trans kk);obtain⟨a,cap,rfl,-,-,hrow⟩:=ho.at_;clear kk hd ho UY y0 y1 y2 r0 r1 r2 r3 r4 r5 r6 r7 r8 r9 r10
 cases l with
 | nil =>
  have h0:(((([]:List ByteArray).length:Nat):Int)==0)=true:=rfl;go_wp2;go_ret2
  exact⟨[],HD.out,rfl,K.out⟩
 | cons x t =>
  obtain⟨b,off,rfl⟩:=hrow.form.resolve_left (by simp);obtain⟨x9,hx9,-,-,-,c0⟩:=hrow.str (k:=0) (by simp);obtain rfl:x=x9:=by simpa using hx9
  rw[Nat.add_zero] at c0;obtain⟨n,hn⟩:=eX ((x::t).length)
  have hn1:0<n:=by rw[←hn];simp
  have hn0:((n:Int)==0)=false:=by simp;omega
  have hn2:(0:Int)<(n:Int):=by omega
  rw[hn];clear hx9 hrow hn;go_wp2;go_ret2
  exact⟨x::t,HD.out,rfl,K.out⟩
theorem jlI.is {s:Clu} {p:Pd} {pack:Bool} {w w':World} {e:Ending} {l:List ByteArray} (h:jlI s p pack w e w') (ho:qj s p pack l):Say (.tuple #[.string (l.headD ⟨#[]⟩),.bool (!l.isEmpty)]) w e w':=by
 obtain⟨m,hm,he,kk⟩:=h;rw[hm.unique ho] at he;exact⟨he,kk⟩
theorem jdm.is {x:Option Nat} {z:Nat} {w w':World} {e:Ending} (h:jdm x w e w') (hx:x=some z):Say (.float .f64 z) w e w':=by
 obtain⟨r,he,hr,-,kk⟩:=h;rw[hx] at hr;obtain⟨-,rfl⟩:=Y5.1 hr;exact⟨he,kk⟩
theorem jlr.is {s:Clu} {p:Pd} {pack:Bool} {w w':World} {e:Ending} {l:List ByteArray} (h:jlr s p pack w e w') (ho:qj s p pack l):∃v,e=.returned v∧Own zl 9 w' w.heap.size v l∧Kept w w':=by
 obtain⟨v,m,he,hm,h2,kk⟩:=h;rw[hm.unique ho] at h2;exact⟨v,he,h2,kk⟩
def sdX:Pd:=jdL ⟨#[120]⟩ 6 ⟨#[]⟩
def sdY:Pd:={ jdL ⟨#[121]⟩ 6 ⟨#[]⟩ with prio:=5 }
def sdZ:Pd:=jdL ⟨#[122]⟩ 3 ⟨#[]⟩
def sdA:ByteArray:=⟨#[97]⟩
def sdS:Clu:=⟨[YV ⟨#[97]⟩ 10],[sdX,sdY,sdZ],[]⟩
def sdT:Clu:=zZ sdS ⟨#[121]⟩ ⟨#[97]⟩
def sdU:Clu:=zZ sdT ⟨#[122]⟩ ⟨#[97]⟩
theorem ja4 (p:Pd) (x y:ByteArray) (c:Int) (h:p.need=(jdL x c y).need∧p.labels=[]∧p.sel=[]∧p.tols=[]):JO p:=⟨by rw[h.1];exact(by decide:(1:Nat)≤1000000),by rw[h.2.1];exact(by decide:(0:Nat)≤1000000),by rw[h.2.2.1];exact(by decide:(0:Nat)≤1000000),by rw[h.2.2.2];exact(by decide:(0:Nat)≤1000000)⟩
theorem YQ:jE sdS:=⟨fun n hn=>by
 unfold sdS at hn;obtain rfl:=List.mem_singleton.1 hn;exact⟨(by decide:(1:Nat)≤1000000),(by decide:(0:Nat)≤1000000),(by decide:(0:Nat)≤1000000)⟩,
 fun n hn=>by
  unfold sdS at hn;simp only[List.mem_cons,List.not_mem_nil,or_false] at hn;rcases hn with rfl | rfl | rfl
  · exact ja4 _ ⟨#[]⟩ ⟨#[]⟩ 6 ⟨rfl,rfl,rfl,rfl⟩
  · exact ja4 _ ⟨#[]⟩ ⟨#[]⟩ 6 ⟨rfl,rfl,rfl,rfl⟩
  · exact ja4 _ ⟨#[]⟩ ⟨#[]⟩ 3 ⟨rfl,rfl,rfl,rfl⟩,(fun n h=>by cases h),(by decide:(1:Nat)≤100000),(by decide:(3:Nat)≤100000),(by decide:(0:Nat)≤100000)⟩
theorem jdt:ZR sdS=true:=by kernel_rfl
theorem jc9:Asc sdS.pods:=jfU jdt
theorem jna {w:World} {v:Value} (h:jC w v sdS):Je sdS:=⟨XV jdt,jgp jdt h,YQ,(by decide:(3:Nat)≤128)⟩
theorem jf1 {r:Pd→Pd→Prop} {x y:Pd} (h:r x y):[x,y].Pairwise r:=List.Pairwise.cons (fun z hz=>by obtain rfl:=List.mem_singleton.1 hz;exact h) (List.Pairwise.cons (fun z hz=>by cases hz) List.Pairwise.nil)
theorem jox:sdS.pods.filter jS=[sdX,sdY,sdZ]:=by kernel_rfl
theorem joI:sdT.pods.filter jS=[sdX,sdZ]:=by kernel_rfl
theorem joA:sdU.pods.filter jS=[sdX]:=by kernel_rfl
theorem joF:zy sdX sdY=false:=by kernel_rfl
theorem joP:zy sdZ sdY=false:=by kernel_rfl
theorem jn7:zy sdZ sdX=false:=by kernel_rfl
theorem joQ:Xu sdS.pods [sdY,sdX,sdZ]:=⟨by rw[jox];exact List.Perm.swap _ _ _,List.Pairwise.cons (fun z hz=>by
 rcases List.mem_cons.1 hz with rfl | hz
 · exact joF
 · obtain rfl:=List.mem_singleton.1 hz;exact joP) (jf1 jn7)⟩
theorem jiT:zD sdS.pods=[sdY,sdX,sdZ]:=(jaw jc9 joQ).symm
theorem jn9:Asc sdT.pods:=by unfold Asc sdT;decide +kernel
theorem jmw:Asc sdU.pods:=by unfold Asc sdU;decide +kernel
theorem joD:zD sdT.pods=[sdX,sdZ]:=(jaw jn9 ⟨by rw[joI],jf1 jn7⟩).symm
theorem jnY:zD sdU.pods=[sdX]:=(jaw jmw ⟨by rw[joA],List.Pairwise.cons (fun z hz=>by cases hz) List.Pairwise.nil⟩).symm
theorem joG:zL sdS sdY sdS.nodes=[sdA]:=by kernel_rfl
theorem joO:zL sdT sdX sdT.nodes=[]:=by kernel_rfl
theorem joE:zL sdT sdZ sdT.nodes=[sdA]:=by kernel_rfl
theorem joj:zL sdU sdX sdU.nodes=[]:=by kernel_rfl
theorem jhM {s:Clu} {p:Pd} {pack:Bool} {x:ByteArray} (h:zL s p s.nodes=[x]):jaZ s p pack=some x :=
 (jkT (l:=[x]) ⟨by rw[h],List.Pairwise.cons (fun z hz=>by cases hz) List.Pairwise.nil⟩).symm
theorem jnS (pack:Bool):nextS sdS pack=some (⟨#[121]⟩,sdA):=by
 unfold nextS;rw[jiT,Yc,jhM joG];rfl
theorem joM (pack:Bool):nextS sdT pack=some (⟨#[122]⟩,sdA):=by
 unfold nextS;rw[joD,Yc,jfa.2 joO];show Yc sdT pack [sdZ]=_;rw[Yc,jhM joE];rfl
theorem jov (pack:Bool):nextS sdU pack=none:=by
 unfold nextS;rw[jnY,Yc,jfa.2 joj];rfl
theorem sdB (pack:Bool):JG sdS pack=[(⟨#[121]⟩,sdA),(⟨#[122]⟩,sdA)]:=by
 unfold JG;rw[jiT];show Jp pack 3 sdS=_;rw[Jp,jnS];show _::Jp pack 2 sdT=_;rw[Jp,joM];show _::_::Jp pack 1 sdU=_;rw[Jp,jov]
theorem sdG (pack:Bool):goS (JG sdS pack) sdS=sdU:=by rw[sdB];rfl
theorem jj7:ByteArray.empty.toList=[]:=by first | rfl | decide | simp | kernel_rfl
theorem noE {x:ByteArray} (h:zp x=true):x.toList.isEmpty=true:=by
 rw[jR.1 (show eqS x ByteArray.empty=true from h),jj7];rfl
theorem noF {x:ByteArray} (h:zp x=false):x.toList.isEmpty=false:=by
 cases e:x.toList.isEmpty with
 | false=>rfl
 | true =>
  have:zp x=true:=by
   unfold zp eqS;rw[List.isEmpty_iff.1 e,jj7];rfl
  rw[this] at h;cases h
theorem jbN (n:Pd) (v1 v2 v3 v4:Value) (w:World):Calls Tryz.prog 27 #[jx n v1 v2 v3 v4] w fun e w'=>e=.returned (.bool (!jS n))∧Kept w w':=by
 have c9:=(jc w (.string n.name) [.string n.owner,.int .i64 n.prio,v1,v2,v3,v4,.string n.key,.int .i64 n.most,.string n.node,.bool n.hold] 44 _ (Kept.refl _)).at_ 9 _ rfl;have c10:=(jc w (.string n.name) [.string n.owner,.int .i64 n.prio,v1,v2,v3,v4,.string n.key,.int .i64 n.most,.string n.node,.bool n.hold] 44 _ (Kept.refl _)).at_ 10 _ rfl;have HV:=lH (show ∀a b,zp n.node=a→n.hold=b→(!jS n)=(!a||b) from fun a b ha hb=>by unfold jS;rw[ha,hb];cases a<;>cases b<;>rfl);unfold jx
 cases ha:zp n.node with
 | true =>
  have ha':n.node.toList.isEmpty=true:=noE ha;rw[HV.out true _ ha rfl];clear ha;go_enter Tryz.func27,Tryz.ntmps27;go_wp2;go_ret;exact⟨by first | rfl | simp,ja _ _⟩
 | false =>
  have ha':n.node.toList.isEmpty=false:=noF ha;rw[HV.out false _ ha rfl];clear ha;go_enter Tryz.func27,Tryz.ntmps27;go_wp2;go_ret;exact⟨by first | rfl | simp,ja _ _⟩
theorem jdf (a:Option Addr) (len cap:Nat) (l:List Pd) (w:World) (hr:jy w a len l) :
 Calls Tryz.prog 72 #[.slice a len cap,.func (.func 27) #[] #[]] w (Say (.int .i64 (jaS (idxB (fun p=>!jS p) l))) w):=by
 have hl:=hr.1;have hm:=hr.2.1;unfold maxLen at hm;have HL:=lH hl;have HR:=lH hr;clear hr hl;go_enter Tryz.func72,Tryz.ntmps72;go_wp2;go_loopw [8] (fun i wr=>∃k:Nat,k≤len∧i=.int .i64 k∧(idxB (fun p=>!jS p) (l.drop k)).map (·+k)=idxB (fun p=>!jS p) l∧Kept w wr) (fun i _=>len-(intOf i).toNat)
 case atStart=>exact⟨0,Nat.zero_le _,rfl,by simp,Kept.refl _⟩
 case round =>
  obtain⟨k,hk,rfl,hrest,hK⟩:=hrel;have HS:=lH hrest;have HK:=lH hK;by_cases hlt:k<len
  · obtain⟨b,off,rfl⟩:=HR.out.form.resolve_left (by omega);obtain⟨n,a1,m1,c1,a2,m2,c2,a3,m3,c3,a4,m4,c4,hn,hd,hb,p0,p1,p2,p3,p4,p5,p6,p7,p8,p9,p10,hat⟩:=(HR.out.kept hK).at_ hlt;have HD:=lH hd;have Tr:=lH (jbN n (.slice a1 m1 c1) (.slice a2 m2 c2) (.slice a3 m3 c3) (.slice a4 m4 c4) wr);obtain⟨t,ht⟩:=eX ((!jS n))
    have HT:=lH ht;unfold jx at Tr;have HC:=lH Tr.out;rw[ht] at HC;clear Tr;clear hrest hK hat hd hn ht
    cases t with
    | true =>
     have HF:=lH (jdN (f:=fun p=>!jS p) HD.out HT.out HS.out);go_wp2_with fail
     refine HC.out.mono ?_;rintro e w1 ⟨rfl,k1⟩;have K1:=lH (HK.out.trans k1);clear k1;go_wp2;go_ret;exact⟨by rw[HF.out];rfl,K1.out⟩
    | false =>
     have HE:=lH (jcm (f:=fun p=>!jS p) HD.out HT.out HS.out);go_wp2_with fail
     refine HC.out.mono ?_;rintro e w1 ⟨rfl,k1⟩;have K1:=lH (HK.out.trans k1);clear k1;go_wp2;go_roundw
     case rel=>exact⟨k+1,by omega,by go_num,HE.out,K1.out⟩
     case measure=>simp[intOf];omega
  · have HF:=lH (show idxB (fun p=>!jS p) l=none by rw[←hrest,List.drop_of_length_le (by rw[HL.out];omega)];rfl);clear hrest hK;go_wp2;go_ret;exact⟨by rw[HF.out];rfl,HK.out⟩
theorem jdr (l:List PX) (k:Nat):je PodLay0 (l.take k)=(je PodLay0 l).take (k*11):=by
 induction l generalizing k with
 | nil=>simp[je]
 | cons z t ih =>
  cases k with
  | zero=>simp[je]
  | succ k =>
   have e:(PodLay0.cs z).length=11:=rfl;have ih2:=ih k;unfold je at ih2 ⊢;rw[List.take_succ_cons,List.flatMap_cons,List.flatMap_cons,ih2,show (k+1)*11=(PodLay0.cs z).length+k*11 by rw[e];omega,List.take_length_add_append]
theorem jee:∀{lx:List PX},idxB (fun p=>!jS p) (lx.map fun z=>z.1)=none→lx.filter (fun z=>jS z.1)=lx
 | [],_=>rfl
 | z::t,h=>by
  rw[List.map_cons,idxB] at h;split at h
  · cases h
  · rename_i g;have g2:jS z.1=true:=by simpa using g
    rw[List.filter_cons_of_pos (by exact g2),jee (Option.map_eq_none_iff.1 h)]
theorem jeh:∀{lx:List PX} {k:Nat},idxB (fun p=>!jS p) (lx.map fun z=>z.1)=some k→(lx.take (k+1)).filter (fun z=>jS z.1)=lx.take k
 | [],k,h=>by cases h
 | z::t,k,h=>by
  rw[List.map_cons,idxB] at h;split at h
  · rename_i g;obtain rfl:=Option.some.inj h;have g2:jS z.1=false:=by simpa using g
    rw[List.take_succ_cons,List.take_zero,List.take_zero,List.filter_cons_of_neg (by rw[g2];decide)];rfl
  · rename_i g;have g2:jS z.1=true:=by simpa using g
    cases e:idxB (fun p=>!jS p) (t.map fun z=>z.1) with
    | none=>rw[e] at h;cases h
    | some q =>
     rw[e] at h;obtain rfl:=Option.some.inj h;rw[List.take_succ_cons,List.take_succ_cons,List.filter_cons_of_pos (by exact g2),jeh e]
structure ja5 (B g len cap i j:Nat) (lx:List PX) (w wr:World) (ly:List PX):Prop where
 own:Own PodLay0 44 wr B (.slice (some ⟨g,0,none⟩) len cap) ly
 len:ly.length=len
 fst:ly.take i=(lx.take j).filter fun z=>jS z.1
 snd:ly.drop j=lx.drop j
 off:jg (fun b=>b=g) w wr
theorem ja5.skip {B g len cap i j:Nat} {lx ly:List PX} {w wr w1:World} {z:PX} (h:ja5 B g len cap i j lx w wr ly) (hz:lx[j]?=some z) (hr:jS z.1=false) (k:Kept wr w1):ja5 B g len cap i (j+1) lx w w1 ly:=by
 refine⟨h.own.kept k,h.len,?_,?_,h.off.trans (jg.of k)⟩
 · rw[h.fst,List.take_add_one,hz,List.filter_append];simp[hr]
 · rw[←List.drop_drop,←List.drop_drop,h.snd]
theorem ja5.keep {B g len cap i j:Nat} {lx ly:List PX} {w wr w1:World} {z:PX} (h:ja5 B g len cap i j lx w wr ly) (hij:i<j) (hj:j<len) (hz:lx[j]?=some z) (hr:jS z.1=true) (k:Kept wr w1):ja5 B g len cap (i+1) (j+1) lx w (w1.setCells g (i*11) (PodLay0.cs z)) (ly.set i z):=by
 have hi:i<ly.length:=by rw[h.len];omega
 refine⟨(h.own.kept k).ZC hi z trivial,by rw[List.length_set];exact h.len,?_,?_,(h.off.trans (jg.of k)).trans (jg.cells (S:=fun b=>b=g) g rfl _ _ _)⟩
 · rw[List.take_add_one,List.getElem?_set_self hi,List.take_set_of_le (Nat.le_refl _),h.fst,List.take_add_one,hz,List.filter_append];simp[hr]
 · rw[List.drop_set_of_lt (by omega),←List.drop_drop,←List.drop_drop,h.snd]
theorem jlT (g len cap B:Nat) (lx:List PX) (w:World) (ho:Own PodLay0 44 w B (.slice (some ⟨g,0,none⟩) len cap) lx) (hat:∀z ∈ lx,At4 w z) (hlen:len≤100000) :
 Calls Tryz.prog 25 #[.slice (some ⟨g,0,none⟩) len cap,.func (.func 27) #[] #[]] w fun e w'=>∃n,e=.returned (.slice (some ⟨g,0,none⟩) n cap)∧Own PodLay0 44 w' B (.slice (some ⟨g,0,none⟩) n cap) (lx.filter fun z=>jS z.1)∧jg (fun b=>b=g) w w':=by
 have hn:len=lx.length:=by obtain⟨a,c,e,_⟩:=ho.at_;cases e;rfl
 have hr:jy w (some ⟨g,0,none⟩) len (lx.map fun z=>z.1):=jlk (qX ho hat);obtain⟨cur,hB,hg,hlc,hm,hsz,ht,hl⟩:=Jw (show w.ownsRow B 44 11 (.slice (some ⟨g,0,none⟩) len cap) len (je PodLay0 lx) by have:=ho.1;rw[←hn] at this;exact this);obtain⟨HI,HO,HN⟩:=lH3 (jdf (some ⟨g,0,none⟩) len cap (lx.map fun z=>z.1) w hr) ho hn;have hm':cap≤9223372036854775807:=by unfold maxLen at hm;omega
 clear ho hr hat hn hB hg hsz ht hl hm
 cases hi:idxB (fun p=>!jS p) (lx.map fun z=>z.1) with
 | none =>
  rw[hi] at HI;have HF:=lH (jee hi);clear hi;unfold jaS at HI;go_enter Tryz.func25,Tryz.ntmps25;go_wp2_with fail
  refine HI.out.mono ?_;rintro e w1 ⟨rfl,k⟩;have K:=lH k;clear k;go_wp2;go_ret;exact⟨len,rfl,by rw[HF.out];exact HO.out.kept K.out,jg.of K.out⟩
 | some k0 =>
  rw[hi] at HI;have hk0:k0<len:=by have:=qA hi;rw[List.length_map] at this;have:=HN.out;omega
  have HF:=lH (jeh hi);clear hi;unfold jaS at HI;have hne:((k0:Int)==-1)=false:=beq_eq_false_iff_ne.2 (by omega);go_enter Tryz.func25,Tryz.ntmps25;go_wp2_with fail
  refine HI.out.mono ?_;rintro e w1 ⟨rfl,k⟩;have K:=lH k;clear k;go_wp2_with fail
  go_loopw [5,6] (fun vi vj wr=>∃(i j:Nat) (ly:List PX),vi=.int .i64 i∧vj=.int .i64 j∧i<j∧j≤len∧ja5 B g len cap i j lx w wr ly) (fun _ vj _=>len-(intOf vj).toNat)
  case atStart=>exact⟨k0,k0+1,lx,rfl,by first | rfl | go_num,by omega,by omega,HO.out.kept K.out,HN.out.symm,HF.out.symm,rfl,jg.of K.out⟩
  case round =>
   obtain⟨i,j,ly,rfl,rfl,hij,hj,hinv⟩:=hrel;have HV:=lH hinv;have hly:=hinv.len;by_cases hlt:j<len
   · obtain⟨z,hz⟩:∃z,ly[j]?=some z:=⟨_,List.getElem?_eq_getElem (by omega)⟩
     have hzx:lx[j]?=some z:=by
      have h0:(ly.drop j)[0]?=(lx.drop j)[0]?:=by rw[hinv.snd]
      rw[List.getElem?_drop,List.getElem?_drop,Nat.add_zero] at h0;rw[←h0];exact hz
     obtain⟨y,hy⟩:∃z,ly[i]?=some z:=⟨_,List.getElem?_eq_getElem (by omega)⟩
     have HY:=lH hy;obtain⟨n,⟨b1,n1,d1⟩,⟨b2,n2,d2⟩,⟨b3,n3,d3⟩,⟨b4,n4,d4⟩⟩:=z;have p0:wr.cell? ⟨g,j*11,none⟩=some (.string n.name):=hinv.own.cell_at hz (j:=0) rfl;have p1:wr.cell? ⟨g,j*11+1,none⟩=some (.string n.owner):=hinv.own.cell_at hz (j:=1) rfl;have p2:wr.cell? ⟨g,j*11+2,none⟩=some (.int .i64 n.prio):=hinv.own.cell_at hz (j:=2) rfl;have p3:wr.cell? ⟨g,j*11+3,none⟩=some (.slice b1 n1 d1):=hinv.own.cell_at hz (j:=3) rfl;have p4:wr.cell? ⟨g,j*11+4,none⟩=some (.slice b2 n2 d2):=hinv.own.cell_at hz (j:=4) rfl;have p5:wr.cell? ⟨g,j*11+5,none⟩=some (.slice b3 n3 d3):=hinv.own.cell_at hz (j:=5) rfl;have p6:wr.cell? ⟨g,j*11+6,none⟩=some (.slice b4 n4 d4):=hinv.own.cell_at hz (j:=6) rfl;have p7:wr.cell? ⟨g,j*11+7,none⟩=some (.string n.key):=hinv.own.cell_at hz (j:=7) rfl;have p8:wr.cell? ⟨g,j*11+8,none⟩=some (.int .i64 n.most):=hinv.own.cell_at hz (j:=8) rfl;have p9:wr.cell? ⟨g,j*11+9,none⟩=some (.string n.node):=hinv.own.cell_at hz (j:=9) rfl;have p10:wr.cell? ⟨g,j*11+10,none⟩=some (.bool n.hold):=hinv.own.cell_at hz (j:=10) rfl;have R9:=lH hzx;have hjj:(j:Int)<(len:Int):=by omega
     have HS:=lH (jbN n (.slice b1 n1 d1) (.slice b2 n2 d2) (.slice b3 n3 d3) (.slice b4 n4 d4) (wr.alloc (.cells #[.string n.name,.string n.owner,.int .i64 n.prio,.slice b1 n1 d1,.slice b2 n2 d2,.slice b3 n3 d3,.slice b4 n4 d4,.string n.key,.int .i64 n.most,.string n.node,.bool n.hold] 44)));unfold jx at HS;obtain⟨c,hc⟩:=eX (jS n)
     have HC:=lH hc;rw[hc] at HS;clear hz hzx hy hinv hc hly
     cases c with
     | false =>
      go_wp2_with fail
      refine HS.out.mono ?_;rintro e w2 ⟨rfl,kk⟩;have HD:=lH (HV.out.skip R9.out HC.out ((ja _ _).trans kk));clear kk p0 p1 p2 p3 p4 p5 p6 p7 p8 p9 p10;go_wp2;go_roundw
      case rel=>exact⟨i,j+1,ly,rfl,by first | rfl | go_num,by omega,by omega,HD.out⟩
      case measure=>simp[intOf];omega
     | true =>
      go_wp2_with fail
      refine HS.out.mono ?_;rintro e w2 ⟨rfl,kk⟩;have KW:=lH ((ja wr (.cells #[.string n.name,.string n.owner,.int .i64 n.prio,.slice b1 n1 d1,.slice b2 n2 d2,.slice b3 n3 d3,.slice b4 n4 d4,.string n.key,.int .i64 n.most,.string n.node,.bool n.hold] 44)).trans kk);obtain⟨y0,y1,y2,y3,y4,y5,y6,y7,y8,y9,y10⟩:=(jc wr (.string n.name) [.string n.owner,.int .i64 n.prio,.slice b1 n1 d1,.slice b2 n2 d2,.slice b3 n3 d3,.slice b4 n4 d4,.string n.key,.int .i64 n.most,.string n.node,.bool n.hold] 44 w2 kk).at11;have HD:=lH (HV.out.keep hij hlt R9.out HC.out KW.out);obtain⟨u0,q0⟩:∃u,w2.cell? ⟨g,i*11,none⟩=some u:=⟨_,(HV.out.own.kept KW.out).cell_at HY.out (j:=0) rfl⟩
      obtain⟨u1,q1⟩:∃u,w2.cell? ⟨g,i*11+1,none⟩=some u:=⟨_,(HV.out.own.kept KW.out).cell_at HY.out (j:=1) rfl⟩
      obtain⟨u2,q2⟩:∃u,w2.cell? ⟨g,i*11+2,none⟩=some u:=⟨_,(HV.out.own.kept KW.out).cell_at HY.out (j:=2) rfl⟩
      obtain⟨u3,q3⟩:∃u,w2.cell? ⟨g,i*11+3,none⟩=some u:=⟨_,(HV.out.own.kept KW.out).cell_at HY.out (j:=3) rfl⟩
      obtain⟨u4,q4⟩:∃u,w2.cell? ⟨g,i*11+4,none⟩=some u:=⟨_,(HV.out.own.kept KW.out).cell_at HY.out (j:=4) rfl⟩
      obtain⟨u5,q5⟩:∃u,w2.cell? ⟨g,i*11+5,none⟩=some u:=⟨_,(HV.out.own.kept KW.out).cell_at HY.out (j:=5) rfl⟩
      obtain⟨u6,q6⟩:∃u,w2.cell? ⟨g,i*11+6,none⟩=some u:=⟨_,(HV.out.own.kept KW.out).cell_at HY.out (j:=6) rfl⟩
      obtain⟨u7,q7⟩:∃u,w2.cell? ⟨g,i*11+7,none⟩=some u:=⟨_,(HV.out.own.kept KW.out).cell_at HY.out (j:=7) rfl⟩
      obtain⟨u8,q8⟩:∃u,w2.cell? ⟨g,i*11+8,none⟩=some u:=⟨_,(HV.out.own.kept KW.out).cell_at HY.out (j:=8) rfl⟩
      obtain⟨u9,q9⟩:∃u,w2.cell? ⟨g,i*11+9,none⟩=some u:=⟨_,(HV.out.own.kept KW.out).cell_at HY.out (j:=9) rfl⟩
      obtain⟨u10,q10⟩:∃u,w2.cell? ⟨g,i*11+10,none⟩=some u:=⟨_,(HV.out.own.kept KW.out).cell_at HY.out (j:=10) rfl⟩
      have x0f:w2.frozen? ⟨g,i*11,none⟩=false:=(HV.out.own.kept KW.out).frozen_at _;have x1f:w2.frozen? ⟨g,i*11+1,none⟩=false:=(HV.out.own.kept KW.out).frozen_at _;have x2f:w2.frozen? ⟨g,i*11+2,none⟩=false:=(HV.out.own.kept KW.out).frozen_at _;have x3f:w2.frozen? ⟨g,i*11+3,none⟩=false:=(HV.out.own.kept KW.out).frozen_at _;have x4f:w2.frozen? ⟨g,i*11+4,none⟩=false:=(HV.out.own.kept KW.out).frozen_at _;have x5f:w2.frozen? ⟨g,i*11+5,none⟩=false:=(HV.out.own.kept KW.out).frozen_at _;have x6f:w2.frozen? ⟨g,i*11+6,none⟩=false:=(HV.out.own.kept KW.out).frozen_at _;have x7f:w2.frozen? ⟨g,i*11+7,none⟩=false:=(HV.out.own.kept KW.out).frozen_at _;have x8f:w2.frozen? ⟨g,i*11+8,none⟩=false:=(HV.out.own.kept KW.out).frozen_at _;have x9f:w2.frozen? ⟨g,i*11+9,none⟩=false:=(HV.out.own.kept KW.out).frozen_at _;have x10f:w2.frozen? ⟨g,i*11+10,none⟩=false:=(HV.out.own.kept KW.out).frozen_at _;have hii:(i:Int)<(len:Int):=by omega
      clear kk p0 p1 p2 p3 p4 p5 p6 p7 p8 p9 p10;go_wp2;obtain⟨WE,hWE⟩:=eX (w2.setCells g (i*11) [.string n.name,.string n.owner,.int .i64 n.prio,.slice b1 n1 d1,.slice b2 n2 d2,.slice b3 n3 d3,.slice b4 n4 d4,.string n.key,.int .i64 n.most,.string n.node,.bool n.hold])
      have hWE2:(((((((((((w2.setCell ⟨g,i*11,none⟩ (.string n.name)).setCell ⟨g,i*11+1,none⟩ (.string n.owner)).setCell ⟨g,i*11+2,none⟩ (.int .i64 n.prio)).setCell ⟨g,i*11+3,none⟩ (.slice b1 n1 d1)).setCell ⟨g,i*11+4,none⟩ (.slice b2 n2 d2)).setCell ⟨g,i*11+5,none⟩ (.slice b3 n3 d3)).setCell ⟨g,i*11+6,none⟩ (.slice b4 n4 d4)).setCell ⟨g,i*11+7,none⟩ (.string n.key)).setCell ⟨g,i*11+8,none⟩ (.int .i64 n.most)).setCell ⟨g,i*11+9,none⟩ (.string n.node)).setCell ⟨g,i*11+10,none⟩ (.bool n.hold))=WE:=hWE;have HD:=lH (show ja5 B g len cap (i+1) (j+1) lx w WE (ly.set i (n,(b1,n1,d1),(b2,n2,d2),(b3,n3,d3),(b4,n4,d4))) by rw[←hWE];exact HD.out);try rw[hWE2]
      clear y0 y1 y2 y3 y4 y5 y6 y7 y8 y9 y10 hWE hWE2 q0 q1 q2 q3 q4 q5 q6 q7 q8 q9 q10 x0f x1f x2f x3f x4f x5f x6f x7f x8f x9f x10f;go_roundw
      case rel=>exact⟨i+1,j+1,_,by first | rfl | go_num,by first | rfl | go_num,by omega,by omega,HD.out⟩
      case measure=>simp[intOf];omega
   · obtain rfl:j=len:=by omega
     obtain⟨i0,hi0,hz0,hz1,hz2⟩:=info_parts qD;have hxs:ly.filter (fun _=>true)=ly:=by simp
     have hrl:(je PodLay0 ly).length=j*11:=by rw[jZ,hinv.len];rfl
     have hown:wr.ownsRow B 44 11 (.slice (some ⟨g,0,none⟩) j cap) j (je PodLay0 ly):=by have:=hinv.own.1;rw[hly] at this;exact this
     have hcell:∀t,t<j*11→(wr.cell? ⟨g,t,none⟩).isSome=true:=fun t h=>by
      rw[hown.cellAt t h,List.getElem?_eq_getElem (by rw[hrl];exact h)];rfl
     have hcl:∀ty,(Builtin.clear_ #[23] ty #[.slice (some ⟨g,i*11,none⟩) (j-i) (cap-i)]).run Tryz.prog wr=.ok (.tuple #[]) (wr.setCells g (i*11) (Builtin.zeroCells zQ (j-i)).toList) :=
      fun ty=>qt wr _ 44 ty i0 (.agg zQ) Tryz.underlying23 hi0 hz0 g _ _ _ (by omega) (jdV _) (fun t h=>hcell _ (by rw[ja0,Ze] at h;omega)) (fun t h=>hinv.own.frozen_at _)
     have X:=lH (show Own PodLay0 44 (wr.setCells g (i*11) (Builtin.zeroCells zQ (j-i)).toList) B (.slice (some ⟨g,0,none⟩) i cap) (lx.filter fun z=>jS z.1) by
      have hfl:ly.take i=lx.filter fun z=>jS z.1:=by rw[hinv.fst,List.take_of_length_le (by rw[HN.out];exact Nat.le_refl _)]
      have hli:(ly.take i).length=i:=by rw[List.length_take];omega
      have h:=jgf (i:=i) (j:=j) (zs:=(Builtin.zeroCells zQ (j-i)).toList) hown (Nat.le_of_lt hij) (Nat.le_refl _) (by rw[Array.length_toList,Ze]);rw[List.drop_of_length_le (by rw[hrl];exact Nat.le_refl _),Nat.sub_self,Nat.add_zero,List.append_nil] at h;refine⟨?_,fun _ _=>trivial⟩;rw[←hfl,hli];have e2:je PodLay0 (ly.take i)=(je PodLay0 ly).take (i*11):=jdr ly i;rw[e2];exact h)
     have GX:=lH (show jg (fun b=>b=g) w (wr.setCells g (i*11) (Builtin.zeroCells zQ (j-i)).toList) from hinv.off.trans (jg.cells (S:=fun b=>b=g) g rfl _ _ _));have hjj:¬(j:Int)<(j:Int):=by omega
     have hci:¬cap=i:=by omega
     have hic:i≤cap:=by omega
     have hil:i≤j:=by omega
     clear hinv hcell hown hrl hxs hly;go_wp2;go_ret;exact⟨i,rfl,X.out,GX.out⟩
theorem jjs (w:World):Calls Tryz.prog 25 #[.slice none 0 0,.func (.func 27) #[] #[]] w fun e w'=>e=.returned (.slice none 0 0)∧Kept w w':=by
 have HI:=lH (jdf none 0 0 [] w ⟨rfl,by decide,.inl rfl⟩);have HI:=lH (show Calls Tryz.prog 72 #[.slice none 0 0,.func (.func 27) #[] #[]] w (Say (.int .i64 (-1)) w) from HI.out);go_enter Tryz.func25,Tryz.ntmps25;go_wp2_with fail
 refine HI.out.mono ?_;rintro e w1 ⟨rfl,k⟩;have K:=lH k;clear k;go_wp2;go_ret;exact⟨rfl,K.out⟩
open Go.Sort
variable {α:Type} [Inhabited α] {lt:α→α→Bool}
structure Rot (lo i j:Nat) (d d':Array α):Prop where
 size:d'.size=d.size
 fst:∀k,lo≤k→k<lo+j→d'[k]! = d[k+i]!
 snd:∀k,lo+j≤k→k<lo+i+j→d'[k]! = d[k-j]!
 out:∀k,k<lo∨lo+i+j≤k→d'[k]! = d[k]!
structure Yk (a b n:Nat) (d d':Array α):Prop where
 size:d'.size=d.size
 fst:∀k,a≤k→k<a+n→d'[k]! = d[k+(b-a)]!
 snd:∀k,b≤k→k<b+n→d'[k]! = d[k-(b-a)]!
 out:∀k,k<a∨(a+n≤k∧k<b)∨b+n≤k→d'[k]! = d[k]!
theorem Yk.zero (a b:Nat) (d:Array α):Yk a b 0 d d:=⟨rfl,fun k _ _=>by omega,fun k _ _=>by omega,fun k _=>rfl⟩
theorem Yk.step {a b n:Nat} {d dk:Array α} (h:Yk a b n d dk) (hab:a+(n+1)≤b) (hb:b+n<d.size):Yk a b (n+1) d (swp dk (a+n) (b+n)):=by
 have hs:=h.size;refine⟨by rw[size_swp];exact hs,fun k h1 h2=>?_,fun k h1 h2=>?_,fun k h1=>?_⟩
 · by_cases e:k=a+n
   · rw[e,swp_left _ _ _ (by omega) (by omega),h.out (b+n) (by omega)];congr 1;omega
   · rw[swp_other _ _ _ _ e (by omega)];exact h.fst k h1 (by omega)
 · by_cases e:k=b+n
   · rw[e,swp_right _ _ _ (by omega),h.out (a+n) (by omega)];congr 1;omega
   · rw[swp_other _ _ _ _ (by omega) e];exact h.snd k h1 (by omega)
 · rw[swp_other _ _ _ _ (by omega) (by omega)];exact h.out k (by omega)
theorem Rot.of_exch {lo i:Nat} {d d':Array α} (h:Yk lo (lo+i) i d d'):Rot lo i i d d' :=
 ⟨h.size,fun k h1 h2=>by rw[h.fst k h1 h2];congr 1;omega,fun k h1 h2=>by rw[h.snd k h1 (by omega)];congr 1;omega,fun k h1=>h.out k (by omega)⟩
theorem Rot.big {lo i j:Nat} {d d1 d':Array α} (hij:j<i) (h:Yk lo (lo+i) j d d1) (g:Rot (lo+j) (i-j) j d1 d'):Rot lo i j d d':=by
 refine⟨g.size.trans h.size,fun k h1 h2=>?_,fun k h1 h2=>?_,fun k h1=>?_⟩
 · rw[g.out k (by omega),h.fst k h1 h2];congr 1;omega
 · by_cases e:k<lo+j+j
   · rw[g.fst k (by omega) e,h.snd _ (by omega) (by omega)];congr 1;omega
   · rw[g.snd k (by omega) (by omega),h.out _ (by omega)]
 · rw[g.out k (by omega),h.out k (by omega)]
theorem Rot.small {lo i j:Nat} {d d1 d':Array α} (hij:i<j) (h:Yk lo (lo+j) i d d1) (g:Rot lo i (j-i) d1 d'):Rot lo i j d d':=by
 refine⟨g.size.trans h.size,fun k h1 h2=>?_,fun k h1 h2=>?_,fun k h1=>?_⟩
 · by_cases e:k<lo+(j-i)
   · rw[g.fst k h1 e,h.out _ (by omega)]
   · rw[g.snd k (by omega) (by omega),h.fst _ (by omega) (by omega)];congr 1;omega
 · rw[g.out k (by omega),h.snd k (by omega) (by omega)];congr 1;omega
 · rw[g.out k (by omega),h.out k (by omega)]
theorem Rot.triv {lo i j:Nat} {d:Array α} (h:i=0∨j=0):Rot lo i j d d :=
 ⟨rfl,fun k h1 h2=>by congr 1;omega,fun k h1 h2=>by congr 1;omega,fun _ _=>rfl⟩
theorem Rot.up {a n:Nat} {d dk:Array α} (h:Rot a 1 n d dk) (hs:a+n+1<d.size):Rot a 1 (n+1) d (swp dk (a+n) (a+n+1)):=by
 have hz:=h.size;refine⟨by rw[size_swp];exact hz,fun k h1 h2=>?_,fun k h1 h2=>?_,fun k h1=>?_⟩
 · by_cases e:k=a+n
   · rw[e,swp_left _ _ _ (by omega) (by omega),h.out _ (by omega)]
   · rw[swp_other _ _ _ _ e (by omega)];exact h.fst k h1 (by omega)
 · have e:k=a+n+1:=by omega
   rw[e,swp_right _ _ _ (by omega),h.snd _ (by omega) (by omega)];congr 1;omega
 · rw[swp_other _ _ _ _ (by omega) (by omega)];exact h.out k (by omega)
theorem Rot.down {k n:Nat} {d dk:Array α} (h:Rot (k+1) n 1 d dk) (hs:k+1+n<d.size):Rot k (n+1) 1 d (swp dk (k+1) k):=by
 have hz:=h.size;refine⟨by rw[size_swp];exact hz,fun x h1 h2=>?_,fun x h1 h2=>?_,fun x h1=>?_⟩
 · have e:x=k:=by omega
   rw[e,swp_right _ _ _ (by omega),h.fst _ (by omega) (by omega)];congr 1;omega
 · by_cases e:x=k+1
   · rw[e,swp_left _ _ _ (by omega) (by omega),h.out _ (by omega)];congr 1
   · rw[swp_other _ _ _ _ e (by omega)];exact h.snd x (by omega) (by omega)
 · rw[swp_other _ _ _ _ (by omega) (by omega)];exact h.out x (by omega)
theorem jbg {β:Type} {lt:β→β→Bool} (hS:SWO lt) {x y:β} (h:lt x y=true):lt y x=false:=by
 cases g:lt y x
 · rfl
 · have:=hS.trans _ _ _ h g;rw[hS.irrefl] at this;cases this
theorem Zu (hS:SWO lt) {a b:Nat} {d:Array α} (h:SortedIn lt a b d) {i j:Nat} (h1:a≤i) (h2:i≤j) (h3:j<b):lt d[j]! d[i]! = false:=by
 rcases Nat.lt_or_eq_of_le h2 with g | g
 · exact h i j h1 g h3
 · rw[g];exact hS.irrefl _
theorem jlJ (hS:SWO lt) {a b n:Nat} {d d':Array α} (hr:Rot a 1 n d d') (hn:a+1+n≤b) (hs:SortedIn lt (a+1) b d)
 (h1:n=0∨lt d[a+n]! d[a]! = true) (h2:a+1+n=b∨lt d[a+1+n]! d[a]! = false):SortedIn lt a b d':=by
 intro x y hx hxy hy;have lo:∀k,a+1≤k→k≤a+n→lt d[a]! d[k]! = false:=fun k g1 g2=>by
  rcases h1 with h1 | h1
  · omega
  · exact hS.ntrans _ _ _ (jbg hS h1) (Zu hS hs g1 g2 (by omega))
 have hi:∀k,a+1+n≤k→k<b→lt d[k]! d[a]! = false:=fun k g1 g2=>by
  rcases h2 with h2 | h2
  · omega
  · exact hS.ntrans _ _ _ (Zu hS hs (by omega) g1 g2) h2
 rcases Nat.lt_trichotomy x (a+n) with c | c | c
 · rw[hr.fst x hx c];rcases Nat.lt_trichotomy y (a+n) with e | e | e
   · rw[hr.fst y (by omega) e];exact hs _ _ (by omega) (by omega) (by omega)
   · rw[e,hr.snd (a+n) (by omega) (by omega),show a+n-n=a from by omega];exact lo _ (by omega) (by omega)
   · rw[hr.out y (by omega)];exact hs _ _ (by omega) (by omega) hy
 · rw[c,hr.snd (a+n) (by omega) (by omega),show a+n-n=a from by omega,hr.out y (by omega)];exact hi y (by omega) hy
 · rw[hr.out x (by omega),hr.out y (by omega)];exact hs _ _ (by omega) hxy hy
theorem jkE (hS:SWO lt) {a i n:Nat} {d d':Array α} (hr:Rot i n 1 d d') (ha:a≤i) (hs:SortedIn lt a (i+n) d)
 (h1:i=a∨lt d[i+n]! d[i-1]! = false) (h2:n=0∨lt d[i+n]! d[i]! = true):SortedIn lt a (i+n+1) d':=by
 intro x y hx hxy hy;have lo:∀k,a≤k→k<i→lt d[i+n]! d[k]! = false:=fun k g1 g2=>by
  rcases h1 with h1 | h1
  · omega
  · exact hS.ntrans _ _ _ h1 (Zu hS hs g1 (by omega) (by omega))
 have hi:∀k,i≤k→k<i+n→lt d[k]! d[i+n]! = false:=fun k g1 g2=>by
  rcases h2 with h2 | h2
  · omega
  · exact hS.ntrans _ _ _ (Zu hS hs (by omega) g1 g2) (jbg hS h2)
 have ei:d'[i]! = d[i+n]!:=hr.fst i (by omega) (by omega);rcases Nat.lt_trichotomy x i with c | c | c
 · rw[hr.out x (by omega)];rcases Nat.lt_trichotomy y i with e | e | e
   · rw[hr.out y (by omega)];exact hs _ _ hx hxy (by omega)
   · rw[e,ei];exact lo x hx c
   · rw[hr.snd y (by omega) (by omega)];exact hs _ _ hx (by omega) (by omega)
 · rw[c,ei,hr.snd y (by omega) (by omega)];exact hi _ (by omega) (by omega)
 · rw[hr.snd x (by omega) (by omega),hr.snd y (by omega) (by omega)];exact hs _ _ (by omega) (by omega) (by omega)
structure Found (lt:α→α→Bool) (a m b mid s:Nat) (d:Array α):Prop where
 am:a<m
 mb:m<b
 mida:a<mid
 midb:mid<b
 sa:a≤s
 sm:s≤m
 sd:s≤mid
 em:m≤mid+m-s
 eb:mid+m-s≤b
 low:s=a∨mid+m-s=b∨lt d[mid+m-s]! d[s-1]! = false
 high:s=m∨s=mid∨lt d[mid+m-1-s]! d[s]! = true
variable {a m b mid s:Nat} {d d1:Array α}
theorem Found.parts (h:Found lt a m b mid s d) (hr:Rot s (m-s) (mid-s) d d1) (h1:SortedIn lt a m d) (h2:SortedIn lt m b d) :
 SortedIn lt a s d1∧SortedIn lt s mid d1∧SortedIn lt mid (mid+m-s) d1∧SortedIn lt (mid+m-s) b d1:=by
 obtain⟨q1,q2,q3,q4,q5,q6,q7,q8,q9,_,_⟩:=h;refine⟨fun x y hx hxy hy=>?_,fun x y hx hxy hy=>?_,fun x y hx hxy hy=>?_,fun x y hx hxy hy=>?_⟩
 · rw[hr.out x (by omega),hr.out y (by omega)];exact h1 _ _ hx hxy (by omega)
 · rw[hr.fst x hx (by omega),hr.fst y (by omega) (by omega)];exact h2 _ _ (by omega) (by omega) (by omega)
 · rw[hr.snd x (by omega) (by omega),hr.snd y (by omega) (by omega)];exact h1 _ _ (by omega) (by omega) (by omega)
 · rw[hr.out x (by omega),hr.out y (by omega)];exact h2 _ _ (by omega) hxy hy
theorem Found.cross (hS:SWO lt) (h:Found lt a m b mid s d) (hr:Rot s (m-s) (mid-s) d d1) (h1:SortedIn lt a m d) (h2:SortedIn lt m b d) :
 ∀x y,a≤x→x<mid→mid≤y→y<b→lt d1[y]! d1[x]! = false:=by
 obtain⟨q1,q2,q3,q4,q5,q6,q7,q8,q9,low,high⟩:=h;intro x y hx hx2 hy hy2;by_cases cx:x<s
 · rw[hr.out x (by omega)];by_cases cy:y<mid+m-s
   · rw[hr.snd y (by omega) (by omega)];exact h1 _ _ hx (by omega) (by omega)
   · rw[hr.out y (by omega)];rcases low with l | l | l
     · omega
     · omega
     · exact hS.ntrans _ _ _ (hS.ntrans _ _ _ (Zu hS h2 (by omega) (by omega) hy2) l) (Zu hS h1 hx (by omega) (by omega))
 · rw[hr.fst x (by omega) (by omega)];by_cases cy:y<mid+m-s
   · rw[hr.snd y (by omega) (by omega)];rcases high with l | l | l
     · omega
     · omega
     · exact hS.ntrans _ _ _ (hS.ntrans _ _ _ (Zu hS h1 (show a≤s by omega) (show s≤y-(mid-s) by omega) (by omega)) (jbg hS l)) (Zu hS h2 (by omega) (by omega) (by omega))
   · rw[hr.out y (by omega)];exact h2 _ _ (by omega) (by omega) hy2
theorem ql {d2 d3:Array α} (hb:b≤d1.size) (hmb:mid≤b) (p1:PermIn a mid d1 d2) (s1:SortedIn lt a mid d2) (p2:PermIn mid b d2 d3) (s2:SortedIn lt mid b d3)
 (cross:∀x y,a≤x→x<mid→mid≤y→y<b→lt d1[y]! d1[x]! = false):SortedIn lt a b d3:=by
 have c1:∀y,mid≤y→y<b→∀x,a≤x→x<mid→lt d1[y]! d2[x]! = false:=fun y g1 g2 =>
  permIn_all d1 d2 a mid (fun v=>lt d1[y]! v=false) (by omega) p1 (fun x g3 g4=>cross x y g3 g4 g1 g2)
 have c2:∀x,a≤x→x<mid→∀y,mid≤y→y<b→lt d3[y]! d2[x]! = false:=fun x g1 g2 =>
  permIn_all d2 d3 mid b (fun v=>lt v d2[x]! = false) (by rw[p1.1];exact hb) p2 (fun y g3 g4=>by rw[p1.2.1 y (by omega)];exact c1 y g3 g4 x g1 g2)
 intro x y hx hxy hy;by_cases cx:x<mid
 · rw[p2.2.1 x (by omega)];by_cases cy:y<mid
   · rw[p2.2.1 y (by omega)];exact s1 x y hx hxy cy
   · exact c2 x hx cx y (by omega) hy
 · exact s2 x y (by omega) hxy hy
end Go.Proofs.YtokdjfoalkmhiaaGreat
namespace Go.Proofs.YtokdjfoalkmhiaaGreat
open Go.RowKit Go.Shelf Go.Lib Go.Sort
structure Yo (P:Program) (kE:Nat):Prop where
 mixed:P.follows .mixedOrders=true
 fSwap:P.funcs[224]?=some Tryz.f224
 fRot:P.funcs[192]?=some Tryz.f192
 fMrg:P.funcs[133]?=some Tryz.f133
 fIns:P.funcs[132]?=some Tryz.f132
 fStb:P.funcs[73]?=some Tryz.f73
 t0:P.underlying 0=Tryz.prog.underlying 0
 a0:∀w,(isAgg 0).run P w=.ok false w
 z0:∀w,(Go.sizeOf 0).run P w=.ok 1 w
 t3:P.underlying 3=Tryz.prog.underlying 3
 a3:∀w,(isAgg 3).run P w=.ok false w
 z3:∀w,(Go.sizeOf 3).run P w=.ok 1 w
 t4:P.underlying 4=Tryz.prog.underlying 4
 a4:∀w,(isAgg 4).run P w=.ok false w
 z4:∀w,(Go.sizeOf 4).run P w=.ok 1 w
 t39:P.underlying 258=Tryz.prog.underlying 258
 a39:∀w,(isAgg 258).run P w=.ok false w
 z39:∀w,(Go.sizeOf 258).run P w=.ok 1 w
 t22:P.underlying 23=Tryz.prog.underlying 23
 a22:∀w,(isAgg 23).run P w=.ok false w
 z22:∀w,(Go.sizeOf 23).run P w=.ok 1 w
 t25:P.underlying 76=Tryz.prog.underlying 76
 a25:∀w,(isAgg 76).run P w=.ok false w
 z25:∀w,(Go.sizeOf 76).run P w=.ok 1 w
 v0:∀w,(zeroValue 0).run P w=.ok (Value.tuple #[]) w
 v3:∀w,(zeroValue 3).run P w=.ok (Value.int IntKind.i64 0) w
 v4:∀w,(zeroValue 4).run P w=.ok (Value.bool false) w
 aE:∀w,(isAgg 44).run P w=.ok true w
 zE:∀w,(Go.sizeOf 44).run P w=.ok kE w
theorem jkB:Yo Tryz.prog 11 where
 mixed:=by kernel_rfl
 fSwap:=Tryz.func224
 fRot:=Tryz.func192
 fMrg:=Tryz.func133
 fIns:=Tryz.func132
 fStb:=Tryz.func73
 t0:=rfl
 a0:=Tryz.isAgg0
 z0:=Tryz.sizeOf0
 t3:=rfl
 a3:=Tryz.isAgg3
 z3:=Tryz.sizeOf3
 t4:=rfl
 a4:=Tryz.isAgg4
 z4:=Tryz.sizeOf4
 t39:=rfl
 a39:=Tryz.isAgg258
 z39:=Tryz.sizeOf258
 t22:=rfl
 a22:=Tryz.isAgg23
 z22:=Tryz.sizeOf23
 t25:=rfl
 a25:=Tryz.isAgg76
 z25:=Tryz.sizeOf76
 v0:=Tryz.zeroValue0
 v3:=Tryz.zeroValue3
 v4:=Tryz.zeroValue4
 aE:=Tryz.isAgg44
 zE:=Tryz.sizeOf44
theorem jdk {α:Type} [Inhabited α] {P:Program} {kE:Nat} (L:Yo P kE) (enc:α→List Value) (w0:World) (blk off cap a b n:Nat) (d0 d:Array α) (w:World) (R:RowK enc kE w0 blk off d0) (hs:d0.size=d.size) (S:SWK enc kE w0 blk off d w) (hab:a+n≤b) (hb:b+n≤d.size) (hsz:d.size<4611686018427387904) (cmp:Value) :
 Calls P 224 #[.slice (some ⟨blk,off,none⟩) d.size cap,.int .i64 a,.int .i64 b,.int .i64 n,cmp] w
  fun e w'=>e=.returned (.tuple #[])∧∃d',Yk a b n d d'∧PermIn a (b+n) d d'∧SWK enc kE w0 blk off d' w':=by
 have mixed:=L.mixed;have t0:=L.t0.trans Tryz.underlying0;have a0:=L.a0;have z0:=L.z0;have t3:=L.t3.trans Tryz.underlying3;have a3:=L.a3;have z3:=L.z3;have t4:=L.t4.trans Tryz.underlying4;have a4:=L.a4;have z4:=L.z4;have t39:=L.t39.trans Tryz.underlying258;have a39:=L.a39;have z39:=L.z39;have t22:=L.t22.trans Tryz.underlying23;have a22:=L.a22;have z22:=L.z22;have t25:=L.t25.trans Tryz.underlying76;have a25:=L.a25;have z25:=L.z25;have v0:=L.v0;have v3:=L.v3;have v4:=L.v4;have aE:=L.aE;have zE:=L.zE;have u22:=run_underlying t22;have eSwap:∀args w,(callFunc 224 args).run P w=.ok (.enter 224 args) w:=enters_of L.fSwap (by kernel_rfl) rfl;have eRot:∀args w,(callFunc 192 args).run P w=.ok (.enter 192 args) w:=enters_of L.fRot (by kernel_rfl) rfl;have eMrg:∀args w,(callFunc 133 args).run P w=.ok (.enter 133 args) w:=enters_of L.fMrg (by kernel_rfl) rfl;have eIns:∀args w,(callFunc 132 args).run P w=.ok (.enter 132 args) w:=enters_of L.fIns (by kernel_rfl) rfl;have eStb:∀args w,(callFunc 73 args).run P w=.ok (.enter 73 args) w:=enters_of L.fStb (by kernel_rfl) rfl;have HR:Aside _:=R;have S0:Aside (SWK enc kE w0 blk off d w):=S;clear S R;go_enter L.fSwap,Tryz.ntmps224;go_wp2;go_loopg [10] n (fun g1 vi wr=>∃(i:Nat) (dk:Array α),vi=.int .i64 i∧i≤n∧n-i≤g1∧dk.size=d.size∧Aside (SWK enc kE w0 blk off dk wr)∧Hid (Yk a b i d dk∧PermIn a (b+n) d dk))
 case atStart=>exact⟨0,d,by go_num,by omega,by omega,rfl,S0,Yk.zero _ _ _,permIn_refl _ _ _⟩
 case round =>
  clear S0;obtain⟨i,dk,rfl,hi,hg1,hsk,S1,HX⟩:=hrel;by_cases hlt:i<n
  · have hltz:(i:Int)<(n:Int):=by omega
    obtain⟨iN,hiN⟩:∃q,q=a+i:=⟨_,rfl⟩
    obtain⟨jN,hjN⟩:∃q,q=b+i:=⟨_,rfl⟩
    have ea:((a:Int)+(i:Int)).toNat=iN:=by omega
    have pa:(0:Int)≤(a:Int)+(i:Int):=by omega
    have ba:(a:Int)+(i:Int)<(d.size:Int):=by omega
    have ra:IntKind.i64.wrap ((a:Int)+(i:Int))=(a:Int)+(i:Int):=by rw[IntKind.wrap_i64];omega
    have ec:((b:Int)+(i:Int)).toNat=jN:=by omega
    have pc:(0:Int)≤(b:Int)+(i:Int):=by omega
    have bc:(b:Int)+(i:Int)<(d.size:Int):=by omega
    have rc:IntKind.i64.wrap ((b:Int)+(i:Int))=(b:Int)+(i:Int):=by rw[IntKind.wrap_i64];omega
    have S3:Aside (SWK enc kE w0 blk off (swp dk (iN) (jN)) ((wr.drew.setCells blk (off+(iN)*kE) (enc dk[jN]!)).setCells blk (off+(jN)*kE) (enc dk[iN]!))):=S1.out.swapped HR.out (iN) (jN) (by omega) (by omega);have lA:=S1.out.ld1 HR.out (by omega) P (iN) (by omega);have lB:=S1.out.ld1 HR.out (by omega) P (jN) (by omega);have sA:=S1.out.st1 HR.out (by omega) P (iN) (by omega) dk[jN]!;have sB:=S1.out.st2 HR.out (by omega) P (iN) (jN) (by omega) (by omega) dk[jN]! dk[iN]!;have nA:(enc dk[iN]!).length=kE:=HR.out.hk _;have nB:(enc dk[jN]!).length=kE:=HR.out.hk _;generalize enc dk[iN]! = cI at S3 lA sB nA
    generalize enc dk[jN]! = cJ at S3 lB sA sB nB
    have UD:Hid (Yk a b (i+1) d (swp dk iN jN)∧PermIn a (b+n) d (swp dk iN jN)):=by
     rw[hiN,hjN];exact⟨HX.out.1.step (by omega) (by omega),permIn_trans _ _ _ _ _ HX.out.2 (swp_permIn dk a (b+n) (a+i) (b+i) (by omega) (by omega) (by omega) (by omega) (by omega))⟩
    clear S1 hiN hjN;go_wp2_with fail
    go_big_region_o
    clear lA lB sA sB;generalize (wr.drew.setCells blk (off+(iN)*kE) cJ).setCells blk (off+(jN)*kE) cI=w3 at S3 ⊢
    clear ea ec;go_wp2;go_roundg (n-(i+1))
    case measure=>omega
    case rel=>exact⟨i+1,swp dk iN jN,by go_num,by omega,Nat.le_refl _,by rw[size_swp];exact hsk,S3,UD⟩
  · have hltz:¬(i:Int)<(n:Int):=by omega
    have hin:i=n:=by omega
    subst hin;go_wp2;go_end0
    exact⟨rfl,dk,HX.out.1,HX.out.2,S1.out⟩
end Go.Proofs.YtokdjfoalkmhiaaGreat
