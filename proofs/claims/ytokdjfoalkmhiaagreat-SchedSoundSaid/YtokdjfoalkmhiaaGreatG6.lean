/- C. -/
import Derived.Test.YtokdjfoalkmhiaaGreatG0
import Derived.Test.YtokdjfoalkmhiaaGreatG1
import Derived.Test.YtokdjfoalkmhiaaGreatG2
import Derived.Test.YtokdjfoalkmhiaaGreatG3
import Derived.Test.YtokdjfoalkmhiaaGreatG4
import Derived.Test.YtokdjfoalkmhiaaGreatG5
set_option linter.unusedVariables false
set_option maxRecDepth 100000
set_option maxHeartbeats 25600000
namespace Go.Proofs.YtokdjfoalkmhiaaGreat
open Go.RowKit
theorem jiV.cells {base:Nat} {W:World} {v:Value} {zs:List Int} (h:jiV base W v zs) (h0:zs≠[]):∃g cap,v=.slice (some ⟨g,0,none⟩) zs.length cap∧∀j,j<zs.length→W.cell? ⟨g,0+j,none⟩=some (.int .i64 (zs.getD j 0)):=by
 obtain⟨⟨hl,h⟩,-⟩:=h;rcases h with ⟨-,hz⟩ | ⟨g,cap,cur,rfl,-,hh,-,-,-,ht⟩
 · exact absurd (List.eq_nil_of_length_eq_zero hz) h0
 · refine⟨g,cap,rfl,fun j hj=>?_⟩;rw[Nat.zero_add,Lib.cell_of_heap hh];have h1:(cur.toList.take (zs.length*1))[j]?=some (.int .i64 (zs.getD j 0)):=by
    rw[ht,List.getElem?_map,List.getElem?_eq_getElem hj];simp[List.getD,hj]
   rw[List.getElem?_take_of_lt (by omega)] at h1;simpa using h1
theorem foldl_min:∀(l:List Int) (m:Int),l.foldl min m≤m∧(∀z ∈ l,l.foldl min m≤z)∧(l.foldl min m=m∨l.foldl min m ∈ l)
 | [],m=>⟨Int.le_refl _,fun z h=>absurd h (by simp),.inl rfl⟩
 | x::t,m=>by
  obtain⟨h1,h2,h3⟩:=foldl_min t (min m x);rw[List.foldl_cons];refine⟨by omega,fun z hz=>?_,?_⟩
  · rcases List.mem_cons.1 hz with rfl | hz
    · omega
    · exact h2 z hz
  · rcases h3 with h3 | h3
    · by_cases g:m≤x
      · exact .inl (by rw[h3];omega)
      · exact .inr (by rw[h3,show min m x=x by omega];simp)
    · exact .inr (by simp[h3])
theorem jlR {zs:List Int} (h:zs≠[]):(∀z ∈ zs,Lib.minOf zs≤z)∧Lib.minOf zs ∈ zs:=by
 cases zs with
 | nil=>exact absurd rfl h
 | cons x t =>
  obtain⟨h1,h2,h3⟩:=foldl_min (x::t) x;refine⟨h2,?_⟩;show (x::t).foldl min x ∈ _;rcases h3 with h3 | h3
  · rw[h3];simp
  · exact h3
theorem jkL {w:World} {a:Option Addr} {m:Nat} {nodes:List Nod} (h:jo w a m nodes) {key name d:ByteArray} (hd:domV key name nodes=some d):d.size≤maxLen:=by
 have:=jcp hd;unfold ZW at this;rw[List.any_eq_true] at this;obtain⟨n,hn,he⟩:=this;have he:Jf n.labels key=some d:=by simpa using he
 obtain⟨k,hk,e⟩:=List.getElem_of_mem hn;rcases h.2.2 with h0 | ⟨b,off,-,-,hc⟩
 · rw[h.1] at hk;omega
 · obtain⟨_,_,_,_,_,_,_,_,_,_,_,_,_,_,hN⟩:=hc k n (by rw[List.getElem?_eq_getElem hk,e]);exact jej hN.labels.fine he
theorem jh9 (s1 s2 s3 a1 a2 a3 a4:Option Addr) (n1 e1 n2 e2 n3 e3 m1 c1 m2 c2 m3 c3 m4 c4:Nat) (p:Pd) (s:Clu) (name:ByteArray) (w:World) (hn:jo w s1 n1 s.nodes) (hp:jy w s2 n2 s.pods) (hb1:n1≤100000) (hb2:n2≤100000) :
 Calls Tryz.prog 228 #[.agg #[.slice s1 n1 e1,.slice s2 n2 e2,.slice s3 n3 e3],jx p (.slice a1 m1 c1) (.slice a2 m2 c2) (.slice a3 m3 c3) (.slice a4 m4 c4),.string name] w fun e w'=>(∀d,domV p.key name s.nodes=some d→e=.returned (.int .i64 (Xj p s d)))∧(domV p.key name s.nodes=none→e=.panicked [zx 3])∧Kept w w':=by
 obtain⟨Z,hZ⟩:=eX ((w.alloc (.cells #[.slice s1 n1 e1,.slice s2 n2 e2,.slice s3 n3 e3] 26)).alloc (.cells #[.string p.name,.string p.owner,.int .i64 p.prio,.slice a1 m1 c1,.slice a2 m2 c2,.slice a3 m3 c3,.slice a4 m4 c4,.string p.key,.int .i64 p.most,.string p.node,.bool p.hold] 44))
 have hkz:Kept w Z:=by rw[←hZ];exact jn _ _ _
 have Vw:=lH (jc w (.slice s1 n1 e1) [.slice s2 n2 e2,.slice s3 n3 e3] 26 Z (by rw[←hZ];exact ja _ _));have Vz:=lH (show jf (w.heap.size+1) [.string p.name,.string p.owner,.int .i64 p.prio,.slice a1 m1 c1,.slice a2 m2 c2,.slice a3 m3 c3,.slice a4 m4 c4,.string p.key,.int .i64 p.most,.string p.node,.bool p.hold] Z by
  have dd:=jc (w.alloc (.cells #[.slice s1 n1 e1,.slice s2 n2 e2,.slice s3 n3 e3] 26)) (.string p.name) [.string p.owner,.int .i64 p.prio,.slice a1 m1 c1,.slice a2 m2 c2,.slice a3 m3 c3,.slice a4 m4 c4,.string p.key,.int .i64 p.most,.string p.node,.bool p.hold] 44 Z (by rw[hZ];exact Kept.refl _);rw[World.size_alloc] at dd;exact dd)
 obtain⟨HN,HP,VR,V1,K⟩:=lH5 hn hp hn.1 hp.1 hkz;clear hn hp hkz;unfold jx;go_enter Tryz.func228,Tryz.ntmps228;go_upto_region 1 with fail
 try rw[hZ]
 clear hZ;obtain⟨y0,y1,y2⟩:=Vw.out.at3;have r7:=Vz.out.at_ 7 _ rfl;go_wp2_with fail
 refine(jfx s1 s2 s3 n1 e1 n2 e2 n3 e3 s.nodes p.key name Z (HN.out.kept K.out) hb1).mono ?_;rintro e w1 ⟨h1,h2,kk⟩;obtain⟨Vw,Vz,K⟩:=lH3 (Vw.out.kept kk) (Vz.out.kept kk) (K.out.trans kk);clear kk y0 y1 y2 r7
 cases ho:domV p.key name s.nodes with
 | none =>
  obtain rfl:=h2 ho;have HO:=lH ho;clear h1 h2 ho;go_wp2;exact⟨rfl,(fun d e=>by rw[HO.out] at e;cases e),(fun _=>rfl),K.out⟩
 | some d =>
  obtain rfl:=h1 d ho;have HO:=lH ho;have hds:=jkL HN.out ho;have Rb:=lH hds;have TW:=lH (jcp ho);clear h1 h2 ho hds;obtain⟨y0,y1,y2⟩:=Vw.out.at3;obtain⟨r0,r1,r2,r3,r4,r5,r6,r7,r8,r9,r10⟩:=Vz.out.at11;go_wp2_with fail
  have TA:=jjG s1 s2 s3 a1 a2 a3 a4 n1 e1 n2 e2 n3 e3 m1 c1 m2 c2 m3 c3 m4 c4 p s.nodes s.pods w1 (HN.out.kept K.out) (HP.out.kept K.out) hb1 hb2;unfold jx at TA;refine TA.mono ?_;clear TA;rintro e w2 ⟨mc,nn,rfl,hM,hmc,hnn,kk⟩;obtain⟨HM,Nq,K,Tm⟩:=lH4 hM K.out.size (K.out.trans kk) hmc;have KS:=lH K.out.size;clear kk hM hmc y0 y1 y2 r0 r1 r2 r3 r4 r5 r6 r7 r8 r9 r10;have hb9:inD p s.pods d s.nodes≤100000*100000:=Nat.le_trans (jgd _ _ _ _) (Nat.mul_le_mul (by rw[VR.out];omega) (by rw[V1.out];omega));have hl1:=HM.out.look d Rb.out;obtain⟨x1,hx1⟩:=eX (inD p s.pods d s.nodes)
  have Us:=lH hx1;rw[hx1] at hl1 hb9;obtain⟨x3,hx3⟩:∃z:Nat,x1+1=z:=⟨_,rfl⟩
  have hx4:(x1:Int)+1=(x3:Int):=by omega
  have hx5:IntKind.i64.wrap (x3:Int)=(x3:Int):=IntWalk.i64_in _ (by omega);obtain⟨w4,hput,hM4,hG4⟩:=HM.out.put (by unfold maxLen;omega) d Rb.out (x3:Int) (by omega);have UN:=lH hx3;have TJ:=lH (show zw w4 mc (nn+1) (fun e=>((inD p s.pods e s.nodes+(if e=d then 1 else 0):Nat):Int)) (fun e=>ZW p.key e s.nodes) from hM4.eq (fun e=>by
   by_cases he:e=d
   · subst he;rw[if_pos rfl,if_pos rfl,Us.out,UN.out]
   · rw[if_neg he,if_neg he];rfl) (fun e=>by
   by_cases he:e=d
   · subst he;rw[if_pos rfl,TW.out]
   · rw[if_neg he]))
  have TH:=lH hG4;have hb10:x3≤100000*100000+1:=by omega
  have Rc:=lH hb10;have Nr:=lH hnn;clear hM4 hG4 hx1 hx3 hb9 hb10;go_upto_region 4 with fail
  clear hl1 hput hx4 hx5;have J:=lH (Kept.drew w4);refine wp_region_held_drew (S:=fun W=>zw W mc (nn+1) (fun e=>((inD p s.pods e s.nodes+(if e=d then 1 else 0):Nat):Int)) (fun e=>ZW p.key e s.nodes)) (by kernel_rfl) (TJ.out.kept J.out) (fun hHeld=>?_);refine tkJ 0 ?_;refine tkJ 1 ?_;refine tkH 2 (v:=?_) (y:=Or.inl ⟨by rfl,(by intro W hSw;have hl:=hSw.look d Rb.out;go_simp<;>with_reducible rfl)⟩) (h:=?_);try simp only[nP]
  refine tkJ 3 ?_;try simp only[nP]
  skip;refine rd1 4 fun K9 Ky=>?_;go_simp;refine(jha (some mc) _).mono ?_;rintro e w5 ⟨rfl,rfl⟩;have kq:=ja w4.drew (.cells #[.map (some mc)] 321);obtain⟨w5,hw5⟩:=eX (w4.drew.alloc (.cells #[.map (some mc)] 321))
  have hcs:jf w4.drew.heap.size [.map (some mc)] w5:=jc w4.drew (.map (some mc)) [] 321 w5 (by rw[hw5];exact Kept.refl _);rw[hw5] at kq ⊢;obtain⟨bs,hbs⟩:=eX (w4.drew.heap.size)
  rw[hbs] at hcs ⊢;have RL:=lH hcs;have J:=lH (J.out.trans kq);clear hcs kq hw5 hbs;refine Ky.out _ _ (TJ.out.kept J.out) (fun _=>?_);clear Ky K9;try simp only[nP]
  refine rd1 5 fun K9 Ky=>?_;go_simp;refine(jfT bs mc (nn+1) _ _ w5 (by have:=Nr.out;omega) RL.out.lt (RL.out.at_ 0 _ rfl) (TJ.out.kept J.out)).mono ?_;rintro e w6 ⟨v,zs,rfl,ho,hz1,hz2,hzl,kk⟩;have J:=lH (J.out.trans kk);have hzd:=hz1 d TW.out;have hz0:zs≠[]:=fun e=>by rw[e] at hzd;cases hzd
  obtain⟨g,cap,rfl,hc⟩:=ho.cells hz0;obtain⟨HC,Tk,Ns,To,Nt⟩:=lH5 hc hz1 hz2 hz0 hzl;clear kk ho hc hz1 hz2 hz0 hzd hzl;refine Ky.out _ _ (TJ.out.kept J.out) (fun _=>?_);clear Ky K9;try simp only[nP]
  refine rd1 6 fun K9 Ky=>?_;go_simp;refine(Tryz.slices_Min_int g 0 zs.length cap zs w6 (List.length_pos_iff.2 To.out) (Nat.le_refl _) (by have:=Nt.out;omega) HC.out).mono ?_;rintro e w7 ⟨rfl,rfl⟩;rw[List.take_length];refine Ky.out _ _ (TJ.out.kept J.out) (fun _=>?_);clear Ky K9;try simp only[nP]
  obtain⟨hm1,hm2⟩:=jlR To.out;obtain⟨c,hcd,hce⟩:=Ns.out _ hm2;obtain⟨zm,hzm⟩:∃z:Nat,inD p s.pods c s.nodes+(if c=d then 1 else 0)=z:=⟨_,rfl⟩
  rw[hzm] at hce;rw[hce] at hm1 ⊢;have HL:=lH (jjR (p:=p) (pods:=s.pods) (nodes:=s.nodes) (d:=d) (m:=inD p s.pods d s.nodes+1) (z:=zm) TW.out rfl (fun e he=>by have:=hm1 _ (Tk.out e he);omega) ⟨c,hcd,hzm.symm⟩);have hle:zm≤x3:=by have h:=hm1 _ (Tk.out d TW.out);rw[if_pos rfl,Us.out] at h;have:=UN.out;omega
  have Up:=lH (show Xj p s d=(x3:Int)-(zm:Int) by unfold Xj;rw[HL.out,Us.out,UN.out]);have hx6:(inD p s.pods d s.nodes+(if d=d then 1 else 0))=x3:=by rw[if_pos rfl,Us.out,UN.out]
  try rw[hx6]
  obtain⟨y,hy⟩:∃y:Nat,x3-zm=y:=⟨_,rfl⟩
  have hy1:(x3:Int)-(zm:Int)=(y:Int):=by omega
  have hy2:IntKind.i64.wrap (y:Int)=(y:Int):=IntWalk.i64_in _ (by have:=Rc.out;omega);clear hm1 hm2 hcd hce hzm;refine tkJ 7 ?_;refine tkJ 8 ?_;try simp only[nP]
  refine wpAnyH_done (by kernel_rfl) ?_ _;go_wp2;go_ret;refine⟨fun d9 e9=>?_,fun e9=>?_,(jg.below K.out TH.out fun i e=>by have:=Tm.out;have:=Nq.out;omega).trans J.out⟩
  · rw[HO.out] at e9
    cases e9
    rw[Up.out,hy1];have hv:IntKind.i64.wrap (((inD p s.pods d s.nodes:Nat):Int)+1-(zm:Int))=(y:Int):=by
     rw[Us.out,show (x1:Int)+1-(zm:Int)=(y:Int) by have:=UN.out;omega];exact hy2
    exact congrArg (fun z=>Ending.returned (.int .i64 z)) hv
  · rw[HO.out] at e9
    cases e9
open Go.RowKit Go.Shelf
def SkR (o:Option Int) (w:World) (e:Ending) (w':World):Prop:=(∀z,o=some z→e=.returned (.int .i64 z))∧(o=none→e=.panicked [zx 3])∧Kept w w'
theorem jbC (B:Nat) (q:Nat) (x y:Int) (w:World) (hq:w.cell? ⟨q,0,none⟩=some (.int .i64 y)) (hzq:w.frozen? ⟨q,0,none⟩=false) (hBq:B≤q) :
 CallsD Tryz.prog 259 #[.pointer (some ⟨q,0,none⟩)] (.panicking [zx x]) w fun e u' w' =>
  e=.returned (.tuple #[])∧u'=.panicking [{ zx x with recovered:=true }]∧w'=w.setCell ⟨q,0,none⟩ (.int .i64 x)∧w'.cell? ⟨q,0,none⟩=some (.int .i64 x)∧Below B w w':=by
 have hta:∀W,(Instr.typeAssert (.iface 45 (.int .i64 x)) 20 45 false).run Tryz.prog W=.ok (.int .i64 x) W:=fun _=>by kernel_rfl
 refine callsD_of_wpS Tryz.func259 rfl fun c₀ cs hu=>?_;apply wpS_seq;apply wpS_region;simp[wpOpsS,go_sem,recoverD,hu,Tryz.ntmps259,Exit.thenS];apply wpS_seq;apply wpS_region;simp[wpOpsS,go_sem,recoverD,Exit.thenS];refine wpS_cond (t:=true) (by simp[Act.eval,Array.replicate]) ?_;simp only[if_true];refine wpS_of_wp ?_;simp[Array.replicate];go_wp2;simp[bodyPostS,results,Tryz.results259];exact⟨World.cell?_setCell_same' _ _ _ (by rw[hq];rfl),(Below.refl B w).setCell (p:=⟨q,0,none⟩) hBq _⟩
theorem jfe (q:Addr) (w:World) :
 CallsD Tryz.prog 259 #[.pointer (some q)] .returning w fun e u' w'=>e=.returned (.tuple #[])∧u'=.returning∧w'=w:=by
 refine callsD_of_wpS Tryz.func259 rfl fun c₀ cs hu=>?_;apply wpS_seq;apply wpS_region;simp[wpOpsS,go_sem,recoverD,hu,Tryz.ntmps259,Exit.thenS];apply wpS_seq;apply wpS_region;simp[wpOpsS,go_sem,recoverD,hu,Exit.thenS];refine wpS_cond (t:=false) (by simp[Act.eval,Array.replicate]) ?_;simp only[Bool.false_eq_true,if_false];refine wpS_of_wp (wp_skip ?_)
 cases c₀
 simp_all [bodyPostS,results,Tryz.results259]
theorem jhg (Q1 Q2 Q3:Nat) (o:Option Int) (w:World) (hk:∀W,Kept w W→Calls Tryz.prog 227 #[.pointer (some ⟨Q1,0,none⟩),.pointer (some ⟨Q2,0,none⟩),.pointer (some ⟨Q3,0,none⟩)] W (SkR o W)) :
 Calls Tryz.prog 226 #[.func (.func 227) #[] #[.pointer (some ⟨Q1,0,none⟩),.pointer (some ⟨Q2,0,none⟩),.pointer (some ⟨Q3,0,none⟩)]] w fun e w'=>e=.returned (.tuple #[.int .i64 (o.getD 0),.int .i64 (if o.isSome=true then 0 else 3)])∧Kept w w':=by
 have hmf:=hmfL (P:=Tryz.prog);obtain⟨Z,hZ⟩:=eX (w.alloc (.cells #[.int .i64 0] 45))
 have hkz:Kept w Z:=by rw[←hZ];exact ja _ _
 obtain⟨HK,Re,Tp⟩:=lH3 hkz (jc w (.int .i64 0) [] 45 Z (by rw[hZ];exact Kept.refl _)) (hk Z hkz);clear hk hkz;go_enter_defers Tryz.func226,Tryz.ntmps226
 go_wp2_with fail
 try rw[hZ]
 refine Tp.out.mono ?_;rintro e1 w1 ⟨h0,h1,hb⟩;have KK:=lH (HK.out.trans hb);have UE:=lH (Re.out.kept hb);have ze:=UE.out.at_ 0 _ rfl;have zf:=UE.out.free 0
 cases o with
 | some z =>
  obtain rfl:=h0 z rfl;clear h0 h1 hb hZ;go_wp2_with fail
  have FE:=lH (UE.out.set (j:=0) (u:=.int .i64 0) (by simp));have KF:=lH (show Kept w (w1.setCell ⟨w.heap.size,0,none⟩ (.int .i64 0)) from KK.out.setCell (p:=⟨w.heap.size,0,none⟩) (Nat.le_refl _) _);obtain⟨WF,hWF⟩:=eX (w1.setCell ⟨w.heap.size,0,none⟩ (.int .i64 0))
  rw[hWF] at FE KF ⊢;have fe:=FE.out.at_ 0 _ rfl;clear hWF ze zf;refine leaves_cons (f:=259) (args:=#[.pointer (some ⟨w.heap.size,0,none⟩)]) (by simp) (by simp[go_sem]) ?_;refine(jfe ⟨w.heap.size,0,none⟩ _).mono ?_;rintro e u' w'' ⟨rfl,rfl,rfl⟩;simp[Leaves,settle,results,Tryz.results226,go_sem,fe];exact KF.out
 | none =>
  obtain rfl:=h1 rfl;clear h0 h1 hb hZ;go_wp2_with fail
  refine leaves_cons (f:=259) (args:=#[.pointer (some ⟨w.heap.size,0,none⟩)]) (by simp) (by simp[go_sem]) ?_;refine(jbC w.heap.size w.heap.size 3 0 _ ze zf (Nat.le_refl _)).mono ?_;rintro e u' w'' ⟨rfl,rfl,rfl,q2,q3⟩;have KF:=lH (show Kept w _ from Below.trans KK.out q3);obtain⟨WF,hWF⟩:=eX (w1.setCell ⟨w.heap.size,0,none⟩ (.int .i64 3))
  rw[hWF] at q2 KF ⊢;clear hWF q3 ze zf;simp[Leaves,settle,results,Tryz.results226,go_sem,q2];exact KF.out
theorem jk9 (Q1 Q2 Q3:Nat) (s1 s2 s3 a1 a2 a3 a4:Option Addr) (n1 e1 n2 e2 n3 e3 m1 c1 m2 c2 m3 c3 m4 c4:Nat) (p:Pd) (s:Clu) (name:ByteArray) (w:World) (hq1:jf Q1 [.slice s1 n1 e1,.slice s2 n2 e2,.slice s3 n3 e3] w) (hq2:jf Q2 [.string p.name,.string p.owner,.int .i64 p.prio,.slice a1 m1 c1,.slice a2 m2 c2,.slice a3 m3 c3,.slice a4 m4 c4,.string p.key,.int .i64 p.most,.string p.node,.bool p.hold] w) (hq3:jf Q3 [.string name] w) (hn:jo w s1 n1 s.nodes) (hp:jy w s2 n2 s.pods) (hb1:n1≤100000) (hb2:n2≤100000) :
 Calls Tryz.prog 227 #[.pointer (some ⟨Q1,0,none⟩),.pointer (some ⟨Q2,0,none⟩),.pointer (some ⟨Q3,0,none⟩)] w (SkR ((domV p.key name s.nodes).map (Xj p s)) w):=by
 have HS:=lH (jh9 s1 s2 s3 a1 a2 a3 a4 n1 e1 n2 e2 n3 e3 m1 c1 m2 c2 m3 c3 m4 c4 p s name w hn hp hb1 hb2);unfold jx at HS;have y0:=hq1.at_ 0 _ rfl;have y1:=hq1.at_ 1 _ rfl;have y2:=hq1.at_ 2 _ rfl;have r0:=hq2.at_ 0 _ rfl;have r1:=hq2.at_ 1 _ rfl;have r2:=hq2.at_ 2 _ rfl;have r3:=hq2.at_ 3 _ rfl;have r4:=hq2.at_ 4 _ rfl;have r5:=hq2.at_ 5 _ rfl;have r6:=hq2.at_ 6 _ rfl;have r7:=hq2.at_ 7 _ rfl;have r8:=hq2.at_ 8 _ rfl;have r9:=hq2.at_ 9 _ rfl;have r10:=hq2.at_ 10 _ rfl;have z0:=hq3.at_ 0 _ rfl;clear hq1 hq2 hq3 hn hp;go_enter Tryz.func227,Tryz.ntmps227;go_wp2_with fail
 refine HS.out.mono ?_;rintro e w1 ⟨h1,h2,kk⟩;have K:=lH kk;clear kk HS y0 y1 y2 r0 r1 r2 r3 r4 r5 r6 r7 r8 r9 r10 z0
 cases ho:domV p.key name s.nodes with
 | none =>
  obtain rfl:=h2 ho;have HO:=lH ho;clear h1 h2 ho;go_wp2;exact⟨rfl,(fun z e=>by cases e),(fun _=>rfl),K.out⟩
 | some d =>
  obtain rfl:=h1 d ho;have HO:=lH ho;clear h1 h2 ho;obtain⟨z,hz⟩:=eX (Xj p s d)
  rw[hz];have HZ:=lH hz;clear hz;go_wp2;go_ret;exact⟨(fun y e=>by rw[HO.out] at e;cases e;exact congrArg (fun z=>Ending.returned (.int .i64 z)) HZ.out.symm),(fun e=>by rw[HO.out] at e;cases e),K.out⟩
theorem jli (s1 s2 s3 a1 a2 a3 a4:Option Addr) (n1 e1 n2 e2 n3 e3 m1 c1 m2 c2 m3 c3 m4 c4:Nat) (p:Pd) (s:Clu) (name:ByteArray) (w:World) (hn:jo w s1 n1 s.nodes) (hp:jy w s2 n2 s.pods) (hb1:n1≤100000) (hb2:n2≤100000) :
 Calls Tryz.prog 195 #[.agg #[.slice s1 n1 e1,.slice s2 n2 e2,.slice s3 n3 e3],jx p (.slice a1 m1 c1) (.slice a2 m2 c2) (.slice a3 m3 c3) (.slice a4 m4 c4),.string name] w (Say (.tuple #[.int .i64 (ZO p s name).1,.bool (ZO p s name).2]) w):=by
 have hmf:=hmfL (P:=Tryz.prog);obtain⟨Y,hY⟩:=eX ((w.alloc (.cells #[.slice s1 n1 e1,.slice s2 n2 e2,.slice s3 n3 e3] 26)).alloc (.cells #[.string p.name,.string p.owner,.int .i64 p.prio,.slice a1 m1 c1,.slice a2 m2 c2,.slice a3 m3 c3,.slice a4 m4 c4,.string p.key,.int .i64 p.most,.string p.node,.bool p.hold] 44))
 have hky:Kept w Y:=by rw[←hY];exact jn _ _ _
 have hys:Y.heap.size=w.heap.size+2:=by rw[←hY];simp
 have hsb:=jc w (.slice s1 n1 e1) [.slice s2 n2 e2,.slice s3 n3 e3] 26 Y (by rw[←hY];exact ja _ _);have hpb:jf (w.heap.size+1) [.string p.name,.string p.owner,.int .i64 p.prio,.slice a1 m1 c1,.slice a2 m2 c2,.slice a3 m3 c3,.slice a4 m4 c4,.string p.key,.int .i64 p.most,.string p.node,.bool p.hold] Y:=by
  have dd:=jc (w.alloc (.cells #[.slice s1 n1 e1,.slice s2 n2 e2,.slice s3 n3 e3] 26)) (.string p.name) [.string p.owner,.int .i64 p.prio,.slice a1 m1 c1,.slice a2 m2 c2,.slice a3 m3 c3,.slice a4 m4 c4,.string p.key,.int .i64 p.most,.string p.node,.bool p.hold] 44 Y (by rw[hY];exact Kept.refl _);rw[World.size_alloc] at dd;exact dd
 obtain⟨Z,hZ⟩:=eX (Y.alloc (.cells #[.string name] 9))
 have hkz:Kept Y Z:=by rw[←hZ];exact ja _ _
 have hnb:jf (w.heap.size+2) [.string name] Z:=by
  have dd:=jc Y (.string name) [] 9 Z (by rw[hZ];exact Kept.refl _);rw[hys] at dd;exact dd
 have hYZ:((w.alloc (.cells #[.slice s1 n1 e1,.slice s2 n2 e2,.slice s3 n3 e3] 26)).alloc (.cells #[.string p.name,.string p.owner,.int .i64 p.prio,.slice a1 m1 c1,.slice a2 m2 c2,.slice a3 m3 c3,.slice a4 m4 c4,.string p.key,.int .i64 p.most,.string p.node,.bool p.hold] 44)).alloc (.cells #[.string name] 9)=Z:=by rw[hY];exact hZ
 obtain⟨Vw,Vz,Vv,K,HN,HP⟩:=lH6 (hsb.kept hkz) (hpb.kept hkz) hnb (hky.trans hkz) (hn.kept (hky.trans hkz)) (hp.kept (hky.trans hkz));clear hn hp hky hkz hys hsb hpb hnb hY hZ;obtain⟨t0,h0⟩:=eX ((p.key.toList==([]:List UInt8)))
 have HI:=lH (show zp p.key=t0 by rw[JV,h0]);have r7:=Vz.out.at_ 7 _ rfl;unfold jx;go_enter Tryz.func195,Tryz.ntmps195
 cases t0 with
 | true =>
  have HV:=lH (show ZO p s name=(0,true) by unfold ZO;rw[if_pos HI.out]);go_wp2;try rw[hYZ]
  go_ret2
  rw[HV.out];exact⟨rfl,by first | exact K.out | (rw[hYZ];exact K.out)⟩
 | false =>
  have HC:=lH (jhg w.heap.size (w.heap.size+1) (w.heap.size+2) ((domV p.key name s.nodes).map (Xj p s)) Z fun W k=>jk9 w.heap.size (w.heap.size+1) (w.heap.size+2) s1 s2 s3 a1 a2 a3 a4 n1 e1 n2 e2 n3 e3 m1 c1 m2 c2 m3 c3 m4 c4 p s name W (Vw.out.kept k) (Vz.out.kept k) (Vv.out.kept k) (HN.out.kept k) (HP.out.kept k) hb1 hb2);have HV:=lH (show ZO p s name=(((domV p.key name s.nodes).map (Xj p s)).getD 0,((domV p.key name s.nodes).map (Xj p s)).isSome) by
   unfold ZO;rw[if_neg (by rw[HI.out];decide)]
   cases domV p.key name s.nodes<;>rfl)
  obtain⟨o,ho⟩:=eX ((domV p.key name s.nodes).map (Xj p s))
  rw[ho] at HC HV;clear ho;go_upto_region 3 with fail
  try rw[hYZ]
  clear hYZ r7 h0;go_wp2_with fail
  refine HC.out.mono ?_;rintro e w1 ⟨rfl,kk⟩;have K:=lH (K.out.trans kk);clear kk
  cases o with
  | none =>
   have HW:=lH (show ZO p s name=(0,false) from HV.out);go_wp2;go_ret2
   rw[HW.out];exact⟨rfl,K.out⟩
  | some z =>
   have HW:=lH (show ZO p s name=(z,true) from HV.out);go_wp2;go_ret2
   rw[HW.out];exact⟨rfl,K.out⟩
theorem jd7 (a a9:Option Addr) (len cap cap9:Nat) (l:List ByteArray) (w:World) (hr:jk zl w a len l) (hr9:jk zl w a9 len l) :
 Calls Tryz.prog 50 #[.slice a len cap,.slice a9 len cap9] w fun e w'=>e=.returned (.bool true)∧Kept w w':=by
 have hl:=hr.1;have hm:=hr.2.1;unfold maxLen at hm;by_cases h0:len=0
 · subst h0;clear hr hl hr9;go_enter Tryz.func50,Tryz.ntmps50;go_wp2;refine wp_loop_rounds 1 ?_;rw[rounds_succ];go_wp2;go_ret;exact⟨rfl,Kept.refl _⟩
 · obtain⟨b,off,rfl⟩:∃b off,a=some ⟨b,off,none⟩:=by
    rcases hr.form with h | h
    · exact absurd h h0
    · exact h
   obtain⟨b9,off9,rfl⟩:∃b off,a9=some ⟨b,off,none⟩:=by
    rcases hr9.form with h | h
    · exact absurd h h0
    · exact h
   have HR:=lH hr;have UF:=lH hr9;clear hr hl hr9 h0;go_enter Tryz.func50,Tryz.ntmps50;go_wp2;go_loopw [5] (fun i wr=>∃k:Nat,k≤len∧i=.int .i64 k∧Kept w wr) (fun i _=>len-(intOf i).toNat)
   case atStart=>exact⟨0,Nat.zero_le _,rfl,Kept.refl _⟩
   case round =>
    obtain⟨k,hk,rfl,hK⟩:=hrel;have HK:=lH hK;by_cases hlt:k<len
    · obtain⟨x,hx,hd,hb,hz,c1⟩:=(HR.out.kept hK).str hlt;obtain⟨x9,hx9,_,hb9,_,d1⟩:=(UF.out.kept hK).str hlt;obtain rfl:x=x9:=by rw[hx] at hx9;exact Option.some.inj hx9
      clear hx hd hx9 hK;go_wp2;go_quiet (fail)
      go_wp2;go_roundw
      case rel=>exact⟨k+1,by omega,by go_num,HK.out.trans (Kept.drewN _ _)⟩
      case measure=>simp[intOf];omega
    · clear hK;go_wp2;go_ret;exact⟨rfl,HK.out⟩
theorem jf5 (x:ByteArray) (u:Value) (h:u ∈ [Value.string x]):u.oneCell'=true:=jae x u h
theorem jkY:(Tryz.prog.info? 9).map (fun i=>(i.zero,i.size,i.bytes))=some (some (.string ByteArray.empty),1,16):=by kernel_rfl
def zV:TL→TL→Bool
 | [],[]=>true
 | x::s,y::t=>((x.1==y.1)&&(eqS x.2.1 y.2.1&&eqS x.2.2 y.2.2))&&zV s t
 | _,_=>false
theorem jaU:∀{l l':TL},l.length≠l'.length→zV l l'=false
 | [],[],h=>absurd rfl h
 | [],_::_,_=>rfl
 | _::_,[],_=>rfl
 | x::s,y::t,h=>by rw[zV,jaU (l:=s) (l':=t) (fun e=>h (by simp[e])),Bool.and_false]
theorem qG:∀l:TL,zV l l=true
 | []=>rfl
 | x::t=>by rw[zV,qG t,zh,zh];simp
theorem jiI (a a':Option Addr) (len cap len' cap':Nat) (l l':NL) (w:World) (hr:jk ju w a len l) (hr':jk ju w a' len' l') :
 Calls Tryz.prog 101 #[.slice a len cap,.slice a' len' cap'] w fun e w'=>e=.returned (.bool (jU l l'))∧Kept w w':=by
 have hl:=hr.1;have hm:=hr.2.1;have hl':=hr'.1;have hm':=hr'.2.1;unfold maxLen at hm hm';by_cases hll:len=len'
 · subst hll;by_cases h0:len=0
   · subst h0;have HE:=lH (show jU l l'=true by rw[List.eq_nil_of_length_eq_zero hl,List.eq_nil_of_length_eq_zero hl'];rfl);clear hr hl hr' hl';go_enter Tryz.func101,Tryz.ntmps101;go_wp2;refine wp_loop_rounds 1 ?_;rw[rounds_succ];go_wp2;go_ret;exact⟨jd HE.out.symm,Kept.refl _⟩
   · obtain⟨b,off,rfl⟩:∃b off,a=some ⟨b,off,none⟩:=hr.form.resolve_left h0;obtain⟨b',off',rfl⟩:∃b off,a'=some ⟨b,off,none⟩:=hr'.form.resolve_left h0;have HR:=lH hr;have HL:=lH hl;have HR':=lH hr';have HL':=lH hl';clear hr hl hr' hl' h0;go_enter Tryz.func101,Tryz.ntmps101;go_wp2;go_loopw [13] (fun i wr=>∃k:Nat,k≤len∧i=.int .i64 k∧jU (l.drop k) (l'.drop k)=jU l l'∧Kept w wr) (fun i _=>len-(intOf i).toNat)
     case atStart=>exact⟨0,Nat.zero_le _,rfl,rfl,Kept.refl _⟩
     case round =>
      obtain⟨k,hk,rfl,hrest,hK⟩:=hrel;have HS:=lH hrest;have HK:=lH hK;by_cases hlt:k<len
      · obtain⟨x,y,m,hx,hd,hb,_,_,c1,c2,c3⟩:=(HR.out.kept hK).tri hlt;obtain⟨x9,y9,m9,hx9,hd9,hb9,_,_,d1,d2,d3⟩:=(HR'.out.kept hK).tri hlt;have HD:=lH hd;have VO:=lH hd9;clear hrest hK hx hx9 hd hd9;by_cases e0:eqS x x9=true
        · have E0:=lH e0;have e0':(x.toList==x9.toList)=true:=e0;clear e0;by_cases e1:eqS y y9=true
          · have E1:=lH e1;have e1':(y.toList==y9.toList)=true:=e1;clear e1;by_cases e2:(m==m9)=true
            · have E2:=lH e2;have e2':(m==m9)=true:=e2;clear e2;have E:=lH (show jU (l.drop k) (l'.drop k)=jU (l.drop (k+1)) (l'.drop (k+1)) by rw[HD.out,VO.out,jU,E0.out,E1.out,E2.out];rfl);go_wp2;go_quiet (fail)
              go_wp2;go_roundw
              case rel=>exact⟨k+1,by omega,by go_num,E.out.symm.trans HS.out,HK.out.trans (Kept.drewN _ _)⟩
              case measure=>simp[intOf];omega
            · have e2:(m==m9)=false:=by simpa using e2
              have E2:=lH e2;have e2':(m==m9)=false:=e2;clear e2;have E:=lH (show jU (l.drop k) (l'.drop k)=false by rw[HD.out,VO.out,jU,E0.out,E1.out,E2.out];rfl);go_wp2;go_quiet (fail)
              go_wp2;go_ret;exact⟨jd (HS.out.symm.trans E.out).symm,HK.out.trans (Kept.drewN _ _)⟩
          · have e1:eqS y y9=false:=by simpa using e1
            have E1:=lH e1;have e1':(y.toList==y9.toList)=false:=e1;clear e1;have E:=lH (show jU (l.drop k) (l'.drop k)=false by rw[HD.out,VO.out,jU,E0.out,E1.out];rfl);go_wp2;go_quiet (fail)
            go_wp2;go_ret;exact⟨jd (HS.out.symm.trans E.out).symm,HK.out.trans (Kept.drewN _ _)⟩
        · have e0:eqS x x9=false:=by simpa using e0
          have E0:=lH e0;have e0':(x.toList==x9.toList)=false:=e0;clear e0;have E:=lH (show jU (l.drop k) (l'.drop k)=false by rw[HD.out,VO.out,jU,E0.out];rfl);go_wp2;go_quiet (fail)
          go_wp2;go_ret;exact⟨jd (HS.out.symm.trans E.out).symm,HK.out.trans (Kept.drewN _ _)⟩
      · have E:=lH (show jU (l.drop k) (l'.drop k)=true by
         rw[List.drop_of_length_le (by rw[HL.out];omega),List.drop_of_length_le (by rw[HL'.out];omega),jU])
        clear hrest hK;go_wp2;go_ret;exact⟨jd (HS.out.symm.trans E.out).symm,HK.out⟩
 · have HV:=lH (show jU l l'=false from XO (by omega));clear hr hl hr' hl';have hn:((len:Int) != (len':Int))=true:=by
    simp only[bne_iff_ne,ne_eq];omega
   clear hll;go_enter Tryz.func101,Tryz.ntmps101;go_wp2;go_ret;exact⟨jd HV.out.symm,Kept.refl _⟩
theorem XE {v v':Value} {l l':NL} {c:Bool} {w:World} (h:Reads ju w v l) (h':Reads ju w v' l') (hc:jU l l'=c) :
 Calls Tryz.prog 101 #[v,v'] w (Say (.bool c) w):=by
 subst hc;obtain⟨a,cap,rfl,_,_,hr⟩:=h;obtain⟨a',cap',rfl,_,_,hr'⟩:=h';exact jiI a a' _ cap _ cap' l l' w hr hr'
theorem jik (a a':Option Addr) (len cap len' cap':Nat) (l l':TL) (w:World) (hr:jk jP w a len l) (hr':jk jP w a' len' l') :
 Calls Tryz.prog 100 #[.slice a len cap,.slice a' len' cap'] w fun e w'=>e=.returned (.bool (zV l l'))∧Kept w w':=by
 have hl:=hr.1;have hm:=hr.2.1;have hl':=hr'.1;have hm':=hr'.2.1;unfold maxLen at hm hm';by_cases hll:len=len'
 · subst hll;by_cases h0:len=0
   · subst h0;have HE:=lH (show zV l l'=true by rw[List.eq_nil_of_length_eq_zero hl,List.eq_nil_of_length_eq_zero hl'];rfl);clear hr hl hr' hl';go_enter Tryz.func100,Tryz.ntmps100;go_wp2;refine wp_loop_rounds 1 ?_;rw[rounds_succ];go_wp2;go_ret;exact⟨jd HE.out.symm,Kept.refl _⟩
   · obtain⟨b,off,rfl⟩:∃b off,a=some ⟨b,off,none⟩:=hr.form.resolve_left h0;obtain⟨b',off',rfl⟩:∃b off,a'=some ⟨b,off,none⟩:=hr'.form.resolve_left h0;have HR:=lH hr;have HL:=lH hl;have HR':=lH hr';have HL':=lH hl';clear hr hl hr' hl' h0;go_enter Tryz.func100,Tryz.ntmps100;go_wp2;go_loopw [13] (fun i wr=>∃k:Nat,k≤len∧i=.int .i64 k∧zV (l.drop k) (l'.drop k)=zV l l'∧Kept w wr) (fun i _=>len-(intOf i).toNat)
     case atStart=>exact⟨0,Nat.zero_le _,rfl,rfl,Kept.refl _⟩
     case round =>
      obtain⟨k,hk,rfl,hrest,hK⟩:=hrel;have HS:=lH hrest;have HK:=lH hK;by_cases hlt:k<len
      · obtain⟨o,x,y,hx,hd,hb,_,_,_,c1,c2,c3⟩:=(HR.out.kept hK).term hlt;obtain⟨o9,x9,y9,hx9,hd9,hb9,_,_,_,d1,d2,d3⟩:=(HR'.out.kept hK).term hlt;have HD:=lH hd;have VO:=lH hd9;clear hrest hK hx hx9 hd hd9;by_cases e0:(o==o9)=true
        · have E0:=lH e0;have e0':(o==o9)=true:=e0;clear e0;by_cases e1:eqS x x9=true
          · have E1:=lH e1;have e1':(x.toList==x9.toList)=true:=e1;clear e1;by_cases e2:eqS y y9=true
            · have E2:=lH e2;have e2':(y.toList==y9.toList)=true:=e2;clear e2;have E:=lH (show zV (l.drop k) (l'.drop k)=zV (l.drop (k+1)) (l'.drop (k+1)) by rw[HD.out,VO.out,zV,E0.out,E1.out,E2.out];rfl);go_wp2;go_quiet (fail)
              go_wp2;go_roundw
              case rel=>exact⟨k+1,by omega,by go_num,E.out.symm.trans HS.out,HK.out.trans (Kept.drewN _ _)⟩
              case measure=>simp[intOf];omega
            · have e2:eqS y y9=false:=by simpa using e2
              have E2:=lH e2;have e2':(y.toList==y9.toList)=false:=e2;clear e2;have E:=lH (show zV (l.drop k) (l'.drop k)=false by rw[HD.out,VO.out,zV,E0.out,E1.out,E2.out];rfl);go_wp2;go_quiet (fail)
              go_wp2;go_ret;exact⟨jd (HS.out.symm.trans E.out).symm,HK.out.trans (Kept.drewN _ _)⟩
          · have e1:eqS x x9=false:=by simpa using e1
            have E1:=lH e1;have e1':(x.toList==x9.toList)=false:=e1;clear e1;have E:=lH (show zV (l.drop k) (l'.drop k)=false by rw[HD.out,VO.out,zV,E0.out,E1.out];rfl);go_wp2;go_quiet (fail)
            go_wp2;go_ret;exact⟨jd (HS.out.symm.trans E.out).symm,HK.out.trans (Kept.drewN _ _)⟩
        · have e0:(o==o9)=false:=by simpa using e0
          have E0:=lH e0;have e0':(o==o9)=false:=e0;clear e0;have E:=lH (show zV (l.drop k) (l'.drop k)=false by rw[HD.out,VO.out,zV,E0.out];rfl);go_wp2;go_quiet (fail)
          go_wp2;go_ret;exact⟨jd (HS.out.symm.trans E.out).symm,HK.out.trans (Kept.drewN _ _)⟩
      · have E:=lH (show zV (l.drop k) (l'.drop k)=true by
         rw[List.drop_of_length_le (by rw[HL.out];omega),List.drop_of_length_le (by rw[HL'.out];omega),zV])
        clear hrest hK;go_wp2;go_ret;exact⟨jd (HS.out.symm.trans E.out).symm,HK.out⟩
 · have HV:=lH (show zV l l'=false from jaU (by omega));clear hr hl hr' hl';have hn:((len:Int) != (len':Int))=true:=by
    simp only[bne_iff_ne,ne_eq];omega
   clear hll;go_enter Tryz.func100,Tryz.ntmps100;go_wp2;go_ret;exact⟨jd HV.out.symm,Kept.refl _⟩
theorem YH {v v':Value} {l l':TL} {c:Bool} {w:World} (h:Reads jP w v l) (h':Reads jP w v' l') (hc:zV l l'=c) :
 Calls Tryz.prog 100 #[v,v'] w (Say (.bool c) w):=by
 subst hc;obtain⟨a,cap,rfl,_,_,hr⟩:=h;obtain⟨a',cap',rfl,_,_,hr'⟩:=h';exact jik a a' _ cap _ cap' l l' w hr hr'
def zi (n m:Pd):Bool:=(eqS n.name m.name&&(eqS n.owner m.owner&&((n.prio==m.prio)&&(Vec.jW n.need m.need&&(Jd n.labels m.labels&&(zV n.sel m.sel&&(jU n.tols m.tols&&(eqS n.key m.key&&((n.most==m.most)&&(eqS n.node m.node&&(n.hold==m.hold)))))))))))
theorem jgC (n:Pd):zi n n=true:=by
 unfold zi;rw[zh,zh,Vec.jaK,qE,qG,jaa,zh,zh];simp
theorem jgY (n m:Pd) (v1 v2 v3 v4 u1 u2 u3 u4:Value) (w:World) (h:ji w v1 v2 v3 v4 n) (g:ji w u1 u2 u3 u4 m) :
 Calls Tryz.prog 44 #[jx n v1 v2 v3 v4,jx m u1 u2 u3 u4] w (Say (.bool (zi n m)) w):=by
 have HH:=lH h;have GG:=lH g;obtain⟨b0,hb0⟩:=eX (eqS n.name m.name)
 obtain⟨b1,hb1⟩:=eX (eqS n.owner m.owner)
 obtain⟨b2,hb2⟩:=eX ((n.prio==m.prio))
 obtain⟨b3,hb3⟩:=eX (Vec.jW n.need m.need)
 obtain⟨b4,hb4⟩:=eX (Jd n.labels m.labels)
 obtain⟨b5,hb5⟩:=eX (zV n.sel m.sel)
 obtain⟨b6,hb6⟩:=eX (jU n.tols m.tols)
 obtain⟨b7,hb7⟩:=eX (eqS n.key m.key)
 obtain⟨b8,hb8⟩:=eX ((n.most==m.most))
 obtain⟨b9,hb9⟩:=eX (eqS n.node m.node)
 obtain⟨b10,hb10⟩:=eX ((n.hold==m.hold))
 have VI:=lH (show zi n m=(b0&&(b1&&(b2&&(b3&&(b4&&(b5&&(b6&&(b7&&(b8&&(b9&&b10)))))))))) by unfold zi;rw[hb0,hb1,hb2,hb3,hb4,hb5,hb6,hb7,hb8,hb9,hb10]);have t0:(n.name.toList==m.name.toList)=b0:=hb0;have t1:(n.owner.toList==m.owner.toList)=b1:=hb1;have t2:(n.prio==m.prio)=b2:=hb2;have t7:(n.key.toList==m.key.toList)=b7:=hb7;have t8:(n.most==m.most)=b8:=hb8;have t9:(n.node.toList==m.node.toList)=b9:=hb9;have t10:(n.hold==m.hold)=b10:=hb10;obtain⟨B3,B4,B5,B6⟩:=lH4 hb3 hb4 hb5 hb6;obtain⟨W0,hW0⟩:=eX ((w.alloc (.cells #[.string n.name,.string n.owner,.int .i64 n.prio,v1,v2,v3,v4,.string n.key,.int .i64 n.most,.string n.node,.bool n.hold] 44)).alloc (.cells #[.string m.name,.string m.owner,.int .i64 m.prio,u1,u2,u3,u4,.string m.key,.int .i64 m.most,.string m.node,.bool m.hold] 44))
 have hk0:Kept w W0:=by rw[←hW0];exact jn _ _ _
 have Va:=lH hk0;have HC:=lH (show ∀W,Kept W0 W→(W.cell? ⟨w.heap.size,0,none⟩=some (.string n.name)∧W.cell? ⟨w.heap.size,1,none⟩=some (.string n.owner)∧W.cell? ⟨w.heap.size,2,none⟩=some (.int .i64 n.prio)∧W.cell? ⟨w.heap.size,3,none⟩=some (v1)∧W.cell? ⟨w.heap.size,4,none⟩=some (v2)∧W.cell? ⟨w.heap.size,5,none⟩=some (v3)∧W.cell? ⟨w.heap.size,6,none⟩=some (v4)∧W.cell? ⟨w.heap.size,7,none⟩=some (.string n.key)∧W.cell? ⟨w.heap.size,8,none⟩=some (.int .i64 n.most)∧W.cell? ⟨w.heap.size,9,none⟩=some (.string n.node)∧W.cell? ⟨w.heap.size,10,none⟩=some (.bool n.hold))∧(W.cell? ⟨(w.heap.size+1),0,none⟩=some (.string m.name)∧W.cell? ⟨(w.heap.size+1),1,none⟩=some (.string m.owner)∧W.cell? ⟨(w.heap.size+1),2,none⟩=some (.int .i64 m.prio)∧W.cell? ⟨(w.heap.size+1),3,none⟩=some (u1)∧W.cell? ⟨(w.heap.size+1),4,none⟩=some (u2)∧W.cell? ⟨(w.heap.size+1),5,none⟩=some (u3)∧W.cell? ⟨(w.heap.size+1),6,none⟩=some (u4)∧W.cell? ⟨(w.heap.size+1),7,none⟩=some (.string m.key)∧W.cell? ⟨(w.heap.size+1),8,none⟩=some (.int .i64 m.most)∧W.cell? ⟨(w.heap.size+1),9,none⟩=some (.string m.node)∧W.cell? ⟨(w.heap.size+1),10,none⟩=some (.bool m.hold)) from fun W k=>by
  have c:=jc w (.string n.name) [.string n.owner,.int .i64 n.prio,v1,v2,v3,v4,.string n.key,.int .i64 n.most,.string n.node,.bool n.hold] 44 W (by rw[←hW0] at k;exact(ja _ _).trans k);have d:=jc (w.alloc (.cells #[.string n.name,.string n.owner,.int .i64 n.prio,v1,v2,v3,v4,.string n.key,.int .i64 n.most,.string n.node,.bool n.hold] 44)) (.string m.name) [.string m.owner,.int .i64 m.prio,u1,u2,u3,u4,.string m.key,.int .i64 m.most,.string m.node,.bool m.hold] 44 W (by rw[hW0];exact k);rw[World.size_alloc] at d;exact⟨⟨c.at_ 0 _ rfl,c.at_ 1 _ rfl,c.at_ 2 _ rfl,c.at_ 3 _ rfl,c.at_ 4 _ rfl,c.at_ 5 _ rfl,c.at_ 6 _ rfl,c.at_ 7 _ rfl,c.at_ 8 _ rfl,c.at_ 9 _ rfl,c.at_ 10 _ rfl⟩,d.at_ 0 _ rfl,d.at_ 1 _ rfl,d.at_ 2 _ rfl,d.at_ 3 _ rfl,d.at_ 4 _ rfl,d.at_ 5 _ rfl,d.at_ 6 _ rfl,d.at_ 7 _ rfl,d.at_ 8 _ rfl,d.at_ 9 _ rfl,d.at_ 10 _ rfl⟩)
 obtain⟨⟨c0,c1,c2,c3,c4,c5,c6,c7,c8,c9,c10⟩,d0,d1,d2,d3,d4,d5,d6,d7,d8,d9,d10⟩:=HC.out _ (Kept.refl _);clear hb0 hb1 hb2 hb3 hb4 hb5 hb6 hb7 hb8 hb9 hb10 hk0 h g;unfold jx
 cases b0 with
 | false =>
  have HV:=lH (show zi n m=false by rw[VI.out];simp);go_enter Tryz.func44,Tryz.ntmps44;have K:=lH (Kept.refl W0);go_wp2;try rw[hW0]
  go_ret;exact⟨jd HV.out.symm,Va.out.trans K.out⟩
 | true =>
  cases b1 with
  | false =>
   have HV:=lH (show zi n m=false by rw[VI.out];simp);go_enter Tryz.func44,Tryz.ntmps44;have K:=lH (Kept.refl W0);go_wp2;try rw[hW0]
   go_ret;exact⟨jd HV.out.symm,Va.out.trans K.out⟩
  | true =>
   cases b2 with
   | false =>
    have HV:=lH (show zi n m=false by rw[VI.out];simp);go_enter Tryz.func44,Tryz.ntmps44;have K:=lH (Kept.refl W0);go_wp2;try rw[hW0]
    go_ret;exact⟨jd HV.out.symm,Va.out.trans K.out⟩
   | true =>
    cases b3 with
    | false =>
     have HV:=lH (show zi n m=false by rw[VI.out];simp);go_enter Tryz.func44,Tryz.ntmps44;have K:=lH (Kept.refl W0);go_wp2_with fail
     try rw[hW0]
     refine(Vec.Z9 (HH.out.need.kept (Va.out.trans K.out)) (GG.out.need.kept (Va.out.trans K.out)) B3.out).mono ?_;rintro e w3 ⟨rfl,k3⟩;have K:=lH (K.out.trans k3);clear k3 c0 d0 c1 d1 c2 d2 c3 d3 c4 d4 c5 d5 c6 d6 c7 d7 c8 d8 c9 d9 c10 d10;obtain⟨⟨c0,c1,c2,c3,c4,c5,c6,c7,c8,c9,c10⟩,d0,d1,d2,d3,d4,d5,d6,d7,d8,d9,d10⟩:=HC.out _ K.out;go_wp2;go_ret;exact⟨jd HV.out.symm,Va.out.trans K.out⟩
    | true =>
     cases b4 with
     | false =>
      have HV:=lH (show zi n m=false by rw[VI.out];simp);go_enter Tryz.func44,Tryz.ntmps44;have K:=lH (Kept.refl W0);go_wp2_with fail
      try rw[hW0]
      refine(Vec.Z9 (HH.out.need.kept (Va.out.trans K.out)) (GG.out.need.kept (Va.out.trans K.out)) B3.out).mono ?_;rintro e w3 ⟨rfl,k3⟩;have K:=lH (K.out.trans k3);clear k3 c0 d0 c1 d1 c2 d2 c3 d3 c4 d4 c5 d5 c6 d6 c7 d7 c8 d8 c9 d9 c10 d10;obtain⟨⟨c0,c1,c2,c3,c4,c5,c6,c7,c8,c9,c10⟩,d0,d1,d2,d3,d4,d5,d6,d7,d8,d9,d10⟩:=HC.out _ K.out;go_wp2_with fail
      refine(Zq (HH.out.labels.kept (Va.out.trans K.out)) (GG.out.labels.kept (Va.out.trans K.out)) B4.out).mono ?_;rintro e w4 ⟨rfl,k4⟩;have K:=lH (K.out.trans k4);clear k4 c0 d0 c1 d1 c2 d2 c3 d3 c4 d4 c5 d5 c6 d6 c7 d7 c8 d8 c9 d9 c10 d10;obtain⟨⟨c0,c1,c2,c3,c4,c5,c6,c7,c8,c9,c10⟩,d0,d1,d2,d3,d4,d5,d6,d7,d8,d9,d10⟩:=HC.out _ K.out;go_wp2;go_ret;exact⟨jd HV.out.symm,Va.out.trans K.out⟩
     | true =>
      cases b5 with
      | false =>
       have HV:=lH (show zi n m=false by rw[VI.out];simp);go_enter Tryz.func44,Tryz.ntmps44;have K:=lH (Kept.refl W0);go_wp2_with fail
       try rw[hW0]
       refine(Vec.Z9 (HH.out.need.kept (Va.out.trans K.out)) (GG.out.need.kept (Va.out.trans K.out)) B3.out).mono ?_;rintro e w3 ⟨rfl,k3⟩;have K:=lH (K.out.trans k3);clear k3 c0 d0 c1 d1 c2 d2 c3 d3 c4 d4 c5 d5 c6 d6 c7 d7 c8 d8 c9 d9 c10 d10;obtain⟨⟨c0,c1,c2,c3,c4,c5,c6,c7,c8,c9,c10⟩,d0,d1,d2,d3,d4,d5,d6,d7,d8,d9,d10⟩:=HC.out _ K.out;go_wp2_with fail
       refine(Zq (HH.out.labels.kept (Va.out.trans K.out)) (GG.out.labels.kept (Va.out.trans K.out)) B4.out).mono ?_;rintro e w4 ⟨rfl,k4⟩;have K:=lH (K.out.trans k4);clear k4 c0 d0 c1 d1 c2 d2 c3 d3 c4 d4 c5 d5 c6 d6 c7 d7 c8 d8 c9 d9 c10 d10;obtain⟨⟨c0,c1,c2,c3,c4,c5,c6,c7,c8,c9,c10⟩,d0,d1,d2,d3,d4,d5,d6,d7,d8,d9,d10⟩:=HC.out _ K.out;go_wp2_with fail
       refine(YH (HH.out.sel.kept (Va.out.trans K.out)) (GG.out.sel.kept (Va.out.trans K.out)) B5.out).mono ?_;rintro e w5 ⟨rfl,k5⟩;have K:=lH (K.out.trans k5);clear k5 c0 d0 c1 d1 c2 d2 c3 d3 c4 d4 c5 d5 c6 d6 c7 d7 c8 d8 c9 d9 c10 d10;obtain⟨⟨c0,c1,c2,c3,c4,c5,c6,c7,c8,c9,c10⟩,d0,d1,d2,d3,d4,d5,d6,d7,d8,d9,d10⟩:=HC.out _ K.out;go_wp2;go_ret;exact⟨jd HV.out.symm,Va.out.trans K.out⟩
      | true =>
       cases b6 with
       | false =>
        have HV:=lH (show zi n m=false by rw[VI.out];simp);go_enter Tryz.func44,Tryz.ntmps44;have K:=lH (Kept.refl W0);go_wp2_with fail
        try rw[hW0]
        refine(Vec.Z9 (HH.out.need.kept (Va.out.trans K.out)) (GG.out.need.kept (Va.out.trans K.out)) B3.out).mono ?_;rintro e w3 ⟨rfl,k3⟩;have K:=lH (K.out.trans k3);clear k3 c0 d0 c1 d1 c2 d2 c3 d3 c4 d4 c5 d5 c6 d6 c7 d7 c8 d8 c9 d9 c10 d10;obtain⟨⟨c0,c1,c2,c3,c4,c5,c6,c7,c8,c9,c10⟩,d0,d1,d2,d3,d4,d5,d6,d7,d8,d9,d10⟩:=HC.out _ K.out;go_wp2_with fail
        refine(Zq (HH.out.labels.kept (Va.out.trans K.out)) (GG.out.labels.kept (Va.out.trans K.out)) B4.out).mono ?_;rintro e w4 ⟨rfl,k4⟩;have K:=lH (K.out.trans k4);clear k4 c0 d0 c1 d1 c2 d2 c3 d3 c4 d4 c5 d5 c6 d6 c7 d7 c8 d8 c9 d9 c10 d10;obtain⟨⟨c0,c1,c2,c3,c4,c5,c6,c7,c8,c9,c10⟩,d0,d1,d2,d3,d4,d5,d6,d7,d8,d9,d10⟩:=HC.out _ K.out;go_wp2_with fail
        refine(YH (HH.out.sel.kept (Va.out.trans K.out)) (GG.out.sel.kept (Va.out.trans K.out)) B5.out).mono ?_;rintro e w5 ⟨rfl,k5⟩;have K:=lH (K.out.trans k5);clear k5 c0 d0 c1 d1 c2 d2 c3 d3 c4 d4 c5 d5 c6 d6 c7 d7 c8 d8 c9 d9 c10 d10;obtain⟨⟨c0,c1,c2,c3,c4,c5,c6,c7,c8,c9,c10⟩,d0,d1,d2,d3,d4,d5,d6,d7,d8,d9,d10⟩:=HC.out _ K.out;go_wp2_with fail
        refine(XE (HH.out.tols.kept (Va.out.trans K.out)) (GG.out.tols.kept (Va.out.trans K.out)) B6.out).mono ?_;rintro e w6 ⟨rfl,k6⟩;have K:=lH (K.out.trans k6);clear k6 c0 d0 c1 d1 c2 d2 c3 d3 c4 d4 c5 d5 c6 d6 c7 d7 c8 d8 c9 d9 c10 d10;obtain⟨⟨c0,c1,c2,c3,c4,c5,c6,c7,c8,c9,c10⟩,d0,d1,d2,d3,d4,d5,d6,d7,d8,d9,d10⟩:=HC.out _ K.out;go_wp2;go_ret;exact⟨jd HV.out.symm,Va.out.trans K.out⟩
       | true =>
        cases b7 with
        | false =>
         have HV:=lH (show zi n m=false by rw[VI.out];simp);go_enter Tryz.func44,Tryz.ntmps44;have K:=lH (Kept.refl W0);go_wp2_with fail
         try rw[hW0]
         refine(Vec.Z9 (HH.out.need.kept (Va.out.trans K.out)) (GG.out.need.kept (Va.out.trans K.out)) B3.out).mono ?_;rintro e w3 ⟨rfl,k3⟩;have K:=lH (K.out.trans k3);clear k3 c0 d0 c1 d1 c2 d2 c3 d3 c4 d4 c5 d5 c6 d6 c7 d7 c8 d8 c9 d9 c10 d10;obtain⟨⟨c0,c1,c2,c3,c4,c5,c6,c7,c8,c9,c10⟩,d0,d1,d2,d3,d4,d5,d6,d7,d8,d9,d10⟩:=HC.out _ K.out;go_wp2_with fail
         refine(Zq (HH.out.labels.kept (Va.out.trans K.out)) (GG.out.labels.kept (Va.out.trans K.out)) B4.out).mono ?_;rintro e w4 ⟨rfl,k4⟩;have K:=lH (K.out.trans k4);clear k4 c0 d0 c1 d1 c2 d2 c3 d3 c4 d4 c5 d5 c6 d6 c7 d7 c8 d8 c9 d9 c10 d10;obtain⟨⟨c0,c1,c2,c3,c4,c5,c6,c7,c8,c9,c10⟩,d0,d1,d2,d3,d4,d5,d6,d7,d8,d9,d10⟩:=HC.out _ K.out;go_wp2_with fail
         refine(YH (HH.out.sel.kept (Va.out.trans K.out)) (GG.out.sel.kept (Va.out.trans K.out)) B5.out).mono ?_;rintro e w5 ⟨rfl,k5⟩;have K:=lH (K.out.trans k5);clear k5 c0 d0 c1 d1 c2 d2 c3 d3 c4 d4 c5 d5 c6 d6 c7 d7 c8 d8 c9 d9 c10 d10;obtain⟨⟨c0,c1,c2,c3,c4,c5,c6,c7,c8,c9,c10⟩,d0,d1,d2,d3,d4,d5,d6,d7,d8,d9,d10⟩:=HC.out _ K.out;go_wp2_with fail
         refine(XE (HH.out.tols.kept (Va.out.trans K.out)) (GG.out.tols.kept (Va.out.trans K.out)) B6.out).mono ?_;rintro e w6 ⟨rfl,k6⟩;have K:=lH (K.out.trans k6);clear k6 c0 d0 c1 d1 c2 d2 c3 d3 c4 d4 c5 d5 c6 d6 c7 d7 c8 d8 c9 d9 c10 d10;obtain⟨⟨c0,c1,c2,c3,c4,c5,c6,c7,c8,c9,c10⟩,d0,d1,d2,d3,d4,d5,d6,d7,d8,d9,d10⟩:=HC.out _ K.out;go_wp2;go_ret;exact⟨jd HV.out.symm,Va.out.trans K.out⟩
        | true =>
         cases b8 with
         | false =>
          have HV:=lH (show zi n m=false by rw[VI.out];simp);go_enter Tryz.func44,Tryz.ntmps44;have K:=lH (Kept.refl W0);go_wp2_with fail
          try rw[hW0]
          refine(Vec.Z9 (HH.out.need.kept (Va.out.trans K.out)) (GG.out.need.kept (Va.out.trans K.out)) B3.out).mono ?_;rintro e w3 ⟨rfl,k3⟩;have K:=lH (K.out.trans k3);clear k3 c0 d0 c1 d1 c2 d2 c3 d3 c4 d4 c5 d5 c6 d6 c7 d7 c8 d8 c9 d9 c10 d10;obtain⟨⟨c0,c1,c2,c3,c4,c5,c6,c7,c8,c9,c10⟩,d0,d1,d2,d3,d4,d5,d6,d7,d8,d9,d10⟩:=HC.out _ K.out;go_wp2_with fail
          refine(Zq (HH.out.labels.kept (Va.out.trans K.out)) (GG.out.labels.kept (Va.out.trans K.out)) B4.out).mono ?_;rintro e w4 ⟨rfl,k4⟩;have K:=lH (K.out.trans k4);clear k4 c0 d0 c1 d1 c2 d2 c3 d3 c4 d4 c5 d5 c6 d6 c7 d7 c8 d8 c9 d9 c10 d10;obtain⟨⟨c0,c1,c2,c3,c4,c5,c6,c7,c8,c9,c10⟩,d0,d1,d2,d3,d4,d5,d6,d7,d8,d9,d10⟩:=HC.out _ K.out;go_wp2_with fail
          refine(YH (HH.out.sel.kept (Va.out.trans K.out)) (GG.out.sel.kept (Va.out.trans K.out)) B5.out).mono ?_;rintro e w5 ⟨rfl,k5⟩;have K:=lH (K.out.trans k5);clear k5 c0 d0 c1 d1 c2 d2 c3 d3 c4 d4 c5 d5 c6 d6 c7 d7 c8 d8 c9 d9 c10 d10;obtain⟨⟨c0,c1,c2,c3,c4,c5,c6,c7,c8,c9,c10⟩,d0,d1,d2,d3,d4,d5,d6,d7,d8,d9,d10⟩:=HC.out _ K.out;go_wp2_with fail
          refine(XE (HH.out.tols.kept (Va.out.trans K.out)) (GG.out.tols.kept (Va.out.trans K.out)) B6.out).mono ?_;rintro e w6 ⟨rfl,k6⟩;have K:=lH (K.out.trans k6);clear k6 c0 d0 c1 d1 c2 d2 c3 d3 c4 d4 c5 d5 c6 d6 c7 d7 c8 d8 c9 d9 c10 d10;obtain⟨⟨c0,c1,c2,c3,c4,c5,c6,c7,c8,c9,c10⟩,d0,d1,d2,d3,d4,d5,d6,d7,d8,d9,d10⟩:=HC.out _ K.out;go_wp2;go_ret;exact⟨jd HV.out.symm,Va.out.trans K.out⟩
         | true =>
          cases b9 with
          | false =>
           have HV:=lH (show zi n m=false by rw[VI.out];simp);go_enter Tryz.func44,Tryz.ntmps44;have K:=lH (Kept.refl W0);go_wp2_with fail
           try rw[hW0]
           refine(Vec.Z9 (HH.out.need.kept (Va.out.trans K.out)) (GG.out.need.kept (Va.out.trans K.out)) B3.out).mono ?_;rintro e w3 ⟨rfl,k3⟩;have K:=lH (K.out.trans k3);clear k3 c0 d0 c1 d1 c2 d2 c3 d3 c4 d4 c5 d5 c6 d6 c7 d7 c8 d8 c9 d9 c10 d10;obtain⟨⟨c0,c1,c2,c3,c4,c5,c6,c7,c8,c9,c10⟩,d0,d1,d2,d3,d4,d5,d6,d7,d8,d9,d10⟩:=HC.out _ K.out;go_wp2_with fail
           refine(Zq (HH.out.labels.kept (Va.out.trans K.out)) (GG.out.labels.kept (Va.out.trans K.out)) B4.out).mono ?_;rintro e w4 ⟨rfl,k4⟩;have K:=lH (K.out.trans k4);clear k4 c0 d0 c1 d1 c2 d2 c3 d3 c4 d4 c5 d5 c6 d6 c7 d7 c8 d8 c9 d9 c10 d10;obtain⟨⟨c0,c1,c2,c3,c4,c5,c6,c7,c8,c9,c10⟩,d0,d1,d2,d3,d4,d5,d6,d7,d8,d9,d10⟩:=HC.out _ K.out;go_wp2_with fail
           refine(YH (HH.out.sel.kept (Va.out.trans K.out)) (GG.out.sel.kept (Va.out.trans K.out)) B5.out).mono ?_;rintro e w5 ⟨rfl,k5⟩;have K:=lH (K.out.trans k5);clear k5 c0 d0 c1 d1 c2 d2 c3 d3 c4 d4 c5 d5 c6 d6 c7 d7 c8 d8 c9 d9 c10 d10;obtain⟨⟨c0,c1,c2,c3,c4,c5,c6,c7,c8,c9,c10⟩,d0,d1,d2,d3,d4,d5,d6,d7,d8,d9,d10⟩:=HC.out _ K.out;go_wp2_with fail
           refine(XE (HH.out.tols.kept (Va.out.trans K.out)) (GG.out.tols.kept (Va.out.trans K.out)) B6.out).mono ?_;rintro e w6 ⟨rfl,k6⟩;have K:=lH (K.out.trans k6);clear k6 c0 d0 c1 d1 c2 d2 c3 d3 c4 d4 c5 d5 c6 d6 c7 d7 c8 d8 c9 d9 c10 d10;obtain⟨⟨c0,c1,c2,c3,c4,c5,c6,c7,c8,c9,c10⟩,d0,d1,d2,d3,d4,d5,d6,d7,d8,d9,d10⟩:=HC.out _ K.out;go_wp2;go_ret;exact⟨jd HV.out.symm,Va.out.trans K.out⟩
          | true =>
           cases b10 with
           | false =>
            have HV:=lH (show zi n m=false by rw[VI.out];simp);go_enter Tryz.func44,Tryz.ntmps44;have K:=lH (Kept.refl W0);go_wp2_with fail
            try rw[hW0]
            refine(Vec.Z9 (HH.out.need.kept (Va.out.trans K.out)) (GG.out.need.kept (Va.out.trans K.out)) B3.out).mono ?_;rintro e w3 ⟨rfl,k3⟩;have K:=lH (K.out.trans k3);clear k3 c0 d0 c1 d1 c2 d2 c3 d3 c4 d4 c5 d5 c6 d6 c7 d7 c8 d8 c9 d9 c10 d10;obtain⟨⟨c0,c1,c2,c3,c4,c5,c6,c7,c8,c9,c10⟩,d0,d1,d2,d3,d4,d5,d6,d7,d8,d9,d10⟩:=HC.out _ K.out;go_wp2_with fail
            refine(Zq (HH.out.labels.kept (Va.out.trans K.out)) (GG.out.labels.kept (Va.out.trans K.out)) B4.out).mono ?_;rintro e w4 ⟨rfl,k4⟩;have K:=lH (K.out.trans k4);clear k4 c0 d0 c1 d1 c2 d2 c3 d3 c4 d4 c5 d5 c6 d6 c7 d7 c8 d8 c9 d9 c10 d10;obtain⟨⟨c0,c1,c2,c3,c4,c5,c6,c7,c8,c9,c10⟩,d0,d1,d2,d3,d4,d5,d6,d7,d8,d9,d10⟩:=HC.out _ K.out;go_wp2_with fail
            refine(YH (HH.out.sel.kept (Va.out.trans K.out)) (GG.out.sel.kept (Va.out.trans K.out)) B5.out).mono ?_;rintro e w5 ⟨rfl,k5⟩;have K:=lH (K.out.trans k5);clear k5 c0 d0 c1 d1 c2 d2 c3 d3 c4 d4 c5 d5 c6 d6 c7 d7 c8 d8 c9 d9 c10 d10;obtain⟨⟨c0,c1,c2,c3,c4,c5,c6,c7,c8,c9,c10⟩,d0,d1,d2,d3,d4,d5,d6,d7,d8,d9,d10⟩:=HC.out _ K.out;go_wp2_with fail
            refine(XE (HH.out.tols.kept (Va.out.trans K.out)) (GG.out.tols.kept (Va.out.trans K.out)) B6.out).mono ?_;rintro e w6 ⟨rfl,k6⟩;have K:=lH (K.out.trans k6);clear k6 c0 d0 c1 d1 c2 d2 c3 d3 c4 d4 c5 d5 c6 d6 c7 d7 c8 d8 c9 d9 c10 d10;obtain⟨⟨c0,c1,c2,c3,c4,c5,c6,c7,c8,c9,c10⟩,d0,d1,d2,d3,d4,d5,d6,d7,d8,d9,d10⟩:=HC.out _ K.out;go_wp2;go_ret;exact⟨jd HV.out.symm,Va.out.trans K.out⟩
           | true =>
            have HV:=lH (show zi n m=true by rw[VI.out];rfl);go_enter Tryz.func44,Tryz.ntmps44;have K:=lH (Kept.refl W0);go_wp2_with fail
            try rw[hW0]
            refine(Vec.Z9 (HH.out.need.kept (Va.out.trans K.out)) (GG.out.need.kept (Va.out.trans K.out)) B3.out).mono ?_;rintro e w3 ⟨rfl,k3⟩;have K:=lH (K.out.trans k3);clear k3 c0 d0 c1 d1 c2 d2 c3 d3 c4 d4 c5 d5 c6 d6 c7 d7 c8 d8 c9 d9 c10 d10;obtain⟨⟨c0,c1,c2,c3,c4,c5,c6,c7,c8,c9,c10⟩,d0,d1,d2,d3,d4,d5,d6,d7,d8,d9,d10⟩:=HC.out _ K.out;go_wp2_with fail
            refine(Zq (HH.out.labels.kept (Va.out.trans K.out)) (GG.out.labels.kept (Va.out.trans K.out)) B4.out).mono ?_;rintro e w4 ⟨rfl,k4⟩;have K:=lH (K.out.trans k4);clear k4 c0 d0 c1 d1 c2 d2 c3 d3 c4 d4 c5 d5 c6 d6 c7 d7 c8 d8 c9 d9 c10 d10;obtain⟨⟨c0,c1,c2,c3,c4,c5,c6,c7,c8,c9,c10⟩,d0,d1,d2,d3,d4,d5,d6,d7,d8,d9,d10⟩:=HC.out _ K.out;go_wp2_with fail
            refine(YH (HH.out.sel.kept (Va.out.trans K.out)) (GG.out.sel.kept (Va.out.trans K.out)) B5.out).mono ?_;rintro e w5 ⟨rfl,k5⟩;have K:=lH (K.out.trans k5);clear k5 c0 d0 c1 d1 c2 d2 c3 d3 c4 d4 c5 d5 c6 d6 c7 d7 c8 d8 c9 d9 c10 d10;obtain⟨⟨c0,c1,c2,c3,c4,c5,c6,c7,c8,c9,c10⟩,d0,d1,d2,d3,d4,d5,d6,d7,d8,d9,d10⟩:=HC.out _ K.out;go_wp2_with fail
            refine(XE (HH.out.tols.kept (Va.out.trans K.out)) (GG.out.tols.kept (Va.out.trans K.out)) B6.out).mono ?_;rintro e w6 ⟨rfl,k6⟩;have K:=lH (K.out.trans k6);clear k6 c0 d0 c1 d1 c2 d2 c3 d3 c4 d4 c5 d5 c6 d6 c7 d7 c8 d8 c9 d9 c10 d10;obtain⟨⟨c0,c1,c2,c3,c4,c5,c6,c7,c8,c9,c10⟩,d0,d1,d2,d3,d4,d5,d6,d7,d8,d9,d10⟩:=HC.out _ K.out;go_wp2;go_ret;exact⟨jd HV.out.symm,Va.out.trans K.out⟩
theorem jlZ {v u:Value} {n m:Pd} {b:Bool} {w:World} (h:jba w v n) (g:jba w u m) (hb:zi n m=b):Calls Tryz.prog 44 #[v,u] w (Say (.bool b) w):=by
 subst hb;obtain⟨v1,v2,v3,v4,rfl,h⟩:=h;obtain⟨u1,u2,u3,u4,rfl,g⟩:=g;exact jgY n m v1 v2 v3 v4 u1 u2 u3 u4 w h g
def JK (a b:Bd):Bool:=eqS a.name b.name&&(zV a.sel b.sel&&decide (a.floor=b.floor))
def qB (a b:Clu):Bool:=jF Ji a.nodes b.nodes&&(jF zi a.pods b.pods&&jF JK a.buds b.buds)
theorem Xh {α:Type} {f:α→α→Bool}:∀{l m:List α},l.length≠m.length→jF f l m=false
 | [],[],h=>absurd rfl h
 | [],_::_,_=>rfl
 | _::_,[],_=>rfl
 | x::s,y::t,h=>by rw[jF,Xh (l:=s) (m:=t) (fun e=>h (by rw[List.length_cons,List.length_cons,e])),Bool.and_false]
theorem YX {α:Type} {f:α→α→Bool} (hf:∀x,f x x=true):∀l:List α,jF f l l=true
 | []=>rfl
 | x::t=>by rw[jF,hf,YX hf t];rfl
theorem jgG (a:Bd):JK a a=true:=by
 unfold JK;rw[zh,qG,decide_eq_true rfl];rfl
theorem jhh (a:Clu):qB a a=true:=by
 unfold qB;rw[YX jiZ,YX jgC,YX jgG];rfl
theorem jdB (a1 a2:Option Addr) (m1 c1 m2 c2:Nat) (n k:Bd) (w:World) (h:zt w (.slice a1 m1 c1) n) (g:zt w (.slice a2 m2 c2) k) :
 Calls Tryz.prog 46 #[JY n (.slice a1 m1 c1),JY k (.slice a2 m2 c2)] w (Say (.bool (JK n k)) w):=by
 obtain⟨x,s,p⟩:=n;obtain⟨y,t,q⟩:=k;obtain⟨Z,hZ⟩:=eX ((w.alloc (.cells #[.string x,.slice a1 m1 c1,.int .i64 p] 92)).alloc (.cells #[.string y,.slice a2 m2 c2,.int .i64 q] 92))
 have hkz:Kept w Z:=by rw[←hZ];exact jn _ _ _
 have cc:=jc w (.string x) [.slice a1 m1 c1,.int .i64 p] 92 Z (by rw[←hZ];exact ja _ _);have dd:=jc (w.alloc (.cells #[.string x,.slice a1 m1 c1,.int .i64 p] 92)) (.string y) [.slice a2 m2 c2,.int .i64 q] 92 Z (by rw[hZ];exact Kept.refl _);rw[World.size_alloc] at dd;have o0:=cc.at_ 0 _ rfl;have r0:=dd.at_ 0 _ rfl;have o1:=cc.at_ 1 _ rfl;have r1:=dd.at_ 1 _ rfl;have o2:=cc.at_ 2 _ rfl;have r2:=dd.at_ 2 _ rfl;obtain⟨e1,he1⟩:=eX (eqS x y)
 have he1':(x.toList==y.toList)=e1:=he1;obtain⟨e2,he2⟩:=eX (zV s t)
 obtain⟨e3,he3⟩:=eX (decide (p=q))
 have he3':(p==q)=e3:=he3;obtain⟨HV,HE,Vc⟩:=lH3 (show JK ⟨x,s,p⟩ ⟨y,t,q⟩=(e1&&(e2&&e3)) by unfold JK;dsimp only;rw[he1,he2,he3]) (fun W (k:Kept Z W)=>YH (h.sel.kept (hkz.trans k)) (g.sel.kept (hkz.trans k)) he2) hkz;clear h g hkz cc dd he1 he2 he3;unfold JY;dsimp only
 cases e1 with
 | false =>
  go_enter Tryz.func46,Tryz.ntmps46;go_wp2;go_ret;exact⟨jd HV.out.symm,by first | exact Vc.out | (rw[hZ];exact Vc.out)⟩
 | true =>
  cases e2 with
  | false =>
   go_enter Tryz.func46,Tryz.ntmps46;go_wp2_with fail
   try rw[hZ]
   refine(HE.out _ (Kept.refl _)).mono ?_;rintro e w1 ⟨rfl,k⟩;have K:=lH k;have cc:=jc w (.string x) [.slice a1 m1 c1,.int .i64 p] 92 w1 (by rw[←hZ] at k;exact(ja _ _).trans k);have dd:=jc (w.alloc (.cells #[.string x,.slice a1 m1 c1,.int .i64 p] 92)) (.string y) [.slice a2 m2 c2,.int .i64 q] 92 w1 (by rw[hZ];exact k);rw[World.size_alloc] at dd;have v0:=cc.at_ 2 _ rfl;have v1:=dd.at_ 2 _ rfl;clear k cc dd;go_wp2;go_ret;exact⟨jd HV.out.symm,Vc.out.trans K.out⟩
  | true =>
   cases e3 <;>
   (go_enter Tryz.func46,Tryz.ntmps46
    go_wp2_with fail
    try rw[hZ]
    refine(HE.out _ (Kept.refl _)).mono ?_;rintro e w1 ⟨rfl,k⟩;have K:=lH k;have cc:=jc w (.string x) [.slice a1 m1 c1,.int .i64 p] 92 w1 (by rw[←hZ] at k;exact(ja _ _).trans k);have dd:=jc (w.alloc (.cells #[.string x,.slice a1 m1 c1,.int .i64 p] 92)) (.string y) [.slice a2 m2 c2,.int .i64 q] 92 w1 (by rw[hZ];exact k);rw[World.size_alloc] at dd;have v0:=cc.at_ 2 _ rfl;have v1:=dd.at_ 2 _ rfl;clear k cc dd;go_wp2;go_ret;exact⟨jd HV.out.symm,Vc.out.trans K.out⟩)
theorem jmi (a a9:Option Addr) (len cap len9 cap9:Nat) (l l9:List Nod) (w:World) (hr:jo w a len l) (hr9:jo w a9 len9 l9) :
 Calls Tryz.prog 41 #[.slice a len cap,.slice a9 len9 cap9,.func (.func 42) #[] #[]] w (Say (.bool (jF Ji l l9)) w):=by
 have hl:=hr.1;have hm:=hr.2.1;have hl9:=hr9.1;have hm9:=hr9.2.1;unfold maxLen at hm hm9;by_cases he:len=len9
 · subst he;obtain⟨HR,UF,HL,Ui⟩:=lH4 hr hr9 hl hl9;clear hr hr9 hl hl9;go_enter Tryz.func41,Tryz.ntmps41;go_wp2;go_loopw [17] (fun i wr=>∃k:Nat,k≤len∧i=.int .i64 k∧jF Ji (l.drop k) (l9.drop k)=jF Ji l l9∧Kept w wr) (fun i _=>len-(intOf i).toNat)
   case atStart=>exact⟨0,Nat.zero_le _,rfl,rfl,Kept.refl _⟩
   case round =>
    obtain⟨k,hk,rfl,hrest,hK⟩:=hrel;have HT:=lH hrest;have HK:=lH hK;by_cases hlt:k<len
    · obtain⟨b,off,rfl⟩:=HR.out.form.resolve_left (by omega);obtain⟨b9,off9,rfl⟩:=UF.out.form.resolve_left (by omega);obtain⟨n,a1,m1,c1,a2,m2,c2,a3,m3,c3,hn,hd,hb,p0,p1,p2,p3,p4,hat⟩:=(HR.out.kept hK).at_ hlt;obtain⟨k9,x1,y1,z1,x2,y2,z2,x3,y3,z3,hn9,hd9,hb9,q0,q1,q2,q3,q4,hat9⟩:=(UF.out.kept hK).at_ hlt;have HD:=lH hd;have VO:=lH hd9;obtain⟨t,ht⟩:=eX (Ji n k9)
      have U0:=lH ht;have HC:=lH (fun W (kk:Kept wr W)=>show Calls Tryz.prog 42 #[zj n (.slice a1 m1 c1) (.slice a2 m2 c2) (.slice a3 m3 c3),zj k9 (.slice x1 y1 z1) (.slice x2 y2 z2) (.slice x3 y3 z3)] W (Say (.bool t) W) from jlq ⟨_,_,_,rfl,hat.kept kk⟩ ⟨_,_,_,rfl,hat9.kept kk⟩ ht);unfold zj at HC;have hkk:(k:Int)<(len:Int):=by omega
      clear hrest hK hat hat9 hn hn9 hd hd9 ht
      cases t with
      | true =>
       have HX:=lH (show jF Ji (l.drop (k+1)) (l9.drop (k+1))=jF Ji l l9 by rw[←HT.out,HD.out,VO.out,jF,U0.out];rfl);go_wp2_with fail
       refine(HC.out _ ((ja _ _).trans (ja _ _))).mono ?_;rintro e w1 ⟨rfl,kk⟩;have KW:=lH (HK.out.trans (((ja _ _).trans (ja _ _)).trans kk));clear kk;go_wp2;go_roundw
       case rel=>exact⟨k+1,by omega,by go_num,HX.out,KW.out⟩
       case measure=>simp[intOf];omega
      | false =>
       have HX:=lH (show jF Ji l l9=false by rw[←HT.out,HD.out,VO.out,jF,U0.out];rfl);go_wp2_with fail
       refine(HC.out _ ((ja _ _).trans (ja _ _))).mono ?_;rintro e w1 ⟨rfl,kk⟩;have KW:=lH (HK.out.trans (((ja _ _).trans (ja _ _)).trans kk));clear kk;go_wp2;go_ret;exact⟨jd HX.out.symm,KW.out⟩
    · have HX:=lH (show jF Ji l l9=true by rw[←hrest,List.drop_of_length_le (by rw[HL.out];omega),List.drop_of_length_le (by rw[Ui.out];omega)];rfl);clear hrest hK;go_wp2;go_ret;exact⟨jd HX.out.symm,HK.out⟩
 · have HX:=lH (show jF Ji l l9=false from Xh (by rw[hl,hl9];exact he));have he':((len:Int) != (len9:Int))=true:=by simpa using (fun e:(len:Int)=(len9:Int)=>he (by omega))
   clear hr hr9 he;go_enter Tryz.func41,Tryz.ntmps41;go_wp2;go_ret;exact⟨jd HX.out.symm,Kept.refl _⟩
theorem jmq (a a9:Option Addr) (len cap len9 cap9:Nat) (l l9:List Pd) (w:World) (hr:jy w a len l) (hr9:jy w a9 len9 l9) :
 Calls Tryz.prog 43 #[.slice a len cap,.slice a9 len9 cap9,.func (.func 44) #[] #[]] w (Say (.bool (jF zi l l9)) w):=by
 have hl:=hr.1;have hm:=hr.2.1;have hl9:=hr9.1;have hm9:=hr9.2.1;unfold maxLen at hm hm9;by_cases he:len=len9
 · subst he;obtain⟨HR,UF,HL,Ui⟩:=lH4 hr hr9 hl hl9;clear hr hr9 hl hl9;go_enter Tryz.func43,Tryz.ntmps43;go_wp2;go_loopw [17] (fun i wr=>∃k:Nat,k≤len∧i=.int .i64 k∧jF zi (l.drop k) (l9.drop k)=jF zi l l9∧Kept w wr) (fun i _=>len-(intOf i).toNat)
   case atStart=>exact⟨0,Nat.zero_le _,rfl,rfl,Kept.refl _⟩
   case round =>
    obtain⟨k,hk,rfl,hrest,hK⟩:=hrel;have HT:=lH hrest;have HK:=lH hK;by_cases hlt:k<len
    · obtain⟨b,off,rfl⟩:=HR.out.form.resolve_left (by omega);obtain⟨b9,off9,rfl⟩:=UF.out.form.resolve_left (by omega);obtain⟨n,a1,m1,c1,a2,m2,c2,a3,m3,c3,a4,m4,c4,hn,hd,hb,p0,p1,p2,p3,p4,p5,p6,p7,p8,p9,p10,hat⟩:=(HR.out.kept hK).at_ hlt;obtain⟨k9,x1,y1,z1,x2,y2,z2,x3,y3,z3,x4,y4,z4,hn9,hd9,hb9,q0,q1,q2,q3,q4,q5,q6,q7,q8,q9,q10,hat9⟩:=(UF.out.kept hK).at_ hlt;have HD:=lH hd;have VO:=lH hd9;obtain⟨t,ht⟩:=eX (zi n k9)
      have U0:=lH ht;have HC:=lH (fun W (kk:Kept wr W)=>show Calls Tryz.prog 44 #[jx n (.slice a1 m1 c1) (.slice a2 m2 c2) (.slice a3 m3 c3) (.slice a4 m4 c4),jx k9 (.slice x1 y1 z1) (.slice x2 y2 z2) (.slice x3 y3 z3) (.slice x4 y4 z4)] W (Say (.bool t) W) from jlZ ⟨_,_,_,_,rfl,hat.kept kk⟩ ⟨_,_,_,_,rfl,hat9.kept kk⟩ ht);unfold jx at HC;have hkk:(k:Int)<(len:Int):=by omega
      clear hrest hK hat hat9 hn hn9 hd hd9 ht
      cases t with
      | true =>
       have HX:=lH (show jF zi (l.drop (k+1)) (l9.drop (k+1))=jF zi l l9 by rw[←HT.out,HD.out,VO.out,jF,U0.out];rfl);go_wp2_with fail
       refine(HC.out _ ((ja _ _).trans (ja _ _))).mono ?_;rintro e w1 ⟨rfl,kk⟩;have KW:=lH (HK.out.trans (((ja _ _).trans (ja _ _)).trans kk));clear kk;go_wp2;go_roundw
       case rel=>exact⟨k+1,by omega,by go_num,HX.out,KW.out⟩
       case measure=>simp[intOf];omega
      | false =>
       have HX:=lH (show jF zi l l9=false by rw[←HT.out,HD.out,VO.out,jF,U0.out];rfl);go_wp2_with fail
       refine(HC.out _ ((ja _ _).trans (ja _ _))).mono ?_;rintro e w1 ⟨rfl,kk⟩;have KW:=lH (HK.out.trans (((ja _ _).trans (ja _ _)).trans kk));clear kk;go_wp2;go_ret;exact⟨jd HX.out.symm,KW.out⟩
    · have HX:=lH (show jF zi l l9=true by rw[←hrest,List.drop_of_length_le (by rw[HL.out];omega),List.drop_of_length_le (by rw[Ui.out];omega)];rfl);clear hrest hK;go_wp2;go_ret;exact⟨jd HX.out.symm,HK.out⟩
 · have HX:=lH (show jF zi l l9=false from Xh (by rw[hl,hl9];exact he));have he':((len:Int) != (len9:Int))=true:=by simpa using (fun e:(len:Int)=(len9:Int)=>he (by omega))
   clear hr hr9 he;go_enter Tryz.func43,Tryz.ntmps43;go_wp2;go_ret;exact⟨jd HX.out.symm,Kept.refl _⟩
theorem jlp (a a9:Option Addr) (len cap len9 cap9:Nat) (l l9:List Bd) (w:World) (hr:j9 w a len l) (hr9:j9 w a9 len9 l9) :
 Calls Tryz.prog 45 #[.slice a len cap,.slice a9 len9 cap9,.func (.func 46) #[] #[]] w (Say (.bool (jF JK l l9)) w):=by
 have hl:=hr.1;have hm:=hr.2.1;have hl9:=hr9.1;have hm9:=hr9.2.1;unfold maxLen at hm hm9;by_cases he:len=len9
 · subst he;obtain⟨HR,UF,HL,Ui⟩:=lH4 hr hr9 hl hl9;clear hr hr9 hl hl9;go_enter Tryz.func45,Tryz.ntmps45;go_wp2;go_loopw [17] (fun i wr=>∃k:Nat,k≤len∧i=.int .i64 k∧jF JK (l.drop k) (l9.drop k)=jF JK l l9∧Kept w wr) (fun i _=>len-(intOf i).toNat)
   case atStart=>exact⟨0,Nat.zero_le _,rfl,rfl,Kept.refl _⟩
   case round =>
    obtain⟨k,hk,rfl,hrest,hK⟩:=hrel;have HT:=lH hrest;have HK:=lH hK;by_cases hlt:k<len
    · obtain⟨b,off,rfl⟩:=HR.out.form.resolve_left (by omega);obtain⟨b9,off9,rfl⟩:=UF.out.form.resolve_left (by omega);obtain⟨n,a1,m1,c1,hn,hd,hb,p0,p1,p2,hat⟩:=(HR.out.kept hK).at_ hlt;obtain⟨k9,x1,y1,z1,hn9,hd9,hb9,q0,q1,q2,hat9⟩:=(UF.out.kept hK).at_ hlt;have HD:=lH hd;have VO:=lH hd9;obtain⟨t,ht⟩:=eX (JK n k9)
      have U0:=lH ht;have HC:=lH (fun W (kk:Kept wr W)=>show Calls Tryz.prog 46 #[JY n (.slice a1 m1 c1),JY k9 (.slice x1 y1 z1)] W (Say (.bool t) W) from by rw[←ht];exact jdB a1 x1 m1 c1 y1 z1 n k9 W (hat.kept kk) (hat9.kept kk));unfold JY at HC;have hkk:(k:Int)<(len:Int):=by omega
      clear hrest hK hat hat9 hn hn9 hd hd9 ht
      cases t with
      | true =>
       have HX:=lH (show jF JK (l.drop (k+1)) (l9.drop (k+1))=jF JK l l9 by rw[←HT.out,HD.out,VO.out,jF,U0.out];rfl);go_wp2_with fail
       refine(HC.out _ ((ja _ _).trans (ja _ _))).mono ?_;rintro e w1 ⟨rfl,kk⟩;have KW:=lH (HK.out.trans (((ja _ _).trans (ja _ _)).trans kk));clear kk;go_wp2;go_roundw
       case rel=>exact⟨k+1,by omega,by go_num,HX.out,KW.out⟩
       case measure=>simp[intOf];omega
      | false =>
       have HX:=lH (show jF JK l l9=false by rw[←HT.out,HD.out,VO.out,jF,U0.out];rfl);go_wp2_with fail
       refine(HC.out _ ((ja _ _).trans (ja _ _))).mono ?_;rintro e w1 ⟨rfl,kk⟩;have KW:=lH (HK.out.trans (((ja _ _).trans (ja _ _)).trans kk));clear kk;go_wp2;go_ret;exact⟨jd HX.out.symm,KW.out⟩
    · have HX:=lH (show jF JK l l9=true by rw[←hrest,List.drop_of_length_le (by rw[HL.out];omega),List.drop_of_length_le (by rw[Ui.out];omega)];rfl);clear hrest hK;go_wp2;go_ret;exact⟨jd HX.out.symm,HK.out⟩
 · have HX:=lH (show jF JK l l9=false from Xh (by rw[hl,hl9];exact he));have he':((len:Int) != (len9:Int))=true:=by simpa using (fun e:(len:Int)=(len9:Int)=>he (by omega))
   clear hr hr9 he;go_enter Tryz.func45,Tryz.ntmps45;go_wp2;go_ret;exact⟨jd HX.out.symm,Kept.refl _⟩
theorem jje (a b d a9 b9 d9:Option Addr) (len cap m c n e len9 cap9 m9 c9 n9 e9:Nat) (nl nl9:List Nod) (pl pl9:List Pd) (bl bl9:List Bd) (w:World) (h1:jo w a len nl) (h2:jy w b m pl) (h3:j9 w d n bl) (g1:jo w a9 len9 nl9) (g2:jy w b9 m9 pl9) (g3:j9 w d9 n9 bl9) :
 Calls Tryz.prog 15 #[.agg #[.slice a len cap,.slice b m c,.slice d n e],.agg #[.slice a9 len9 cap9,.slice b9 m9 c9,.slice d9 n9 e9]] w (Say (.bool (qB ⟨nl,pl,bl⟩ ⟨nl9,pl9,bl9⟩)) w):=by
 obtain⟨Z,hZ⟩:=eX ((w.alloc (.cells #[.slice a len cap,.slice b m c,.slice d n e] 26)).alloc (.cells #[.slice a9 len9 cap9,.slice b9 m9 c9,.slice d9 n9 e9] 26))
 have hkz:Kept w Z:=by rw[←hZ];exact jn _ _ _
 have HS:=lH (show ∀W,Kept Z W→W.cell? ⟨w.heap.size,0,none⟩=some (.slice a len cap)∧W.cell? ⟨w.heap.size,1,none⟩=some (.slice b m c)∧W.cell? ⟨w.heap.size,2,none⟩=some (.slice d n e)∧W.cell? ⟨w.heap.size+1,0,none⟩=some (.slice a9 len9 cap9)∧W.cell? ⟨w.heap.size+1,1,none⟩=some (.slice b9 m9 c9)∧W.cell? ⟨w.heap.size+1,2,none⟩=some (.slice d9 n9 e9) from fun W k=>by
  have cc:=jc w (.slice a len cap) [.slice b m c,.slice d n e] 26 W (by rw[←hZ] at k;exact(ja _ _).trans k);have dd:=jc (w.alloc (.cells #[.slice a len cap,.slice b m c,.slice d n e] 26)) (.slice a9 len9 cap9) [.slice b9 m9 c9,.slice d9 n9 e9] 26 W (by rw[hZ];exact k);rw[World.size_alloc] at dd;exact⟨cc.at_ 0 _ rfl,cc.at_ 1 _ rfl,cc.at_ 2 _ rfl,dd.at_ 0 _ rfl,dd.at_ 1 _ rfl,dd.at_ 2 _ rfl⟩)
 obtain⟨e1,he1⟩:=eX (jF Ji nl nl9)
 obtain⟨e2,he2⟩:=eX (jF zi pl pl9)
 obtain⟨e3,he3⟩:=eX (jF JK bl bl9)
 obtain⟨HV,H1,H2,H3⟩:=lH4 (show qB ⟨nl,pl,bl⟩ ⟨nl9,pl9,bl9⟩=(e1&&(e2&&e3)) by unfold qB;dsimp only;rw[he1,he2,he3]) (fun W (k:Kept Z W)=>jmi a a9 len cap len9 cap9 nl nl9 W (h1.kept (hkz.trans k)) (g1.kept (hkz.trans k))) (fun W (k:Kept Z W)=>jmq b b9 m c m9 c9 pl pl9 W (h2.kept (hkz.trans k)) (g2.kept (hkz.trans k))) (fun W (k:Kept Z W)=>jlp d d9 n e n9 e9 bl bl9 W (h3.kept (hkz.trans k)) (g3.kept (hkz.trans k)));rw[he1] at H1;rw[he2] at H2;rw[he3] at H3;have Vc:=lH hkz;clear h1 h2 h3 g1 g2 g3 hkz he1 he2 he3;obtain⟨o0,o1,o2,o3,o4,o5⟩:=HS.out _ (Kept.refl _);go_enter Tryz.func15,Tryz.ntmps15;go_wp2_with fail
 try rw[hZ]
 refine(H1.out _ (Kept.refl _)).mono ?_;rintro e w1 ⟨rfl,kk⟩;have J1:=lH kk;clear kk o0 o1 o2 o3 o4 o5;obtain⟨o0,o1,o2,o3,o4,o5⟩:=HS.out _ J1.out
 cases e1 with
 | false =>
  go_wp2;go_ret;exact⟨jd HV.out.symm,Vc.out.trans J1.out⟩
 | true =>
  go_wp2_with fail
  try rw[hZ]
  refine(H2.out _ J1.out).mono ?_;rintro e w2 ⟨rfl,kk⟩;have J2:=lH (J1.out.trans kk);clear kk o0 o1 o2 o3 o4 o5;obtain⟨o0,o1,o2,o3,o4,o5⟩:=HS.out _ J2.out
  cases e2 with
  | false =>
   go_wp2;go_ret;exact⟨jd HV.out.symm,Vc.out.trans J2.out⟩
  | true =>
   go_wp2_with fail
   try rw[hZ]
   refine(H3.out _ J2.out).mono ?_;rintro e w3 ⟨rfl,kk⟩;have J3:=lH (J2.out.trans kk);clear kk;go_wp2;go_ret;exact⟨jd HV.out.symm,Vc.out.trans J3.out⟩
theorem jmW {v u:Value} {s t:Clu} {c:Bool} {w:World} (h:jC w v s) (g:jC w u t) (hc:qB s t=c):Calls Tryz.prog 15 #[v,u] w (Say (.bool c) w):=by
 subst hc;obtain⟨v1,v2,v3,rfl,⟨a,cap,rfl,_,_,h1⟩,⟨b,cp,rfl,_,_,h2⟩,⟨d,cb,rfl,_,_,h3⟩⟩:=h;obtain⟨u1,u2,u3,rfl,⟨a9,cap9,rfl,_,_,g1⟩,⟨b9,cp9,rfl,_,_,g2⟩,⟨d9,cb9,rfl,_,_,g3⟩⟩:=g;exact jje a b d a9 b9 d9 _ cap _ cp _ cb _ cap9 _ cp9 _ cb9 s.nodes t.nodes s.pods t.pods s.buds t.buds w h1 h2 h3 g1 g2 g3
def Z6 (n:Nod):Bool:=decide (n.name.size≤50)&&(Vec.YN n.cap&&(YB n.labels&&Zk n.taints))
theorem jns {n:Nod} (h:Z6 n=true):zP n:=by
 unfold Z6 at h;simp only[Bool.and_eq_true,decide_eq_true_eq] at h;obtain⟨_,h1,h2,h3⟩:=h;refine⟨?_,?_,?_⟩
 · unfold Vec.YN at h1;simp only[Bool.and_eq_true,decide_eq_true_eq] at h1;omega
 · unfold YB at h2;simp only[Bool.and_eq_true,decide_eq_true_eq] at h2;omega
 · have:=(jhW h3).1;omega
theorem jih (n:Nod) (v1 v2 v3:Value) (w:World) (h:zr w v1 v2 v3 n) :
 Calls Tryz.prog 60 #[zj n v1 v2 v3] w (Say (.bool (Z6 n)) w):=by
 have HB:=lH (show ∀W,Kept (w.alloc (.cells #[.string n.name,v1,v2,v3,.bool n.cordon] 57)) W→W.cell? ⟨w.heap.size,0,none⟩=some (.string n.name)∧W.cell? ⟨w.heap.size,1,none⟩=some v1∧W.cell? ⟨w.heap.size,2,none⟩=some v2∧W.cell? ⟨w.heap.size,3,none⟩=some v3∧W.cell? ⟨w.heap.size,4,none⟩=some (.bool n.cordon) from fun W k=>(Xl w _ _ _ _ _ 57 W k).1);have H:=lH (h.kept (ja w (.cells #[.string n.name,v1,v2,v3,.bool n.cordon] 57)));obtain⟨⟨nm,l1,l2,l3,cd⟩,hnn⟩:∃m,m=n:=⟨n,rfl⟩
 subst hnn;have hsz:nm.size≤maxLen:=h.size;unfold maxLen at hsz;obtain⟨b1,hb1⟩:=eX (Vec.YN l1)
 obtain⟨b2,hb2⟩:=eX (YB l2)
 obtain⟨b3,hb3⟩:=eX (Zk l3)
 obtain⟨HV,H1,H2,H3⟩:=lH4 (show Z6 ⟨nm,l1,l2,l3,cd⟩=(decide (nm.size≤50)&&(b1&&(b2&&b3))) by unfold Z6;dsimp only;rw[hb1,hb2,hb3]) (Vec.jfj H.out.cap hb1) (show Calls Tryz.prog 121 #[v2] _ fun e w'=>e=.returned (.bool b2)∧_=w' by rw[←hb2];exact jfj H.out.labels) (show Calls Tryz.prog 122 #[v3] _ fun e w'=>e=.returned (.bool b3)∧_=w' by rw[←hb3];exact joa H.out.taints);clear h hb1 hb2 hb3 H;dsimp only at HB H1 H2 H3;obtain⟨y0,y1,y2,y3,y4⟩:=HB.out _ (Kept.refl _);unfold zj;dsimp only;by_cases hs:nm.size≤50
 · have hs':decide (nm.size≤50)=true:=decide_eq_true hs;have hsi:(nm.size:Int)≤50:=by omega
   cases b1 with
   | false =>
    go_enter Tryz.func60,Tryz.ntmps60;go_wp2_with fail
    refine H1.out.mono ?_;rintro e w' ⟨rfl,rfl⟩;go_wp2;go_ret;exact⟨jd (by rw[HV.out,hs'];rfl),ja _ _⟩
   | true =>
    cases b2 with
    | false =>
     go_enter Tryz.func60,Tryz.ntmps60;go_wp2_with fail
     refine H1.out.mono ?_;rintro e w' ⟨rfl,rfl⟩;go_wp2_with fail
     refine H2.out.mono ?_;rintro e w' ⟨rfl,rfl⟩;go_wp2;go_ret;exact⟨jd (by rw[HV.out,hs'];rfl),ja _ _⟩
    | true =>
     go_enter Tryz.func60,Tryz.ntmps60;go_wp2_with fail
     refine H1.out.mono ?_;rintro e w' ⟨rfl,rfl⟩;go_wp2_with fail
     refine H2.out.mono ?_;rintro e w' ⟨rfl,rfl⟩;go_wp2_with fail
     refine H3.out.mono ?_;rintro e w' ⟨rfl,rfl⟩;go_wp2;go_ret;exact⟨jd (by rw[HV.out,hs'];cases b3<;>rfl),ja _ _⟩
 · have hs':decide (nm.size≤50)=false:=decide_eq_false hs;have hsi:(50:Int)<(nm.size:Int):=by omega
   go_enter Tryz.func60,Tryz.ntmps60;go_wp2;go_ret;exact⟨jd (by rw[HV.out,hs'];rfl),ja _ _⟩
theorem jno {v:Value} {n:Nod} {b:Bool} {w:World} (h:qY w v n) (hb:Z6 n=b):Calls Tryz.prog 60 #[v] w (Say (.bool b) w):=by
 subst hb;obtain⟨v1,v2,v3,rfl,h⟩:=h;exact jih n v1 v2 v3 w h
theorem jh8 {l:PL} (h:YB l=true):l.length≤20∧∀x ∈ l,x.1.size≤50∧x.2.size≤50:=by
 unfold YB at h;simp only[Bool.and_eq_true,decide_eq_true_eq,List.all_eq_true] at h;refine⟨h.1,fun x hx=>?_⟩;have:=h.2 x hx;unfold Y0 at this;simpa only[Bool.and_eq_true,decide_eq_true_eq] using this
theorem jiM {l:TL} (h:YA l=true):l.length≤20∧∀x ∈ l,x.2.1.size≤50∧x.2.2.size≤50:=by
 unfold YA at h;simp only[Bool.and_eq_true,decide_eq_true_eq,List.all_eq_true] at h;refine⟨h.1,fun x hx=>?_⟩;have:=h.2 x hx;unfold Y4 at this;simpa only[Bool.and_eq_true,decide_eq_true_eq] using this
def JC (n:Pd):Bool:=decide (n.name.size≤50)&&(decide (n.owner.size≤50)&&(decide (n.key.size≤50)&&(decide (n.node.size≤50)&&(Vec.YN n.need&&(YB n.labels&&(YA n.sel&&Zk n.tols))))))
theorem jhi {n:Pd} (h:JC n=true):n.name.size≤50∧n.owner.size≤50∧n.key.size≤50∧n.node.size≤50∧Vec.YN n.need=true∧YB n.labels=true∧YA n.sel=true∧Zk n.tols=true:=by
 unfold JC at h;simpa only[Bool.and_eq_true,decide_eq_true_eq] using h
def Xt (n:Bd):Bool:=decide (n.name.size≤50)&&YA n.sel
def ZN (l:List Bd):Bool:=decide (l.length≤20)&&l.all Xt
theorem jgc {l:List Bd} {n:Bd} {k:Nat} (h:l[k]?=some n) (g:Xt n=false):ZN l=false:=by
 unfold ZN;have:l.all Xt=false:=by
  rw[List.all_eq_false];exact⟨n,List.mem_of_getElem? h,by rw[g];decide⟩
 rw[this];simp
theorem jkh (a:Option Addr) (len cap:Nat) (l:List Bd) (w:World) (hr:j9 w a len l) :
 Calls Tryz.prog 59 #[.slice a len cap] w (Say (.bool (ZN l)) w):=by
 have hl:=hr.1;have hm:=hr.2.1;unfold maxLen at hm;by_cases h20:20<len
 · have HV:=lH (show ZN l=false by unfold ZN;rw[hl];simp;omega);clear hr hl;go_enter Tryz.func59,Tryz.ntmps59;go_wp2;go_ret;exact⟨jd HV.out.symm,Kept.refl _⟩
 · have h20':len≤20:=by omega
   by_cases h0:len=0
   · subst h0;have HV:=lH (show ZN l=true by rw[List.eq_nil_of_length_eq_zero hl];rfl);clear hr hl h20;go_enter Tryz.func59,Tryz.ntmps59;go_wp2;refine wp_loop_rounds 1 ?_;rw[rounds_succ];go_wp2;go_ret;exact⟨jd HV.out.symm,Kept.refl _⟩
   · obtain⟨b,off,rfl⟩:=hr.form.resolve_left h0;have HR:=lH hr;have HL:=lH hl;clear hr hl h0 h20;go_enter Tryz.func59,Tryz.ntmps59;go_wp2;go_loopw [3] (fun i wr=>∃k:Nat,k≤len∧i=.int .i64 k∧(∀n ∈ l.take k,Xt n=true)∧Kept w wr) (fun i _=>len-(intOf i).toNat)
     case atStart=>exact⟨0,Nat.zero_le _,rfl,(fun n h=>by cases h),Kept.refl _⟩
     case round =>
      obtain⟨k,hk,rfl,hrest,hK⟩:=hrel;have HS:=lH hrest;have HK:=lH hK;by_cases hlt:k<len
      · obtain⟨n,a1,m1,c1,hn,hd,hb,p0,p1,p2,hat⟩:=(HR.out.kept hK).at_ hlt;have HN:=lH hn;have VH:=lH hat;clear hrest hK hat hd hn;by_cases z:50<n.name.size
        · have z1:(50:Int)<(n.name.size:Int):=by omega
          have HV:=lH (show ZN l=false from jgc HN.out (by unfold Xt;simp;omega));clear z;go_wp2;go_ret;exact⟨jd HV.out.symm,HK.out⟩
        · have z1:(n.name.size:Int)≤50:=by omega
          have Z2:=lH (show n.name.size≤50 by omega);clear z
          cases f:YA n.sel with
          | false =>
           have HV:=lH (show ZN l=false from jgc HN.out (by unfold Xt;rw[f];simp));have HF:=lH (jdI VH.out.sel);rw[f] at HF;clear f;go_wp2_with fail
           refine HF.out.mono ?_;rintro e w1 ⟨rfl,rfl⟩;go_wp2;go_ret;exact⟨jd HV.out.symm,HK.out⟩
          | true =>
           have HV:=lH (show Xt n=true by unfold Xt;rw[f];simp;exact Z2.out);have HF:=lH (jdI VH.out.sel);rw[f] at HF;clear f;go_wp2_with fail
           refine HF.out.mono ?_;rintro e w1 ⟨rfl,rfl⟩;go_wp2;go_roundw
           case rel=>exact⟨k+1,by omega,by go_num,(fun x hx=>by
            rw[zI HN.out] at hx;rcases List.mem_append.1 hx with hx | hx
            · exact HS.out x hx
            · obtain rfl:x=n:=by simpa using hx
              exact HV.out),HK.out⟩
           case measure=>simp[intOf];omega
      · have HV:=lH (show ZN l=true by
         have e:l.take k=l:=List.take_of_length_le (by rw[HL.out];omega);rw[e] at hrest;unfold ZN;rw[List.all_eq_true.2 hrest,HL.out];simp;omega)
        clear hrest hK;go_wp2;go_ret;exact⟨jd HV.out.symm,HK.out⟩
theorem jn4 {v:Value} {l:List Bd} {c:Bool} {w:World} (h:Zf w v l) (hc:ZN l=c):Calls Tryz.prog 59 #[v] w (Say (.bool c) w):=by
 subst hc;obtain⟨a,cap,rfl,_,_,hr⟩:=h;exact jkh a _ cap l w hr
theorem jjV (n:Pd) (v1 v2 v3 v4:Value) (w:World) (h:ji w v1 v2 v3 v4 n) :
 Calls Tryz.prog 61 #[jx n v1 v2 v3 v4] w (Say (.bool (JC n)) w):=by
 obtain⟨x0,x1,x2,l1,l2,l3,l4,x3,x4,x5,x6⟩:=n;obtain⟨W0,hW0⟩:=eX (w.alloc (.cells #[.string x0,.string x1,.int .i64 x2,v1,v2,v3,v4,.string x3,.int .i64 x4,.string x5,.bool x6] 44))
 have hk0:Kept w W0:=by rw[←hW0];exact ja _ _
 have hc:=jc w (.string x0) [.string x1,.int .i64 x2,v1,v2,v3,v4,.string x3,.int .i64 x4,.string x5,.bool x6] 44 W0 (by rw[hW0];exact Kept.refl _);have s0:x0.size≤maxLen:=h.name;have s1:x1.size≤maxLen:=h.owner;have s2:x3.size≤maxLen:=h.key;have s3:x5.size≤maxLen:=h.node;unfold maxLen at s0 s1 s2 s3;obtain⟨b0,hb0⟩:=eX (decide (x0.size≤50))
 obtain⟨b1,hb1⟩:=eX (decide (x1.size≤50))
 obtain⟨b2,hb2⟩:=eX (decide (x3.size≤50))
 obtain⟨b3,hb3⟩:=eX (decide (x5.size≤50))
 obtain⟨b4,hb4⟩:=eX (Vec.YN l1)
 obtain⟨b5,hb5⟩:=eX (YB l2)
 obtain⟨b6,hb6⟩:=eX (YA l3)
 obtain⟨b7,hb7⟩:=eX (Zk l4)
 obtain⟨VI,E4,E5,E6,E7,Va⟩:=lH6 (show JC ⟨x0,x1,x2,l1,l2,l3,l4,x3,x4,x5,x6⟩=(b0&&(b1&&(b2&&(b3&&(b4&&(b5&&(b6&&b7))))))) by unfold JC;dsimp only;rw[hb0,hb1,hb2,hb3,hb4,hb5,hb6,hb7]) (show Calls Tryz.prog 120 #[v1] W0 _ from Vec.jfj (h.need.kept hk0) hb4) (show Calls Tryz.prog 121 #[v2] W0 fun e w'=>e=.returned (.bool b5)∧W0=w' by rw[←hb5];exact jfj (h.labels.kept hk0)) (show Calls Tryz.prog 119 #[v3] W0 fun e w'=>e=.returned (.bool b6)∧W0=w' by rw[←hb6];exact jdI (h.sel.kept hk0)) (show Calls Tryz.prog 123 #[v4] W0 fun e w'=>e=.returned (.bool b7)∧W0=w' by rw[←hb7];exact joh (h.tols.kept hk0)) hk0;have g0:decide ((x0.size:Int)≤50)=b0:=by rw[←hb0];simp only[decide_eq_decide];omega
 have g1:decide ((x1.size:Int)≤50)=b1:=by rw[←hb1];simp only[decide_eq_decide];omega
 have g2:decide ((x3.size:Int)≤50)=b2:=by rw[←hb2];simp only[decide_eq_decide];omega
 have g3:decide ((x5.size:Int)≤50)=b3:=by rw[←hb3];simp only[decide_eq_decide];omega
 have c0:=hc.at_ 0 _ rfl;have c1:=hc.at_ 1 _ rfl;have c3:=hc.at_ 3 _ rfl;have c4:=hc.at_ 4 _ rfl;have c5:=hc.at_ 5 _ rfl;have c6:=hc.at_ 6 _ rfl;have c7:=hc.at_ 7 _ rfl;have c9:=hc.at_ 9 _ rfl;clear hk0 h hc hb0 hb1 hb2 hb3 hb4 hb5 hb6 hb7;unfold jx;dsimp only
 cases b0 with
 | false =>
  have g0:50<(x0.size:Int):=by have:=of_decide_eq_false g0;omega
  have HV:=lH (show JC ⟨x0,x1,x2,l1,l2,l3,l4,x3,x4,x5,x6⟩=false by rw[VI.out];simp);go_enter Tryz.func61,Tryz.ntmps61;go_wp2;try rw[hW0]
  go_ret;exact⟨jd HV.out.symm,Va.out⟩
 | true =>
  have g0:(x0.size:Int)≤50:=of_decide_eq_true g0
  cases b1 with
  | false =>
   have g1:50<(x1.size:Int):=by have:=of_decide_eq_false g1;omega
   have HV:=lH (show JC ⟨x0,x1,x2,l1,l2,l3,l4,x3,x4,x5,x6⟩=false by rw[VI.out];simp);go_enter Tryz.func61,Tryz.ntmps61;go_wp2;try rw[hW0]
   go_ret;exact⟨jd HV.out.symm,Va.out⟩
  | true =>
   have g1:(x1.size:Int)≤50:=of_decide_eq_true g1
   cases b2 with
   | false =>
    have g2:50<(x3.size:Int):=by have:=of_decide_eq_false g2;omega
    have HV:=lH (show JC ⟨x0,x1,x2,l1,l2,l3,l4,x3,x4,x5,x6⟩=false by rw[VI.out];simp);go_enter Tryz.func61,Tryz.ntmps61;go_wp2;try rw[hW0]
    go_ret;exact⟨jd HV.out.symm,Va.out⟩
   | true =>
    have g2:(x3.size:Int)≤50:=of_decide_eq_true g2
    cases b3 with
    | false =>
     have g3:50<(x5.size:Int):=by have:=of_decide_eq_false g3;omega
     have HV:=lH (show JC ⟨x0,x1,x2,l1,l2,l3,l4,x3,x4,x5,x6⟩=false by rw[VI.out];simp);go_enter Tryz.func61,Tryz.ntmps61;go_wp2;try rw[hW0]
     go_ret;exact⟨jd HV.out.symm,Va.out⟩
    | true =>
     have g3:(x5.size:Int)≤50:=of_decide_eq_true g3
     cases b4 with
     | false =>
      have HV:=lH (show JC ⟨x0,x1,x2,l1,l2,l3,l4,x3,x4,x5,x6⟩=false by rw[VI.out];simp);go_enter Tryz.func61,Tryz.ntmps61;go_wp2_with fail
      try rw[hW0]
      refine E4.out.mono ?_;rintro e w9 ⟨rfl,rfl⟩;go_wp2;go_ret;exact⟨jd HV.out.symm,Va.out⟩
     | true =>
      cases b5 with
      | false =>
       have HV:=lH (show JC ⟨x0,x1,x2,l1,l2,l3,l4,x3,x4,x5,x6⟩=false by rw[VI.out];simp);go_enter Tryz.func61,Tryz.ntmps61;go_wp2_with fail
       try rw[hW0]
       refine E4.out.mono ?_;rintro e w9 ⟨rfl,rfl⟩;go_wp2_with fail
       refine E5.out.mono ?_;rintro e w9 ⟨rfl,rfl⟩;go_wp2;go_ret;exact⟨jd HV.out.symm,Va.out⟩
      | true =>
       cases b6 with
       | false =>
        have HV:=lH (show JC ⟨x0,x1,x2,l1,l2,l3,l4,x3,x4,x5,x6⟩=false by rw[VI.out];simp);go_enter Tryz.func61,Tryz.ntmps61;go_wp2_with fail
        try rw[hW0]
        refine E4.out.mono ?_;rintro e w9 ⟨rfl,rfl⟩;go_wp2_with fail
        refine E5.out.mono ?_;rintro e w9 ⟨rfl,rfl⟩;go_wp2_with fail
        refine E6.out.mono ?_;rintro e w9 ⟨rfl,rfl⟩;go_wp2;go_ret;exact⟨jd HV.out.symm,Va.out⟩
       | true =>
        have HV:=lH (show JC ⟨x0,x1,x2,l1,l2,l3,l4,x3,x4,x5,x6⟩=b7 by rw[VI.out];rfl);go_enter Tryz.func61,Tryz.ntmps61;go_wp2_with fail
        try rw[hW0]
        refine E4.out.mono ?_;rintro e w9 ⟨rfl,rfl⟩;go_wp2_with fail
        refine E5.out.mono ?_;rintro e w9 ⟨rfl,rfl⟩;go_wp2_with fail
        refine E6.out.mono ?_;rintro e w9 ⟨rfl,rfl⟩;go_wp2_with fail
        refine E7.out.mono ?_;rintro e w9 ⟨rfl,rfl⟩;go_wp2;go_ret;exact⟨jd HV.out.symm,Va.out⟩
theorem jnv {v:Value} {n:Pd} {b:Bool} {w:World} (h:jba w v n) (hb:JC n=b):Calls Tryz.prog 61 #[v] w (Say (.bool b) w):=by
 subst hb;obtain⟨v1,v2,v3,v4,rfl,h⟩:=h;exact jjV n v1 v2 v3 v4 w h
def qc (s:Clu):Bool:=decide (s.nodes.length≤34)&&(decide (s.pods.length≤130)&&(ZN s.buds&&(s.nodes.all Z6&&s.pods.all JC)))
theorem qT {a:Option Addr} {len cap:Nat} {l:List Nod} {w:World} (h1:len≤cap) (h2:cap≤maxLen) (h:jo w a len l):Jz w (.slice a len cap) l:=⟨a,cap,by rw[h.1],by rw[h.1];exact h1,h2,by rw[h.1];exact h⟩
theorem jhF {a:Option Addr} {len cap:Nat} {l:List Pd} {w:World} (h1:len≤cap) (h2:cap≤maxLen) (h:jy w a len l):Jo w (.slice a len cap) l:=⟨a,cap,by rw[h.1],by rw[h.1];exact h1,h2,by rw[h.1];exact h⟩
theorem jdA {a:Option Addr} {len cap:Nat} {l:List Bd} {w:World} (h1:len≤cap) (h2:cap≤maxLen) (h:j9 w a len l):Zf w (.slice a len cap) l:=⟨a,cap,by rw[h.1],by rw[h.1];exact h1,h2,by rw[h.1];exact h⟩
theorem jhv {α:Type} {f:α→Bool} {l:List α} {k:Nat} {x:α} (hd:l.drop k=x::l.drop (k+1)) (h:f x=true) (hr:(l.drop k).all f=l.all f):(l.drop (k+1)).all f=l.all f:=by
 rw[←hr,hd,List.all_cons,h,Bool.true_and]
theorem je9 {α:Type} {f:α→Bool} {l:List α} {k:Nat} {x:α} (hd:l.drop k=x::l.drop (k+1)) (h:f x=false) (hr:(l.drop k).all f=l.all f):l.all f=false:=by
 rw[←hr,hd,List.all_cons,h,Bool.false_and]
theorem jhx {α:Type} {f:α→Bool} {l:List α} {k:Nat} (h:l.length≤k) (hr:(l.drop k).all f=l.all f):l.all f=true:=by
 rw[←hr,List.drop_of_length_le h];rfl
theorem jnz {v:Value} {s:Clu} {c:Bool} {w:World} (h:jC w v s) (hc:qc s=c):Calls Tryz.prog 22 #[v] w (Say (.bool c) w):=by
 subst hc;obtain⟨v1,v2,v3,rfl,⟨a,cap,rfl,l1,m1,h1⟩,⟨b,cp,rfl,l2,m2,h2⟩,⟨d,cb,rfl,l3,m3,h3⟩⟩:=h;obtain⟨nl,pl,bl⟩:=s;dsimp only at *;obtain⟨len,hlen⟩:=eX (nl.length)
 obtain⟨m,hm⟩:=eX (pl.length)
 obtain⟨n,hn⟩:=eX (bl.length)
 rw[hlen] at h1 l1;rw[hm] at h2 l2;rw[hn] at h3 l3;try rw[hlen]
 try rw[hm]
 try rw[hn]
 skip;obtain⟨Z,hZ⟩:=eX (w.alloc (.cells #[.slice a len cap,.slice b m cp,.slice d n cb] 26))
 have hkz:Kept w Z:=by rw[←hZ];exact ja _ _
 have HQ:=lH (show jf w.heap.size [.slice a len cap,.slice b m cp,.slice d n cb] Z from jc w (.slice a len cap) [.slice b m cp,.slice d n cb] 26 Z (by rw[hZ];exact Kept.refl _));obtain⟨e3,he3⟩:=eX (ZN bl)
 obtain⟨HB,HV,HN,HP,Vc,RK,Uq,UG⟩:=lH8 (jn4 (jdA l3 m3 (h3.kept hkz)) he3) (show qc ⟨nl,pl,bl⟩=(decide (len≤34)&&(decide (m≤130)&&(e3&&(nl.all Z6&&pl.all JC)))) by unfold qc;dsimp only;rw[hlen,hm,he3]) (h1.kept hkz) (h2.kept hkz) hkz (Nat.le_trans l1 m1) (Nat.le_trans l2 m2) hlen;have Tq:=lH hm;have hml1:=Nat.le_trans l1 m1;have hml2:=Nat.le_trans l2 m2;unfold maxLen at hml1 hml2;clear h1 h2 h3 l1 l2 l3 m1 m2 m3 he3 hkz;obtain⟨cq0,cq1,cq2⟩:=HQ.out.at3;by_cases hA:34<len
 · have HX:=lH (HV.out.trans (by rw[decide_eq_false (show ¬len≤34 by omega),Bool.false_and]));have hA':(34:Int)<(len:Int):=by omega
   rw[HX.out];go_enter Tryz.func22,Tryz.ntmps22;go_wp2;try rw[hZ]
   go_ret;exact⟨rfl,Vc.out⟩
 by_cases hB:130<m
 · have HX:=lH (HV.out.trans (by rw[decide_eq_true (show len≤34 by omega),decide_eq_false (show ¬m≤130 by omega),Bool.false_and,Bool.and_false]));have hA':¬(34:Int)<(len:Int):=by omega
   have hB':(130:Int)<(m:Int):=by omega
   rw[HX.out];go_enter Tryz.func22,Tryz.ntmps22;go_wp2;try rw[hZ]
   go_ret;exact⟨rfl,Vc.out⟩
 have hA':¬(34:Int)<(len:Int):=by omega
 have hB':¬(130:Int)<(m:Int):=by omega
 have HX:=lH (HV.out.trans (by rw[decide_eq_true (show len≤34 by omega),decide_eq_true (show m≤130 by omega),Bool.true_and,Bool.true_and]));rw[HX.out];clear HV HX;go_enter Tryz.func22,Tryz.ntmps22;go_wp2_with fail
 try rw[hZ]
 clear hZ;refine HB.out.mono ?_;rintro e w1 ⟨rfl,kk⟩;have KW:=lH kk;clear kk cq0 cq1 cq2 HB
 cases e3 with
 | false =>
  go_wp2;go_ret;exact⟨rfl,Vc.out.trans KW.out⟩
 | true =>
  have cq0:=(HQ.out.kept KW.out).at_ 0 _ rfl;have cq1:=(HQ.out.kept KW.out).at_ 1 _ rfl;have cq2:=(HQ.out.kept KW.out).at_ 2 _ rfl;go_wp2;go_loopw [3] (fun i wr=>∃k:Nat,k≤len∧i=.int .i64 k∧(nl.drop k).all Z6=nl.all Z6∧Kept Z wr) (fun i _=>len-(intOf i).toNat)
  case atStart=>exact⟨0,Nat.zero_le _,rfl,rfl,KW.out⟩
  case round =>
   clear cq0 cq1 cq2;obtain⟨k,hk,rfl,hrest,hK⟩:=hrel;have HS:=lH hrest;have KN:=lH hK;have cq0:=(HQ.out.kept hK).at_ 0 _ rfl;have cq1:=(HQ.out.kept hK).at_ 1 _ rfl;have cq2:=(HQ.out.kept hK).at_ 2 _ rfl;by_cases hlt:k<len
   · obtain⟨b9,off,rfl⟩:=HN.out.form.resolve_left (by omega);obtain⟨n9,x1,y1,z1,x2,y2,z2,x3,y3,z3,hn,hd,hb,p0,p1,p2,p3,p4,hat⟩:=(HN.out.kept hK).at_ hlt;have HD:=lH hd;obtain⟨t,ht⟩:=eX (Z6 n9)
     have HT:=lH ht;have HC:=lH (show Calls Tryz.prog 60 #[zj n9 (.slice x1 y1 z1) (.slice x2 y2 z2) (.slice x3 y3 z3)] wr (Say (.bool t) wr) from jno ⟨_,_,_,rfl,hat⟩ ht);unfold zj at HC;have hkk:(k:Int)<(len:Int):=by omega
     clear hrest hK hat hn hd ht
     cases t with
     | false =>
      have HF:=lH (je9 HD.out HT.out HS.out);go_wp2_with fail
      refine HC.out.mono ?_;rintro e w9 ⟨rfl,kk⟩;have KW:=lH (KN.out.trans kk);clear kk;go_wp2;go_ret;exact⟨by rw[HF.out];simp,Vc.out.trans KW.out⟩
     | true =>
      have HF:=lH (jhv HD.out HT.out HS.out);go_wp2_with fail
      refine HC.out.mono ?_;rintro e w9 ⟨rfl,kk⟩;have KW:=lH (KN.out.trans kk);clear kk cq0 cq1 cq2;go_wp2;go_roundw
      case rel=>exact⟨k+1,by omega,by go_num,HF.out,KW.out⟩
      case measure=>simp[intOf];omega
   · have Rf:=lH (jhx (by rw[UG.out];omega) hrest);have hkk:¬(k:Int)<(len:Int):=by omega
     clear hrest hK;clear cq0 cq1 cq2;have cq0:=(HQ.out.kept KN.out).at_ 0 _ rfl;have cq1:=(HQ.out.kept KN.out).at_ 1 _ rfl;have cq2:=(HQ.out.kept KN.out).at_ 2 _ rfl;go_wp2;go_loopw [4] (fun i wr=>∃k:Nat,k≤m∧i=.int .i64 k∧(pl.drop k).all JC=pl.all JC∧Kept Z wr) (fun i _=>m-(intOf i).toNat)
     case atStart=>exact⟨0,Nat.zero_le _,rfl,rfl,KN.out⟩
     case round =>
      clear cq0 cq1 cq2;obtain⟨k,hk,rfl,hrest,hK⟩:=hrel;have HS:=lH hrest;have KP:=lH hK;have cq0:=(HQ.out.kept hK).at_ 0 _ rfl;have cq1:=(HQ.out.kept hK).at_ 1 _ rfl;have cq2:=(HQ.out.kept hK).at_ 2 _ rfl;by_cases hlt:k<m
      · obtain⟨b9,off,rfl⟩:=HP.out.form.resolve_left (by omega);obtain⟨n9,x1,y1,z1,x2,y2,z2,x3,y3,z3,x4,y4,z4,hn,hd,hb,p0,p1,p2,p3,p4,p5,p6,p7,p8,p9,p10,hat⟩:=(HP.out.kept hK).at_ hlt;have HD:=lH hd;obtain⟨t,ht⟩:=eX (JC n9)
        have HT:=lH ht;have HC:=lH (show Calls Tryz.prog 61 #[jx n9 (.slice x1 y1 z1) (.slice x2 y2 z2) (.slice x3 y3 z3) (.slice x4 y4 z4)] wr (Say (.bool t) wr) from jnv ⟨_,_,_,_,rfl,hat⟩ ht);unfold jx at HC;have hkk:(k:Int)<(m:Int):=by omega
        clear hrest hK hat hn hd ht
        cases t with
        | false =>
         have HF:=lH (je9 HD.out HT.out HS.out);go_wp2_with fail
         refine HC.out.mono ?_;rintro e w9 ⟨rfl,kk⟩;have KW:=lH (KP.out.trans kk);clear kk;go_wp2;go_ret;exact⟨by rw[HF.out];simp,Vc.out.trans KW.out⟩
        | true =>
         have HF:=lH (jhv HD.out HT.out HS.out);go_wp2_with fail
         refine HC.out.mono ?_;rintro e w9 ⟨rfl,kk⟩;have KW:=lH (KP.out.trans kk);clear kk cq0 cq1 cq2;go_wp2;go_roundw
         case rel=>exact⟨k+1,by omega,by go_num,HF.out,KW.out⟩
         case measure=>simp[intOf];omega
      · have Rg:=lH (jhx (by rw[Tq.out];omega) hrest);have hkk:¬(k:Int)<(m:Int):=by omega
        clear hrest hK;go_wp2;go_ret;exact⟨by rw[Rf.out,Rg.out];rfl,Vc.out.trans KP.out⟩
theorem jkr (a:Option Addr) (len cap:Nat) (l:List Nod) (x:ByteArray) (w:World) (hr:jo w a len l) :
 Calls Tryz.prog 65 #[.slice a len cap,.string x] w fun e w'=>∃v,e=.returned (.tuple #[v,.bool (jl l x).isSome])∧qY w' v ((jl l x).getD Nod.zero)∧Kept w w':=by
 have hl:=hr.1;have hm:=hr.2.1;unfold maxLen at hm;obtain⟨Z,hZ⟩:=eX (w.alloc (.cells #[.string ⟨#[]⟩,.slice none 0 0,.slice none 0 0,.slice none 0 0,.bool false] 121))
 have hkz:Kept w Z:=by rw[←hZ];exact ja _ _
 obtain⟨HQ,HH,Vc,HR,HL⟩:=lH5 (show zA w.heap.size (.string ⟨#[]⟩) (.slice none 0 0) (.slice none 0 0) (.slice none 0 0) (.bool false) Z from Xl w _ _ _ _ _ 121 Z (by rw[hZ];exact Kept.refl _)) (show Z.heap[w.heap.size]?=some (.cells #[.string ⟨#[]⟩,.slice none 0 0,.slice none 0 0,.slice none 0 0,.bool false] 121) by rw[←hZ];exact w.alloc_heap_new _) hkz (hr.kept hkz) hl;obtain⟨⟨y0,y1,y2,y3,y4⟩,x0,x1,x2,x3,x4⟩:=HQ.out;have P0:=lH (ZC ⟨y0,y1,y2,y3,y4⟩ ⟨#[]⟩ none none none 0 0 0 0 0 0 false);by_cases h0:len=0
 · subst h0;have hl0:l=[]:=List.eq_nil_of_length_eq_zero hl;have HF:=lH (show jl l x=none by rw[hl0];rfl);clear hr hl hkz;go_enter Tryz.func65,Tryz.ntmps65;go_wp2;try rw[hZ]
   clear hZ;refine wp_loop_rounds 1 ?_;rw[rounds_succ];go_wp2;obtain⟨WE,hWE⟩:=eX ((((((Z.setCell ⟨w.heap.size,0,none⟩ (.string ⟨#[]⟩)).setCell ⟨w.heap.size,1,none⟩ (.slice none 0 0)).setCell ⟨w.heap.size,2,none⟩ (.slice none 0 0)).setCell ⟨w.heap.size,3,none⟩ (.slice none 0 0)).setCell ⟨w.heap.size,4,none⟩ (.bool false)))
   rw[hWE] at P0 ⊢;clear hWE y0 y1 y2 y3 y4 x0 x1 x2 x3 x4;obtain⟨⟨e0,e1,e2,e3,e4⟩,hsz,hbl,hkp⟩:=P0.out;refine bodyPost_ret (by simp[results,Tryz.results65,go_sem,e0,e1,e2,e3,e4];try rfl) rfl ?_;rw[HF.out];exact⟨_,rfl,(jak 0 _).toR,hkp _ _ (Nat.le_refl _) Vc.out⟩
 · obtain⟨b,off,rfl⟩:=hr.form.resolve_left h0;clear hr hl hkz h0;go_enter Tryz.func65,Tryz.ntmps65;go_wp2;try rw[hZ]
   clear hZ;go_loop [6] (fun i=>∃k:Nat,k≤len∧i=.int .i64 k∧jl (l.drop k) x=jl l x) (fun i=>len-(intOf i).toNat)
   case atStart=>exact⟨0,Nat.zero_le _,rfl,rfl⟩
   case round =>
    obtain⟨k,hk,rfl,hrest⟩:=hrel;have HS:=lH hrest;by_cases hlt:k<len
    · obtain⟨n,a1,m1,c1,a2,m2,c2,a3,m3,c3,hn,hd,hb,p0,p1,p2,p3,p4,hat⟩:=HR.out.at_ hlt;have VH:=lH hat;have HD:=lH hd;clear hrest hat hd hn;by_cases he:eqS n.name x=true
      · have he':(n.name.toList==x.toList)=true:=he;have HF:=lH (show jl l x=some n by rw[←HS.out,HD.out];unfold jl;rw[List.find?_cons,he]);have P:=lH (ZC ⟨y0,y1,y2,y3,y4⟩ n.name a1 a2 a3 m1 c1 m2 c2 m3 c3 n.cordon);obtain⟨⟨z,l1,l2,l3,cd⟩,hnn⟩:∃m,m=n:=⟨n,rfl⟩
        subst hnn;dsimp only at P he' p0 p4;clear he;go_wp2;obtain⟨WE,hWE⟩:=eX ((((((Z.setCell ⟨w.heap.size,0,none⟩ (.string z)).setCell ⟨w.heap.size,1,none⟩ (.slice a1 m1 c1)).setCell ⟨w.heap.size,2,none⟩ (.slice a2 m2 c2)).setCell ⟨w.heap.size,3,none⟩ (.slice a3 m3 c3)).setCell ⟨w.heap.size,4,none⟩ (.bool cd)))
        rw[hWE] at P ⊢;clear hWE y0 y1 y2 y3 y4 x0 x1 x2 x3 x4;obtain⟨⟨e0,e1,e2,e3,e4⟩,hsz,hbl,hkp⟩:=P.out;refine bodyPost_ret (by simp[results,Tryz.results65,go_sem,e0,e1,e2,e3,e4];try rfl) rfl ?_;rw[HF.out];exact⟨_,rfl,⟨_,_,_,rfl,jbh VH.out hsz hbl (jkf HH.out)⟩,hkp _ _ (Nat.le_refl _) Vc.out⟩
      · have he:eqS n.name x=false:=by simpa using he
        have he':(n.name.toList==x.toList)=false:=he;have HE:=lH (show jl (l.drop k) x=jl (l.drop (k+1)) x by rw[HD.out];unfold jl;rw[List.find?_cons,he]);clear he;go_wp2;go_round
        case rel=>exact⟨k+1,by omega,by go_num,HE.out.symm.trans HS.out⟩
        case measure=>simp[intOf];omega
    · have HF:=lH (show jl l x=none by rw[←hrest,List.drop_of_length_le (by rw[HL.out];omega)];rfl);clear hrest;go_wp2;obtain⟨WE,hWE⟩:=eX ((((((Z.setCell ⟨w.heap.size,0,none⟩ (.string ⟨#[]⟩)).setCell ⟨w.heap.size,1,none⟩ (.slice none 0 0)).setCell ⟨w.heap.size,2,none⟩ (.slice none 0 0)).setCell ⟨w.heap.size,3,none⟩ (.slice none 0 0)).setCell ⟨w.heap.size,4,none⟩ (.bool false)))
      rw[hWE] at P0 ⊢;clear hWE y0 y1 y2 y3 y4 x0 x1 x2 x3 x4;obtain⟨⟨e0,e1,e2,e3,e4⟩,hsz,hbl,hkp⟩:=P0.out;refine bodyPost_ret (by simp[results,Tryz.results65,go_sem,e0,e1,e2,e3,e4];try rfl) rfl ?_;rw[HF.out];exact⟨_,rfl,(jak 0 _).toR,hkp _ _ (Nat.le_refl _) Vc.out⟩
theorem jjn {v:Value} {l:List Nod} {x:ByteArray} {w:World} (h:Jz w v l) :
 Calls Tryz.prog 65 #[v,.string x] w fun e w'=>∃v,e=.returned (.tuple #[v,.bool (jl l x).isSome])∧qY w' v ((jl l x).getD Nod.zero)∧Kept w w':=by
 obtain⟨a,cap,rfl,_,_,hr⟩:=h;exact jkr a _ cap l x w hr
end Go.Proofs.YtokdjfoalkmhiaaGreat
namespace Go.Proofs.YtokdjfoalkmhiaaGreat.Vec
open Go.RowKit
def j8:Nat→V→V→List ByteArray
 | 0,_,_=>[]
 | fuel+1,la,lb =>
  if la.length+lb.length=0 then []
  else jm la lb::j8 fuel (jr la (jm la lb)).2 (jr lb (jm la lb)).2
def Zc (f:Int→Int→Int×Int) (la lb:V):List ByteArray→V→Int×V
 | [],acc=>(0,acc)
 | n::t,acc=>if (f (jh la n) (jh lb n)).2≠0 then ((f (jh la n) (jh lb n)).2,[]) else Zc f la lb t (Yv acc n (f (jh la n) (jh lb n)).1)
theorem X1 {l:V} {s:ByteArray}:∀y ∈ (jr l s).2,y ∈ l:=by
 cases l with
 | nil=>intro y hy;exact hy
 | cons x t =>
  rw[zM];split
  · exact fun y hy=>List.mem_cons_of_mem _ hy
  · exact fun y hy=>hy
theorem jbr {la lb:V} (h:0<la.length+lb.length):(∃y ∈ la,y.1=jm la lb)∨(∃y ∈ lb,y.1=jm la lb):=by
 cases la with
 | nil =>
  cases lb with
  | nil=>simp at h
  | cons y t=>exact .inr ⟨y,by simp,rfl⟩
 | cons x s =>
  cases lb with
  | nil=>exact .inl ⟨x,by simp,rfl⟩
  | cons y t =>
   rw[Za];split
   · exact .inr ⟨y,by simp,rfl⟩
   · exact .inl ⟨x,by simp,rfl⟩
theorem jde (f:Int→Int→Int×Int) (la0 lb0:V):∀(fuel:Nat) (la lb acc:V),Gd la→Gd lb →
 (∀n,((∃y ∈ la,y.1=n)∨(∃y ∈ lb,y.1=n))→jh la0 n=jh la n∧jh lb0 n=jh lb n) →
 Zc f la0 lb0 (j8 fuel la lb) acc=j7 f fuel la lb acc
 | 0,_,_,_,_,_,_=>rfl
 | fuel+1,la,lb,acc,ha,hb,h=>by
  unfold j8 j7;by_cases h0:la.length+lb.length=0
  · rw[if_pos h0,if_pos h0];rfl
  · rw[if_neg h0,if_neg h0];obtain⟨hs,hsa,hsb,_⟩:=jaH ha hb (by omega);have hm:=h _ (jbr (la:=la) (lb:=lb) (by omega));obtain⟨s,es⟩:=eX (jm la lb)
    rw[es] at hs hsa hsb hm ⊢;obtain⟨a1,a2,a3,a4,_⟩:=XY ha hsa;obtain⟨b1,b2,b3,b4,_⟩:=XY hb hsb;rw[Zc];dsimp only;rw[hm.1,hm.2,a1,b1];split
    · rfl
    · refine jde f la0 lb0 fuel _ _ _ a2 b2 fun n hn=>?_;have hne:n≠s:=by
       rcases hn with ⟨y,hy,rfl⟩ | ⟨y,hy,rfl⟩
       · exact(Yi (a3 y hy)).symm
       · exact(Yi (b3 y hy)).symm
      rw[a4 n hne,b4 n hne];refine h n (hn.imp ?_ ?_)
      · rintro ⟨y,hy,e⟩;exact⟨y,X1 y hy,e⟩
      · rintro ⟨y,hy,e⟩;exact⟨y,X1 y hy,e⟩
theorem jgZ (f:Int→Int→Int×Int) {l l':V} (h:jv l=0) (h':jv l'=0) (hf:Jt l) (hf':Jt l') :
 jj f l l'=(let r:=Zc f l l' (j8 (l.length+l'.length) l l') [];if r.1≠0 then (r.1,[]) else if 8<r.2.length then (4,[]) else (0,r.2)):=by
 rw[jj,if_neg (by rw[h];decide),if_neg (by rw[h'];decide),jde f l l' _ l l' [] (YW h hf) (YW h' hf') (fun n _=>⟨rfl,rfl⟩)]
theorem jjB {fuel:Nat} {la lb:V} (h:la.length+lb.length=0):j8 fuel la lb=[]:=by
 cases fuel with
 | zero=>rfl
 | succ n=>rw[j8,if_pos h]
theorem jcA {fuel:Nat} {l l':V} {i k:Nat} (hi:i<l.length) (h:¬k<l'.length∨(k<l'.length∧ltS (nm l i) (nm l' k)=true)) :
 j8 (fuel+1) (l.drop i) (l'.drop k)=nm l i::j8 fuel (l.drop (i+1)) (l'.drop k):=by
 rw[j8,if_neg (by simp only[List.length_drop];omega),drop_cons hi];rcases h with h | ⟨h,e⟩
 · rw[List.drop_of_length_le (l:=l') (by omega)];have e1:jm ((nm l i,qn l i)::l.drop (i+1)) []=nm l i:=rfl;rw[e1,zM,if_pos (jR.2 rfl)];rfl
 · rw[drop_cons h];have e2:ltS (nm l' k) (nm l i)=false:=by
    cases e3:ltS (nm l' k) (nm l i) with
    | false=>rfl
    | true=>exact(jbd e e3).elim
   rw[Za,if_neg (by rw[e2];decide),zM,if_pos (jR.2 rfl),zM,if_neg (fun c=>Yi e (jR.1 c).symm)]
theorem jb1 {fuel:Nat} {l l':V} {i k:Nat} (hk:k<l'.length) (h:¬i<l.length∨(i<l.length∧ltS (nm l' k) (nm l i)=true)) :
 j8 (fuel+1) (l.drop i) (l'.drop k)=nm l' k::j8 fuel (l.drop i) (l'.drop (k+1)):=by
 rw[j8,if_neg (by simp only[List.length_drop];omega),drop_cons hk];rcases h with h | ⟨h,e⟩
 · rw[List.drop_of_length_le (l:=l) (by omega)];have e1:jm [] ((nm l' k,qn l' k)::l'.drop (k+1))=nm l' k:=rfl;rw[e1,zM,if_pos (jR.2 rfl)];rfl
 · rw[drop_cons h];rw[Za,if_pos e,zM (nm l' k,qn l' k),if_pos (jR.2 rfl),zM,if_neg (fun c=>Yi e (jR.1 c).symm)]
theorem jki {fuel:Nat} {l l':V} {i k:Nat} (hi:i<l.length) (hk:k<l'.length) (h1:ltS (nm l i) (nm l' k)=false) (h2:ltS (nm l' k) (nm l i)=false) :
 j8 (fuel+1) (l.drop i) (l'.drop k)=nm l i::j8 fuel (l.drop (i+1)) (l'.drop (k+1)):=by
 have e:=Y7 h1 h2;rw[j8,if_neg (by simp only[List.length_drop];omega),drop_cons hi,drop_cons hk];rw[Za,if_neg (by rw[h2];decide),zM,if_pos (jR.2 rfl),zM,if_pos (jR.2 e.symm)]
end Go.Proofs.YtokdjfoalkmhiaaGreat.Vec
