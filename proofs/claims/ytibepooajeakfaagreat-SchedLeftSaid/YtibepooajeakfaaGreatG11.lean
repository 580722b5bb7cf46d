/- C. -/
import Derived.Test.YtibepooajeakfaaGreatG0
import Derived.Test.YtibepooajeakfaaGreatG2
import Derived.Test.YtibepooajeakfaaGreatG3
import Derived.Test.YtibepooajeakfaaGreatG4
import Derived.Test.YtibepooajeakfaaGreatG5
import Derived.Test.YtibepooajeakfaaGreatG6
import Derived.Test.YtibepooajeakfaaGreatG7
import Derived.Test.YtibepooajeakfaaGreatG8
import Derived.Test.YtibepooajeakfaaGreatG10
set_option linter.unusedVariables false
set_option maxRecDepth 100000
set_option maxHeartbeats 25600000
namespace Go.Proofs.YtibepooajeakfaaGreat
open Go.RowKit
theorem jg4.cells {base:Nat} {W:World} {v:Value} {zs:List Int} (h:jg4 base W v zs) (h0:zs≠[]):∃g cap,v=.slice (some ⟨g,0,none⟩) zs.length cap∧∀j,j<zs.length→W.cell? ⟨g,0+j,none⟩=some (.int .i64 (zs.getD j 0)):=by
 obtain⟨⟨hl,h⟩,-⟩:=h;rcases h with ⟨-,hz⟩ | ⟨g,cap,cur,rfl,-,hh,-,-,-,ht⟩
 · exact absurd (List.eq_nil_of_length_eq_zero hz) h0
 · refine⟨g,cap,rfl,fun j hj=>?_⟩;rw[Nat.zero_add,Lib.cell_of_heap hh];have h1:(cur.toList.take (zs.length*1))[j]?=some (.int .i64 (zs.getD j 0)):=by
    rw[ht,List.getElem?_map,List.getElem?_eq_getElem hj];simp[List.getD,hj]
   rw[List.getElem?_take_of_lt (by omega)] at h1;simpa using h1
theorem foldl_min:∀(l:List Int) (m:Int),l.foldl min m≤m∧(∀z ∈ l,l.foldl min m≤z)∧(l.foldl min m=m∨l.foldl min m ∈ l)
 | [],m=>⟨Int.le_refl _,fun z h=>absurd h (by simp),.inl rfl⟩
 | x::t,m=>by
  obtain⟨h1,h2,h3⟩:=foldl_min t (min m x);rw[List.foldl_cons];refine⟨by omega,fun z hz=>?_,?_⟩
  · rcases List.mem_cons.1 hz with rfl | hz
    · omega
    · exact h2 z hz
  · rcases h3 with h3 | h3
    · by_cases g:m≤x
      · exact .inl (by rw[h3];omega)
      · exact .inr (by rw[h3,show min m x=x by omega];simp)
    · exact .inr (by simp[h3])
theorem jjI {zs:List Int} (h:zs≠[]):(∀z ∈ zs,Lib.minOf zs≤z)∧Lib.minOf zs ∈ zs:=by
 cases zs with
 | nil=>exact absurd rfl h
 | cons x t =>
  obtain⟨h1,h2,h3⟩:=foldl_min (x::t) x;refine⟨h2,?_⟩;show (x::t).foldl min x ∈ _;rcases h3 with h3 | h3
  · rw[h3];simp
  · exact h3
theorem jiW {w:World} {a:Option Addr} {m:Nat} {nodes:List Nod} (h:jt w a m nodes) {key name d:ByteArray} (hd:domV key name nodes=some d):d.size≤maxLen:=by
 have:=jbs hd;unfold Zp at this;rw[List.any_eq_true] at this;obtain⟨n,hn,he⟩:=this;have he:zP n.labels key=some d:=by simpa using he
 obtain⟨k,hk,e⟩:=List.getElem_of_mem hn;rcases h.2.2 with h0 | ⟨b,off,-,-,hc⟩
 · rw[h.1] at hk;omega
 · obtain⟨_,_,_,_,_,_,_,_,_,_,_,_,_,_,hN⟩:=hc k n (by rw[List.getElem?_eq_getElem hk,e]);exact jdh hN.labels.fine he
theorem jg3 (s1 s2 s3 a1 a2 a3 a4:Option Addr) (n1 e1 n2 e2 n3 e3 m1 c1 m2 c2 m3 c3 m4 c4:Nat) (p:Pd) (s:Clu) (name:ByteArray) (w:World) (hn:jt w s1 n1 s.nodes) (hp:jC w s2 n2 s.pods) (hb1:n1≤100000) (hb2:n2≤100000) :
 Calls Tryz.prog 228 #[.agg #[.slice s1 n1 e1,.slice s2 n2 e2,.slice s3 n3 e3],jw p (.slice a1 m1 c1) (.slice a2 m2 c2) (.slice a3 m3 c3) (.slice a4 m4 c4),.string name] w fun e w'=>(∀d,domV p.key name s.nodes=some d→e=.returned (.int .i64 (YH p s d)))∧(domV p.key name s.nodes=none→e=.panicked [zo 3])∧Kept w w':=by
 obtain⟨Z,hZ⟩:=eX ((w.alloc (.cells #[.slice s1 n1 e1,.slice s2 n2 e2,.slice s3 n3 e3] 26)).alloc (.cells #[.string p.name,.string p.owner,.int .i64 p.prio,.slice a1 m1 c1,.slice a2 m2 c2,.slice a3 m3 c3,.slice a4 m4 c4,.string p.key,.int .i64 p.most,.string p.node,.bool p.hold] 52))
 have hkz:Kept w Z:=by rw[←hZ];exact jm _ _ _
 have Vs:=lH (jb w (.slice s1 n1 e1) [.slice s2 n2 e2,.slice s3 n3 e3] 26 Z (by rw[←hZ];exact ja _ _));have Vt:=lH (show je (w.heap.size+1) [.string p.name,.string p.owner,.int .i64 p.prio,.slice a1 m1 c1,.slice a2 m2 c2,.slice a3 m3 c3,.slice a4 m4 c4,.string p.key,.int .i64 p.most,.string p.node,.bool p.hold] Z by
  have dd:=jb (w.alloc (.cells #[.slice s1 n1 e1,.slice s2 n2 e2,.slice s3 n3 e3] 26)) (.string p.name) [.string p.owner,.int .i64 p.prio,.slice a1 m1 c1,.slice a2 m2 c2,.slice a3 m3 c3,.slice a4 m4 c4,.string p.key,.int .i64 p.most,.string p.node,.bool p.hold] 52 Z (by rw[hZ];exact Kept.refl _);rw[World.size_alloc] at dd;exact dd)
 obtain⟨HN,HP,VP,VZ,K⟩:=lH5 hn hp hn.1 hp.1 hkz;clear hn hp hkz;unfold jw;go_enter Tryz.func228,Tryz.ntmps228;go_upto_region 1 with fail
 try rw[hZ]
 clear hZ;obtain⟨y0,y1,y2⟩:=Vs.out.at3;have r7:=Vt.out.at_ 7 _ rfl;go_wp2_with fail
 refine(jeU s1 s2 s3 n1 e1 n2 e2 n3 e3 s.nodes p.key name Z (HN.out.kept K.out) hb1).mono ?_;rintro e w1 ⟨h1,h2,kk⟩;obtain⟨Vs,Vt,K⟩:=lH3 (Vs.out.kept kk) (Vt.out.kept kk) (K.out.trans kk);clear kk y0 y1 y2 r7
 cases ho:domV p.key name s.nodes with
 | none =>
  obtain rfl:=h2 ho;have HO:=lH ho;clear h1 h2 ho;go_wp2;exact⟨rfl,(fun d e=>by rw[HO.out] at e;cases e),(fun _=>rfl),K.out⟩
 | some d =>
  obtain rfl:=h1 d ho;have HO:=lH ho;have hds:=jiW HN.out ho;have TZ:=lH hds;have TN:=lH (jbs ho);clear h1 h2 ho hds;obtain⟨y0,y1,y2⟩:=Vs.out.at3;obtain⟨r0,r1,r2,r3,r4,r5,r6,r7,r8,r9,r10⟩:=Vt.out.at11;go_wp2_with fail
  have TA:=jiu s1 s2 s3 a1 a2 a3 a4 n1 e1 n2 e2 n3 e3 m1 c1 m2 c2 m3 c3 m4 c4 p s.nodes s.pods w1 (HN.out.kept K.out) (HP.out.kept K.out) hb1 hb2;unfold jw at TA;refine TA.mono ?_;clear TA;rintro e w2 ⟨mc,nn,rfl,hM,hmc,hnn,kk⟩;obtain⟨HM,Nh,K,Tf⟩:=lH4 hM K.out.size (K.out.trans kk) hmc;have KS:=lH K.out.size;clear kk hM hmc y0 y1 y2 r0 r1 r2 r3 r4 r5 r6 r7 r8 r9 r10;have hb9:inD p s.pods d s.nodes≤100000*100000:=Nat.le_trans (jdP _ _ _ _) (Nat.mul_le_mul (by rw[VP.out];omega) (by rw[VZ.out];omega));have hl1:=HM.out.look d TZ.out;obtain⟨x1,hx1⟩:=eX (inD p s.pods d s.nodes)
  have Um:=lH hx1;rw[hx1] at hl1 hb9;obtain⟨x3,hx3⟩:∃z:Nat,x1+1=z:=⟨_,rfl⟩
  have hx4:(x1:Int)+1=(x3:Int):=by omega
  have hx5:IntKind.i64.wrap (x3:Int)=(x3:Int):=IntWalk.i64_in _ (by omega);obtain⟨w4,hput,hM4,hG4⟩:=HM.out.put (by unfold maxLen;omega) d TZ.out (x3:Int) (by omega);have UD:=lH hx3;have Ty:=lH (show zc w4 mc (nn+1) (fun e=>((inD p s.pods e s.nodes+(if e=d then 1 else 0):Nat):Int)) (fun e=>Zp p.key e s.nodes) from hM4.eq (fun e=>by
   by_cases he:e=d
   · subst he;rw[if_pos rfl,if_pos rfl,Um.out,UD.out]
   · rw[if_neg he,if_neg he];rfl) (fun e=>by
   by_cases he:e=d
   · subst he;rw[if_pos rfl,TN.out]
   · rw[if_neg he]))
  have Tw:=lH hG4;have hb10:x3≤100000*100000+1:=by omega
  have T0:=lH hb10;have Ni:=lH hnn;clear hM4 hG4 hx1 hx3 hb9 hb10;go_upto_region 4 with fail
  clear hl1 hput hx4 hx5;have J:=lH (Kept.drew w4);refine wp_region_held_drew (S:=fun W=>zc W mc (nn+1) (fun e=>((inD p s.pods e s.nodes+(if e=d then 1 else 0):Nat):Int)) (fun e=>Zp p.key e s.nodes)) (by kernel_rfl) (Ty.out.kept J.out) (fun hHeld=>?_);refine wpAnyH_take  (i:=0) (v:=?_) (by rw[List.getElem?_toArray];exact rfl) (by kernel_rfl) (by kernel_rfl) (by kernel_rfl) (by exact fun _ _ _ h=>h) (Or.inl ⟨by rfl,(by intro W hSw;go_simp<;>with_reducible rfl)⟩) (by assumption) ?_;try simp only  [Act.put,List.setIfInBounds_toArray,List.set_cons_zero,List.set_cons_succ]
  refine wpAnyH_take  (i:=1) (v:=?_) (by rw[List.getElem?_toArray];exact rfl) (by kernel_rfl) (by kernel_rfl) (by kernel_rfl) (by exact fun _ _ _ h=>h) (Or.inl ⟨by rfl,(by intro W hSw;go_simp<;>with_reducible rfl)⟩) (by assumption) ?_;try simp only  [Act.put,List.setIfInBounds_toArray,List.set_cons_zero,List.set_cons_succ]
  refine wpAnyH_take  (i:=2) (v:=?_) (by rw[List.getElem?_toArray];exact rfl) (by kernel_rfl) (by kernel_rfl) (by kernel_rfl) (by exact fun _ _ _ h=>h) (Or.inl ⟨by rfl,(by intro W hSw;have hl:=hSw.look d TZ.out;go_simp<;>with_reducible rfl)⟩) (by assumption) ?_;try simp only  [Act.put,List.setIfInBounds_toArray,List.set_cons_zero,List.set_cons_succ]
  refine wpAnyH_take  (i:=3) (v:=?_) (by rw[List.getElem?_toArray];exact rfl) (by kernel_rfl) (by kernel_rfl) (by kernel_rfl) (by exact fun _ _ _ h=>h) (Or.inl ⟨by rfl,(by intro W hSw;go_simp<;>with_reducible rfl)⟩) (by assumption) ?_;try simp only  [Act.put,List.setIfInBounds_toArray,List.set_cons_zero,List.set_cons_succ]
  skip;refine wpAnyH_ready  (rs:=[4]) (by kernel_rfl) (by simp) (AllReadyH.cons  (by rw[List.getElem?_toArray];exact rfl) (fun K9 Ky=>?_) AllReadyH.nil);go_simp;refine(jfQ (some mc) _).mono ?_;rintro e w5 ⟨rfl,rfl⟩;have kq:=ja w4.drew (.cells #[.map (some mc)] 321);obtain⟨w5,hw5⟩:=eX (w4.drew.alloc (.cells #[.map (some mc)] 321))
  have hcs:je w4.drew.heap.size [.map (some mc)] w5:=jb w4.drew (.map (some mc)) [] 321 w5 (by rw[hw5];exact Kept.refl _);rw[hw5] at kq ⊢;obtain⟨bs,hbs⟩:=eX (w4.drew.heap.size)
  rw[hbs] at hcs ⊢;have RF:=lH hcs;have J:=lH (J.out.trans kq);clear hcs kq hw5 hbs;refine Ky.out _ _ (Ty.out.kept J.out) (fun _=>?_);clear Ky K9;try simp only  [Act.put,List.setIfInBounds_toArray,List.set_cons_zero,List.set_cons_succ]
  refine wpAnyH_ready  (rs:=[5]) (by kernel_rfl) (by simp) (AllReadyH.cons  (by rw[List.getElem?_toArray];exact rfl) (fun K9 Ky=>?_) AllReadyH.nil);go_simp;refine(jex bs mc (nn+1) _ _ w5 (by have:=Ni.out;omega) RF.out.lt (RF.out.at_ 0 _ rfl) (Ty.out.kept J.out)).mono ?_;rintro e w6 ⟨v,zs,rfl,ho,hz1,hz2,hzl,kk⟩;have J:=lH (J.out.trans kk);have hzd:=hz1 d TN.out;have hz0:zs≠[]:=fun e=>by rw[e] at hzd;cases hzd
  obtain⟨g,cap,rfl,hc⟩:=ho.cells hz0;obtain⟨HC,Td,Nj,RG,Nk⟩:=lH5 hc hz1 hz2 hz0 hzl;clear kk ho hc hz1 hz2 hz0 hzd hzl;refine Ky.out _ _ (Ty.out.kept J.out) (fun _=>?_);clear Ky K9;try simp only  [Act.put,List.setIfInBounds_toArray,List.set_cons_zero,List.set_cons_succ]
  refine wpAnyH_ready  (rs:=[6]) (by kernel_rfl) (by simp) (AllReadyH.cons  (by rw[List.getElem?_toArray];exact rfl) (fun K9 Ky=>?_) AllReadyH.nil);go_simp;refine(Tryz.slices_Min_int g 0 zs.length cap zs w6 (List.length_pos_iff.2 RG.out) (Nat.le_refl _) (by have:=Nk.out;omega) HC.out).mono ?_;rintro e w7 ⟨rfl,rfl⟩;rw[List.take_length];refine Ky.out _ _ (Ty.out.kept J.out) (fun _=>?_);clear Ky K9;try simp only  [Act.put,List.setIfInBounds_toArray,List.set_cons_zero,List.set_cons_succ]
  obtain⟨hm1,hm2⟩:=jjI RG.out;obtain⟨c,hcd,hce⟩:=Nj.out _ hm2;obtain⟨zm,hzm⟩:∃z:Nat,inD p s.pods c s.nodes+(if c=d then 1 else 0)=z:=⟨_,rfl⟩
  rw[hzm] at hce;rw[hce] at hm1 ⊢;have HL:=lH (jib (p:=p) (pods:=s.pods) (nodes:=s.nodes) (d:=d) (m:=inD p s.pods d s.nodes+1) (z:=zm) TN.out rfl (fun e he=>by have:=hm1 _ (Td.out e he);omega) ⟨c,hcd,hzm.symm⟩);have hle:zm≤x3:=by have h:=hm1 _ (Td.out d TN.out);rw[if_pos rfl,Um.out] at h;have:=UD.out;omega
  have Uj:=lH (show YH p s d=(x3:Int)-(zm:Int) by unfold YH;rw[HL.out,Um.out,UD.out]);have hx6:(inD p s.pods d s.nodes+(if d=d then 1 else 0))=x3:=by rw[if_pos rfl,Um.out,UD.out]
  try rw[hx6]
  obtain⟨y,hy⟩:∃y:Nat,x3-zm=y:=⟨_,rfl⟩
  have hy1:(x3:Int)-(zm:Int)=(y:Int):=by omega
  have hy2:IntKind.i64.wrap (y:Int)=(y:Int):=IntWalk.i64_in _ (by have:=T0.out;omega);clear hm1 hm2 hcd hce hzm;refine wpAnyH_take  (i:=7) (v:=?_) (by rw[List.getElem?_toArray];exact rfl) (by kernel_rfl) (by kernel_rfl) (by kernel_rfl) (by exact fun _ _ _ h=>h) (Or.inl ⟨by rfl,(by intro W hSw;go_simp<;>with_reducible rfl)⟩) (by assumption) ?_;try simp only  [Act.put,List.setIfInBounds_toArray,List.set_cons_zero,List.set_cons_succ]
  refine wpAnyH_take  (i:=8) (v:=?_) (by rw[List.getElem?_toArray];exact rfl) (by kernel_rfl) (by kernel_rfl) (by kernel_rfl) (by exact fun _ _ _ h=>h) (Or.inl ⟨by rfl,(by intro W hSw;go_simp<;>with_reducible rfl)⟩) (by assumption) ?_;try simp only  [Act.put,List.setIfInBounds_toArray,List.set_cons_zero,List.set_cons_succ]
  refine wpAnyH_done (by kernel_rfl) ?_ _;go_wp2;go_ret;refine⟨fun d9 e9=>?_,fun e9=>?_,(jg.below K.out Tw.out fun i e=>by have:=Tf.out;have:=Nh.out;omega).trans J.out⟩
  · rw[HO.out] at e9
    cases e9
    rw[Uj.out,hy1];have hv:IntKind.i64.wrap (((inD p s.pods d s.nodes:Nat):Int)+1-(zm:Int))=(y:Int):=by
     rw[Um.out,show (x1:Int)+1-(zm:Int)=(y:Int) by have:=UD.out;omega];exact hy2
    exact congrArg (fun z=>Ending.returned (.int .i64 z)) hv
  · rw[HO.out] at e9
    cases e9
open Go.RowKit Go.Shelf
def SkR (o:Option Int) (w:World) (e:Ending) (w':World):Prop:=(∀z,o=some z→e=.returned (.int .i64 z))∧(o=none→e=.panicked [zo 3])∧Kept w w'
theorem jaL (B:Nat) (q:Nat) (x y:Int) (w:World) (hq:w.cell? ⟨q,0,none⟩=some (.int .i64 y)) (hzq:w.frozen? ⟨q,0,none⟩=false) (hBq:B≤q) :
 CallsD Tryz.prog 251 #[.pointer (some ⟨q,0,none⟩)] (.panicking [zo x]) w fun e u' w' =>
  e=.returned (.tuple #[])∧u'=.panicking [{ zo x with recovered:=true }]∧w'=w.setCell ⟨q,0,none⟩ (.int .i64 x)∧w'.cell? ⟨q,0,none⟩=some (.int .i64 x)∧Below B w w':=by
 have hta:∀W,(Instr.typeAssert (.iface 69 (.int .i64 x)) 20 69 false).run Tryz.prog W=.ok (.int .i64 x) W:=fun _=>by kernel_rfl
 refine callsD_of_wpS Tryz.func251 rfl fun c₀ cs hu=>?_;apply wpS_seq;apply wpS_region;simp[wpOpsS,go_sem,recoverD,hu,Tryz.ntmps251,Exit.thenS];apply wpS_seq;apply wpS_region;simp[wpOpsS,go_sem,recoverD,Exit.thenS];refine wpS_cond (t:=true) (by simp[Act.eval,Array.replicate]) ?_;simp only[if_true];refine wpS_of_wp ?_;simp[Array.replicate];go_wp2;simp[bodyPostS,results,Tryz.results251];exact⟨World.cell?_setCell_same' _ _ _ (by rw[hq];rfl),(Below.refl B w).setCell (p:=⟨q,0,none⟩) hBq _⟩
theorem jeA (q:Addr) (w:World) :
 CallsD Tryz.prog 251 #[.pointer (some q)] .returning w fun e u' w'=>e=.returned (.tuple #[])∧u'=.returning∧w'=w:=by
 refine callsD_of_wpS Tryz.func251 rfl fun c₀ cs hu=>?_;apply wpS_seq;apply wpS_region;simp[wpOpsS,go_sem,recoverD,hu,Tryz.ntmps251,Exit.thenS];apply wpS_seq;apply wpS_region;simp[wpOpsS,go_sem,recoverD,hu,Exit.thenS];refine wpS_cond (t:=false) (by simp[Act.eval,Array.replicate]) ?_;simp only[Bool.false_eq_true,if_false];refine wpS_of_wp (wp_skip ?_)
 cases c₀
 simp_all [bodyPostS,results,Tryz.results251]
theorem jfC (Q1 Q2 Q3:Nat) (o:Option Int) (w:World) (hk:∀W,Kept w W→Calls Tryz.prog 227 #[.pointer (some ⟨Q1,0,none⟩),.pointer (some ⟨Q2,0,none⟩),.pointer (some ⟨Q3,0,none⟩)] W (SkR o W)) :
 Calls Tryz.prog 226 #[.func (.func 227) #[] #[.pointer (some ⟨Q1,0,none⟩),.pointer (some ⟨Q2,0,none⟩),.pointer (some ⟨Q3,0,none⟩)]] w fun e w'=>e=.returned (.tuple #[.int .i64 (o.getD 0),.int .i64 (if o.isSome=true then 0 else 3)])∧Kept w w':=by
 have hmf:=hmfL (P:=Tryz.prog);obtain⟨Z,hZ⟩:=eX (w.alloc (.cells #[.int .i64 0] 69))
 have hkz:Kept w Z:=by rw[←hZ];exact ja _ _
 obtain⟨HK,Nl,TO⟩:=lH3 hkz (jb w (.int .i64 0) [] 69 Z (by rw[hZ];exact Kept.refl _)) (hk Z hkz);clear hk hkz;go_enter_defers Tryz.func226,Tryz.ntmps226
 go_wp2_with fail
 try rw[hZ]
 refine TO.out.mono ?_;rintro e1 w1 ⟨h0,h1,hb⟩;have KK:=lH (HK.out.trans hb);have Uy:=lH (Nl.out.kept hb);have ze:=Uy.out.at_ 0 _ rfl;have zf:=Uy.out.free 0
 cases o with
 | some z =>
  obtain rfl:=h0 z rfl;clear h0 h1 hb hZ;go_wp2_with fail
  have FE:=lH (Uy.out.set (j:=0) (u:=.int .i64 0) (by simp));have KF:=lH (show Kept w (w1.setCell ⟨w.heap.size,0,none⟩ (.int .i64 0)) from KK.out.setCell (p:=⟨w.heap.size,0,none⟩) (Nat.le_refl _) _);obtain⟨WF,hWF⟩:=eX (w1.setCell ⟨w.heap.size,0,none⟩ (.int .i64 0))
  rw[hWF] at FE KF ⊢;have fe:=FE.out.at_ 0 _ rfl;clear hWF ze zf;refine leaves_cons (f:=251) (args:=#[.pointer (some ⟨w.heap.size,0,none⟩)]) (by simp) (by simp[go_sem]) ?_;refine(jeA ⟨w.heap.size,0,none⟩ _).mono ?_;rintro e u' w'' ⟨rfl,rfl,rfl⟩;simp[Leaves,settle,results,Tryz.results226,go_sem,fe];exact KF.out
 | none =>
  obtain rfl:=h1 rfl;clear h0 h1 hb hZ;go_wp2_with fail
  refine leaves_cons (f:=251) (args:=#[.pointer (some ⟨w.heap.size,0,none⟩)]) (by simp) (by simp[go_sem]) ?_;refine(jaL w.heap.size w.heap.size 3 0 _ ze zf (Nat.le_refl _)).mono ?_;rintro e u' w'' ⟨rfl,rfl,rfl,q2,q3⟩;have KF:=lH (show Kept w _ from Below.trans KK.out q3);obtain⟨WF,hWF⟩:=eX (w1.setCell ⟨w.heap.size,0,none⟩ (.int .i64 3))
  rw[hWF] at q2 KF ⊢;clear hWF q3 ze zf;simp[Leaves,settle,results,Tryz.results226,go_sem,q2];exact KF.out
theorem ji7 (Q1 Q2 Q3:Nat) (s1 s2 s3 a1 a2 a3 a4:Option Addr) (n1 e1 n2 e2 n3 e3 m1 c1 m2 c2 m3 c3 m4 c4:Nat) (p:Pd) (s:Clu) (name:ByteArray) (w:World) (hq1:je Q1 [.slice s1 n1 e1,.slice s2 n2 e2,.slice s3 n3 e3] w) (hq2:je Q2 [.string p.name,.string p.owner,.int .i64 p.prio,.slice a1 m1 c1,.slice a2 m2 c2,.slice a3 m3 c3,.slice a4 m4 c4,.string p.key,.int .i64 p.most,.string p.node,.bool p.hold] w) (hq3:je Q3 [.string name] w) (hn:jt w s1 n1 s.nodes) (hp:jC w s2 n2 s.pods) (hb1:n1≤100000) (hb2:n2≤100000) :
 Calls Tryz.prog 227 #[.pointer (some ⟨Q1,0,none⟩),.pointer (some ⟨Q2,0,none⟩),.pointer (some ⟨Q3,0,none⟩)] w (SkR ((domV p.key name s.nodes).map (YH p s)) w):=by
 have HS:=lH (jg3 s1 s2 s3 a1 a2 a3 a4 n1 e1 n2 e2 n3 e3 m1 c1 m2 c2 m3 c3 m4 c4 p s name w hn hp hb1 hb2);unfold jw at HS;have y0:=hq1.at_ 0 _ rfl;have y1:=hq1.at_ 1 _ rfl;have y2:=hq1.at_ 2 _ rfl;have r0:=hq2.at_ 0 _ rfl;have r1:=hq2.at_ 1 _ rfl;have r2:=hq2.at_ 2 _ rfl;have r3:=hq2.at_ 3 _ rfl;have r4:=hq2.at_ 4 _ rfl;have r5:=hq2.at_ 5 _ rfl;have r6:=hq2.at_ 6 _ rfl;have r7:=hq2.at_ 7 _ rfl;have r8:=hq2.at_ 8 _ rfl;have r9:=hq2.at_ 9 _ rfl;have r10:=hq2.at_ 10 _ rfl;have z0:=hq3.at_ 0 _ rfl;clear hq1 hq2 hq3 hn hp;go_enter Tryz.func227,Tryz.ntmps227;go_wp2_with fail
 refine HS.out.mono ?_;rintro e w1 ⟨h1,h2,kk⟩;have K:=lH kk;clear kk HS y0 y1 y2 r0 r1 r2 r3 r4 r5 r6 r7 r8 r9 r10 z0
 cases ho:domV p.key name s.nodes with
 | none =>
  obtain rfl:=h2 ho;have HO:=lH ho;clear h1 h2 ho;go_wp2;exact⟨rfl,(fun z e=>by cases e),(fun _=>rfl),K.out⟩
 | some d =>
  obtain rfl:=h1 d ho;have HO:=lH ho;clear h1 h2 ho;obtain⟨z,hz⟩:=eX (YH p s d)
  rw[hz];have HZ:=lH hz;clear hz;go_wp2;go_ret;exact⟨(fun y e=>by rw[HO.out] at e;cases e;exact congrArg (fun z=>Ending.returned (.int .i64 z)) HZ.out.symm),(fun e=>by rw[HO.out] at e;cases e),K.out⟩
theorem jj0 (s1 s2 s3 a1 a2 a3 a4:Option Addr) (n1 e1 n2 e2 n3 e3 m1 c1 m2 c2 m3 c3 m4 c4:Nat) (p:Pd) (s:Clu) (name:ByteArray) (w:World) (hn:jt w s1 n1 s.nodes) (hp:jC w s2 n2 s.pods) (hb1:n1≤100000) (hb2:n2≤100000) :
 Calls Tryz.prog 194 #[.agg #[.slice s1 n1 e1,.slice s2 n2 e2,.slice s3 n3 e3],jw p (.slice a1 m1 c1) (.slice a2 m2 c2) (.slice a3 m3 c3) (.slice a4 m4 c4),.string name] w (Say (.tuple #[.int .i64 (Zl p s name).1,.bool (Zl p s name).2]) w):=by
 have hmf:=hmfL (P:=Tryz.prog);obtain⟨Y,hY⟩:=eX ((w.alloc (.cells #[.slice s1 n1 e1,.slice s2 n2 e2,.slice s3 n3 e3] 26)).alloc (.cells #[.string p.name,.string p.owner,.int .i64 p.prio,.slice a1 m1 c1,.slice a2 m2 c2,.slice a3 m3 c3,.slice a4 m4 c4,.string p.key,.int .i64 p.most,.string p.node,.bool p.hold] 52))
 have hky:Kept w Y:=by rw[←hY];exact jm _ _ _
 have hys:Y.heap.size=w.heap.size+2:=by rw[←hY];simp
 have hsb:=jb w (.slice s1 n1 e1) [.slice s2 n2 e2,.slice s3 n3 e3] 26 Y (by rw[←hY];exact ja _ _);have hpb:je (w.heap.size+1) [.string p.name,.string p.owner,.int .i64 p.prio,.slice a1 m1 c1,.slice a2 m2 c2,.slice a3 m3 c3,.slice a4 m4 c4,.string p.key,.int .i64 p.most,.string p.node,.bool p.hold] Y:=by
  have dd:=jb (w.alloc (.cells #[.slice s1 n1 e1,.slice s2 n2 e2,.slice s3 n3 e3] 26)) (.string p.name) [.string p.owner,.int .i64 p.prio,.slice a1 m1 c1,.slice a2 m2 c2,.slice a3 m3 c3,.slice a4 m4 c4,.string p.key,.int .i64 p.most,.string p.node,.bool p.hold] 52 Y (by rw[hY];exact Kept.refl _);rw[World.size_alloc] at dd;exact dd
 obtain⟨Z,hZ⟩:=eX (Y.alloc (.cells #[.string name] 9))
 have hkz:Kept Y Z:=by rw[←hZ];exact ja _ _
 have hnb:je (w.heap.size+2) [.string name] Z:=by
  have dd:=jb Y (.string name) [] 9 Z (by rw[hZ];exact Kept.refl _);rw[hys] at dd;exact dd
 have hYZ:((w.alloc (.cells #[.slice s1 n1 e1,.slice s2 n2 e2,.slice s3 n3 e3] 26)).alloc (.cells #[.string p.name,.string p.owner,.int .i64 p.prio,.slice a1 m1 c1,.slice a2 m2 c2,.slice a3 m3 c3,.slice a4 m4 c4,.string p.key,.int .i64 p.most,.string p.node,.bool p.hold] 52)).alloc (.cells #[.string name] 9)=Z:=by rw[hY];exact hZ
 obtain⟨Vs,Vt,Vz,K,HN,HP⟩:=lH6 (hsb.kept hkz) (hpb.kept hkz) hnb (hky.trans hkz) (hn.kept (hky.trans hkz)) (hp.kept (hky.trans hkz));clear hn hp hky hkz hys hsb hpb hnb hY hZ;obtain⟨t0,h0⟩:=eX ((p.key.toList==([]:List UInt8)))
 have HI:=lH (show zD p.key=t0 by rw[ZM,h0]);have r7:=Vt.out.at_ 7 _ rfl;unfold jw;go_enter Tryz.func194,Tryz.ntmps194
 cases t0 with
 | true =>
  have HV:=lH (show Zl p s name=(0,true) by unfold Zl;rw[if_pos HI.out]);go_wp2;try rw[hYZ]
  go_ret2
  rw[HV.out];exact⟨rfl,by first | exact K.out | (rw[hYZ];exact K.out)⟩
 | false =>
  have HC:=lH (jfC w.heap.size (w.heap.size+1) (w.heap.size+2) ((domV p.key name s.nodes).map (YH p s)) Z fun W k=>ji7 w.heap.size (w.heap.size+1) (w.heap.size+2) s1 s2 s3 a1 a2 a3 a4 n1 e1 n2 e2 n3 e3 m1 c1 m2 c2 m3 c3 m4 c4 p s name W (Vs.out.kept k) (Vt.out.kept k) (Vz.out.kept k) (HN.out.kept k) (HP.out.kept k) hb1 hb2);have HV:=lH (show Zl p s name=(((domV p.key name s.nodes).map (YH p s)).getD 0,((domV p.key name s.nodes).map (YH p s)).isSome) by
   unfold Zl;rw[if_neg (by rw[HI.out];decide)]
   cases domV p.key name s.nodes<;>rfl)
  obtain⟨o,ho⟩:=eX ((domV p.key name s.nodes).map (YH p s))
  rw[ho] at HC HV;clear ho;go_upto_region 3 with fail
  try rw[hYZ]
  clear hYZ r7 h0;go_wp2_with fail
  refine HC.out.mono ?_;rintro e w1 ⟨rfl,kk⟩;have K:=lH (K.out.trans kk);clear kk
  cases o with
  | none =>
   have HW:=lH (show Zl p s name=(0,false) from HV.out);go_wp2;go_ret2
   rw[HW.out];exact⟨rfl,K.out⟩
  | some z =>
   have HW:=lH (show Zl p s name=(z,true) from HV.out);go_wp2;go_ret2
   rw[HW.out];exact⟨rfl,K.out⟩
theorem jeM (x:ByteArray) (u:Value) (h:u ∈ [Value.string x]):u.oneCell'=true:=qd x u h
theorem jit:(Tryz.prog.info? 9).map (fun i=>(i.zero,i.size,i.bytes))=some (some (.string ByteArray.empty),1,16):=by kernel_rfl
def Zq (n:Nod):Bool:=decide (n.name.size≤50)&&(Vec.Yf n.cap&&(ZZ n.labels&&JN n.taints))
theorem jlq {n:Nod} (h:Zq n=true):zW n:=by
 unfold Zq at h;simp only[Bool.and_eq_true,decide_eq_true_eq] at h;obtain⟨_,h1,h2,h3⟩:=h;refine⟨?_,?_,?_⟩
 · unfold Vec.Yf at h1;simp only[Bool.and_eq_true,decide_eq_true_eq] at h1;omega
 · unfold ZZ at h2;simp only[Bool.and_eq_true,decide_eq_true_eq] at h2;omega
 · have:=(jgc h3).1;omega
theorem jhr (n:Nod) (v1 v2 v3:Value) (w:World) (h:zl w v1 v2 v3 n) :
 Calls Tryz.prog 58 #[zC n v1 v2 v3] w (Say (.bool (Zq n)) w):=by
 have HB:=lH (show ∀W,Kept (w.alloc (.cells #[.string n.name,v1,v2,v3,.bool n.cordon] 78)) W→W.cell? ⟨w.heap.size,0,none⟩=some (.string n.name)∧W.cell? ⟨w.heap.size,1,none⟩=some v1∧W.cell? ⟨w.heap.size,2,none⟩=some v2∧W.cell? ⟨w.heap.size,3,none⟩=some v3∧W.cell? ⟨w.heap.size,4,none⟩=some (.bool n.cordon) from fun W k=>(YS w _ _ _ _ _ 78 W k).1);have H:=lH (h.kept (ja w (.cells #[.string n.name,v1,v2,v3,.bool n.cordon] 78)));obtain⟨⟨nm,l1,l2,l3,cd⟩,hnn⟩:∃m,m=n:=⟨n,rfl⟩
 subst hnn;have hsz:nm.size≤maxLen:=h.size;unfold maxLen at hsz;obtain⟨b1,hb1⟩:=eX (Vec.Yf l1)
 obtain⟨b2,hb2⟩:=eX (ZZ l2)
 obtain⟨b3,hb3⟩:=eX (JN l3)
 obtain⟨HV,H1,H2,H3⟩:=lH4 (show Zq ⟨nm,l1,l2,l3,cd⟩=(decide (nm.size≤50)&&(b1&&(b2&&b3))) by unfold Zq;dsimp only;rw[hb1,hb2,hb3]) (Vec.jeb H.out.cap hb1) (show Calls Tryz.prog 109 #[v2] _ fun e w'=>e=.returned (.bool b2)∧_=w' by rw[←hb2];exact jeb H.out.labels) (show Calls Tryz.prog 110 #[v3] _ fun e w'=>e=.returned (.bool b3)∧_=w' by rw[←hb3];exact jmD H.out.taints);clear h hb1 hb2 hb3 H;dsimp only at HB H1 H2 H3;obtain⟨y0,y1,y2,y3,y4⟩:=HB.out _ (Kept.refl _);unfold zC;dsimp only;by_cases hs:nm.size≤50
 · have hs':decide (nm.size≤50)=true:=decide_eq_true hs;have hsi:(nm.size:Int)≤50:=by omega
   cases b1 with
   | false =>
    go_enter Tryz.func58,Tryz.ntmps58;go_wp2_with fail
    refine H1.out.mono ?_;rintro e w' ⟨rfl,rfl⟩;go_wp2;go_ret;exact⟨jf (by rw[HV.out,hs'];rfl),ja _ _⟩
   | true =>
    cases b2 with
    | false =>
     go_enter Tryz.func58,Tryz.ntmps58;go_wp2_with fail
     refine H1.out.mono ?_;rintro e w' ⟨rfl,rfl⟩;go_wp2_with fail
     refine H2.out.mono ?_;rintro e w' ⟨rfl,rfl⟩;go_wp2;go_ret;exact⟨jf (by rw[HV.out,hs'];rfl),ja _ _⟩
    | true =>
     go_enter Tryz.func58,Tryz.ntmps58;go_wp2_with fail
     refine H1.out.mono ?_;rintro e w' ⟨rfl,rfl⟩;go_wp2_with fail
     refine H2.out.mono ?_;rintro e w' ⟨rfl,rfl⟩;go_wp2_with fail
     refine H3.out.mono ?_;rintro e w' ⟨rfl,rfl⟩;go_wp2;go_ret;exact⟨jf (by rw[HV.out,hs'];cases b3<;>rfl),ja _ _⟩
 · have hs':decide (nm.size≤50)=false:=decide_eq_false hs;have hsi:(50:Int)<(nm.size:Int):=by omega
   go_enter Tryz.func58,Tryz.ntmps58;go_wp2;go_ret;exact⟨jf (by rw[HV.out,hs'];rfl),ja _ _⟩
theorem jlE {v:Value} {n:Nod} {b:Bool} {w:World} (h:ja5 w v n) (hb:Zq n=b):Calls Tryz.prog 58 #[v] w (Say (.bool b) w):=by
 subst hb;obtain⟨v1,v2,v3,rfl,h⟩:=h;exact jhr n v1 v2 v3 w h
theorem jgW {l:PL} (h:ZZ l=true):l.length≤20∧∀x ∈ l,x.1.size≤50∧x.2.size≤50:=by
 unfold ZZ at h;simp only[Bool.and_eq_true,decide_eq_true_eq,List.all_eq_true] at h;refine⟨h.1,fun x hx=>?_⟩;have:=h.2 x hx;unfold Yv at this;simpa only[Bool.and_eq_true,decide_eq_true_eq] using this
theorem jhf {l:TL} (h:ZY l=true):l.length≤20∧∀x ∈ l,x.2.1.size≤50∧x.2.2.size≤50:=by
 unfold ZY at h;simp only[Bool.and_eq_true,decide_eq_true_eq,List.all_eq_true] at h;refine⟨h.1,fun x hx=>?_⟩;have:=h.2 x hx;unfold Yz at this;simpa only[Bool.and_eq_true,decide_eq_true_eq] using this
def Jk (n:Pd):Bool:=decide (n.name.size≤50)&&(decide (n.owner.size≤50)&&(decide (n.key.size≤50)&&(decide (n.node.size≤50)&&(Vec.Yf n.need&&(ZZ n.labels&&(ZY n.sel&&JN n.tols))))))
theorem jfv {n:Pd} (h:Jk n=true):n.name.size≤50∧n.owner.size≤50∧n.key.size≤50∧n.node.size≤50∧Vec.Yf n.need=true∧ZZ n.labels=true∧ZY n.sel=true∧JN n.tols=true:=by
 unfold Jk at h;simpa only[Bool.and_eq_true,decide_eq_true_eq] using h
def Y5 (n:Bd):Bool:=decide (n.name.size≤50)&&ZY n.sel
def Zi (l:List Bd):Bool:=decide (l.length≤20)&&l.all Y5
theorem jd2 {l:List Bd} {n:Bd} {k:Nat} (h:l[k]?=some n) (g:Y5 n=false):Zi l=false:=by
 unfold Zi;have:l.all Y5=false:=by
  rw[List.all_eq_false];exact⟨n,List.mem_of_getElem? h,by rw[g];decide⟩
 rw[this];simp
theorem jjF (a:Option Addr) (len cap:Nat) (l:List Bd) (w:World) (hr:zA w a len l) :
 Calls Tryz.prog 57 #[.slice a len cap] w (Say (.bool (Zi l)) w):=by
 have hl:=hr.1;have hm:=hr.2.1;unfold maxLen at hm;by_cases h20:20<len
 · have HV:=lH (show Zi l=false by unfold Zi;rw[hl];simp;omega);clear hr hl;go_enter Tryz.func57,Tryz.ntmps57;go_wp2;go_ret;exact⟨jf HV.out.symm,Kept.refl _⟩
 · have h20':len≤20:=by omega
   by_cases h0:len=0
   · subst h0;have HV:=lH (show Zi l=true by rw[List.eq_nil_of_length_eq_zero hl];rfl);clear hr hl h20;go_enter Tryz.func57,Tryz.ntmps57;go_wp2;refine wp_loop_rounds 1 ?_;rw[rounds_succ];go_wp2;go_ret;exact⟨jf HV.out.symm,Kept.refl _⟩
   · obtain⟨b,off,rfl⟩:=hr.form.resolve_left h0;have HR:=lH hr;have HL:=lH hl;clear hr hl h0 h20;go_enter Tryz.func57,Tryz.ntmps57;go_wp2;go_loopw [3] (fun i wr=>∃k:Nat,k≤len∧i=.int .i64 k∧(∀n ∈ l.take k,Y5 n=true)∧Kept w wr) (fun i _=>len-(intOf i).toNat)
     case atStart=>exact⟨0,Nat.zero_le _,rfl,(fun n h=>by cases h),Kept.refl _⟩
     case round =>
      obtain⟨k,hk,rfl,hrest,hK⟩:=hrel;have HS:=lH hrest;have HK:=lH hK;by_cases hlt:k<len
      · obtain⟨n,a1,m1,c1,hn,hd,hb,p0,p1,p2,hat⟩:=(HR.out.kept hK).at_ hlt;have HN:=lH hn;have VD:=lH hat;clear hrest hK hat hd hn;by_cases z:50<n.name.size
        · have z1:(50:Int)<(n.name.size:Int):=by omega
          have HV:=lH (show Zi l=false from jd2 HN.out (by unfold Y5;simp;omega));clear z;go_wp2;go_ret;exact⟨jf HV.out.symm,HK.out⟩
        · have z1:(n.name.size:Int)≤50:=by omega
          have Z2:=lH (show n.name.size≤50 by omega);clear z
          cases f:ZY n.sel with
          | false =>
           have HV:=lH (show Zi l=false from jd2 HN.out (by unfold Y5;rw[f];simp));have HF:=lH (jcC VD.out.sel);rw[f] at HF;clear f;go_wp2_with fail
           refine HF.out.mono ?_;rintro e w1 ⟨rfl,rfl⟩;go_wp2;go_ret;exact⟨jf HV.out.symm,HK.out⟩
          | true =>
           have HV:=lH (show Y5 n=true by unfold Y5;rw[f];simp;exact Z2.out);have HF:=lH (jcC VD.out.sel);rw[f] at HF;clear f;go_wp2_with fail
           refine HF.out.mono ?_;rintro e w1 ⟨rfl,rfl⟩;go_wp2;go_roundw
           case rel=>exact⟨k+1,by omega,by go_num,(fun x hx=>by
            rw[zF HN.out] at hx;rcases List.mem_append.1 hx with hx | hx
            · exact HS.out x hx
            · obtain rfl:x=n:=by simpa using hx
              exact HV.out),HK.out⟩
           case measure=>simp[intOf];omega
      · have HV:=lH (show Zi l=true by
         have e:l.take k=l:=List.take_of_length_le (by rw[HL.out];omega);rw[e] at hrest;unfold Zi;rw[List.all_eq_true.2 hrest,HL.out];simp;omega)
        clear hrest hK;go_wp2;go_ret;exact⟨jf HV.out.symm,HK.out⟩
theorem jmo {v:Value} {l:List Bd} {c:Bool} {w:World} (h:JK w v l) (hc:Zi l=c):Calls Tryz.prog 57 #[v] w (Say (.bool c) w):=by
 subst hc;obtain⟨a,cap,rfl,_,_,hr⟩:=h;exact jjF a _ cap l w hr
theorem jjl (n:Pd) (v1 v2 v3 v4:Value) (w:World) (h:ji w v1 v2 v3 v4 n) :
 Calls Tryz.prog 59 #[jw n v1 v2 v3 v4] w (Say (.bool (Jk n)) w):=by
 obtain⟨x0,x1,x2,l1,l2,l3,l4,x3,x4,x5,x6⟩:=n;obtain⟨W0,hW0⟩:=eX (w.alloc (.cells #[.string x0,.string x1,.int .i64 x2,v1,v2,v3,v4,.string x3,.int .i64 x4,.string x5,.bool x6] 52))
 have hk0:Kept w W0:=by rw[←hW0];exact ja _ _
 have hc:=jb w (.string x0) [.string x1,.int .i64 x2,v1,v2,v3,v4,.string x3,.int .i64 x4,.string x5,.bool x6] 52 W0 (by rw[hW0];exact Kept.refl _);have s0:x0.size≤maxLen:=h.name;have s1:x1.size≤maxLen:=h.owner;have s2:x3.size≤maxLen:=h.key;have s3:x5.size≤maxLen:=h.node;unfold maxLen at s0 s1 s2 s3;obtain⟨b0,hb0⟩:=eX (decide (x0.size≤50))
 obtain⟨b1,hb1⟩:=eX (decide (x1.size≤50))
 obtain⟨b2,hb2⟩:=eX (decide (x3.size≤50))
 obtain⟨b3,hb3⟩:=eX (decide (x5.size≤50))
 obtain⟨b4,hb4⟩:=eX (Vec.Yf l1)
 obtain⟨b5,hb5⟩:=eX (ZZ l2)
 obtain⟨b6,hb6⟩:=eX (ZY l3)
 obtain⟨b7,hb7⟩:=eX (JN l4)
 obtain⟨Uh,E4,E5,E6,E7,Vd⟩:=lH6 (show Jk ⟨x0,x1,x2,l1,l2,l3,l4,x3,x4,x5,x6⟩=(b0&&(b1&&(b2&&(b3&&(b4&&(b5&&(b6&&b7))))))) by unfold Jk;dsimp only;rw[hb0,hb1,hb2,hb3,hb4,hb5,hb6,hb7]) (show Calls Tryz.prog 108 #[v1] W0 _ from Vec.jeb (h.need.kept hk0) hb4) (show Calls Tryz.prog 109 #[v2] W0 fun e w'=>e=.returned (.bool b5)∧W0=w' by rw[←hb5];exact jeb (h.labels.kept hk0)) (show Calls Tryz.prog 107 #[v3] W0 fun e w'=>e=.returned (.bool b6)∧W0=w' by rw[←hb6];exact jcC (h.sel.kept hk0)) (show Calls Tryz.prog 111 #[v4] W0 fun e w'=>e=.returned (.bool b7)∧W0=w' by rw[←hb7];exact jmH (h.tols.kept hk0)) hk0;have g0:decide ((x0.size:Int)≤50)=b0:=by rw[←hb0];simp only[decide_eq_decide];omega
 have g1:decide ((x1.size:Int)≤50)=b1:=by rw[←hb1];simp only[decide_eq_decide];omega
 have g2:decide ((x3.size:Int)≤50)=b2:=by rw[←hb2];simp only[decide_eq_decide];omega
 have g3:decide ((x5.size:Int)≤50)=b3:=by rw[←hb3];simp only[decide_eq_decide];omega
 have c0:=hc.at_ 0 _ rfl;have c1:=hc.at_ 1 _ rfl;have c3:=hc.at_ 3 _ rfl;have c4:=hc.at_ 4 _ rfl;have c5:=hc.at_ 5 _ rfl;have c6:=hc.at_ 6 _ rfl;have c7:=hc.at_ 7 _ rfl;have c9:=hc.at_ 9 _ rfl;clear hk0 h hc hb0 hb1 hb2 hb3 hb4 hb5 hb6 hb7;unfold jw;dsimp only
 cases b0 with
 | false =>
  have g0:50<(x0.size:Int):=by have:=of_decide_eq_false g0;omega
  have HV:=lH (show Jk ⟨x0,x1,x2,l1,l2,l3,l4,x3,x4,x5,x6⟩=false by rw[Uh.out];simp);go_enter Tryz.func59,Tryz.ntmps59;go_wp2;try rw[hW0]
  go_ret;exact⟨jf HV.out.symm,Vd.out⟩
 | true =>
  have g0:(x0.size:Int)≤50:=of_decide_eq_true g0
  cases b1 with
  | false =>
   have g1:50<(x1.size:Int):=by have:=of_decide_eq_false g1;omega
   have HV:=lH (show Jk ⟨x0,x1,x2,l1,l2,l3,l4,x3,x4,x5,x6⟩=false by rw[Uh.out];simp);go_enter Tryz.func59,Tryz.ntmps59;go_wp2;try rw[hW0]
   go_ret;exact⟨jf HV.out.symm,Vd.out⟩
  | true =>
   have g1:(x1.size:Int)≤50:=of_decide_eq_true g1
   cases b2 with
   | false =>
    have g2:50<(x3.size:Int):=by have:=of_decide_eq_false g2;omega
    have HV:=lH (show Jk ⟨x0,x1,x2,l1,l2,l3,l4,x3,x4,x5,x6⟩=false by rw[Uh.out];simp);go_enter Tryz.func59,Tryz.ntmps59;go_wp2;try rw[hW0]
    go_ret;exact⟨jf HV.out.symm,Vd.out⟩
   | true =>
    have g2:(x3.size:Int)≤50:=of_decide_eq_true g2
    cases b3 with
    | false =>
     have g3:50<(x5.size:Int):=by have:=of_decide_eq_false g3;omega
     have HV:=lH (show Jk ⟨x0,x1,x2,l1,l2,l3,l4,x3,x4,x5,x6⟩=false by rw[Uh.out];simp);go_enter Tryz.func59,Tryz.ntmps59;go_wp2;try rw[hW0]
     go_ret;exact⟨jf HV.out.symm,Vd.out⟩
    | true =>
     have g3:(x5.size:Int)≤50:=of_decide_eq_true g3
     cases b4 with
     | false =>
      have HV:=lH (show Jk ⟨x0,x1,x2,l1,l2,l3,l4,x3,x4,x5,x6⟩=false by rw[Uh.out];simp);go_enter Tryz.func59,Tryz.ntmps59;go_wp2_with fail
      try rw[hW0]
      refine E4.out.mono ?_;rintro e w9 ⟨rfl,rfl⟩;go_wp2;go_ret;exact⟨jf HV.out.symm,Vd.out⟩
     | true =>
      cases b5 with
      | false =>
       have HV:=lH (show Jk ⟨x0,x1,x2,l1,l2,l3,l4,x3,x4,x5,x6⟩=false by rw[Uh.out];simp);go_enter Tryz.func59,Tryz.ntmps59;go_wp2_with fail
       try rw[hW0]
       refine E4.out.mono ?_;rintro e w9 ⟨rfl,rfl⟩;go_wp2_with fail
       refine E5.out.mono ?_;rintro e w9 ⟨rfl,rfl⟩;go_wp2;go_ret;exact⟨jf HV.out.symm,Vd.out⟩
      | true =>
       cases b6 with
       | false =>
        have HV:=lH (show Jk ⟨x0,x1,x2,l1,l2,l3,l4,x3,x4,x5,x6⟩=false by rw[Uh.out];simp);go_enter Tryz.func59,Tryz.ntmps59;go_wp2_with fail
        try rw[hW0]
        refine E4.out.mono ?_;rintro e w9 ⟨rfl,rfl⟩;go_wp2_with fail
        refine E5.out.mono ?_;rintro e w9 ⟨rfl,rfl⟩;go_wp2_with fail
        refine E6.out.mono ?_;rintro e w9 ⟨rfl,rfl⟩;go_wp2;go_ret;exact⟨jf HV.out.symm,Vd.out⟩
       | true =>
        have HV:=lH (show Jk ⟨x0,x1,x2,l1,l2,l3,l4,x3,x4,x5,x6⟩=b7 by rw[Uh.out];rfl);go_enter Tryz.func59,Tryz.ntmps59;go_wp2_with fail
        try rw[hW0]
        refine E4.out.mono ?_;rintro e w9 ⟨rfl,rfl⟩;go_wp2_with fail
        refine E5.out.mono ?_;rintro e w9 ⟨rfl,rfl⟩;go_wp2_with fail
        refine E6.out.mono ?_;rintro e w9 ⟨rfl,rfl⟩;go_wp2_with fail
        refine E7.out.mono ?_;rintro e w9 ⟨rfl,rfl⟩;go_wp2;go_ret;exact⟨jf HV.out.symm,Vd.out⟩
theorem jmc {v:Value} {n:Pd} {b:Bool} {w:World} (h:jcs w v n) (hb:Jk n=b):Calls Tryz.prog 59 #[v] w (Say (.bool b) w):=by
 subst hb;obtain⟨v1,v2,v3,v4,rfl,h⟩:=h;exact jjl n v1 v2 v3 v4 w h
def XH (s:Clu):Bool:=decide (s.nodes.length≤34)&&(decide (s.pods.length≤130)&&(Zi s.buds&&(s.nodes.all Zq&&s.pods.all Jk)))
theorem qe {a:Option Addr} {len cap:Nat} {l:List Nod} {w:World} (h1:len≤cap) (h2:cap≤maxLen) (h:jt w a len l):Jg w (.slice a len cap) l:=⟨a,cap,by rw[h.1],by rw[h.1];exact h1,h2,by rw[h.1];exact h⟩
theorem jgE {a:Option Addr} {len cap:Nat} {l:List Pd} {w:World} (h1:len≤cap) (h2:cap≤maxLen) (h:jC w a len l):zU w (.slice a len cap) l:=⟨a,cap,by rw[h.1],by rw[h.1];exact h1,h2,by rw[h.1];exact h⟩
theorem jcp {a:Option Addr} {len cap:Nat} {l:List Bd} {w:World} (h1:len≤cap) (h2:cap≤maxLen) (h:zA w a len l):JK w (.slice a len cap) l:=⟨a,cap,by rw[h.1],by rw[h.1];exact h1,h2,by rw[h.1];exact h⟩
theorem jf8 {α:Type} {f:α→Bool} {l:List α} {k:Nat} {x:α} (hd:l.drop k=x::l.drop (k+1)) (h:f x=true) (hr:(l.drop k).all f=l.all f):(l.drop (k+1)).all f=l.all f:=by
 rw[←hr,hd,List.all_cons,h,Bool.true_and]
theorem jeJ {α:Type} {f:α→Bool} {l:List α} {k:Nat} {x:α} (hd:l.drop k=x::l.drop (k+1)) (h:f x=false) (hr:(l.drop k).all f=l.all f):l.all f=false:=by
 rw[←hr,hd,List.all_cons,h,Bool.false_and]
theorem jgq {α:Type} {f:α→Bool} {l:List α} {k:Nat} (h:l.length≤k) (hr:(l.drop k).all f=l.all f):l.all f=true:=by
 rw[←hr,List.drop_of_length_le h];rfl
theorem jl5 {v:Value} {s:Clu} {c:Bool} {w:World} (h:jB w v s) (hc:XH s=c):Calls Tryz.prog 24 #[v] w (Say (.bool c) w):=by
 subst hc;obtain⟨v1,v2,v3,rfl,⟨a,cap,rfl,l1,m1,h1⟩,⟨b,cp,rfl,l2,m2,h2⟩,⟨d,cb,rfl,l3,m3,h3⟩⟩:=h;obtain⟨nl,pl,bl⟩:=s;dsimp only at *;obtain⟨len,hlen⟩:=eX (nl.length)
 obtain⟨m,hm⟩:=eX (pl.length)
 obtain⟨n,hn⟩:=eX (bl.length)
 rw[hlen] at h1 l1;rw[hm] at h2 l2;rw[hn] at h3 l3;try rw[hlen]
 try rw[hm]
 try rw[hn]
 skip;obtain⟨Z,hZ⟩:=eX (w.alloc (.cells #[.slice a len cap,.slice b m cp,.slice d n cb] 26))
 have hkz:Kept w Z:=by rw[←hZ];exact ja _ _
 have HQ:=lH (show je w.heap.size [.slice a len cap,.slice b m cp,.slice d n cb] Z from jb w (.slice a len cap) [.slice b m cp,.slice d n cb] 26 Z (by rw[hZ];exact Kept.refl _));obtain⟨e3,he3⟩:=eX (Zi bl)
 obtain⟨HB,HV,HN,HP,Vc,RD,Uk,Uz⟩:=lH8 (jmo (jcp l3 m3 (h3.kept hkz)) he3) (show XH ⟨nl,pl,bl⟩=(decide (len≤34)&&(decide (m≤130)&&(e3&&(nl.all Zq&&pl.all Jk)))) by unfold XH;dsimp only;rw[hlen,hm,he3]) (h1.kept hkz) (h2.kept hkz) hkz (Nat.le_trans l1 m1) (Nat.le_trans l2 m2) hlen;have Th:=lH hm;have hml1:=Nat.le_trans l1 m1;have hml2:=Nat.le_trans l2 m2;unfold maxLen at hml1 hml2;clear h1 h2 h3 l1 l2 l3 m1 m2 m3 he3 hkz;obtain⟨cq0,cq1,cq2⟩:=HQ.out.at3;by_cases hA:34<len
 · have HX:=lH (HV.out.trans (by rw[decide_eq_false (show ¬len≤34 by omega),Bool.false_and]));have hA':(34:Int)<(len:Int):=by omega
   rw[HX.out];go_enter Tryz.func24,Tryz.ntmps24;go_wp2;try rw[hZ]
   go_ret;exact⟨rfl,Vc.out⟩
 by_cases hB:130<m
 · have HX:=lH (HV.out.trans (by rw[decide_eq_true (show len≤34 by omega),decide_eq_false (show ¬m≤130 by omega),Bool.false_and,Bool.and_false]));have hA':¬(34:Int)<(len:Int):=by omega
   have hB':(130:Int)<(m:Int):=by omega
   rw[HX.out];go_enter Tryz.func24,Tryz.ntmps24;go_wp2;try rw[hZ]
   go_ret;exact⟨rfl,Vc.out⟩
 have hA':¬(34:Int)<(len:Int):=by omega
 have hB':¬(130:Int)<(m:Int):=by omega
 have HX:=lH (HV.out.trans (by rw[decide_eq_true (show len≤34 by omega),decide_eq_true (show m≤130 by omega),Bool.true_and,Bool.true_and]));rw[HX.out];clear HV HX;go_enter Tryz.func24,Tryz.ntmps24;go_wp2_with fail
 try rw[hZ]
 clear hZ;refine HB.out.mono ?_;rintro e w1 ⟨rfl,kk⟩;have KW:=lH kk;clear kk cq0 cq1 cq2 HB
 cases e3 with
 | false =>
  go_wp2;go_ret;exact⟨rfl,Vc.out.trans KW.out⟩
 | true =>
  have cq0:=(HQ.out.kept KW.out).at_ 0 _ rfl;have cq1:=(HQ.out.kept KW.out).at_ 1 _ rfl;have cq2:=(HQ.out.kept KW.out).at_ 2 _ rfl;go_wp2;go_loopw [3] (fun i wr=>∃k:Nat,k≤len∧i=.int .i64 k∧(nl.drop k).all Zq=nl.all Zq∧Kept Z wr) (fun i _=>len-(intOf i).toNat)
  case atStart=>exact⟨0,Nat.zero_le _,rfl,rfl,KW.out⟩
  case round =>
   clear cq0 cq1 cq2;obtain⟨k,hk,rfl,hrest,hK⟩:=hrel;have HS:=lH hrest;have KN:=lH hK;have cq0:=(HQ.out.kept hK).at_ 0 _ rfl;have cq1:=(HQ.out.kept hK).at_ 1 _ rfl;have cq2:=(HQ.out.kept hK).at_ 2 _ rfl;by_cases hlt:k<len
   · obtain⟨b9,off,rfl⟩:=HN.out.form.resolve_left (by omega);obtain⟨n9,x1,y1,z1,x2,y2,z2,x3,y3,z3,hn,hd,hb,p0,p1,p2,p3,p4,hat⟩:=(HN.out.kept hK).at_ hlt;have HD:=lH hd;obtain⟨t,ht⟩:=eX (Zq n9)
     have HT:=lH ht;have HC:=lH (show Calls Tryz.prog 58 #[zC n9 (.slice x1 y1 z1) (.slice x2 y2 z2) (.slice x3 y3 z3)] wr (Say (.bool t) wr) from jlE ⟨_,_,_,rfl,hat⟩ ht);unfold zC at HC;have hkk:(k:Int)<(len:Int):=by omega
     clear hrest hK hat hn hd ht
     cases t with
     | false =>
      have HF:=lH (jeJ HD.out HT.out HS.out);go_wp2_with fail
      refine HC.out.mono ?_;rintro e w9 ⟨rfl,kk⟩;have KW:=lH (KN.out.trans kk);clear kk;go_wp2;go_ret;exact⟨by rw[HF.out];simp,Vc.out.trans KW.out⟩
     | true =>
      have HF:=lH (jf8 HD.out HT.out HS.out);go_wp2_with fail
      refine HC.out.mono ?_;rintro e w9 ⟨rfl,kk⟩;have KW:=lH (KN.out.trans kk);clear kk cq0 cq1 cq2;go_wp2;go_roundw
      case rel=>exact⟨k+1,by omega,by go_num,HF.out,KW.out⟩
      case measure=>simp[intOf];omega
   · have T3:=lH (jgq (by rw[Uz.out];omega) hrest);have hkk:¬(k:Int)<(len:Int):=by omega
     clear hrest hK;clear cq0 cq1 cq2;have cq0:=(HQ.out.kept KN.out).at_ 0 _ rfl;have cq1:=(HQ.out.kept KN.out).at_ 1 _ rfl;have cq2:=(HQ.out.kept KN.out).at_ 2 _ rfl;go_wp2;go_loopw [4] (fun i wr=>∃k:Nat,k≤m∧i=.int .i64 k∧(pl.drop k).all Jk=pl.all Jk∧Kept Z wr) (fun i _=>m-(intOf i).toNat)
     case atStart=>exact⟨0,Nat.zero_le _,rfl,rfl,KN.out⟩
     case round =>
      clear cq0 cq1 cq2;obtain⟨k,hk,rfl,hrest,hK⟩:=hrel;have HS:=lH hrest;have KP:=lH hK;have cq0:=(HQ.out.kept hK).at_ 0 _ rfl;have cq1:=(HQ.out.kept hK).at_ 1 _ rfl;have cq2:=(HQ.out.kept hK).at_ 2 _ rfl;by_cases hlt:k<m
      · obtain⟨b9,off,rfl⟩:=HP.out.form.resolve_left (by omega);obtain⟨n9,x1,y1,z1,x2,y2,z2,x3,y3,z3,x4,y4,z4,hn,hd,hb,p0,p1,p2,p3,p4,p5,p6,p7,p8,p9,p10,hat⟩:=(HP.out.kept hK).at_ hlt;have HD:=lH hd;obtain⟨t,ht⟩:=eX (Jk n9)
        have HT:=lH ht;have HC:=lH (show Calls Tryz.prog 59 #[jw n9 (.slice x1 y1 z1) (.slice x2 y2 z2) (.slice x3 y3 z3) (.slice x4 y4 z4)] wr (Say (.bool t) wr) from jmc ⟨_,_,_,_,rfl,hat⟩ ht);unfold jw at HC;have hkk:(k:Int)<(m:Int):=by omega
        clear hrest hK hat hn hd ht
        cases t with
        | false =>
         have HF:=lH (jeJ HD.out HT.out HS.out);go_wp2_with fail
         refine HC.out.mono ?_;rintro e w9 ⟨rfl,kk⟩;have KW:=lH (KP.out.trans kk);clear kk;go_wp2;go_ret;exact⟨by rw[HF.out];simp,Vc.out.trans KW.out⟩
        | true =>
         have HF:=lH (jf8 HD.out HT.out HS.out);go_wp2_with fail
         refine HC.out.mono ?_;rintro e w9 ⟨rfl,kk⟩;have KW:=lH (KP.out.trans kk);clear kk cq0 cq1 cq2;go_wp2;go_roundw
         case rel=>exact⟨k+1,by omega,by go_num,HF.out,KW.out⟩
         case measure=>simp[intOf];omega
      · have T4:=lH (jgq (by rw[Th.out];omega) hrest);have hkk:¬(k:Int)<(m:Int):=by omega
        clear hrest hK;go_wp2;go_ret;exact⟨by rw[T3.out,T4.out];rfl,Vc.out.trans KP.out⟩
theorem jiQ (a:Option Addr) (len cap:Nat) (l:List Nod) (x:ByteArray) (w:World) (hr:jt w a len l) :
 Calls Tryz.prog 63 #[.slice a len cap,.string x] w fun e w'=>∃v,e=.returned (.tuple #[v,.bool (jk l x).isSome])∧ja5 w' v ((jk l x).getD Nod.zero)∧Kept w w':=by
 have hl:=hr.1;have hm:=hr.2.1;unfold maxLen at hm;obtain⟨Z,hZ⟩:=eX (w.alloc (.cells #[.string ⟨#[]⟩,.slice none 0 0,.slice none 0 0,.slice none 0 0,.bool false] 122))
 have hkz:Kept w Z:=by rw[←hZ];exact ja _ _
 obtain⟨HQ,HH,Vc,HR,HL⟩:=lH5 (show zi w.heap.size (.string ⟨#[]⟩) (.slice none 0 0) (.slice none 0 0) (.slice none 0 0) (.bool false) Z from YS w _ _ _ _ _ 122 Z (by rw[hZ];exact Kept.refl _)) (show Z.heap[w.heap.size]?=some (.cells #[.string ⟨#[]⟩,.slice none 0 0,.slice none 0 0,.slice none 0 0,.bool false] 122) by rw[←hZ];exact w.alloc_heap_new _) hkz (hr.kept hkz) hl;obtain⟨⟨y0,y1,y2,y3,y4⟩,x0,x1,x2,x3,x4⟩:=HQ.out;have P0:=lH (Zc ⟨y0,y1,y2,y3,y4⟩ ⟨#[]⟩ none none none 0 0 0 0 0 0 false);by_cases h0:len=0
 · subst h0;have hl0:l=[]:=List.eq_nil_of_length_eq_zero hl;have HF:=lH (show jk l x=none by rw[hl0];rfl);clear hr hl hkz;go_enter Tryz.func63,Tryz.ntmps63;go_wp2;try rw[hZ]
   clear hZ;refine wp_loop_rounds 1 ?_;rw[rounds_succ];go_wp2;obtain⟨WE,hWE⟩:=eX ((((((Z.setCell ⟨w.heap.size,0,none⟩ (.string ⟨#[]⟩)).setCell ⟨w.heap.size,1,none⟩ (.slice none 0 0)).setCell ⟨w.heap.size,2,none⟩ (.slice none 0 0)).setCell ⟨w.heap.size,3,none⟩ (.slice none 0 0)).setCell ⟨w.heap.size,4,none⟩ (.bool false)))
   rw[hWE] at P0 ⊢;clear hWE y0 y1 y2 y3 y4 x0 x1 x2 x3 x4;obtain⟨⟨e0,e1,e2,e3,e4⟩,hsz,hbl,hkp⟩:=P0.out;refine bodyPost_ret (by simp[results,Tryz.results63,go_sem,e0,e1,e2,e3,e4];try rfl) rfl ?_;rw[HF.out];exact⟨_,rfl,(qi 0 _).toR,hkp _ _ (Nat.le_refl _) Vc.out⟩
 · obtain⟨b,off,rfl⟩:=hr.form.resolve_left h0;clear hr hl hkz h0;go_enter Tryz.func63,Tryz.ntmps63;go_wp2;try rw[hZ]
   clear hZ;go_loop [6] (fun i=>∃k:Nat,k≤len∧i=.int .i64 k∧jk (l.drop k) x=jk l x) (fun i=>len-(intOf i).toNat)
   case atStart=>exact⟨0,Nat.zero_le _,rfl,rfl⟩
   case round =>
    obtain⟨k,hk,rfl,hrest⟩:=hrel;have HS:=lH hrest;by_cases hlt:k<len
    · obtain⟨n,a1,m1,c1,a2,m2,c2,a3,m3,c3,hn,hd,hb,p0,p1,p2,p3,p4,hat⟩:=HR.out.at_ hlt;have VD:=lH hat;have HD:=lH hd;clear hrest hat hd hn;by_cases he:eqS n.name x=true
      · have he':(n.name.toList==x.toList)=true:=he;have HF:=lH (show jk l x=some n by rw[←HS.out,HD.out];unfold jk;rw[List.find?_cons,he]);have P:=lH (Zc ⟨y0,y1,y2,y3,y4⟩ n.name a1 a2 a3 m1 c1 m2 c2 m3 c3 n.cordon);obtain⟨⟨z,l1,l2,l3,cd⟩,hnn⟩:∃m,m=n:=⟨n,rfl⟩
        subst hnn;dsimp only at P he' p0 p4;clear he;go_wp2;obtain⟨WE,hWE⟩:=eX ((((((Z.setCell ⟨w.heap.size,0,none⟩ (.string z)).setCell ⟨w.heap.size,1,none⟩ (.slice a1 m1 c1)).setCell ⟨w.heap.size,2,none⟩ (.slice a2 m2 c2)).setCell ⟨w.heap.size,3,none⟩ (.slice a3 m3 c3)).setCell ⟨w.heap.size,4,none⟩ (.bool cd)))
        rw[hWE] at P ⊢;clear hWE y0 y1 y2 y3 y4 x0 x1 x2 x3 x4;obtain⟨⟨e0,e1,e2,e3,e4⟩,hsz,hbl,hkp⟩:=P.out;refine bodyPost_ret (by simp[results,Tryz.results63,go_sem,e0,e1,e2,e3,e4];try rfl) rfl ?_;rw[HF.out];exact⟨_,rfl,⟨_,_,_,rfl,jax VD.out hsz hbl (jia HH.out)⟩,hkp _ _ (Nat.le_refl _) Vc.out⟩
      · have he:eqS n.name x=false:=by simpa using he
        have he':(n.name.toList==x.toList)=false:=he;have HE:=lH (show jk (l.drop k) x=jk (l.drop (k+1)) x by rw[HD.out];unfold jk;rw[List.find?_cons,he]);clear he;go_wp2;go_round
        case rel=>exact⟨k+1,by omega,by go_num,HE.out.symm.trans HS.out⟩
        case measure=>simp[intOf];omega
    · have HF:=lH (show jk l x=none by rw[←hrest,List.drop_of_length_le (by rw[HL.out];omega)];rfl);clear hrest;go_wp2;obtain⟨WE,hWE⟩:=eX ((((((Z.setCell ⟨w.heap.size,0,none⟩ (.string ⟨#[]⟩)).setCell ⟨w.heap.size,1,none⟩ (.slice none 0 0)).setCell ⟨w.heap.size,2,none⟩ (.slice none 0 0)).setCell ⟨w.heap.size,3,none⟩ (.slice none 0 0)).setCell ⟨w.heap.size,4,none⟩ (.bool false)))
      rw[hWE] at P0 ⊢;clear hWE y0 y1 y2 y3 y4 x0 x1 x2 x3 x4;obtain⟨⟨e0,e1,e2,e3,e4⟩,hsz,hbl,hkp⟩:=P0.out;refine bodyPost_ret (by simp[results,Tryz.results63,go_sem,e0,e1,e2,e3,e4];try rfl) rfl ?_;rw[HF.out];exact⟨_,rfl,(qi 0 _).toR,hkp _ _ (Nat.le_refl _) Vc.out⟩
theorem ji2 {v:Value} {l:List Nod} {x:ByteArray} {w:World} (h:Jg w v l) :
 Calls Tryz.prog 63 #[v,.string x] w fun e w'=>∃v,e=.returned (.tuple #[v,.bool (jk l x).isSome])∧ja5 w' v ((jk l x).getD Nod.zero)∧Kept w w':=by
 obtain⟨a,cap,rfl,_,_,hr⟩:=h;exact jiQ a _ cap l x w hr
end Go.Proofs.YtibepooajeakfaaGreat
