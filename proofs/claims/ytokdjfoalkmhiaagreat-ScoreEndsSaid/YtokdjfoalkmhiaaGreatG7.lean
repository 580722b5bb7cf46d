/- C. -/
import Derived.Test.YtokdjfoalkmhiaaGreatG0
import Derived.Test.YtokdjfoalkmhiaaGreatG1
import Derived.Test.YtokdjfoalkmhiaaGreatG2
import Derived.Test.YtokdjfoalkmhiaaGreatG3
import Derived.Test.YtokdjfoalkmhiaaGreatG5
import Derived.Test.YtokdjfoalkmhiaaGreatG6
import Derived.Sort.KeysCollected
import Derived.Sort.MapsRangeIn
set_option linter.unusedVariables false
set_option maxRecDepth 100000
set_option maxHeartbeats 25600000
namespace Go.Proofs.YtokdjfoalkmhiaaGreat
open Go.RowKit
theorem jcw (p q:Pd) (a1 a2 a3 a4 b1 b2 b3 b4:Option Addr) (m1 c1 m2 c2 m3 c3 m4 c4 k1 d1 k2 d2 k3 d3 k4 d4:Nat) (w:World):Calls Tryz.prog 276 #[jt p (.slice a1 m1 c1) (.slice a2 m2 c2) (.slice a3 m3 c3) (.slice a4 m4 c4),jt q (.slice b1 k1 d1) (.slice b2 k2 d2) (.slice b3 k3 d3) (.slice b4 k4 d4)] w (Say (.bool (JW p q)) w):=by
 obtain⟨Z,hZ⟩:=eX ((w.alloc (.cells #[.string p.name,.string p.owner,.int .i64 p.prio,.slice a1 m1 c1,.slice a2 m2 c2,.slice a3 m3 c3,.slice a4 m4 c4,.string p.key,.int .i64 p.most,.string p.node,.bool p.hold] 44)).alloc (.cells #[.string q.name,.string q.owner,.int .i64 q.prio,.slice b1 k1 d1,.slice b2 k2 d2,.slice b3 k3 d3,.slice b4 k4 d4,.string q.key,.int .i64 q.most,.string q.node,.bool q.hold] 44))
 have hkz:Kept w Z:=by rw[←hZ];exact jj _ _ _
 have hp:=jc w (.string p.name) [.string p.owner,.int .i64 p.prio,.slice a1 m1 c1,.slice a2 m2 c2,.slice a3 m3 c3,.slice a4 m4 c4,.string p.key,.int .i64 p.most,.string p.node,.bool p.hold] 44 Z (by rw[←hZ];exact ja _ _);have hq:je (w.heap.size+1) [.string q.name,.string q.owner,.int .i64 q.prio,.slice b1 k1 d1,.slice b2 k2 d2,.slice b3 k3 d3,.slice b4 k4 d4,.string q.key,.int .i64 q.most,.string q.node,.bool q.hold] Z:=by
  have dd:=jc (w.alloc (.cells #[.string p.name,.string p.owner,.int .i64 p.prio,.slice a1 m1 c1,.slice a2 m2 c2,.slice a3 m3 c3,.slice a4 m4 c4,.string p.key,.int .i64 p.most,.string p.node,.bool p.hold] 44)) (.string q.name) [.string q.owner,.int .i64 q.prio,.slice b1 k1 d1,.slice b2 k2 d2,.slice b3 k3 d3,.slice b4 k4 d4,.string q.key,.int .i64 q.most,.string q.node,.bool q.hold] 44 Z (by rw[hZ];exact Kept.refl _);rw[World.size_alloc] at dd;exact dd
 have p0:=hp.at_ 0 _ rfl;have p1:=hp.at_ 1 _ rfl;have q0:=hq.at_ 0 _ rfl;have q1:=hq.at_ 1 _ rfl;have q10:=hq.at_ 10 _ rfl;have HK:=lH hkz;obtain⟨t0,h0⟩:=eX ((p.owner.toList==([]:List UInt8)))
 obtain⟨t1,h1⟩:=eX ((q.owner.toList==p.owner.toList))
 obtain⟨t2,h2⟩:=eX ((q.name.toList==p.name.toList))
 obtain⟨t3,h3⟩:=eX (q.hold)
 have HV:=lH (show JW p q=(!t0&&(t1&&(!t3&&!t2))) by unfold JW eqS;rw[YL,h0,h1,h2,h3]);rw[h3] at q10;rw[h3] at hZ;clear hp hq hkz;unfold jt;rw[h3];clear h3;go_enter Tryz.func276,Tryz.ntmps276
 cases t0 with
 | true =>
  go_wp2;try rw[hZ]
  go_ret;exact⟨jq (by rw[HV.out];rfl),by first | exact HK.out | (rw[hZ];exact HK.out)⟩
 | false =>
  cases t1 with
  | false =>
   go_wp2;try rw[hZ]
   go_ret;exact⟨jq (by rw[HV.out];rfl),by first | exact HK.out | (rw[hZ];exact HK.out)⟩
  | true =>
   cases t3 with
   | true =>
    go_wp2;try rw[hZ]
    go_ret;exact⟨jq (by rw[HV.out];rfl),by first | exact HK.out | (rw[hZ];exact HK.out)⟩
   | false =>
    cases t2 with
    | true =>
     go_wp2;try rw[hZ]
     go_ret;exact⟨jq (by rw[HV.out];rfl),by first | exact HK.out | (rw[hZ];exact HK.out)⟩
    | false =>
     go_wp2;try rw[hZ]
     go_ret;exact⟨jq (by rw[HV.out];rfl),by first | exact HK.out | (rw[hZ];exact HK.out)⟩
open Go.RowKit Go.Maps Go.WideShapes Go.WideMaps
theorem YO:Keyed Tryz.prog 9:=string_keyed Tryz.underlying9
theorem jfl (w:World):(zeroValue 3).run Tryz.prog w=.ok (.int .i64 0) w:=by kernel_rfl
abbrev mk9 (x:ByteArray):Lit:=.string x.data.toList
theorem jbU {x y:ByteArray} (h:mk9 x=mk9 y):x=y:=by
 injection h with h
 cases x;cases y
 simp only at h;congr 1
 exact Array.toList_inj.1 h
structure jgK (w:World) (b n:Nat) (D:DataW Unit) (f:ByteArray→Int) (dom:ByteArray→Bool):Prop where
 own:w.ownsMap Tryz.prog 9 (plainElem Tryz.prog 3) b n D
 at_:∀x,D.atKey (mk9 x) (.lit (.int .i64 0))=.lit (.int .i64 (f x))
 has:∀x,Maps.has D (mk9 x)=dom x
 map:IsMap D
def jI (w:World) (b n:Nat) (f:ByteArray→Int) (dom:ByteArray→Bool):Prop:=∃D:DataW Unit,jgK w b n D f dom
theorem jI.made (w:World):jI (w.alloc (.map #[] 0)) w.heap.size 0 (fun _=>0) (fun _=>false) :=
 ⟨.map [],World.ownsMap_made w _ _ _,fun _=>rfl,fun _=>rfl,isMap_empty⟩
theorem jI.block {w w':World} {b n:Nat} {f:ByteArray→Int} {dom:ByteArray→Bool} (h:jI w b n f dom) (hb:w'.heap[b]?=w.heap[b]?):jI w' b n f dom:=by
 obtain⟨D,⟨es,clock,h1,h2⟩,h3,h4,h5⟩:=h;exact⟨D,⟨es,clock,hb.trans h1,h2⟩,h3,h4,h5⟩
theorem jI.lt {w:World} {b n:Nat} {f:ByteArray→Int} {dom:ByteArray→Bool} (h:jI w b n f dom):b<w.heap.size:=by
 obtain⟨D,h,-⟩:=h;exact h.lt
theorem jI.kept {w w':World} {b n:Nat} {f:ByteArray→Int} {dom:ByteArray→Bool} (h:jI w b n f dom) (k:Kept w w'):jI w' b n f dom:=h.block (k.block b h.lt)
theorem jI.eq {w:World} {b n:Nat} {f g:ByteArray→Int} {dom dem:ByteArray→Bool} (h:jI w b n f dom) (hf:∀x,f x=g x) (hd:∀x,dom x=dem x):jI w b n g dem:=by
 obtain⟨D,h1,h2,h3,h4⟩:=h;exact⟨D,h1,fun x=>by rw[h2,hf],fun x=>by rw[h3,hd],h4⟩
theorem jI.look {w:World} {b n:Nat} {f:ByteArray→Int} {dom:ByteArray→Bool} (h:jI w b n f dom) (x:ByteArray) (hx:x.size≤maxLen):(Instr.lookup 321 (.map (some b)) (.string x) false).run Tryz.prog w=.ok (.int .i64 (f x)) w:=by
 obtain⟨D,h1,h2,h3,h4⟩:=h;obtain⟨c,hrun,hat,-⟩:=h1.lookup_int (t:=321) YO Tryz.underlying321 Tryz.underlying3 (jfl _) (keyOf_string_mk Tryz.underlying9 hx);rw[hrun];have:=(h2 x).symm.trans hat;injection this with this;injection this with _ this;rw[this]
theorem jI.put {w:World} {b n:Nat} {f:ByteArray→Int} {dom:ByteArray→Bool} (h:jI w b n f dom) (hn:n<maxLen) (x:ByteArray) (hx:x.size≤maxLen) (c:Int) (hc:-9223372036854775808≤c∧c≤9223372036854775807) :
 ∃w',(Instr.mapUpdate 321 (.map (some b)) (.string x) (.int .i64 c)).run Tryz.prog w=.ok () w'∧jI w' b (n+1) (fun y=>if y=x then c else f y) (fun y=>if y=x then true else dom y)∧jd (fun i=>i=b) w w':=by
 obtain⟨D,h1,h2,h3,h4⟩:=h;obtain⟨w',hrun,ho,hg⟩:=h1.update (t:=321) YO Tryz.underlying321 hn (keyOf_string_mk Tryz.underlying9 hx) (plainElem_int (H:=Unit) Tryz.underlying3 (WalkArith.wf_i64 hc));refine⟨w',hrun,⟨_,ho,fun y=>?_,fun y=>?_,h4.put _ _⟩,jd.grown hg fun k e=>by cases e;rfl⟩
 · by_cases e:y=x
   · subst e;rw[if_pos rfl,atKey_put_same h4 (show WideAt.IsKeyLit (.string _) from trivial)]
   · rw[if_neg e,atKey_put_other (fun g=>e (jbU g)),h2]
 · by_cases e:y=x
   · subst e;rw[if_pos rfl,has_put_same h4 (show WideAt.IsKeyLit (.string _) from trivial)]
   · rw[if_neg e,has_put_other (fun g=>e (jbU g)),h3]
theorem jI.mono1 {w:World} {b n n':Nat} {f:ByteArray→Int} {dom:ByteArray→Bool} (h:jI w b n f dom) (hn:n≤n'):jI w b n' f dom:=by
 obtain⟨D,h1,h2,h3,h4⟩:=h;exact⟨D,h1.mono hn,h2,h3,h4⟩
theorem jdj (s1 s2 s3 a1 a2 a3 a4:Option Addr) (n1 e1 n2 e2 n3 e3 m1 c1 m2 c2 m3 c3 m4 c4:Nat) (p:Pd) (nodes:List Nod) (pods:List Pd) (w:World) (hn:js w s1 n1 nodes) (hp:jy w s2 n2 pods) (hb1:n1≤100000) (hb2:n2≤100000) :
 Calls Tryz.prog 261 #[.agg #[.slice s1 n1 e1,.slice s2 n2 e2,.slice s3 n3 e3],jt p (.slice a1 m1 c1) (.slice a2 m2 c2) (.slice a3 m3 c3) (.slice a4 m4 c4)] w fun e w'=>∃b n,e=.returned (.map (some b))∧jI w' b n (fun d=>(inD p pods d nodes:Int)) (fun d=>Jh p.key d nodes)∧w.heap.size≤b∧n≤100000∧Kept w w':=by
 obtain⟨Z,hZ⟩:=eX ((w.alloc (.cells #[.slice s1 n1 e1,.slice s2 n2 e2,.slice s3 n3 e3] 26)).alloc (.cells #[.string p.name,.string p.owner,.int .i64 p.prio,.slice a1 m1 c1,.slice a2 m2 c2,.slice a3 m3 c3,.slice a4 m4 c4,.string p.key,.int .i64 p.most,.string p.node,.bool p.hold] 44))
 have hkz:Kept w Z:=by rw[←hZ];exact jj _ _ _
 have hzs:Z.heap.size=w.heap.size+2:=by rw[←hZ];simp
 have Vh:=lH (jc w (.slice s1 n1 e1) [.slice s2 n2 e2,.slice s3 n3 e3] 26 Z (by rw[←hZ];exact ja _ _));have Vb:=lH (show je (w.heap.size+1) [.string p.name,.string p.owner,.int .i64 p.prio,.slice a1 m1 c1,.slice a2 m2 c2,.slice a3 m3 c3,.slice a4 m4 c4,.string p.key,.int .i64 p.most,.string p.node,.bool p.hold] Z by
  have dd:=jc (w.alloc (.cells #[.slice s1 n1 e1,.slice s2 n2 e2,.slice s3 n3 e3] 26)) (.string p.name) [.string p.owner,.int .i64 p.prio,.slice a1 m1 c1,.slice a2 m2 c2,.slice a3 m3 c3,.slice a4 m4 c4,.string p.key,.int .i64 p.most,.string p.node,.bool p.hold] 44 Z (by rw[hZ];exact Kept.refl _);rw[World.size_alloc] at dd;exact dd)
 obtain⟨Y,hY⟩:=eX (Z.alloc (.map #[] 0))
 have hky:Kept Z Y:=by rw[←hY];exact ja _ _
 obtain⟨V1,UY,Vh,Vb,RI⟩:=lH5 (show jI Y Z.heap.size 0 (fun _=>0) (fun _=>false) by rw[←hY];exact jI.made Z) (show Y.heap.size=Z.heap.size+1 by rw[←hY,World.size_alloc]) (Vh.out.kept hky) (Vb.out.kept hky) (hkz.trans hky);obtain⟨mb,hmb⟩:=eX (Z.heap.size)
 rw[hmb] at V1 UY;obtain⟨Uq,Vc,HN,HP,VC,UZ⟩:=lH6 (show w.heap.size+2≤mb by omega) hzs hn hp hn.1 hp.1;clear hn hp hkz hky hzs;have hmm:=@run_makeMap Tryz.prog;unfold jt;go_enter Tryz.func261,Tryz.ntmps261;have y0:=Vh.out.at_ 0 _ rfl;have y1:=Vh.out.at_ 1 _ rfl;have z0:=(show je w.heap.size _ Z from jc w (.slice s1 n1 e1) [.slice s2 n2 e2,.slice s3 n3 e3] 26 Z (by rw[←hZ];exact ja _ _)).at_ 1 _ rfl;go_upto_region 2 with fail
 try rw[hZ]
 try rw[hY]
 try rw[hmb]
 clear hZ hY hmb hmm z0;go_wp2;clear y0 y1;skip;go_loopw [17] (fun i wr=>∃k:Nat,k≤n2∧i=.int .i64 k∧(∃dom,jI wr mb k (fun x=>(onN p x (pods.take k):Int)) dom)∧jd (fun i=>i=mb) Y wr) (fun i _=>n2-(intOf i).toNat)
 case atStart=>exact⟨0,Nat.zero_le _,rfl,⟨_,V1.out.eq (fun _=>rfl) (fun _=>rfl)⟩,jd.of (Kept.refl _)⟩
 case round =>
  obtain⟨k,hk,rfl,⟨dom,hM⟩,hG⟩:=hrel;obtain⟨HM,HG,KW⟩:=lH3 hM hG (show Kept w wr from jd.below RI.out hG fun i e=>by have:=Uq.out;omega);by_cases hlt:k<n2
  · obtain⟨g,off,rfl⟩:=HP.out.form.resolve_left (by omega);obtain⟨q,b1,k1,d1,b2,k2,d2,b3,k3,d3,b4,k4,d4,hn,hd,hb,u0,u1,u2,u3,u4,u5,u6,u7,u8,u9,u10,hat⟩:=(HP.out.kept KW.out).at_ hlt;have Ur:=lH (show pods.take (k+1)=pods.take k++[q] by rw[List.take_add_one,hn];rfl);have VN:=lH hat.node;have hkk:(k:Int)<(n2:Int):=by omega
    have hk0:¬(k:Int)<0:=by omega
    obtain⟨wx,hwx⟩:=eX (wr.alloc (.cells #[.string q.name,.string q.owner,.int .i64 q.prio,.slice b1 k1 d1,.slice b2 k2 d2,.slice b3 k3 d3,.slice b4 k4 d4,.string q.key,.int .i64 q.most,.string q.node,.bool q.hold] 44))
    have hkx:Kept wr wx:=by rw[←hwx];exact ja _ _
    have Vk:=lH (jc wr (.string q.name) [.string q.owner,.int .i64 q.prio,.slice b1 k1 d1,.slice b2 k2 d2,.slice b3 k3 d3,.slice b4 k4 d4,.string q.key,.int .i64 q.most,.string q.node,.bool q.hold] 44 wx (by rw[hwx];exact Kept.refl _));obtain⟨bq,hbq⟩:=eX (wr.heap.size)
    rw[hbq] at Vk;obtain⟨Nf,Us,RJ,KX⟩:=lH4 (show mb<bq by rw[←hbq];have:=UY.out;have:=hG.size;omega) ((Vb.out.block (hG.block _ (by have:=Vb.out.lt;exact this) (by have:=Uq.out;omega))).kept hkx) (hM.kept hkx) hkx;go_upto_region 5 with fail
    try rw[hwx]
    try rw[hbq]
    clear hwx hbq hd hb hat hM hG hkx hk0 hkk u0 u1 u2 u3 u4 u5 u6 u7 u8 u9 u10;obtain⟨r0,r1,r2,r3,r4,r5,r6,r7,r8,r9,r10⟩:=Us.out.at11;obtain⟨t0,t1,t2,t3,t4,t5,t6,t7,t8,t9,t10⟩:=Vk.out.at11;go_wp2_with fail
    refine(jcw p q a1 a2 a3 a4 b1 b2 b3 b4 m1 c1 m2 c2 m3 c3 m4 c4 k1 d1 k2 d2 k3 d3 k4 d4 wx).mono ?_;rintro e w3 ⟨rfl,kk⟩;clear r0 t0 r1 t1 r2 t2 r3 t3 r4 t4 r5 t5 r6 t6 r7 t7 r8 t8 r9 t9 r10 t10;have U0:=lH kk;have U1:=lH (RJ.out.kept kk);have t9:=(Vk.out.kept kk).at_ 9 _ rfl;clear kk;obtain⟨bb,hbb⟩:=eX (JW p q)
    have Vn:=lH hbb;rw[hbb];clear hbb
    cases bb with
    | false =>
     go_wp2;go_roundw
     case rel =>
      refine⟨k+1,by omega,by go_num,⟨dom,(U1.out.mono1 (Nat.le_succ k)).eq (fun x=>?_) (fun _=>rfl)⟩,(HG.out.trans (jd.of KX.out)).trans (jd.of U0.out)⟩;rw[Ur.out,qf];show ((onN p x (pods.take k):Nat):Int)=((onN p x (pods.take k)+((if JW p q=true∧q.node=x then 1 else 0)+0):Nat):Int);rw[if_neg (by rw[Vn.out];simp)];rfl
     case measure=>simp[intOf];omega
    | true =>
     have hsz:onN p q.node (pods.take k)≤k:=Nat.le_trans (XZ _ _ _) (by rw[List.length_take];omega);have hlook:=U1.out.look q.node VN.out;obtain⟨v,hv⟩:=eX (onN p q.node (pods.take k))
     have HV:=lH hv;rw[hv] at hlook hsz;obtain⟨v1,hv1⟩:∃z:Nat,v+1=z:=⟨_,rfl⟩
     have hv2:(v:Int)+1=(v1:Int):=by omega
     have hv3:IntKind.i64.wrap (v1:Int)=(v1:Int):=IntWalk.i64_in _ (by omega);obtain⟨w4,hput,hM4,hG4⟩:=U1.out.put (by unfold maxLen;omega) q.node VN.out (v1:Int) (by omega);obtain⟨Tz,U2,RK⟩:=lH3 hM4 hG4 hv1;clear hM4 hG4 hv hv1;go_wp2;go_roundw
     case rel =>
      refine⟨k+1,by omega,by go_num,⟨_,Tz.out.eq (fun x=>?_) (fun _=>rfl)⟩,((HG.out.trans (jd.of KX.out)).trans (jd.of U0.out)).trans U2.out⟩;rw[Ur.out,qf];show _=((onN p x (pods.take k)+((if JW p q=true∧q.node=x then 1 else 0)+0):Nat):Int);by_cases hx:x=q.node
      · rw[if_pos hx,if_pos ⟨Vn.out,hx.symm⟩,hx,HV.out,←RK.out]
      · rw[if_neg hx,if_neg (fun g=>hx g.2.symm)];rfl
     case measure=>simp[intOf];omega
  · have hge:¬(k:Int)<(n2:Int):=by omega
    have hM:=HM.out;rw[List.take_of_length_le (by rw[UZ.out];omega)] at hM;obtain⟨HM,Vh,Vb⟩:=lH3 hM (Vh.out.block (hG.block _ Vh.out.lt (by have:=Uq.out;omega))) (Vb.out.block (hG.block _ Vb.out.lt (by have:=Uq.out;omega)));obtain⟨X,hX⟩:=eX (wr.alloc (.map #[] 0))
    have hkx:Kept wr X:=by rw[←hX];exact ja _ _
    have V1:=lH (show jI X wr.heap.size 0 (fun _=>0) (fun _=>false) by rw[←hX];exact jI.made wr);have Uc:=lH (show X.heap.size=wr.heap.size+1 by rw[←hX,World.size_alloc]);obtain⟨mc,hmc⟩:=eX (wr.heap.size)
    rw[hmc] at V1 Uc;obtain⟨UE,HM,Vh,Vb,KX⟩:=lH5 (show mb<mc by rw[←hmc];have:=UY.out;have:=hG.size;omega) (HM.out.kept hkx) (Vh.out.kept hkx) (Vb.out.kept hkx) (KW.out.trans hkx);clear hM hG hkx;have hmm:=@run_makeMap Tryz.prog;go_upto_region 9 with fail
    try rw[hX]
    try rw[hmc]
    clear hX hmc hmm;have y0:=Vh.out.at_ 0 _ rfl;go_wp2;clear y0;go_loopw [34] (fun i wr=>∃k:Nat,k≤n1∧i=.int .i64 k∧jI wr mc k (fun d=>(inD p pods d (nodes.take k):Int)) (fun d=>Jh p.key d (nodes.take k))∧jd (fun i=>i=mc) X wr) (fun i _=>n1-(intOf i).toNat)
    case atStart=>exact⟨0,Nat.zero_le _,rfl,V1.out.eq (fun _=>rfl) (fun _=>rfl),jd.of (Kept.refl _)⟩
    case round =>
     obtain⟨k,hk,rfl,hN,hG⟩:=hrel;obtain⟨HC,HG,KW⟩:=lH3 hN hG (show Kept w wr from jd.below KX.out hG fun i e=>by have:=Uq.out;have:=UE.out;omega);by_cases hlt:k<n1
     · obtain⟨g,off,rfl⟩:=HN.out.form.resolve_left (by omega);obtain⟨n,b1,k1,d1,b2,k2,d2,b3,k3,d3,hn,hd,hb,u0,u1,u2,u3,u4,hat⟩:=(HN.out.kept KW.out).at_ hlt;have Ur:=lH (show nodes.take (k+1)=nodes.take k++[n] by rw[List.take_add_one,hn];rfl);have VP:=lH hat;have hkk:(k:Int)<(n1:Int):=by omega
       have hk0:¬(k:Int)<0:=by omega
       obtain⟨wx,hwx⟩:=eX (wr.alloc (.cells #[.string n.name,.slice b1 k1 d1,.slice b2 k2 d2,.slice b3 k3 d3,.bool n.cordon] 57))
       have hkx:Kept wr wx:=by rw[←hwx];exact ja _ _
       have Vk:=lH (jc wr (.string n.name) [.slice b1 k1 d1,.slice b2 k2 d2,.slice b3 k3 d3,.bool n.cordon] 57 wx (by rw[hwx];exact Kept.refl _));obtain⟨bq,hbq⟩:=eX (wr.heap.size)
       rw[hbq] at Vk;obtain⟨Us,UF,RL,KX1⟩:=lH4 ((Vb.out.block (hG.block _ Vb.out.lt (by have:=Uq.out;have:=UE.out;omega))).kept hkx) (hN.kept hkx) ((HM.out.block (hG.block _ HM.out.lt (by have:=UE.out;omega))).kept hkx) hkx;go_upto_region 12 with fail
       try rw[hwx]
       try rw[hbq]
       clear hwx hbq hd hb hat hN hG hkx hk0 hkk u0 u1 u2 u3 u4;have r7:=Us.out.at_ 7 _ rfl;have t2:=Vk.out.at_ 2 _ rfl;obtain⟨go,hgo⟩:=eX (j6 n.labels p.key)
       have UG:=lH hgo;go_wp2_with fail
       refine(jaZ (VP.out.labels.kept KX1.out) (x:=go.getD ByteArray.empty) (b:=go.isSome) (by unfold ZD;rw[hgo]) (by unfold JC;rw[hgo])).mono ?_;rintro e w3 ⟨rfl,kk⟩;obtain⟨U0,US,U1⟩:=lH3 kk (UF.out.kept kk) (RL.out.kept kk);have t0:=(Vk.out.kept kk).at_ 0 _ rfl;clear kk hgo r7 t2
       cases go with
       | none =>
        go_wp2;go_roundw
        case rel =>
         refine⟨k+1,by omega,by go_num,(US.out.mono1 (Nat.le_succ k)).eq (fun x=>?_) (fun x=>?_),(HG.out.trans (jd.of KX1.out)).trans (jd.of U0.out)⟩
         · rw[Ur.out,qc];show ((inD p pods x (nodes.take k):Nat):Int)=((inD p pods x (nodes.take k)+((if j6 n.labels p.key=some x then onN p n.name pods else 0)+0):Nat):Int);rw[if_neg (by rw[UG.out];simp)];rfl
         · rw[Ur.out];unfold Jh;rw[List.any_append,List.any_cons,UG.out];simp
        case measure=>simp[intOf];omega
       | some d =>
        have hds:d.size≤maxLen:=qo VP.out.labels.fine UG.out;have hb1a:inD p pods d (nodes.take k)≤100000*100000:=Nat.le_trans (ja6 _ _ _ _) (Nat.mul_le_mul (by rw[List.length_take];omega) (by rw[UZ.out];omega));have hb2a:onN p n.name pods≤100000:=Nat.le_trans (XZ _ _ _) (by rw[UZ.out];omega);have hl1:=US.out.look d hds;have hl2:=U1.out.look n.name VP.out.size;obtain⟨x1,hx1⟩:=eX (inD p pods d (nodes.take k))
        obtain⟨x2,hx2⟩:=eX (onN p n.name pods)
        have Ut:=lH hx1;have UW:=lH hx2;rw[hx1] at hl1 hb1a;rw[hx2] at hl2 hb2a;obtain⟨x3,hx3⟩:∃z:Nat,x1+x2=z:=⟨_,rfl⟩
        have hx4:(x1:Int)+(x2:Int)=(x3:Int):=by omega
        have hx5:IntKind.i64.wrap (x3:Int)=(x3:Int):=IntWalk.i64_in _ (by omega);obtain⟨w4,hput,hM4,hG4⟩:=US.out.put (by unfold maxLen;omega) d hds (x3:Int) (by omega);obtain⟨Tz,U2,Uu⟩:=lH3 hM4 hG4 hx3;clear hM4 hG4 hx1 hx2 hx3;go_wp2;go_roundw
        case rel =>
         refine⟨k+1,by omega,by go_num,Tz.out.eq (fun x=>?_) (fun x=>?_),((HG.out.trans (jd.of KX1.out)).trans (jd.of U0.out)).trans U2.out⟩
         · rw[Ur.out,qc];show _=((inD p pods x (nodes.take k)+((if j6 n.labels p.key=some x then onN p n.name pods else 0)+0):Nat):Int);by_cases hx:x=d
           · subst hx;rw[if_pos rfl,if_pos UG.out,UW.out,Ut.out,←Uu.out];rfl
           · rw[if_neg hx,if_neg (fun g=>hx (by rw[UG.out] at g;exact(Option.some.inj g).symm))];rfl
         · rw[Ur.out];unfold Jh;rw[List.any_append,List.any_cons,UG.out];by_cases hx:x=d
           · subst hx;simp
           · rw[if_neg hx];simp[show ¬d=x from fun e=>hx e.symm]
        case measure=>simp[intOf];omega
     · have hge:¬(k:Int)<(n1:Int):=by omega
       have hM:=HC.out;rw[List.take_of_length_le (by rw[VC.out];omega)] at hM;have HC:=lH hM;clear hM hN hG;go_wp2;go_ret;exact⟨mc,rfl,k,HC.out,by have:=Uq.out;have:=UE.out;omega,by omega,KW.out⟩
open Go.RowKit Go.Maps Go.Sort Go.Shelf Go.WideShapes
attribute [local go_sem] Oper.semAt_some
def VAt (D:DataW Unit) (p:List UInt8×Int):Prop:=∀zd,D.atKey (.string p.1) zd=.lit (.int .i64 p.2)
def jeB (D:DataW Unit) (ps:List (List UInt8×Int)):Prop:=(ps.map (·.1)).Perm (strKeys D)∧(∀x,x ∈ ps.map (·.1)↔has D (.string x)=true)∧∀p ∈ ps,VAt D p
def jeD (D:DataW Unit) (ps:List (List UInt8×Int)):Prop:=(ps.map (·.1)).Nodup∧(∀x ∈ ps.map (·.1),has D (.string x)=true)∧∀p ∈ ps,VAt D p
theorem jbo (F:Fence) (n:Nat) (h8:F.fn 278) (hro:F.round=none) (hn:1≤n) (l Bm b nn:Nat) (D0:DataW Unit) (J Jx:List Int→World→Prop)
 (hY:∀pre x W,J pre W→pre.length<Maps.size D0→YieldAt F (n-1) Tryz.prog l #[.int .i64 x] W fun e W' =>
   (e=.returned (.bool true)∧J (pre++[x]) W'∧KeepsWalks W W')∨(e=.returned (.bool false)∧Jx (pre++[x]) W'))
 (W:World) (hJ:AbidesFrom W.heap.size J) (hm:W.cell? ⟨Bm,0,none⟩=some (.map (some b))) (hown:W.ownsMap Tryz.prog 9 (plainElem Tryz.prog 3) b nn D0) (h0:J [] W) :
 CallsIn F n Tryz.prog 278 #[.func (.yield l) #[] #[],.pointer (some ⟨Bm,0,none⟩)] W fun e W'=>(∃v,e=.returned v) ∧
  ((∃xs,(∃ps,jeB D0 ps∧xs=ps.map (·.2))∧J xs W')∨(∃pre,(∃ps,jeD D0 ps∧pre=ps.map (·.2))∧Jx pre W')):=by
 refine callsIn_of_wp Tryz.func278 rfl h8 ?_ hro;simp only[Tryz.ntmps278,List.size_toArray,List.length_cons,List.length_nil,Nat.reduceAdd,Nat.reduceSub,Array.replicate_succ,Array.replicate_zero,List.push_toArray,List.append_toArray,List.nil_append,List.cons_append]
 gi_wp2_with (first
  | (gi_at_range;refine wpListIn_range_own _ rfl _ 321 rfl 9 3 YO Tryz.underlying321 _ b nn _ rfl hown ?_;intro w0 hrg0 hg0 hs0)
  | gi_in)
 go_frame
 gi_loopw [4] (fun _ wr=>∃(left:Lit→Bool) (cnt:Nat) (ps:List (List UInt8×Int)),wr.ranges Tryz.prog 9 (plainElem Tryz.prog 3) b W.heap.size nn D0 left cnt∧ps.length+cnt≤Maps.size D0∧Collected D0 left (ps.map (·.1))∧(∀p ∈ ps,VAt D0 p)∧J (ps.map (·.2)) wr)
  (fun _ wr=>wr.rangeLeft b W.heap.size)
 case atStart =>
  exact⟨_,_,[],hrg0,by simp,Collected.start D0,by simp,hJ [] W w0 none h0 hg0 (fun r e=>by cases e)⟩
 case round =>
  obtain⟨left,cnt,ps,hrg,hcs,hC,hV,hJs⟩:=hrel
  gi_wp2_with (first
   | (gi_at_next;refine wpListIn_next_ranges _ rfl _ rfl 9 YO (plainElem Tryz.prog 3) encStr (Value.int .i64) (fun key kl hk=>by obtain⟨x,hx,_⟩:=Maps.keyOf_str Tryz.underlying9 hk;exact⟨x,hx⟩) (fun v y hv=>by obtain⟨c,rfl,_⟩:=plainElem_int_inv Tryz.underlying3 hv;exact⟨c,rfl⟩) b W.heap.size nn _ _ _ rfl hrg ?_ ?_)
   | gi_in)
  · intro hc0 hl0;gi_wp2
    go_end0
    exact⟨⟨_,rfl⟩,.inl ⟨_,⟨ps,⟨hC.perm hown YO Tryz.underlying9 hl0,fun x=>by rw[hC.2 x,hl0];simp,hV⟩,rfl⟩,hJs⟩⟩
  · intro x c kl yd yp w2 cnt2 hkey hlk hv hat hrg2 hlt hg2 hs2 hen;obtain⟨x',ex,rfl,_⟩:=Maps.keyOf_str Tryz.underlying9 hkey;obtain rfl:x=x':=encStr_inj ex;obtain⟨c',ec,ez,_⟩:=plainElem_int_inv Tryz.underlying3 hv;obtain rfl:c=c':=by simpa using ec
    obtain rfl:yd=.lit (.int .i64 c):=(Prod.mk.inj ez).1;have hJ2:J (ps.map (·.2)) w2:=hJ _ wr w2 (some W.heap.size) hJs hg2 (fun r e=>by cases e;exact⟨Nat.le_refl _,hrg.iter_walk⟩);obtain⟨fn,tmps,assign,body,hy,hR⟩:=hY (ps.map (·.2)) c w2 hJ2 (by simp;omega);clear hs2;gi_wp2
    refine hR.mono ?_;have hC2:Collected D0 (fun z=>left z&&!z.sameKey (.string x)) ((ps++[(x,c)]).map (·.1)):=by simpa using hC.step hlk hat
    have hV2:∀p ∈ ps++[(x,c)],VAt D0 p:=fun p hp=>(List.mem_append.1 hp).elim (hV p) (fun e=>by simp at e;subst e;exact hat);rintro e W3 (⟨rfl,hJ3,hk3⟩ | ⟨rfl,hJx3⟩)
    · gi_wp2
      have hrg3:=hrg2.of_walks hk3;go_roundw
      case rel=>exact⟨_,cnt2,ps++[(x,c)],hrg3,by simp;omega,hC2,hV2,by simpa using hJ3⟩
      case measure=>rw[hrg3.left_eq,hrg.left_eq];exact hlt
    · gi_wp2
      refine bodyPost_ret (results_none rfl _ _ _) rfl ?_;exact⟨⟨_,rfl⟩,.inr ⟨_,⟨ps++[(x,c)],⟨hC2.1,fun y hy=>((hC2.2 y).1 hy).1,hV2⟩,by simp⟩,hJx3⟩⟩
theorem qZ (F:Fence) (n:Nat) (h7:F.fn 278) (hro:F.round=none) (hn:1≤n) (Bm b nn:Nat) (D0:DataW Unit) (w:World) (hBm:Bm<w.heap.size)
 (hm:w.cell? ⟨Bm,0,none⟩=some (.map (some b))) (hown:w.ownsMap Tryz.prog 9 (plainElem Tryz.prog 3) b nn D0) :
 SeqStopsK F n Tryz.prog 278 #[.pointer (some ⟨Bm,0,none⟩)] (fun c:Int=>#[Value.int .i64 c]) KeepsWalks (fun xs=>∃ps,jeB D0 ps∧xs=ps.map (·.2)) (fun pre=>∃ps,jeD D0 ps∧pre=ps.map (·.2)) (Maps.size D0) w:=fun l J Jx W hW hJ _ hY h0=>by
 have hown':W.ownsMap Tryz.prog 9 (plainElem Tryz.prog 3) b nn D0:=by
  have hbl:=hown.lt;obtain⟨es,clock,hb,Ft,hs,hD⟩:=hown;exact⟨es,clock,(hW.block b hbl).trans hb,Ft,hs,hD⟩
 exact jbo F n h7 hro hn l Bm b nn D0 J Jx hY W hJ ((hW.cell (p:=⟨Bm,0,none⟩) hBm).trans hm) hown' h0
theorem jbr (mb:Option Nat) (w:World) :
 Calls Tryz.prog 264 #[.map mb] w fun e w'=>e=.returned (.func (.func 278) #[] #[.pointer (some ⟨w.heap.size,0,none⟩)])∧w'=w.alloc (.cells #[.map mb] 321):=by
 have hmf:=hmfL (P:=Tryz.prog);go_enter Tryz.func264,Tryz.ntmps264;go_wp2;go_ret;exact⟨rfl,rfl⟩
theorem jdM:(Tryz.prog.info? 3).map (fun i=>(i.zero,i.size,i.bytes))=some (some (.int .i64 0),1,8):=by kernel_rfl
theorem jal {W W':World} (h:KeepsOthers W W'):KeepsWalks W W':=⟨h.size,fun k o hk hw=>h.same k o hk (by cases o<;>first | rfl | cases hw)⟩
def jcN (base:Nat) (W:World) (v:Value) (zs:List Int):Prop:=W.ownsRow base 3 1 v zs.length (zs.map (Value.int .i64))∧(v=.slice none 0 0↔zs=[])
theorem qM (F:Fence) (n:Nat) (h3:F.fn 277) (h5:F.fn 278) (hro:F.round=none) (hn:3≤n) (Bs b nn:Nat) (D0:DataW Unit) (hlen:Maps.size D0≤1000000) (w:World)
 (hBs:Bs<w.heap.size) (hcs:w.cell? ⟨Bs,0,none⟩=some (.map (some b))) (hown:w.ownsMap Tryz.prog 9 (plainElem Tryz.prog 3) b nn D0) :
 CallsIn F n Tryz.prog 277 #[.slice none 0 0,.func (.func 278) #[] #[.pointer (some ⟨Bs,0,none⟩)]] w fun e W'=>∃v xs,e=.returned v∧(∃ps,jeB D0 ps∧xs=ps.map (·.2))∧jcN w.heap.size W' v xs∧Below w.heap.size w W':=by
 have h1:1≤n:=by omega
 obtain⟨i0,hi,hz0,hz1,hz2⟩:=info_parts jdM;refine callsIn_of_wp_marks Tryz.func277 rfl h3 ?_ hro;simp only[Tryz.ntmps277,List.size_toArray,List.length_cons,List.length_nil,Nat.reduceAdd,Nat.reduceSub,Array.replicate_succ,Array.replicate_zero,List.push_toArray,List.append_toArray,List.nil_append,List.cons_append];gi_wp2
 have bO:=Boxed.new w 179 (.slice none 0 0);have hB0:Below w.heap.size w (w.alloc (.cells #[.slice none 0 0] 179)):=(Below.refl _ w).alloc (Nat.le_refl _) _;have hown0:(w.alloc (.cells #[.slice none 0 0] 179)).ownsMap Tryz.prog 9 (plainElem Tryz.prog 3) b nn D0:=by
  have hbl:=hown.lt;obtain⟨es,clock,hb,Ft,hs,hD⟩:=hown;exact⟨es,clock,(Below.heap_alloc _ _ b hbl).trans hb,Ft,hs,hD⟩
 refine wpIn_rangeFunc_ownG hro h1 (gf:=278) (lb:=#[.pointer (some ⟨Bs,0,none⟩)]) rfl h5 (enters_of Tryz.func278 (by kernel_rfl) rfl)
  (qZ F (n-1) h5 hro (by omega) Bs b nn D0 _ (by simp;omega) ((hB0.cell (p:=⟨Bs,0,none⟩) hBs).trans hcs) hown0) (fun h k=>h.trans k) (fun W l o o' _ h _ hw=>KeepsWalks.putObj o' h hw) (Below.refl _ _) (fun _=>rfl)
  (fun pre W=>(∃v,Boxed W w.heap.size 179 v∧W.ownsRow w.heap.size 3 1 v pre.length (pre.map (Value.int .i64))∧(v=.slice none 0 0↔pre=[]))∧Below w.heap.size w W)
  (fun _ _ _=>False)
  (OwnFrom.and (Own.from (holdsRow_own w.heap.size w.heap.size 179 3 1 (fun pre=>pre.length) (fun pre=>pre.map (Value.int .i64)) (fun pre v=>v=.slice none 0 0↔pre=[])) _) (ownFrom_below (Nat.le_refl _) (by simp)))
  (fun _ _ _ _ _ hs _ _=>hs)
  ⟨⟨_,bO,World.ownsRow_nil _ _ _ _,by simp⟩,hB0⟩
  (fun x=>{ tmps:=#[.slice none 0 0,.func (.func 278) #[] #[.pointer (some ⟨Bs,0,none⟩)],.pointer (some ⟨w.heap.size,0,none⟩),undef,.slice none 0 0,.int .i64 x,.func (.func 278) #[] #[.pointer (some ⟨Bs,0,none⟩)],.int .i64 x,undef,undef,undef,undef,undef],defers:=[] }) ?assign ?body ?done ?stop
 case assign =>
  intro l x W K hK;gi_wp2
  exact hK
 case body =>
  rintro l pre x W ⟨⟨v,hv,hrow,hnil⟩,hB⟩ hlt;have hc:=hv.cell;gi_wp2_with (gi_at_builtin;refine wpListIn_append_own _ rfl _ _ 179 rfl w.heap.size 3 i0 (.int .i64 0) 1 8 Tryz.underlying179 hi hz0 hz1 hz2 rfl (by decide) _ _ _ rfl (hrow.alloc _) ⟨W.heap.size,0,none⟩ 1 1 [.int .i64 x] rfl rfl (cell_one_new _ _ _) (by simp[Value.oneCell']) (by unfold maxLen;omega) (by omega) (by have:=hB.size;simp;omega) ?_;intro v' w1 hown' hgrow _;obtain⟨g',cap',rfl⟩:=ownsRow_succ hown';obtain⟨hv1,hv2,hr2,hk2,hb2⟩:=hv.appended (by decide) hrow hB.size (Nat.le_refl _) hown' hgrow;have hc1:=hv1.cell;have hf1:=hv1.frozen)
  exact⟨hk2.from _,jal hk2,⟨_,hv2,by simpa using hr2,by simp⟩,hB.trans hb2⟩
 case done =>
  rintro D ys W hD hS ⟨⟨v,hv,hrow,hnil⟩,hB⟩ hK;have hc:=hv.cell;gi_wp2
  refine⟨by simp,.inl ⟨_,_,rfl,run_takeDeferred hK,?_⟩⟩;exact⟨_,results_tmp rfl _ _ _,v,ys,rfl,hS,⟨ownsRow_putObj hrow _ hK rfl,hnil⟩,hB.trans (belowK_b (w:=w) (Nat.le_refl _) W D _ _ (by simp at hD;omega) hK rfl rfl)⟩
 case stop =>
  rintro D c pre W _ _ h _;exact h.elim
theorem jaC (Bs b nn:Nat) (f:ByteArray→Int) (dom:ByteArray→Bool) (w:World) (hn:nn≤1000000) (hBs:Bs<w.heap.size) (hcs:w.cell? ⟨Bs,0,none⟩=some (.map (some b))) (h:jI w b nn f dom) :
 Calls Tryz.prog 263 #[.func (.func 278) #[] #[.pointer (some ⟨Bs,0,none⟩)]] w fun e w'=>∃v zs,e=.returned v∧jcN w.heap.size w' v zs∧(∀x,dom x=true→f x ∈ zs)∧(∀z ∈ zs,∃x,dom x=true∧z=f x)∧zs.length≤1000000∧Kept w w':=by
 obtain⟨D,h1,h2,h3,h4⟩:=h;have hsz:Maps.size D≤1000000:=Nat.le_trans h1.size_le hn;have HA:=lH (qM Fence.wide 3 trivial trivial rfl (by omega) Bs b nn D hsz w hBs hcs h1);have HC:=lH (show Calls Tryz.prog 277 #[.slice none 0 0,.func (.func 278) #[] #[.pointer (some ⟨Bs,0,none⟩)]] w _ from callsIn_wide.1 HA.out);clear h1 hcs;go_enter Tryz.func263,Tryz.ntmps263;go_wp2_with fail
 refine HC.out.mono ?_;rintro e w1 ⟨v,xs,rfl,⟨ps,hps,rfl⟩,ho,hb⟩;obtain⟨HO,HB,HP⟩:=lH3 ho hb hps;clear ho hb hps;have key:∀y:List UInt8,(⟨⟨y⟩⟩:ByteArray).data.toList=y:=fun _=>rfl;have hl:(ps.map (·.2)).length≤1000000:=by
  rw[List.length_map];have h5:ps.length=(strKeys D).length:=by rw[←HP.out.1.length_eq,List.length_map]
  have h6:(strKeys D).length≤Maps.size D:=by
   cases D<;>first | exact Nat.zero_le _ | (show (List.filterMap _ _).length≤_;exact List.length_filterMap_le _ _) | simp[strKeys,Maps.size]
  omega
 go_wp2;go_ret;refine⟨v,_,rfl,HO.out,fun x hx=>?_,fun z hz=>?_,hl,HB.out⟩
 · have hm:=(HP.out.2.1 x.data.toList).2 ((h3 x).trans hx);obtain⟨p,hp,e⟩:=List.mem_map.1 hm;have hv:=HP.out.2.2 p hp (.lit (.int .i64 0));rw[e] at hv;have:=(h2 x).symm.trans hv;injection this with this;injection this with _ this;exact List.mem_map.2 ⟨p,hp,this.symm⟩
 · obtain⟨p,hp,rfl⟩:=List.mem_map.1 hz;refine⟨⟨⟨p.1⟩⟩,?_,?_⟩
   · rw[←h3];exact(HP.out.2.1 p.1).1 (List.mem_map_of_mem hp)
   · have hv:=HP.out.2.2 p hp (.lit (.int .i64 0));have:=(h2 ⟨⟨p.1⟩⟩).symm.trans hv;injection this with this;injection this with _ this;exact this.symm
end Go.Proofs.YtokdjfoalkmhiaaGreat
namespace Go.Proofs.YtokdjfoalkmhiaaGreat
open Go.RowKit
theorem jcN.cells {base:Nat} {W:World} {v:Value} {zs:List Int} (h:jcN base W v zs) (h0:zs≠[]):∃g cap,v=.slice (some ⟨g,0,none⟩) zs.length cap∧∀j,j<zs.length→W.cell? ⟨g,0+j,none⟩=some (.int .i64 (zs.getD j 0)):=by
 obtain⟨⟨hl,h⟩,-⟩:=h;rcases h with ⟨-,hz⟩ | ⟨g,cap,cur,rfl,-,hh,-,-,-,ht⟩
 · exact absurd (List.eq_nil_of_length_eq_zero hz) h0
 · refine⟨g,cap,rfl,fun j hj=>?_⟩;rw[Nat.zero_add,Lib.cell_of_heap hh];have h1:(cur.toList.take (zs.length*1))[j]?=some (.int .i64 (zs.getD j 0)):=by
    rw[ht,List.getElem?_map,List.getElem?_eq_getElem hj];simp[List.getD,hj]
   rw[List.getElem?_take_of_lt (by omega)] at h1;simpa using h1
theorem foldl_min:∀(l:List Int) (m:Int),l.foldl min m≤m∧(∀z ∈ l,l.foldl min m≤z)∧(l.foldl min m=m∨l.foldl min m ∈ l)
 | [],m=>⟨Int.le_refl _,fun z h=>absurd h (by simp),.inl rfl⟩
 | x::t,m=>by
  obtain⟨h1,h2,h3⟩:=foldl_min t (min m x);rw[List.foldl_cons];refine⟨by omega,fun z hz=>?_,?_⟩
  · rcases List.mem_cons.1 hz with rfl | hz
    · omega
    · exact h2 z hz
  · rcases h3 with h3 | h3
    · by_cases g:m≤x
      · exact .inl (by rw[h3];omega)
      · exact .inr (by rw[h3,show min m x=x by omega];simp)
    · exact .inr (by simp[h3])
theorem jd8 {zs:List Int} (h:zs≠[]):(∀z ∈ zs,Lib.minOf zs≤z)∧Lib.minOf zs ∈ zs:=by
 cases zs with
 | nil=>exact absurd rfl h
 | cons x t =>
  obtain⟨h1,h2,h3⟩:=foldl_min (x::t) x;refine⟨h2,?_⟩;show (x::t).foldl min x ∈ _;rcases h3 with h3 | h3
  · rw[h3];simp
  · exact h3
theorem jdL {w:World} {a:Option Addr} {m:Nat} {nodes:List Nod} (h:js w a m nodes) {key name d:ByteArray} (hd:domV key name nodes=some d):d.size≤maxLen:=by
 have:=Xs hd;unfold Jh at this;rw[List.any_eq_true] at this;obtain⟨n,hn,he⟩:=this;have he:j6 n.labels key=some d:=by simpa using he
 obtain⟨k,hk,e⟩:=List.getElem_of_mem hn;rcases h.2.2 with h0 | ⟨b,off,-,-,hc⟩
 · rw[h.1] at hk;omega
 · obtain⟨_,_,_,_,_,_,_,_,_,_,_,_,_,_,hN⟩:=hc k n (by rw[List.getElem?_eq_getElem hk,e]);exact qo hN.labels.fine he
theorem jcp (s1 s2 s3 a1 a2 a3 a4:Option Addr) (n1 e1 n2 e2 n3 e3 m1 c1 m2 c2 m3 c3 m4 c4:Nat) (p:Pd) (s:Clu) (name:ByteArray) (w:World) (hn:js w s1 n1 s.nodes) (hp:jy w s2 n2 s.pods) (hb1:n1≤100000) (hb2:n2≤100000) :
 Calls Tryz.prog 228 #[.agg #[.slice s1 n1 e1,.slice s2 n2 e2,.slice s3 n3 e3],jt p (.slice a1 m1 c1) (.slice a2 m2 c2) (.slice a3 m3 c3) (.slice a4 m4 c4),.string name] w fun e w'=>(∀d,domV p.key name s.nodes=some d→e=.returned (.int .i64 (J7 p s d)))∧(domV p.key name s.nodes=none→e=.panicked [jN 3])∧Kept w w':=by
 obtain⟨Z,hZ⟩:=eX ((w.alloc (.cells #[.slice s1 n1 e1,.slice s2 n2 e2,.slice s3 n3 e3] 26)).alloc (.cells #[.string p.name,.string p.owner,.int .i64 p.prio,.slice a1 m1 c1,.slice a2 m2 c2,.slice a3 m3 c3,.slice a4 m4 c4,.string p.key,.int .i64 p.most,.string p.node,.bool p.hold] 44))
 have hkz:Kept w Z:=by rw[←hZ];exact jj _ _ _
 have Vh:=lH (jc w (.slice s1 n1 e1) [.slice s2 n2 e2,.slice s3 n3 e3] 26 Z (by rw[←hZ];exact ja _ _));have Vb:=lH (show je (w.heap.size+1) [.string p.name,.string p.owner,.int .i64 p.prio,.slice a1 m1 c1,.slice a2 m2 c2,.slice a3 m3 c3,.slice a4 m4 c4,.string p.key,.int .i64 p.most,.string p.node,.bool p.hold] Z by
  have dd:=jc (w.alloc (.cells #[.slice s1 n1 e1,.slice s2 n2 e2,.slice s3 n3 e3] 26)) (.string p.name) [.string p.owner,.int .i64 p.prio,.slice a1 m1 c1,.slice a2 m2 c2,.slice a3 m3 c3,.slice a4 m4 c4,.string p.key,.int .i64 p.most,.string p.node,.bool p.hold] 44 Z (by rw[hZ];exact Kept.refl _);rw[World.size_alloc] at dd;exact dd)
 obtain⟨HN,HP,VC,UZ,K⟩:=lH5 hn hp hn.1 hp.1 hkz;clear hn hp hkz;unfold jt;go_enter Tryz.func228,Tryz.ntmps228;go_upto_region 1 with fail
 try rw[hZ]
 clear hZ;obtain⟨y0,y1,y2⟩:=Vh.out.at3;have r7:=Vb.out.at_ 7 _ rfl;go_wp2_with fail
 refine(jba s1 s2 s3 n1 e1 n2 e2 n3 e3 s.nodes p.key name Z (HN.out.kept K.out) hb1).mono ?_;rintro e w1 ⟨h1,h2,kk⟩;obtain⟨Vh,Vb,K⟩:=lH3 (Vh.out.kept kk) (Vb.out.kept kk) (K.out.trans kk);clear kk y0 y1 y2 r7
 cases ho:domV p.key name s.nodes with
 | none =>
  obtain rfl:=h2 ho;have HO:=lH ho;clear h1 h2 ho;go_wp2;exact⟨rfl,(fun d e=>by rw[HO.out] at e;cases e),(fun _=>rfl),K.out⟩
 | some d =>
  obtain rfl:=h1 d ho;have HO:=lH ho;have hds:=jdL HN.out ho;have TB:=lH hds;have Tg:=lH (Xs ho);clear h1 h2 ho hds;obtain⟨y0,y1,y2⟩:=Vh.out.at3;obtain⟨r0,r1,r2,r3,r4,r5,r6,r7,r8,r9,r10⟩:=Vb.out.at11;go_wp2_with fail
  have TA:=jdj s1 s2 s3 a1 a2 a3 a4 n1 e1 n2 e2 n3 e3 m1 c1 m2 c2 m3 c3 m4 c4 p s.nodes s.pods w1 (HN.out.kept K.out) (HP.out.kept K.out) hb1 hb2;unfold jt at TA;refine TA.mono ?_;clear TA;rintro e w2 ⟨mc,nn,rfl,hM,hmc,hnn,kk⟩;obtain⟨HM,RM,K,UE⟩:=lH4 hM K.out.size (K.out.trans kk) hmc;have KS:=lH K.out.size;clear kk hM hmc y0 y1 y2 r0 r1 r2 r3 r4 r5 r6 r7 r8 r9 r10;have hb9:inD p s.pods d s.nodes≤100000*100000:=Nat.le_trans (ja6 _ _ _ _) (Nat.mul_le_mul (by rw[VC.out];omega) (by rw[UZ.out];omega));have hl1:=HM.out.look d TB.out;obtain⟨x1,hx1⟩:=eX (inD p s.pods d s.nodes)
  have Ut:=lH hx1;rw[hx1] at hl1 hb9;obtain⟨x3,hx3⟩:∃z:Nat,x1+1=z:=⟨_,rfl⟩
  have hx4:(x1:Int)+1=(x3:Int):=by omega
  have hx5:IntKind.i64.wrap (x3:Int)=(x3:Int):=IntWalk.i64_in _ (by omega);obtain⟨w4,hput,hM4,hG4⟩:=HM.out.put (by unfold maxLen;omega) d TB.out (x3:Int) (by omega);have Uu:=lH hx3;have U3:=lH (show jI w4 mc (nn+1) (fun e=>((inD p s.pods e s.nodes+(if e=d then 1 else 0):Nat):Int)) (fun e=>Jh p.key e s.nodes) from hM4.eq (fun e=>by
   by_cases he:e=d
   · subst he;rw[if_pos rfl,if_pos rfl,Ut.out,Uu.out]
   · rw[if_neg he,if_neg he];rfl) (fun e=>by
   by_cases he:e=d
   · subst he;rw[if_pos rfl,Tg.out]
   · rw[if_neg he]))
  have U2:=lH hG4;have hb10:x3≤100000*100000+1:=by omega
  have TC:=lH hb10;have RN:=lH hnn;clear hM4 hG4 hx1 hx3 hb9 hb10;go_upto_region 4 with fail
  clear hl1 hput hx4 hx5;have J:=lH (Kept.drew w4);refine wp_region_held_drew (S:=fun W=>jI W mc (nn+1) (fun e=>((inD p s.pods e s.nodes+(if e=d then 1 else 0):Nat):Int)) (fun e=>Jh p.key e s.nodes)) (by kernel_rfl) (U3.out.kept J.out) (fun hHeld=>?_);refine tR 0 rfl (by kernel_rfl) (fun _ _ _=>id) (Or.inl ⟨by rfl,(by intro W hSw;go_simp<;>with_reducible rfl)⟩) ‹_› ?_;refine tR 1 rfl (by kernel_rfl) (fun _ _ _=>id) (Or.inl ⟨by rfl,(by intro W hSw;go_simp<;>with_reducible rfl)⟩) ‹_› ?_;refine tR 2 rfl (by kernel_rfl) (fun _ _ _=>id) (Or.inl ⟨by rfl,(by intro W hSw;have hl:=hSw.look d TB.out;go_simp<;>with_reducible rfl)⟩) ‹_› ?_;refine tR 3 rfl (by kernel_rfl) (fun _ _ _=>id) (Or.inl ⟨by rfl,(by intro W hSw;go_simp<;>with_reducible rfl)⟩) ‹_› ?_;try simp only[nA,nB,nC,nD,nE]
  skip;refine rd1 4 fun K9 Ky=>?_;go_simp;refine(jbr (some mc) _).mono ?_;rintro e w5 ⟨rfl,rfl⟩;have kq:=ja w4.drew (.cells #[.map (some mc)] 321);obtain⟨w5,hw5⟩:=eX (w4.drew.alloc (.cells #[.map (some mc)] 321))
  have hcs:je w4.drew.heap.size [.map (some mc)] w5:=jc w4.drew (.map (some mc)) [] 321 w5 (by rw[hw5];exact Kept.refl _);rw[hw5] at kq ⊢;obtain⟨bs,hbs⟩:=eX (w4.drew.heap.size)
  rw[hbs] at hcs ⊢;have Ra:=lH hcs;have J:=lH (J.out.trans kq);clear hcs kq hw5 hbs;refine Ky.out _ _ (U3.out.kept J.out) (fun _=>?_);clear Ky K9;try simp only[nA,nB,nC,nD,nE]
  refine rd1 5 fun K9 Ky=>?_;go_simp;refine(jaC bs mc (nn+1) _ _ w5 (by have:=RN.out;omega) Ra.out.lt (Ra.out.at_ 0 _ rfl) (U3.out.kept J.out)).mono ?_;rintro e w6 ⟨v,zs,rfl,ho,hz1,hz2,hzl,kk⟩;have J:=lH (J.out.trans kk);have hzd:=hz1 d Tg.out;have hz0:zs≠[]:=fun e=>by rw[e] at hzd;cases hzd
  obtain⟨g,cap,rfl,hc⟩:=ho.cells hz0;obtain⟨HC,UA,RO,Rb,RP⟩:=lH5 hc hz1 hz2 hz0 hzl;clear kk ho hc hz1 hz2 hz0 hzd hzl;refine Ky.out _ _ (U3.out.kept J.out) (fun _=>?_);clear Ky K9;try simp only[nA,nB,nC,nD,nE]
  refine rd1 6 fun K9 Ky=>?_;go_simp;refine(Tryz.slices_Min_int g 0 zs.length cap zs w6 (List.length_pos_iff.2 Rb.out) (Nat.le_refl _) (by have:=RP.out;omega) HC.out).mono ?_;rintro e w7 ⟨rfl,rfl⟩;rw[List.take_length];refine Ky.out _ _ (U3.out.kept J.out) (fun _=>?_);clear Ky K9;try simp only[nA,nB,nC,nD,nE]
  obtain⟨hm1,hm2⟩:=jd8 Rb.out;obtain⟨c,hcd,hce⟩:=RO.out _ hm2;obtain⟨zm,hzm⟩:∃z:Nat,inD p s.pods c s.nodes+(if c=d then 1 else 0)=z:=⟨_,rfl⟩
  rw[hzm] at hce;rw[hce] at hm1 ⊢;have HL:=lH (jdk (p:=p) (pods:=s.pods) (nodes:=s.nodes) (d:=d) (m:=inD p s.pods d s.nodes+1) (z:=zm) Tg.out rfl (fun e he=>by have:=hm1 _ (UA.out e he);omega) ⟨c,hcd,hzm.symm⟩);have hle:zm≤x3:=by have h:=hm1 _ (UA.out d Tg.out);rw[if_pos rfl,Ut.out] at h;have:=Uu.out;omega
  have UX:=lH (show J7 p s d=(x3:Int)-(zm:Int) by unfold J7;rw[HL.out,Ut.out,Uu.out]);have hx6:(inD p s.pods d s.nodes+(if d=d then 1 else 0))=x3:=by rw[if_pos rfl,Ut.out,Uu.out]
  try rw[hx6]
  obtain⟨y,hy⟩:∃y:Nat,x3-zm=y:=⟨_,rfl⟩
  have hy1:(x3:Int)-(zm:Int)=(y:Int):=by omega
  have hy2:IntKind.i64.wrap (y:Int)=(y:Int):=IntWalk.i64_in _ (by have:=TC.out;omega);clear hm1 hm2 hcd hce hzm;refine tR 7 rfl (by kernel_rfl) (fun _ _ _=>id) (Or.inl ⟨by rfl,(by intro W hSw;go_simp<;>with_reducible rfl)⟩) ‹_› ?_;refine tR 8 rfl (by kernel_rfl) (fun _ _ _=>id) (Or.inl ⟨by rfl,(by intro W hSw;go_simp<;>with_reducible rfl)⟩) ‹_› ?_;try simp only[nA,nB,nC,nD,nE]
  refine wpAnyH_done (by kernel_rfl) ?_ _;go_wp2;go_ret;refine⟨fun d9 e9=>?_,fun e9=>?_,(jd.below K.out U2.out fun i e=>by have:=UE.out;have:=RM.out;omega).trans J.out⟩
  · rw[HO.out] at e9
    cases e9
    rw[UX.out,hy1];have hv:IntKind.i64.wrap (((inD p s.pods d s.nodes:Nat):Int)+1-(zm:Int))=(y:Int):=by
     rw[Ut.out,show (x1:Int)+1-(zm:Int)=(y:Int) by have:=Uu.out;omega];exact hy2
    exact congrArg (fun z=>Ending.returned (.int .i64 z)) hv
  · rw[HO.out] at e9
    cases e9
open Go.RowKit Go.Shelf
def SkR (o:Option Int) (w:World) (e:Ending) (w':World):Prop:=(∀z,o=some z→e=.returned (.int .i64 z))∧(o=none→e=.panicked [jN 3])∧Kept w w'
theorem Y8 (B:Nat) (q:Nat) (x y:Int) (w:World) (hq:w.cell? ⟨q,0,none⟩=some (.int .i64 y)) (hzq:w.frozen? ⟨q,0,none⟩=false) (hBq:B≤q) :
 CallsD Tryz.prog 259 #[.pointer (some ⟨q,0,none⟩)] (.panicking [jN x]) w fun e u' w' =>
  e=.returned (.tuple #[])∧u'=.panicking [{ jN x with recovered:=true }]∧w'=w.setCell ⟨q,0,none⟩ (.int .i64 x)∧w'.cell? ⟨q,0,none⟩=some (.int .i64 x)∧Below B w w':=by
 have hta:∀W,(Instr.typeAssert (.iface 45 (.int .i64 x)) 20 45 false).run Tryz.prog W=.ok (.int .i64 x) W:=fun _=>by kernel_rfl
 refine callsD_of_wpS Tryz.func259 rfl fun c₀ cs hu=>?_;apply wpS_seq;apply wpS_region;simp[wpOpsS,go_sem,recoverD,hu,Tryz.ntmps259,Exit.thenS];apply wpS_seq;apply wpS_region;simp[wpOpsS,go_sem,recoverD,Exit.thenS];refine wpS_cond (t:=true) (by simp[Act.eval,Array.replicate]) ?_;simp only[if_true];refine wpS_of_wp ?_;simp[Array.replicate];go_wp2;simp[bodyPostS,results,Tryz.results259];exact⟨World.cell?_setCell_same' _ _ _ (by rw[hq];rfl),(Below.refl B w).setCell (p:=⟨q,0,none⟩) hBq _⟩
theorem jaI (q:Addr) (w:World) :
 CallsD Tryz.prog 259 #[.pointer (some q)] .returning w fun e u' w'=>e=.returned (.tuple #[])∧u'=.returning∧w'=w:=by
 refine callsD_of_wpS Tryz.func259 rfl fun c₀ cs hu=>?_;apply wpS_seq;apply wpS_region;simp[wpOpsS,go_sem,recoverD,hu,Tryz.ntmps259,Exit.thenS];apply wpS_seq;apply wpS_region;simp[wpOpsS,go_sem,recoverD,hu,Exit.thenS];refine wpS_cond (t:=false) (by simp[Act.eval,Array.replicate]) ?_;simp only[Bool.false_eq_true,if_false];refine wpS_of_wp (wp_skip ?_)
 cases c₀
 simp_all [bodyPostS,results,Tryz.results259]
theorem jbw (Q1 Q2 Q3:Nat) (o:Option Int) (w:World) (hk:∀W,Kept w W→Calls Tryz.prog 227 #[.pointer (some ⟨Q1,0,none⟩),.pointer (some ⟨Q2,0,none⟩),.pointer (some ⟨Q3,0,none⟩)] W (SkR o W)) :
 Calls Tryz.prog 226 #[.func (.func 227) #[] #[.pointer (some ⟨Q1,0,none⟩),.pointer (some ⟨Q2,0,none⟩),.pointer (some ⟨Q3,0,none⟩)]] w fun e w'=>e=.returned (.tuple #[.int .i64 (o.getD 0),.int .i64 (if o.isSome=true then 0 else 3)])∧Kept w w':=by
 have hmf:=hmfL (P:=Tryz.prog);obtain⟨Z,hZ⟩:=eX (w.alloc (.cells #[.int .i64 0] 45))
 have hkz:Kept w Z:=by rw[←hZ];exact ja _ _
 obtain⟨HK,RQ,Th⟩:=lH3 hkz (jc w (.int .i64 0) [] 45 Z (by rw[hZ];exact Kept.refl _)) (hk Z hkz);clear hk hkz;go_enter_defers Tryz.func226,Tryz.ntmps226
 go_wp2_with fail
 try rw[hZ]
 refine Th.out.mono ?_;rintro e1 w1 ⟨h0,h1,hb⟩;have KK:=lH (HK.out.trans hb);have TD:=lH (RQ.out.kept hb);have ze:=TD.out.at_ 0 _ rfl;have zf:=TD.out.free 0
 cases o with
 | some z =>
  obtain rfl:=h0 z rfl;clear h0 h1 hb hZ;go_wp2_with fail
  have FE:=lH (TD.out.set (j:=0) (u:=.int .i64 0) (by simp));have KF:=lH (show Kept w (w1.setCell ⟨w.heap.size,0,none⟩ (.int .i64 0)) from KK.out.setCell (p:=⟨w.heap.size,0,none⟩) (Nat.le_refl _) _);obtain⟨WF,hWF⟩:=eX (w1.setCell ⟨w.heap.size,0,none⟩ (.int .i64 0))
  rw[hWF] at FE KF ⊢;have fe:=FE.out.at_ 0 _ rfl;clear hWF ze zf;refine leaves_cons (f:=259) (args:=#[.pointer (some ⟨w.heap.size,0,none⟩)]) (by simp) (by simp[go_sem]) ?_;refine(jaI ⟨w.heap.size,0,none⟩ _).mono ?_;rintro e u' w'' ⟨rfl,rfl,rfl⟩;simp[Leaves,settle,results,Tryz.results226,go_sem,fe];exact KF.out
 | none =>
  obtain rfl:=h1 rfl;clear h0 h1 hb hZ;go_wp2_with fail
  refine leaves_cons (f:=259) (args:=#[.pointer (some ⟨w.heap.size,0,none⟩)]) (by simp) (by simp[go_sem]) ?_;refine(Y8 w.heap.size w.heap.size 3 0 _ ze zf (Nat.le_refl _)).mono ?_;rintro e u' w'' ⟨rfl,rfl,rfl,q2,q3⟩;have KF:=lH (show Kept w _ from Below.trans KK.out q3);obtain⟨WF,hWF⟩:=eX (w1.setCell ⟨w.heap.size,0,none⟩ (.int .i64 3))
  rw[hWF] at q2 KF ⊢;clear hWF q3 ze zf;simp[Leaves,settle,results,Tryz.results226,go_sem,q2];exact KF.out
theorem jc3 (Q1 Q2 Q3:Nat) (s1 s2 s3 a1 a2 a3 a4:Option Addr) (n1 e1 n2 e2 n3 e3 m1 c1 m2 c2 m3 c3 m4 c4:Nat) (p:Pd) (s:Clu) (name:ByteArray) (w:World) (hq1:je Q1 [.slice s1 n1 e1,.slice s2 n2 e2,.slice s3 n3 e3] w) (hq2:je Q2 [.string p.name,.string p.owner,.int .i64 p.prio,.slice a1 m1 c1,.slice a2 m2 c2,.slice a3 m3 c3,.slice a4 m4 c4,.string p.key,.int .i64 p.most,.string p.node,.bool p.hold] w) (hq3:je Q3 [.string name] w) (hn:js w s1 n1 s.nodes) (hp:jy w s2 n2 s.pods) (hb1:n1≤100000) (hb2:n2≤100000) :
 Calls Tryz.prog 227 #[.pointer (some ⟨Q1,0,none⟩),.pointer (some ⟨Q2,0,none⟩),.pointer (some ⟨Q3,0,none⟩)] w (SkR ((domV p.key name s.nodes).map (J7 p s)) w):=by
 have HS:=lH (jcp s1 s2 s3 a1 a2 a3 a4 n1 e1 n2 e2 n3 e3 m1 c1 m2 c2 m3 c3 m4 c4 p s name w hn hp hb1 hb2);unfold jt at HS;have y0:=hq1.at_ 0 _ rfl;have y1:=hq1.at_ 1 _ rfl;have y2:=hq1.at_ 2 _ rfl;have r0:=hq2.at_ 0 _ rfl;have r1:=hq2.at_ 1 _ rfl;have r2:=hq2.at_ 2 _ rfl;have r3:=hq2.at_ 3 _ rfl;have r4:=hq2.at_ 4 _ rfl;have r5:=hq2.at_ 5 _ rfl;have r6:=hq2.at_ 6 _ rfl;have r7:=hq2.at_ 7 _ rfl;have r8:=hq2.at_ 8 _ rfl;have r9:=hq2.at_ 9 _ rfl;have r10:=hq2.at_ 10 _ rfl;have z0:=hq3.at_ 0 _ rfl;clear hq1 hq2 hq3 hn hp;go_enter Tryz.func227,Tryz.ntmps227;go_wp2_with fail
 refine HS.out.mono ?_;rintro e w1 ⟨h1,h2,kk⟩;have K:=lH kk;clear kk HS y0 y1 y2 r0 r1 r2 r3 r4 r5 r6 r7 r8 r9 r10 z0
 cases ho:domV p.key name s.nodes with
 | none =>
  obtain rfl:=h2 ho;have HO:=lH ho;clear h1 h2 ho;go_wp2;exact⟨rfl,(fun z e=>by cases e),(fun _=>rfl),K.out⟩
 | some d =>
  obtain rfl:=h1 d ho;have HO:=lH ho;clear h1 h2 ho;obtain⟨z,hz⟩:=eX (J7 p s d)
  rw[hz];have HZ:=lH hz;clear hz;go_wp2;go_ret;exact⟨(fun y e=>by rw[HO.out] at e;cases e;exact congrArg (fun z=>Ending.returned (.int .i64 z)) HZ.out.symm),(fun e=>by rw[HO.out] at e;cases e),K.out⟩
theorem jes (s1 s2 s3 a1 a2 a3 a4:Option Addr) (n1 e1 n2 e2 n3 e3 m1 c1 m2 c2 m3 c3 m4 c4:Nat) (p:Pd) (s:Clu) (name:ByteArray) (w:World) (hn:js w s1 n1 s.nodes) (hp:jy w s2 n2 s.pods) (hb1:n1≤100000) (hb2:n2≤100000) :
 Calls Tryz.prog 195 #[.agg #[.slice s1 n1 e1,.slice s2 n2 e2,.slice s3 n3 e3],jt p (.slice a1 m1 c1) (.slice a2 m2 c2) (.slice a3 m3 c3) (.slice a4 m4 c4),.string name] w (Say (.tuple #[.int .i64 (zX p s name).1,.bool (zX p s name).2]) w):=by
 have hmf:=hmfL (P:=Tryz.prog);obtain⟨Y,hY⟩:=eX ((w.alloc (.cells #[.slice s1 n1 e1,.slice s2 n2 e2,.slice s3 n3 e3] 26)).alloc (.cells #[.string p.name,.string p.owner,.int .i64 p.prio,.slice a1 m1 c1,.slice a2 m2 c2,.slice a3 m3 c3,.slice a4 m4 c4,.string p.key,.int .i64 p.most,.string p.node,.bool p.hold] 44))
 have hky:Kept w Y:=by rw[←hY];exact jj _ _ _
 have hys:Y.heap.size=w.heap.size+2:=by rw[←hY];simp
 have hsb:=jc w (.slice s1 n1 e1) [.slice s2 n2 e2,.slice s3 n3 e3] 26 Y (by rw[←hY];exact ja _ _);have hpb:je (w.heap.size+1) [.string p.name,.string p.owner,.int .i64 p.prio,.slice a1 m1 c1,.slice a2 m2 c2,.slice a3 m3 c3,.slice a4 m4 c4,.string p.key,.int .i64 p.most,.string p.node,.bool p.hold] Y:=by
  have dd:=jc (w.alloc (.cells #[.slice s1 n1 e1,.slice s2 n2 e2,.slice s3 n3 e3] 26)) (.string p.name) [.string p.owner,.int .i64 p.prio,.slice a1 m1 c1,.slice a2 m2 c2,.slice a3 m3 c3,.slice a4 m4 c4,.string p.key,.int .i64 p.most,.string p.node,.bool p.hold] 44 Y (by rw[hY];exact Kept.refl _);rw[World.size_alloc] at dd;exact dd
 obtain⟨Z,hZ⟩:=eX (Y.alloc (.cells #[.string name] 9))
 have hkz:Kept Y Z:=by rw[←hZ];exact ja _ _
 have hnb:je (w.heap.size+2) [.string name] Z:=by
  have dd:=jc Y (.string name) [] 9 Z (by rw[hZ];exact Kept.refl _);rw[hys] at dd;exact dd
 have hYZ:((w.alloc (.cells #[.slice s1 n1 e1,.slice s2 n2 e2,.slice s3 n3 e3] 26)).alloc (.cells #[.string p.name,.string p.owner,.int .i64 p.prio,.slice a1 m1 c1,.slice a2 m2 c2,.slice a3 m3 c3,.slice a4 m4 c4,.string p.key,.int .i64 p.most,.string p.node,.bool p.hold] 44)).alloc (.cells #[.string name] 9)=Z:=by rw[hY];exact hZ
 obtain⟨Vh,Vb,Vl,K,HN,HP⟩:=lH6 (hsb.kept hkz) (hpb.kept hkz) hnb (hky.trans hkz) (hn.kept (hky.trans hkz)) (hp.kept (hky.trans hkz));clear hn hp hky hkz hys hsb hpb hnb hY hZ;obtain⟨t0,h0⟩:=eX ((p.key.toList==([]:List UInt8)))
 have HI:=lH (show Ju p.key=t0 by rw[YL,h0]);have r7:=Vb.out.at_ 7 _ rfl;unfold jt;go_enter Tryz.func195,Tryz.ntmps195
 cases t0 with
 | true =>
  have HV:=lH (show zX p s name=(0,true) by unfold zX;rw[if_pos HI.out]);go_wp2;try rw[hYZ]
  go_ret2
  rw[HV.out];exact⟨rfl,by first | exact K.out | (rw[hYZ];exact K.out)⟩
 | false =>
  have HC:=lH (jbw w.heap.size (w.heap.size+1) (w.heap.size+2) ((domV p.key name s.nodes).map (J7 p s)) Z fun W k=>jc3 w.heap.size (w.heap.size+1) (w.heap.size+2) s1 s2 s3 a1 a2 a3 a4 n1 e1 n2 e2 n3 e3 m1 c1 m2 c2 m3 c3 m4 c4 p s name W (Vh.out.kept k) (Vb.out.kept k) (Vl.out.kept k) (HN.out.kept k) (HP.out.kept k) hb1 hb2);have HV:=lH (show zX p s name=(((domV p.key name s.nodes).map (J7 p s)).getD 0,((domV p.key name s.nodes).map (J7 p s)).isSome) by
   unfold zX;rw[if_neg (by rw[HI.out];decide)]
   cases domV p.key name s.nodes<;>rfl)
  obtain⟨o,ho⟩:=eX ((domV p.key name s.nodes).map (J7 p s))
  rw[ho] at HC HV;clear ho;go_upto_region 3 with fail
  try rw[hYZ]
  clear hYZ r7 h0;go_wp2_with fail
  refine HC.out.mono ?_;rintro e w1 ⟨rfl,kk⟩;have K:=lH (K.out.trans kk);clear kk
  cases o with
  | none =>
   have HW:=lH (show zX p s name=(0,false) from HV.out);go_wp2;go_ret2
   rw[HW.out];exact⟨rfl,K.out⟩
  | some z =>
   have HW:=lH (show zX p s name=(z,true) from HV.out);go_wp2;go_ret2
   rw[HW.out];exact⟨rfl,K.out⟩
theorem qu {r:Int×Vec.V} {w w':World} {e:Ending} (h:Vec.JY r w e w'):jeb r w e w':=by
 obtain⟨v,e,h,k⟩:=h;exact⟨v,e,h.at_,k⟩
theorem jgf {v:Value} {s:Clu} {w:World} (h:jJ w v s) (x:ByteArray) (hl:jv s):Calls Tryz.prog 165 #[v,.string x] w (jeb (Zq s x) w):=by
 obtain⟨v1,v2,v3,rfl,⟨a,cap,rfl,l1,m1,h1⟩,⟨b,cp,rfl,l2,m2,h2⟩,⟨d,cb,rfl,l3,m3,h3⟩⟩:=h;exact(jdp a b d _ cap _ cp _ cb s.nodes s.pods x w h1 h2 hl.nodes).mono fun _ _ h=>qu h
theorem jgm {v:Value} {s:Clu} {w:World} (h:jJ w v s) (x:ByteArray) (hl:jv s):Calls Tryz.prog 196 #[v,.string x] w (jeb (ZA s x) w):=by
 obtain⟨v1,v2,v3,rfl,⟨a,cap,rfl,l1,m1,h1⟩,⟨b,cp,rfl,l2,m2,h2⟩,⟨d,cb,rfl,l3,m3,h3⟩⟩:=h;exact(jc7 a b d _ cap _ cp _ cb s.nodes s.pods x w h1 h2 hl.nodes).mono fun _ _ h=>qu h
theorem onR {v:Value} {s:Clu} {w:World} (h:jJ w v s) (x:ByteArray) (hl:jv s):Calls Tryz.prog 118 #[v,.string x] w fun e w'=>∃y,e=.returned y∧Jn w' y (onP x s.pods)∧Kept w w':=by
 obtain⟨v1,v2,v3,rfl,⟨a,cap,rfl,l1,m1,h1⟩,⟨b,cp,rfl,l2,m2,h2⟩,⟨d,cb,rfl,l3,m3,h3⟩⟩:=h;exact jd2 b a d _ cp _ cap _ cb s.pods x w h2 hl.pods hl.podsN
theorem jJ.nAt {w:World} {v2 v3:Value} {b:Option Addr} {m cp:Nat} {s:Clu} (h:jJ w (zx (.slice b m cp) v2 v3) s):js w b m s.nodes∧m=s.nodes.length:=by
 obtain⟨_,_,_,e,g0⟩:=h
 cases e
 obtain⟨a',cap',e,_,_,h⟩:=g0.nodes
 cases e
 exact⟨h,rfl⟩
theorem jJ.pAt {w:World} {v1 v3:Value} {b:Option Addr} {m cp:Nat} {s:Clu} (h:jJ w (zx v1 (.slice b m cp) v3) s):jy w b m s.pods∧m=s.pods.length:=by
 obtain⟨_,_,_,e,g0⟩:=h
 cases e
 obtain⟨a',cap',e,_,_,h⟩:=g0.pods
 cases e
 exact⟨h,rfl⟩
theorem jat (p:Pd) (n:Nod) (a1 a2 a3 a4:Option Addr) (m1 c1 m2 c2 m3 c3 m4 c4:Nat) (b1 b2 b3:Option Addr) (k1 d1 k2 d2 k3 d3:Nat) (w:World) (hp:jr w (.slice a1 m1 c1) (.slice a2 m2 c2) (.slice a3 m3 c3) (.slice a4 m4 c4) p) (hn:jT w (.slice b1 k1 d1) (.slice b2 k2 d2) (.slice b3 k3 d3) n):Calls Tryz.prog 138 #[jt p (.slice a1 m1 c1) (.slice a2 m2 c2) (.slice a3 m3 c3) (.slice a4 m4 c4),zS n (.slice b1 k1 d1) (.slice b2 k2 d2) (.slice b3 k3 d3)] w (Say (.bool (zT p n)) w):=by
 obtain⟨t,ht⟩:=eX (Jd p.sel n.labels)
 have V1:=lH (fun (W:World) (k:Kept w W)=>jft (hp.sel.kept k) (hn.labels.kept k) ht);obtain⟨cd,hcd⟩:=eX (n.cordon)
 have HV:=lH (show zT p n=(!cd&&t) by unfold zT;rw[ht,hcd]);clear ht;obtain⟨Z,hZ⟩:=eX ((w.alloc (.cells #[.string p.name,.string p.owner,.int .i64 p.prio,.slice a1 m1 c1,.slice a2 m2 c2,.slice a3 m3 c3,.slice a4 m4 c4,.string p.key,.int .i64 p.most,.string p.node,.bool p.hold] 44)).alloc (.cells #[.string n.name,.slice b1 k1 d1,.slice b2 k2 d2,.slice b3 k3 d3,.bool cd] 57))
 have hkz:Kept w Z:=by rw[←hZ];exact jj _ _ _
 have Vf:=lH (jc w (.string p.name) [.string p.owner,.int .i64 p.prio,.slice a1 m1 c1,.slice a2 m2 c2,.slice a3 m3 c3,.slice a4 m4 c4,.string p.key,.int .i64 p.most,.string p.node,.bool p.hold] 44 Z (by rw[←hZ];exact ja _ _));have Va:=lH (show je (w.heap.size+1) [.string n.name,.slice b1 k1 d1,.slice b2 k2 d2,.slice b3 k3 d3,.bool cd] Z by
  have dd:=jc (w.alloc (.cells #[.string p.name,.string p.owner,.int .i64 p.prio,.slice a1 m1 c1,.slice a2 m2 c2,.slice a3 m3 c3,.slice a4 m4 c4,.string p.key,.int .i64 p.most,.string p.node,.bool p.hold] 44)) (.string n.name) [.slice b1 k1 d1,.slice b2 k2 d2,.slice b3 k3 d3,.bool cd] 57 Z (by rw[hZ];exact Kept.refl _);rw[World.size_alloc] at dd;exact dd)
 have K:=lH hkz;have HM:=lH (V1.out Z hkz);clear V1 hp hn hkz;have r5:=Vf.out.at_ 5 _ rfl;have q2:=Va.out.at_ 2 _ rfl;have q4:=Va.out.at_ 4 _ rfl;unfold jt zS;rw[hcd];clear hcd;go_enter Tryz.func138,Tryz.ntmps138
 cases cd with
 | true =>
  go_wp2;try rw[hZ]
  go_ret;exact⟨jq (by rw[HV.out];rfl),by first | exact K.out | (rw[hZ];exact K.out)⟩
 | false =>
  go_wp2_with fail
  try rw[hZ]
  refine HM.out.mono ?_;rintro e w1 ⟨rfl,kk⟩;have K:=lH (K.out.trans kk);clear kk hZ;go_wp2;go_ret;exact⟨jq (by rw[HV.out];rfl),K.out⟩
theorem jbx (p:Pd) (n:Nod) (a1 a2 a3 a4:Option Addr) (m1 c1 m2 c2 m3 c3 m4 c4:Nat) (b1 b2 b3:Option Addr) (k1 d1 k2 d2 k3 d3:Nat) (w:World) (hp:jr w (.slice a1 m1 c1) (.slice a2 m2 c2) (.slice a3 m3 c3) (.slice a4 m4 c4) p) (hn:jT w (.slice b1 k1 d1) (.slice b2 k2 d2) (.slice b3 k3 d3) n):Calls Tryz.prog 139 #[jt p (.slice a1 m1 c1) (.slice a2 m2 c2) (.slice a3 m3 c3) (.slice a4 m4 c4),zS n (.slice b1 k1 d1) (.slice b2 k2 d2) (.slice b3 k3 d3)] w (Say (.bool (JH p n)) w):=by
 obtain⟨t,ht⟩:=eX ((j8 p.tols n.taints).isSome)
 obtain⟨⟨x,y,mm⟩,hx⟩:∃x,wT (j8 p.tols n.taints)=x:=⟨_,rfl⟩
 have V1:=lH (fun (W:World) (k:Kept w W)=>jfO (hp.tols.kept k) (hn.taints.kept k) hx ht);have HV:=lH (show JH p n=(!t) by unfold JH;rw[ht]);clear ht hx;obtain⟨Z,hZ⟩:=eX ((w.alloc (.cells #[.string p.name,.string p.owner,.int .i64 p.prio,.slice a1 m1 c1,.slice a2 m2 c2,.slice a3 m3 c3,.slice a4 m4 c4,.string p.key,.int .i64 p.most,.string p.node,.bool p.hold] 44)).alloc (.cells #[.string n.name,.slice b1 k1 d1,.slice b2 k2 d2,.slice b3 k3 d3,.bool n.cordon] 57))
 have hkz:Kept w Z:=by rw[←hZ];exact jj _ _ _
 have Vf:=lH (jc w (.string p.name) [.string p.owner,.int .i64 p.prio,.slice a1 m1 c1,.slice a2 m2 c2,.slice a3 m3 c3,.slice a4 m4 c4,.string p.key,.int .i64 p.most,.string p.node,.bool p.hold] 44 Z (by rw[←hZ];exact ja _ _));have Va:=lH (show je (w.heap.size+1) [.string n.name,.slice b1 k1 d1,.slice b2 k2 d2,.slice b3 k3 d3,.bool n.cordon] Z by
  have dd:=jc (w.alloc (.cells #[.string p.name,.string p.owner,.int .i64 p.prio,.slice a1 m1 c1,.slice a2 m2 c2,.slice a3 m3 c3,.slice a4 m4 c4,.string p.key,.int .i64 p.most,.string p.node,.bool p.hold] 44)) (.string n.name) [.slice b1 k1 d1,.slice b2 k2 d2,.slice b3 k3 d3,.bool n.cordon] 57 Z (by rw[hZ];exact Kept.refl _);rw[World.size_alloc] at dd;exact dd)
 have K:=lH hkz;have HM:=lH (V1.out Z hkz);clear V1 hp hn hkz;have r6:=Vf.out.at_ 6 _ rfl;have q3:=Va.out.at_ 3 _ rfl;unfold jt zS;go_enter Tryz.func139,Tryz.ntmps139;go_wp2_with fail
 try rw[hZ]
 refine HM.out.mono ?_;rintro e w1 ⟨rfl,kk⟩;have K:=lH (K.out.trans kk);clear kk hZ;go_wp2;go_ret;exact⟨jq (by rw[HV.out]),K.out.trans (ja _ _)⟩
theorem jaa (s1 s2 s3:Option Addr) (n1 e1 n2 e2 n3 e3:Nat) (a1 a2 a3 a4:Option Addr) (m1 c1 m2 c2 m3 c3 m4 c4:Nat) (p:Pd) (s:Clu) (name:ByteArray) (w:World) (hs:jJ w (zx (.slice s1 n1 e1) (.slice s2 n2 e2) (.slice s3 n3 e3)) s) (hl:jv s):Calls Tryz.prog 140 #[.agg #[.slice s1 n1 e1,.slice s2 n2 e2,.slice s3 n3 e3],jt p (.slice a1 m1 c1) (.slice a2 m2 c2) (.slice a3 m3 c3) (.slice a4 m4 c4),.string name] w (Say (.bool (Jk s p name)) w):=by
 have hn1:=hs.nAt.2;have hn2:=hs.pAt.2;have g1:=hl.nodesN;have g2:=hl.podsN;obtain⟨Z,hZ⟩:=eX ((w.alloc (.cells #[.slice s1 n1 e1,.slice s2 n2 e2,.slice s3 n3 e3] 26)).alloc (.cells #[.string p.name,.string p.owner,.int .i64 p.prio,.slice a1 m1 c1,.slice a2 m2 c2,.slice a3 m3 c3,.slice a4 m4 c4,.string p.key,.int .i64 p.most,.string p.node,.bool p.hold] 44))
 have hkz:Kept w Z:=by rw[←hZ];exact jj _ _ _
 have Vf:=lH (jc w (.slice s1 n1 e1) [.slice s2 n2 e2,.slice s3 n3 e3] 26 Z (by rw[←hZ];exact ja _ _));have Va:=lH (show je (w.heap.size+1) [.string p.name,.string p.owner,.int .i64 p.prio,.slice a1 m1 c1,.slice a2 m2 c2,.slice a3 m3 c3,.slice a4 m4 c4,.string p.key,.int .i64 p.most,.string p.node,.bool p.hold] Z by
  have dd:=jc (w.alloc (.cells #[.slice s1 n1 e1,.slice s2 n2 e2,.slice s3 n3 e3] 26)) (.string p.name) [.string p.owner,.int .i64 p.prio,.slice a1 m1 c1,.slice a2 m2 c2,.slice a3 m3 c3,.slice a4 m4 c4,.string p.key,.int .i64 p.most,.string p.node,.bool p.hold] 44 Z (by rw[hZ];exact Kept.refl _);rw[World.size_alloc] at dd;exact dd)
 have K:=lH hkz;have HS:=lH (jes s1 s2 s3 a1 a2 a3 a4 n1 e1 n2 e2 n3 e3 m1 c1 m2 c2 m3 c3 m4 c4 p s name Z (hs.nAt.1.kept hkz) (hs.pAt.1.kept hkz) (by omega) (by omega));clear hs hkz hl hn1 hn2 g1 g2;obtain⟨t7,h7⟩:=eX ((p.key.toList==([]:List UInt8)))
 have H7:=lH (show Ju p.key=t7 by rw[YL,h7]);obtain⟨y0,y1,y2⟩:=Vf.out.at3;obtain⟨r0,r1,r2,r3,r4,r5,r6,r7,r8,r9,r10⟩:=Va.out.at11;unfold jt at HS ⊢;go_enter Tryz.func140,Tryz.ntmps140
 cases t7 with
 | true =>
  have HV:=lH (show Jk s p name=false by unfold Jk;rw[if_pos H7.out]);go_wp2;try rw[hZ]
  go_ret;exact⟨jq HV.out.symm,by first | exact K.out | (rw[hZ];exact K.out)⟩
 | false =>
  have HV:=lH (show Jk s p name=(!(zX p s name).2||decide (p.most<(zX p s name).1)) by unfold Jk;rw[if_neg (by rw[H7.out];decide)]);obtain⟨z,hz⟩:=eX ((zX p s name).1)
  obtain⟨b,hb⟩:=eX ((zX p s name).2)
  rw[hz,hb] at HS HV;clear hz hb;go_upto_region 3 with fail
  try rw[hZ]
  clear hZ;go_wp2_with fail
  refine HS.out.mono ?_;rintro e w1 ⟨rfl,kk⟩;have K:=lH (K.out.trans kk);have r8:=(Va.out.kept kk).at_ 8 _ rfl;clear kk y0 y1 y2 r0 r1 r2 r3 r4 r5 r6 r7 r9 r10
  cases b with
  | false =>
   go_wp2;go_ret;exact⟨jq (by rw[HV.out];rfl),K.out⟩
  | true =>
   by_cases hlt:p.most<z
   · have TE:=lH hlt;go_wp2;go_ret;exact⟨jq (by rw[HV.out,decide_eq_true TE.out];rfl),K.out⟩
   · have TE:=lH hlt;have hle:z≤p.most:=by omega
     clear hlt;go_wp2;go_ret;exact⟨jq (by rw[HV.out,decide_eq_false (by have:=TE.out;omega)];rfl),K.out⟩
theorem jbn (s1 s2 s3:Option Addr) (n1 e1 n2 e2 n3 e3:Nat) (a1 a2 a3 a4:Option Addr) (m1 c1 m2 c2 m3 c3 m4 c4:Nat) (p:Pd) (s:Clu) (name:ByteArray) (w:World) (hs:jJ w (zx (.slice s1 n1 e1) (.slice s2 n2 e2) (.slice s3 n3 e3)) s) (hl:jv s) (hp:jr w (.slice a1 m1 c1) (.slice a2 m2 c2) (.slice a3 m3 c3) (.slice a4 m4 c4) p):Calls Tryz.prog 141 #[.agg #[.slice s1 n1 e1,.slice s2 n2 e2,.slice s3 n3 e3],jt p (.slice a1 m1 c1) (.slice a2 m2 c2) (.slice a3 m3 c3) (.slice a4 m4 c4),.string name] w (Say (.bool (ZO s p name)) w):=by
 obtain⟨Z,hZ⟩:=eX ((w.alloc (.cells #[.slice s1 n1 e1,.slice s2 n2 e2,.slice s3 n3 e3] 26)).alloc (.cells #[.string p.name,.string p.owner,.int .i64 p.prio,.slice a1 m1 c1,.slice a2 m2 c2,.slice a3 m3 c3,.slice a4 m4 c4,.string p.key,.int .i64 p.most,.string p.node,.bool p.hold] 44))
 have hkz:Kept w Z:=by rw[←hZ];exact jj _ _ _
 have Vf:=lH (jc w (.slice s1 n1 e1) [.slice s2 n2 e2,.slice s3 n3 e3] 26 Z (by rw[←hZ];exact ja _ _));have Va:=lH (show je (w.heap.size+1) [.string p.name,.string p.owner,.int .i64 p.prio,.slice a1 m1 c1,.slice a2 m2 c2,.slice a3 m3 c3,.slice a4 m4 c4,.string p.key,.int .i64 p.most,.string p.node,.bool p.hold] Z by
  have dd:=jc (w.alloc (.cells #[.slice s1 n1 e1,.slice s2 n2 e2,.slice s3 n3 e3] 26)) (.string p.name) [.string p.owner,.int .i64 p.prio,.slice a1 m1 c1,.slice a2 m2 c2,.slice a3 m3 c3,.slice a4 m4 c4,.string p.key,.int .i64 p.most,.string p.node,.bool p.hold] 44 Z (by rw[hZ];exact Kept.refl _);rw[World.size_alloc] at dd;exact dd)
 have K:=lH hkz;have HF:=lH (jgm (hs.kept hkz) name hl);unfold zx at HF;have HP:=lH (hp.need.kept hkz);clear hs hkz hl hp;obtain⟨y0,y1,y2⟩:=Vf.out.at3;unfold jt;obtain⟨c,hc⟩:=eX ((ZA s name).1)
 obtain⟨fl,hfl⟩:=eX ((ZA s name).2)
 obtain⟨q,hq⟩:=eX (Vec.jR fl p.need)
 have HV:=lH (show ZO s p name=(decide (c=0)&&q) by unfold ZO;rw[hc,hfl,hq]);have HQ:=lH hq;go_enter Tryz.func141,Tryz.ntmps141;go_wp2_with fail
 try rw[hZ]
 refine HF.out.mono ?_;rintro e w1 ⟨y,rfl,hy,kk⟩;rw[hc];rw[hfl] at hy;obtain⟨HY,K,HP⟩:=lH3 hy (K.out.trans kk) (HP.out.kept kk);have r3:=(Va.out.kept kk).at_ 3 _ rfl;clear kk hZ hc hfl hq hy HF y0 y1 y2;by_cases h0:c=0
 · subst h0;go_wp2_with fail
   refine(Vec.jgo HP.out HY.out HQ.out).mono ?_;rintro e w2 ⟨rfl,kk⟩;have K:=lH (K.out.trans kk);clear kk;go_wp2;go_ret;exact⟨jq (by rw[HV.out];rfl),K.out⟩
 · have h0b:(c==0)=false:=by simpa using h0
   have H0:=lH h0;clear h0;go_wp2;go_ret;exact⟨jq (by rw[HV.out,decide_eq_false H0.out];rfl),K.out⟩
def Zy (c:Int) (w:World) (e:Ending) (w':World):Prop:=(c=0→∃x i1 j1 l1 i2 j2 l2 i3 j3 l3 b,e=.returned (.agg #[.string x,.slice i1 j1 l1,.slice i2 j2 l2,.slice i3 j3 l3,.bool b]))∧(c≠0→e=.panicked [jN c])∧Kept w w'
theorem Zy.bad {c d:Int} {w w':World} (h:d=c) (hc:c≠0) (k:Kept w w'):Zy d w (.panicked [jN c]) w':=⟨fun g=>absurd (h.symm.trans g) hc,fun _=>by rw[h],k⟩
theorem jbv (s1 s2 s3:Option Addr) (n1 e1 n2 e2 n3 e3:Nat) (a1 a2 a3 a4:Option Addr) (m1 c1 m2 c2 m3 c3 m4 c4:Nat) (p:Pd) (s:Clu) (name:ByteArray) (w:World) (hs:jJ w (zx (.slice s1 n1 e1) (.slice s2 n2 e2) (.slice s3 n3 e3)) s) (hl:jv s) (hp:jr w (.slice a1 m1 c1) (.slice a2 m2 c2) (.slice a3 m3 c3) (.slice a4 m4 c4) p):Calls Tryz.prog 78 #[.agg #[.slice s1 n1 e1,.slice s2 n2 e2,.slice s3 n3 e3],jt p (.slice a1 m1 c1) (.slice a2 m2 c2) (.slice a3 m3 c3) (.slice a4 m4 c4),.string name] w (Zy (jZ s p name) w):=by
 obtain⟨Y,hY⟩:=eX ((w.alloc (.cells #[.slice s1 n1 e1,.slice s2 n2 e2,.slice s3 n3 e3] 26)).alloc (.cells #[.string p.name,.string p.owner,.int .i64 p.prio,.slice a1 m1 c1,.slice a2 m2 c2,.slice a3 m3 c3,.slice a4 m4 c4,.string p.key,.int .i64 p.most,.string p.node,.bool p.hold] 44))
 have hky:Kept w Y:=by rw[←hY];exact jj _ _ _
 have hys:Y.heap.size=w.heap.size+2:=by rw[←hY];simp
 have hsb:=jc w (.slice s1 n1 e1) [.slice s2 n2 e2,.slice s3 n3 e3] 26 Y (by rw[←hY];exact ja _ _);have hpb:je (w.heap.size+1) [.string p.name,.string p.owner,.int .i64 p.prio,.slice a1 m1 c1,.slice a2 m2 c2,.slice a3 m3 c3,.slice a4 m4 c4,.string p.key,.int .i64 p.most,.string p.node,.bool p.hold] Y:=by
  have dd:=jc (w.alloc (.cells #[.slice s1 n1 e1,.slice s2 n2 e2,.slice s3 n3 e3] 26)) (.string p.name) [.string p.owner,.int .i64 p.prio,.slice a1 m1 c1,.slice a2 m2 c2,.slice a3 m3 c3,.slice a4 m4 c4,.string p.key,.int .i64 p.most,.string p.node,.bool p.hold] 44 Y (by rw[hY];exact Kept.refl _);rw[World.size_alloc] at dd;exact dd
 obtain⟨Z,hZ⟩:=eX (Y.alloc (.cells #[.string ⟨#[]⟩,.slice none 0 0,.slice none 0 0,.slice none 0 0,.bool false] 57))
 have hkz:Kept Y Z:=by rw[←hZ];exact ja _ _
 have hnb:je (w.heap.size+2) [.string ⟨#[]⟩,.slice none 0 0,.slice none 0 0,.slice none 0 0,.bool false] Z:=by
  have dd:=jc Y (.string ⟨#[]⟩) [.slice none 0 0,.slice none 0 0,.slice none 0 0,.bool false] 57 Z (by rw[hZ];exact Kept.refl _);rw[hys] at dd;exact dd
 have hYZ:((w.alloc (.cells #[.slice s1 n1 e1,.slice s2 n2 e2,.slice s3 n3 e3] 26)).alloc (.cells #[.string p.name,.string p.owner,.int .i64 p.prio,.slice a1 m1 c1,.slice a2 m2 c2,.slice a3 m3 c3,.slice a4 m4 c4,.string p.key,.int .i64 p.most,.string p.node,.bool p.hold] 44)).alloc (.cells #[.string ⟨#[]⟩,.slice none 0 0,.slice none 0 0,.slice none 0 0,.bool false] 57)=Z:=by rw[hY];exact hZ
 obtain⟨Vh,Vb,Vl,K,VQ,VO,HL,UU⟩:=lH8 (hsb.kept hkz) (hpb.kept hkz) hnb (hky.trans hkz) (hs.kept (hky.trans hkz)) (hp.kept (hky.trans hkz)) hl (jbE s1 s2 s3 n1 e1 n2 e2 n3 e3 s.nodes name Z ((hs.kept (hky.trans hkz)).nAt.1) (by have:=hl.nodesN;have:=hs.nAt.2;omega));clear hs hp hl hky hkz hys hsb hpb hnb hY hZ;unfold jt;obtain⟨y0,y1,y2⟩:=Vh.out.at3;go_enter Tryz.func78,Tryz.ntmps78;go_wp2_with fail
 try rw[hYZ]
 clear hYZ;refine UU.out.mono ?_;rintro e w1 ⟨h1,h2,kk⟩;obtain⟨K,Vh,Vb,Vl,VQ,VO⟩:=lH6 (K.out.trans kk) (Vh.out.kept kk) (Vb.out.kept kk) (Vl.out.kept kk) (VQ.out.kept kk) (VO.out.kept kk);clear UU y0 y1 y2
 cases ho:jk s.nodes name with
 | none =>
  obtain rfl:=h2 ho;have HE:=lH (show jZ s p name=3 from jbk ho);clear h1 h2 ho kk;go_wp2;exact⟨rfl,Zy.bad HE.out (by decide) K.out⟩
 | some n =>
  obtain⟨b1,k1,d1,b2,k2,d2,b3,k3,d3,rfl,hn⟩:=h1 n ho;have HE:=lH (show jZ s p name=zc s p n name from Xa ho);clear h1 h2 ho;obtain⟨w2,hw2⟩:=eX (w1.alloc (.cells #[.string n.name,.slice b1 k1 d1,.slice b2 k2 d2,.slice b3 k3 d3,.bool n.cordon] 57))
  have kx:Kept w1 w2:=by rw[←hw2];exact ja _ _
  obtain⟨VN,V2,K,Vh,Vb,Vl,VQ,VO⟩:=lH8 (jc w1 (.string n.name) [.slice b1 k1 d1,.slice b2 k2 d2,.slice b3 k3 d3,.bool n.cordon] 57 w2 (by rw[hw2];exact Kept.refl _)) (hn.kept kx) (K.out.trans kx) (Vh.out.kept kx) (Vb.out.kept kx) (Vl.out.kept kx) (VQ.out.kept kx) (VO.out.kept kx);obtain⟨gn,hgn⟩:=eX (w1.heap.size)
  rw[hgn] at VN;clear hn kk kx;unfold zS;go_upto_region 2 with fail
  try rw[hw2]
  try rw[hgn]
  clear hw2 hgn;obtain⟨r0,r1,r2,r3,r4,r5,r6,r7,r8,r9,r10⟩:=Vb.out.at11;obtain⟨t0,t1,t2,t3,t4⟩:=VN.out.at5;obtain⟨bb,hbb⟩:=eX (zT p n)
  have HC:=lH (jat p n a1 a2 a3 a4 m1 c1 m2 c2 m3 c3 m4 c4 b1 b2 b3 k1 d1 k2 d2 k3 d3 _ VO.out V2.out);unfold jt at HC;unfold zS at HC;rw[hbb] at HC;go_wp2_with fail
  refine HC.out.mono ?_;rintro e w3 ⟨rfl,kk⟩;obtain⟨Vn,Vh,Vb,Vl,VQ,VO,VN,V2⟩:=lH8 hbb (Vh.out.kept kk) (Vb.out.kept kk) (Vl.out.kept kk) (VQ.out.kept kk) (VO.out.kept kk) (VN.out.kept kk) (V2.out.kept kk);have K:=lH (K.out.trans kk);clear kk;clear hbb HC r0 r1 r2 r3 r4 r5 r6 r7 r8 r9 r10 t0 t1 t2 t3 t4
  cases bb with
  | false =>
   go_wp2_with fail
   refine(Zm 8 _).mono ?_;rintro e w4 ⟨rfl,rfl⟩;go_wp2;exact⟨rfl,Zy.bad (HE.out.trans (jbB Vn.out)) (by decide) K.out⟩
  | true =>
   have Vf:=Vn;clear Vn;go_wp2_with fail
   refine(ZI 8 _).mono ?_;rintro e w4 ⟨rfl,rfl⟩;obtain⟨r0,r1,r2,r3,r4,r5,r6,r7,r8,r9,r10⟩:=Vb.out.at11;obtain⟨t0,t1,t2,t3,t4⟩:=VN.out.at5;obtain⟨bb,hbb⟩:=eX (JH p n)
   have HC:=lH (jbx p n a1 a2 a3 a4 m1 c1 m2 c2 m3 c3 m4 c4 b1 b2 b3 k1 d1 k2 d2 k3 d3 _ VO.out V2.out);unfold jt at HC;unfold zS at HC;rw[hbb] at HC;go_wp2_with fail
   refine HC.out.mono ?_;rintro e w3 ⟨rfl,kk⟩;obtain⟨Vn,Vh,Vb,Vl,VQ,VO,VN,V2⟩:=lH8 hbb (Vh.out.kept kk) (Vb.out.kept kk) (Vl.out.kept kk) (VQ.out.kept kk) (VO.out.kept kk) (VN.out.kept kk) (V2.out.kept kk);have K:=lH (K.out.trans kk);clear kk;clear hbb HC r0 r1 r2 r3 r4 r5 r6 r7 r8 r9 r10 t0 t1 t2 t3 t4
   cases bb with
   | false =>
    go_wp2_with fail
    refine(Zm 9 _).mono ?_;rintro e w4 ⟨rfl,rfl⟩;go_wp2;exact⟨rfl,Zy.bad (HE.out.trans (jab Vf.out Vn.out)) (by decide) K.out⟩
   | true =>
    have Va:=Vn;clear Vn;go_wp2_with fail
    refine(ZI 9 _).mono ?_;rintro e w4 ⟨rfl,rfl⟩;obtain⟨y0,y1,y2⟩:=Vh.out.at3;obtain⟨r0,r1,r2,r3,r4,r5,r6,r7,r8,r9,r10⟩:=Vb.out.at11;obtain⟨bb,hbb⟩:=eX (Jk s p name)
    have HC:=lH (jaa s1 s2 s3 n1 e1 n2 e2 n3 e3 a1 a2 a3 a4 m1 c1 m2 c2 m3 c3 m4 c4 p s name _ VQ.out HL.out);unfold jt at HC;rw[hbb] at HC;go_wp2_with fail
    refine HC.out.mono ?_;rintro e w3 ⟨rfl,kk⟩;obtain⟨Vn,Vh,Vb,Vl,VQ,VO,VN,V2⟩:=lH8 hbb (Vh.out.kept kk) (Vb.out.kept kk) (Vl.out.kept kk) (VQ.out.kept kk) (VO.out.kept kk) (VN.out.kept kk) (V2.out.kept kk);have K:=lH (K.out.trans kk);clear kk;clear hbb HC y0 y1 y2 r0 r1 r2 r3 r4 r5 r6 r7 r8 r9 r10
    cases bb with
    | true =>
     go_wp2_with fail
     refine(Zm 10 _).mono ?_;rintro e w4 ⟨rfl,rfl⟩;go_wp2;exact⟨rfl,Zy.bad (HE.out.trans (jaY Vf.out Va.out Vn.out)) (by decide) K.out⟩
    | false =>
     have Rc:=Vn;clear Vn;go_wp2_with fail
     refine(ZI 10 _).mono ?_;rintro e w4 ⟨rfl,rfl⟩;obtain⟨y0,y1,y2⟩:=Vh.out.at3;obtain⟨r0,r1,r2,r3,r4,r5,r6,r7,r8,r9,r10⟩:=Vb.out.at11;obtain⟨bb,hbb⟩:=eX (ZO s p name)
     have HC:=lH (jbn s1 s2 s3 n1 e1 n2 e2 n3 e3 a1 a2 a3 a4 m1 c1 m2 c2 m3 c3 m4 c4 p s name _ VQ.out HL.out VO.out);unfold jt at HC;rw[hbb] at HC;go_wp2_with fail
     refine HC.out.mono ?_;rintro e w3 ⟨rfl,kk⟩;obtain⟨Vn,Vh,Vb,Vl,VQ,VO,VN,V2⟩:=lH8 hbb (Vh.out.kept kk) (Vb.out.kept kk) (Vl.out.kept kk) (VQ.out.kept kk) (VO.out.kept kk) (VN.out.kept kk) (V2.out.kept kk);have K:=lH (K.out.trans kk);clear kk;clear hbb HC y0 y1 y2 r0 r1 r2 r3 r4 r5 r6 r7 r8 r9 r10
     cases bb with
     | false =>
      go_wp2_with fail
      refine(Zm 7 _).mono ?_;rintro e w4 ⟨rfl,rfl⟩;go_wp2;exact⟨rfl,Zy.bad (HE.out.trans (jaV Vf.out Va.out Rc.out Vn.out)) (by decide) K.out⟩
     | true =>
      go_wp2_with fail
      refine(ZI 7 _).mono ?_;rintro e w4 ⟨rfl,rfl⟩;obtain⟨t0,t1,t2,t3,t4⟩:=VN.out.at5;obtain⟨z0,z1,z2,z3,z4⟩:=Vl.out.at5;have f0:=Vl.out.free 0;have f1:=Vl.out.free 1;have f2:=Vl.out.free 2;have f3:=Vl.out.free 3;have f4:=Vl.out.free 4;have P:=lH (Ze ⟨z0,z1,z2,z3,z4⟩ n.name b1 b2 b3 k1 d1 k2 d2 k3 d3 n.cordon);obtain⟨x9,hx9⟩:=eX (n.name)
      obtain⟨c9,hc9⟩:=eX (n.cordon)
      rw[hx9] at t0;rw[hc9] at t4;rw[hx9,hc9] at P;have RR:=lH (HE.out.trans (XF Vf.out Va.out Rc.out Vn.out));clear hx9 hc9 HE VN V2 VQ VO;go_wp2;obtain⟨WE,hWE⟩:=eX ((((((w3.setCell ⟨w.heap.size+2,0,none⟩ (.string x9)).setCell ⟨w.heap.size+2,1,none⟩ (.slice b1 k1 d1)).setCell ⟨w.heap.size+2,2,none⟩ (.slice b2 k2 d2)).setCell ⟨w.heap.size+2,3,none⟩ (.slice b3 k3 d3)).setCell ⟨w.heap.size+2,4,none⟩ (.bool c9)))
      rw[hWE] at P ⊢;clear hWE z0 z1 z2 z3 z4 t0 t1 t2 t3 t4 f0 f1 f2 f3 f4;obtain⟨⟨q0,q1,q2,q3,q4⟩,hsz,hbl,hkp⟩:=P.out;refine bodyPost_ret (by simp[results,Tryz.results78,go_sem,q0,q1,q2,q3,q4];try rfl) rfl ?_;have KE:=hkp _ _ (by omega) K.out;exact⟨fun _=>⟨_,_,_,_,_,_,_,_,_,_,_,rfl⟩,fun g=>absurd RR.out g,KE⟩
def jbh (s:Clu) (w:World) (e:Ending) (w':World):Prop:=∃y,e=.returned y∧jJ w' y s∧Kept w w'
theorem jfH {v u:Value} {s:Clu} {p:Pd} {w:World} (h:jJ w v s) (g:jbf w u p) (hl:jv s) (hp:zM p):Calls Tryz.prog 57 #[v,u] w (jbh (Yt s p) w):=by
 obtain⟨v1,v2,v3,rfl,⟨a,cap,rfl,l1,m1,h1⟩,⟨b,cp,rfl,l2,m2,h2⟩,⟨d,cb,rfl,l3,m3,h3⟩⟩:=h;obtain⟨u1,u2,u3,u4,rfl,hat⟩:=g;have g1:=hat.need;have g2:=hat.labels;have g3:=hat.sel;have g4:=hat.tols;obtain⟨b1,d1,rfl,-,-,-⟩:=g1;obtain⟨b2,d2,rfl,-,-,-⟩:=g2;obtain⟨b3,d3,rfl,-,-,-⟩:=g3;obtain⟨b4,d4,rfl,-,-,-⟩:=g4;refine(jdt a b d _ cap _ cp _ cb s.nodes s.pods s.buds p b1 b2 b3 b4 _ d1 _ d2 _ d3 _ d4 w h1 h2 h3 l1 m1 l2 m2 l3 m3 hl hat hp).mono ?_;rintro e w' ⟨_,_,_,_,_,_,_,_,_,rfl,ho,kk⟩;exact⟨_,rfl,ho.toR,kk⟩
theorem jfm {v:Value} {s:Clu} {w:World} (h:jJ w v s) (x:ByteArray) (hl:jv s):Calls Tryz.prog 35 #[v,.string x] w (jbh (j5 s x) w):=by
 obtain⟨v1,v2,v3,rfl,⟨a,cap,rfl,l1,m1,h1⟩,⟨b,cp,rfl,l2,m2,h2⟩,⟨d,cb,rfl,l3,m3,h3⟩⟩:=h;refine(XY a b d _ cap _ cp _ cb s.nodes s.pods s.buds x w h1 h2 h3 l1 m1 l2 m2 l3 m3 hl).mono ?_;rintro e w' ⟨_,_,_,_,_,_,_,_,_,rfl,ho,kk⟩;exact⟨_,rfl,ho.toR,kk⟩
theorem jaW {s:Clu} (h:jv s) (x:ByteArray):jv (j5 s x) :=
 ⟨h.nodes,fun q hq=>h.pods q (Xo hq),h.buds,h.nodesN,by
  have h2:=jdl s x;have:=h.podsN;omega,h.budsN⟩
def je6 (c:Int) (w:World) (e:Ending) (w':World):Prop:=(∃x i1 j1 l1 i2 j2 l2 i3 j3 l3 b,e=.returned (.tuple #[.agg #[.string x,.slice i1 j1 l1,.slice i2 j2 l2,.slice i3 j3 l3,.bool b],.int .i64 c]))∧Kept w w'
theorem jcc (Q1 Q2 Q3:Nat) (s1 s2 s3:Option Addr) (n1 e1 n2 e2 n3 e3:Nat) (a1 a2 a3 a4:Option Addr) (m1 c1 m2 c2 m3 c3 m4 c4:Nat) (p:Pd) (s:Clu) (name:ByteArray) (w:World) (hq1:je Q1 [.slice s1 n1 e1,.slice s2 n2 e2,.slice s3 n3 e3] w) (hq2:je Q2 [.string p.name,.string p.owner,.int .i64 p.prio,.slice a1 m1 c1,.slice a2 m2 c2,.slice a3 m3 c3,.slice a4 m4 c4,.string p.key,.int .i64 p.most,.string p.node,.bool p.hold] w) (hq3:je Q3 [.string name] w) (hs:jJ w (zx (.slice s1 n1 e1) (.slice s2 n2 e2) (.slice s3 n3 e3)) s) (hl:jv s) (hp:jr w (.slice a1 m1 c1) (.slice a2 m2 c2) (.slice a3 m3 c3) (.slice a4 m4 c4) p) :
 Calls Tryz.prog 77 #[.pointer (some ⟨Q1,0,none⟩),.pointer (some ⟨Q2,0,none⟩),.pointer (some ⟨Q3,0,none⟩)] w (Zy (jZ s p name) w):=by
 obtain⟨Z,hZ⟩:=eX (w.alloc (.cells #[.string ⟨#[]⟩,.slice none 0 0,.slice none 0 0,.slice none 0 0,.bool false] 57))
 have hkz:Kept w Z:=by rw[←hZ];exact ja _ _
 have Vl:=lH (jc w (.string ⟨#[]⟩) [.slice none 0 0,.slice none 0 0,.slice none 0 0,.bool false] 57 Z (by rw[hZ];exact Kept.refl _));have HS:=lH (jbv s1 s2 s3 n1 e1 n2 e2 n3 e3 a1 a2 a3 a4 m1 c1 m2 c2 m3 c3 m4 c4 p s name Z (hs.kept hkz) hl (hp.kept hkz));unfold jt at HS;have K:=lH hkz;have y0:=(hq1.kept hkz).at_ 0 _ rfl;have y1:=(hq1.kept hkz).at_ 1 _ rfl;have y2:=(hq1.kept hkz).at_ 2 _ rfl;have r0:=(hq2.kept hkz).at_ 0 _ rfl;have r1:=(hq2.kept hkz).at_ 1 _ rfl;have r2:=(hq2.kept hkz).at_ 2 _ rfl;have r3:=(hq2.kept hkz).at_ 3 _ rfl;have r4:=(hq2.kept hkz).at_ 4 _ rfl;have r5:=(hq2.kept hkz).at_ 5 _ rfl;have r6:=(hq2.kept hkz).at_ 6 _ rfl;have r7:=(hq2.kept hkz).at_ 7 _ rfl;have r8:=(hq2.kept hkz).at_ 8 _ rfl;have r9:=(hq2.kept hkz).at_ 9 _ rfl;have r10:=(hq2.kept hkz).at_ 10 _ rfl;have x0:=(hq3.kept hkz).at_ 0 _ rfl;clear hq1 hq2 hq3 hs hp hl hkz;obtain⟨c,hc⟩:=eX (jZ s p name)
 rw[hc] at HS ⊢;clear hc;go_enter Tryz.func77,Tryz.ntmps77;go_wp2_with fail
 try rw[hZ]
 refine HS.out.mono ?_;rintro e w1 ⟨h1,h2,kk⟩;have K:=lH (K.out.trans kk);have Vl:=lH (Vl.out.kept kk);clear kk hZ HS y0 y1 y2 r0 r1 r2 r3 r4 r5 r6 r7 r8 r9 r10 x0;by_cases hc:c=0
 · obtain⟨x9,i1,j1,l1,i2,j2,l2,i3,j3,l3,b9,rfl⟩:=h1 hc;have TF:=lH hc;clear h1 h2 hc;obtain⟨z0,z1,z2,z3,z4⟩:=Vl.out.at5;have f0:=Vl.out.free 0;have f1:=Vl.out.free 1;have f2:=Vl.out.free 2;have f3:=Vl.out.free 3;have f4:=Vl.out.free 4;have g0:=Ye (u0:=.string x9) (u1:=.slice i1 j1 l1) (u2:=.slice i2 j2 l2) (u3:=.slice i3 j3 l3) (u4:=.bool b9) z0 z1 z2 z3 z4;go_wp2;obtain⟨WE,hWE⟩:=eX ((((((w1.setCell ⟨w.heap.size,0,none⟩ (.string x9)).setCell ⟨w.heap.size,1,none⟩ (.slice i1 j1 l1)).setCell ⟨w.heap.size,2,none⟩ (.slice i2 j2 l2)).setCell ⟨w.heap.size,3,none⟩ (.slice i3 j3 l3)).setCell ⟨w.heap.size,4,none⟩ (.bool b9)))
   obtain⟨q0,q1,q2,q3,q4⟩:=g0 WE hWE;have KE:Kept w WE:=by rw[←hWE];exact((((K.out.setCell (p:=⟨w.heap.size,0,none⟩) (Nat.le_refl _) _).setCell (p:=⟨w.heap.size,1,none⟩) (Nat.le_refl _) _).setCell (p:=⟨w.heap.size,2,none⟩) (Nat.le_refl _) _).setCell (p:=⟨w.heap.size,3,none⟩) (Nat.le_refl _) _).setCell (p:=⟨w.heap.size,4,none⟩) (Nat.le_refl _) _
   rw[hWE];clear hWE z0 z1 z2 z3 z4 f0 f1 f2 f3 f4;refine bodyPost_ret (by simp[results,Tryz.results77,go_sem,q0,q1,q2,q3,q4];try rfl) rfl ?_;exact⟨fun _=>⟨_,_,_,_,_,_,_,_,_,_,_,rfl⟩,fun g=>absurd TF.out g,KE⟩
 · obtain rfl:=h2 hc;have TF:=lH hc;clear h1 h2 hc;go_wp2;exact⟨rfl,Zy.bad rfl TF.out K.out⟩
theorem jbC (Q1 Q2 Q3:Nat) (c:Int) (w:World) (hk:∀W,Kept w W→Calls Tryz.prog 77 #[.pointer (some ⟨Q1,0,none⟩),.pointer (some ⟨Q2,0,none⟩),.pointer (some ⟨Q3,0,none⟩)] W (Zy c W)) :
 Calls Tryz.prog 76 #[.func (.func 77) #[] #[.pointer (some ⟨Q1,0,none⟩),.pointer (some ⟨Q2,0,none⟩),.pointer (some ⟨Q3,0,none⟩)]] w (je6 c w):=by
 have hmf:=hmfL (P:=Tryz.prog);obtain⟨Z,hZ⟩:=eX ((w.alloc (.cells #[.string ⟨#[]⟩,.slice none 0 0,.slice none 0 0,.slice none 0 0,.bool false] 57)).alloc (.cells #[.int .i64 0] 45))
 have hkz:Kept w Z:=by rw[←hZ];exact jj _ _ _
 have Vl:=lH (jc w (.string ⟨#[]⟩) [.slice none 0 0,.slice none 0 0,.slice none 0 0,.bool false] 57 Z (by rw[←hZ];exact ja _ _));have Uh:=lH (show je (w.heap.size+1) [.int .i64 0] Z by
  have dd:=jc (w.alloc (.cells #[.string ⟨#[]⟩,.slice none 0 0,.slice none 0 0,.slice none 0 0,.bool false] 57)) (.int .i64 0) [] 45 Z (by rw[hZ];exact Kept.refl _);rw[World.size_alloc] at dd;exact dd)
 have HK:=lH hkz;have Th:=lH (hk Z hkz);clear hk hkz;go_enter_defers Tryz.func76,Tryz.ntmps76
 go_wp2_with fail
 try rw[hZ]
 refine Th.out.mono ?_;rintro e1 w1 ⟨h0,h1,hb⟩;obtain⟨KK,Vl,Uh⟩:=lH3 (HK.out.trans hb) (Vl.out.kept hb) (Uh.out.kept hb);obtain⟨z0,z1,z2,z3,z4⟩:=Vl.out.at5;have f0:=Vl.out.free 0;have f1:=Vl.out.free 1;have f2:=Vl.out.free 2;have f3:=Vl.out.free 3;have f4:=Vl.out.free 4;have ez:=Uh.out.at_ 0 _ rfl;have ef:=Uh.out.free 0;clear Th;by_cases hx:c=0
 · obtain⟨x9,i1,j1,l1,i2,j2,l2,i3,j3,l3,b9,rfl⟩:=h0 hx;subst hx;clear h0 h1 hb hZ;have g0:=Ye (u0:=.string x9) (u1:=.slice i1 j1 l1) (u2:=.slice i2 j2 l2) (u3:=.slice i3 j3 l3) (u4:=.bool b9) z0 z1 z2 z3 z4;have Re:=lH g0;clear g0;go_wp2_with fail
   obtain⟨WE,hWE⟩:=eX ((((((w1.setCell ⟨w.heap.size,0,none⟩ (.string x9)).setCell ⟨w.heap.size,1,none⟩ (.slice i1 j1 l1)).setCell ⟨w.heap.size,2,none⟩ (.slice i2 j2 l2)).setCell ⟨w.heap.size,3,none⟩ (.slice i3 j3 l3)).setCell ⟨w.heap.size,4,none⟩ (.bool b9)))
   obtain⟨q0,q1,q2,q3,q4⟩:=Re.out WE hWE;have KE:Kept w WE:=by rw[←hWE];exact((((KK.out.setCell (p:=⟨w.heap.size,0,none⟩) (Nat.le_refl _) _).setCell (p:=⟨w.heap.size,1,none⟩) (Nat.le_refl _) _).setCell (p:=⟨w.heap.size,2,none⟩) (Nat.le_refl _) _).setCell (p:=⟨w.heap.size,3,none⟩) (Nat.le_refl _) _).setCell (p:=⟨w.heap.size,4,none⟩) (Nat.le_refl _) _
   have ee:WE.cell? ⟨w.heap.size+1,0,none⟩=some (.int .i64 0):=by rw[←hWE];exact(((((Uh.out.other (by omega)).other (by omega)).other (by omega)).other (by omega)).other (by omega)).at_ 0 _ rfl
   rw[hWE];clear hWE z0 z1 z2 z3 z4 f0 f1 f2 f3 f4 Re;have ff:∀j v,WE.cell? ⟨w.heap.size,j,none⟩=some v→(WE.setCell ⟨w.heap.size+1,0,none⟩ (.int .i64 0)).cell? ⟨w.heap.size,j,none⟩=some v:=fun j v h=>(World.cell?_of_block (a:=⟨w.heap.size,j,none⟩) (Below.heap_setCell WE ⟨w.heap.size+1,0,none⟩ _ w.heap.size (by show w.heap.size≠w.heap.size+1;omega))).trans h;have g0:=ff 0 _ q0;have g1:=ff 1 _ q1;have g2:=ff 2 _ q2;have g3:=ff 3 _ q3;have g4:=ff 4 _ q4;have fe:=World.cell?_setCell_same' WE ⟨w.heap.size+1,0,none⟩ (.int .i64 0) (by rw[ee];rfl);have KF:=lH (show Kept w (WE.setCell ⟨w.heap.size+1,0,none⟩ (.int .i64 0)) from KE.setCell (p:=⟨w.heap.size+1,0,none⟩) (Nat.le_succ _) _);obtain⟨WF,hWF⟩:=eX (WE.setCell ⟨w.heap.size+1,0,none⟩ (.int .i64 0))
   rw[hWF] at fe g0 g1 g2 g3 g4 KF ⊢;clear hWF ff ee q0 q1 q2 q3 q4 ez ef;refine leaves_cons (f:=135) (args:=#[.pointer (some ⟨w.heap.size+1,0,none⟩)]) (by simp) (by simp[go_sem]) ?_;refine(jav ⟨w.heap.size+1,0,none⟩ _).mono ?_;rintro e u' w'' ⟨rfl,rfl,rfl⟩;simp[Leaves,settle,results,Tryz.results76,go_sem,fe,g0,g1,g2,g3,g4];exact⟨⟨_,_,_,_,_,_,_,_,_,_,_,rfl⟩,KF.out⟩
 · obtain rfl:=h1 hx;have HX:=lH hx;clear h0 h1 hb hZ hx;go_wp2_with fail
   refine leaves_cons (f:=135) (args:=#[.pointer (some ⟨w.heap.size+1,0,none⟩)]) (by simp) (by simp[go_sem]) ?_;refine(Y9 w.heap.size (w.heap.size+1) c 0 _ ez ef (Nat.le_succ _)).mono ?_;rintro e u' w'' ⟨rfl,rfl,rfl,q2,q3⟩;have KF:=lH (show Kept w _ from Below.trans KK.out q3);have ff:∀j v,w1.cell? ⟨w.heap.size,j,none⟩=some v→(w1.setCell ⟨w.heap.size+1,0,none⟩ (.int .i64 c)).cell? ⟨w.heap.size,j,none⟩=some v:=fun j v h=>(World.cell?_of_block (a:=⟨w.heap.size,j,none⟩) (Below.heap_setCell w1 ⟨w.heap.size+1,0,none⟩ _ w.heap.size (by show w.heap.size≠w.heap.size+1;omega))).trans h;have g0:=ff 0 _ z0;have g1:=ff 1 _ z1;have g2:=ff 2 _ z2;have g3:=ff 3 _ z3;have g4:=ff 4 _ z4;obtain⟨WF,hWF⟩:=eX (w1.setCell ⟨w.heap.size+1,0,none⟩ (.int .i64 c))
   rw[hWF] at q2 g0 g1 g2 g3 g4 KF ⊢;clear hWF ff q3 z0 z1 z2 z3 z4 ez ef f0 f1 f2 f3 f4;simp[Leaves,settle,results,Tryz.results76,go_sem,q2,g0,g1,g2,g3,g4];exact⟨⟨_,_,_,_,_,_,_,_,_,_,_,rfl⟩,KF.out⟩
theorem jcJ (s1 s2 s3:Option Addr) (n1 e1 n2 e2 n3 e3:Nat) (a1 a2 a3 a4:Option Addr) (m1 c1 m2 c2 m3 c3 m4 c4:Nat) (p:Pd) (s:Clu) (name:ByteArray) (w:World) (hs:jJ w (zx (.slice s1 n1 e1) (.slice s2 n2 e2) (.slice s3 n3 e3)) s) (hl:jv s) (hp:jr w (.slice a1 m1 c1) (.slice a2 m2 c2) (.slice a3 m3 c3) (.slice a4 m4 c4) p):Calls Tryz.prog 34 #[.agg #[.slice s1 n1 e1,.slice s2 n2 e2,.slice s3 n3 e3],jt p (.slice a1 m1 c1) (.slice a2 m2 c2) (.slice a3 m3 c3) (.slice a4 m4 c4),.string name] w (Say (.int .i64 (jZ s p name)) w):=by
 have hmf:=hmfL (P:=Tryz.prog);obtain⟨Y,hY⟩:=eX ((w.alloc (.cells #[.slice s1 n1 e1,.slice s2 n2 e2,.slice s3 n3 e3] 26)).alloc (.cells #[.string p.name,.string p.owner,.int .i64 p.prio,.slice a1 m1 c1,.slice a2 m2 c2,.slice a3 m3 c3,.slice a4 m4 c4,.string p.key,.int .i64 p.most,.string p.node,.bool p.hold] 44))
 have hky:Kept w Y:=by rw[←hY];exact jj _ _ _
 have hys:Y.heap.size=w.heap.size+2:=by rw[←hY];simp
 have hsb:=jc w (.slice s1 n1 e1) [.slice s2 n2 e2,.slice s3 n3 e3] 26 Y (by rw[←hY];exact ja _ _);have hpb:je (w.heap.size+1) [.string p.name,.string p.owner,.int .i64 p.prio,.slice a1 m1 c1,.slice a2 m2 c2,.slice a3 m3 c3,.slice a4 m4 c4,.string p.key,.int .i64 p.most,.string p.node,.bool p.hold] Y:=by
  have dd:=jc (w.alloc (.cells #[.slice s1 n1 e1,.slice s2 n2 e2,.slice s3 n3 e3] 26)) (.string p.name) [.string p.owner,.int .i64 p.prio,.slice a1 m1 c1,.slice a2 m2 c2,.slice a3 m3 c3,.slice a4 m4 c4,.string p.key,.int .i64 p.most,.string p.node,.bool p.hold] 44 Y (by rw[hY];exact Kept.refl _);rw[World.size_alloc] at dd;exact dd
 obtain⟨Z,hZ⟩:=eX (Y.alloc (.cells #[.string name] 9))
 have hkz:Kept Y Z:=by rw[←hZ];exact ja _ _
 have hnb:je (w.heap.size+2) [.string name] Z:=by
  have dd:=jc Y (.string name) [] 9 Z (by rw[hZ];exact Kept.refl _);rw[hys] at dd;exact dd
 have hYZ:((w.alloc (.cells #[.slice s1 n1 e1,.slice s2 n2 e2,.slice s3 n3 e3] 26)).alloc (.cells #[.string p.name,.string p.owner,.int .i64 p.prio,.slice a1 m1 c1,.slice a2 m2 c2,.slice a3 m3 c3,.slice a4 m4 c4,.string p.key,.int .i64 p.most,.string p.node,.bool p.hold] 44)).alloc (.cells #[.string name] 9)=Z:=by rw[hY];exact hZ
 have HC:=lH (jbC w.heap.size (w.heap.size+1) (w.heap.size+2) (jZ s p name) Z fun W k=>jcc w.heap.size (w.heap.size+1) (w.heap.size+2) s1 s2 s3 n1 e1 n2 e2 n3 e3 a1 a2 a3 a4 m1 c1 m2 c2 m3 c3 m4 c4 p s name W ((hsb.kept hkz).kept k) ((hpb.kept hkz).kept k) (hnb.kept k) (hs.kept ((hky.trans hkz).trans k)) hl (hp.kept ((hky.trans hkz).trans k)));have K:=lH (hky.trans hkz);clear hs hp hl hky hkz hys hsb hpb hnb hY hZ;obtain⟨c,hc⟩:=eX (jZ s p name)
 rw[hc] at HC ⊢;clear hc;unfold jt;go_enter Tryz.func34,Tryz.ntmps34;go_wp2_with fail
 try rw[hYZ]
 clear hYZ;refine HC.out.mono ?_;rintro e w1 ⟨⟨x9,i1,j1,l1,i2,j2,l2,i3,j3,l3,b9,rfl⟩,kk⟩;have K:=lH (K.out.trans kk);clear kk;go_wp2;go_ret;exact⟨rfl,K.out.trans (ja _ _)⟩
theorem qq (a a9:Option Addr) (len cap cap9:Nat) (l:List ByteArray) (w:World) (hr:ji jz w a len l) (hr9:ji jz w a9 len l) :
 Calls Tryz.prog 50 #[.slice a len cap,.slice a9 len cap9] w fun e w'=>e=.returned (.bool true)∧Kept w w':=by
 have hl:=hr.1;have hm:=hr.2.1;unfold maxLen at hm;by_cases h0:len=0
 · subst h0;clear hr hl hr9;go_enter Tryz.func50,Tryz.ntmps50;go_wp2;refine wp_loop_rounds 1 ?_;rw[rounds_succ];go_wp2;go_ret;exact⟨rfl,Kept.refl _⟩
 · obtain⟨b,off,rfl⟩:∃b off,a=some ⟨b,off,none⟩:=by
    rcases hr.form with h | h
    · exact absurd h h0
    · exact h
   obtain⟨b9,off9,rfl⟩:∃b off,a9=some ⟨b,off,none⟩:=by
    rcases hr9.form with h | h
    · exact absurd h h0
    · exact h
   have HR:=lH hr;have RS:=lH hr9;clear hr hl hr9 h0;go_enter Tryz.func50,Tryz.ntmps50;go_wp2;go_loopw [5] (fun i wr=>∃k:Nat,k≤len∧i=.int .i64 k∧Kept w wr) (fun i _=>len-(intOf i).toNat)
   case atStart=>exact⟨0,Nat.zero_le _,rfl,Kept.refl _⟩
   case round =>
    obtain⟨k,hk,rfl,hK⟩:=hrel;have HK:=lH hK;by_cases hlt:k<len
    · obtain⟨x,hx,hd,hb,hz,c1⟩:=(HR.out.kept hK).str hlt;obtain⟨x9,hx9,_,hb9,_,d1⟩:=(RS.out.kept hK).str hlt;obtain rfl:x=x9:=by rw[hx] at hx9;exact Option.some.inj hx9
      clear hx hd hx9 hK;go_wp2;go_quiet (fail)
      go_wp2;go_roundw
      case rel=>exact⟨k+1,by omega,by go_num,HK.out.trans (Kept.drewN _ _)⟩
      case measure=>simp[intOf];omega
    · clear hK;go_wp2;go_ret;exact⟨rfl,HK.out⟩
theorem jfx {v v9:Value} {l:List ByteArray} {w:World} (h:Reads jz w v l) (h9:Reads jz w v9 l):Calls Tryz.prog 50 #[v,v9] w (Say (.bool true) w):=by
 obtain⟨a,cap,rfl,_,_,hr⟩:=h;obtain⟨a9,cap9,rfl,_,_,hr9⟩:=h9;exact qq a a9 _ cap cap9 l w hr hr9
end Go.Proofs.YtokdjfoalkmhiaaGreat
