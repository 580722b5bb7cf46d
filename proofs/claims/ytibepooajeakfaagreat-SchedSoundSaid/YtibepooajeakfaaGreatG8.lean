/- C. -/
import Derived.Test.YtibepooajeakfaaGreatG0
import Derived.Test.YtibepooajeakfaaGreatG2
import Derived.Test.YtibepooajeakfaaGreatG4
import Derived.Test.YtibepooajeakfaaGreatG5
import Derived.Test.YtibepooajeakfaaGreatG6
import Derived.Test.YtibepooajeakfaaGreatG7
import Derived.Sort.KeysCollected
import Derived.Sort.MapsRangeIn
set_option linter.unusedVariables false
set_option maxRecDepth 100000
set_option maxHeartbeats 25600000
namespace Go.Proofs.YtibepooajeakfaaGreat
open Go.RowKit Go.Maps Go.WideShapes Go.WideMaps
theorem jbi:Keyed Tryz.prog 9:=string_keyed Tryz.underlying9
theorem jmz (w:World):(zeroValue 3).run Tryz.prog w=.ok (.int .i64 0) w:=by kernel_rfl
abbrev mk9 (x:ByteArray):Lit:=.string x.data.toList
theorem jhB {x y:ByteArray} (h:mk9 x=mk9 y):x=y:=by
 injection h with h
 cases x;cases y
 simp only at h;congr 1
 exact Array.toList_inj.1 h
structure joI (w:World) (b n:Nat) (D:DataW Unit) (f:ByteArray→Int) (dom:ByteArray→Bool):Prop where
 own:w.ownsMap Tryz.prog 9 (plainElem Tryz.prog 3) b n D
 at_:∀x,D.atKey (mk9 x) (.lit (.int .i64 0))=.lit (.int .i64 (f x))
 has:∀x,Maps.has D (mk9 x)=dom x
 map:IsMap D
def zx (w:World) (b n:Nat) (f:ByteArray→Int) (dom:ByteArray→Bool):Prop:=∃D:DataW Unit,joI w b n D f dom
theorem zx.made (w:World):zx (w.alloc (.map #[] 0)) w.heap.size 0 (fun _=>0) (fun _=>false) :=
 ⟨.map [],World.ownsMap_made w _ _ _,fun _=>rfl,fun _=>rfl,isMap_empty⟩
theorem zx.block {w w':World} {b n:Nat} {f:ByteArray→Int} {dom:ByteArray→Bool} (h:zx w b n f dom) (hb:w'.heap[b]?=w.heap[b]?):zx w' b n f dom:=by
 obtain⟨D,⟨es,clock,h1,h2⟩,h3,h4,h5⟩:=h;exact⟨D,⟨es,clock,hb.trans h1,h2⟩,h3,h4,h5⟩
theorem zx.lt {w:World} {b n:Nat} {f:ByteArray→Int} {dom:ByteArray→Bool} (h:zx w b n f dom):b<w.heap.size:=by
 obtain⟨D,h,-⟩:=h;exact h.lt
theorem zx.kept {w w':World} {b n:Nat} {f:ByteArray→Int} {dom:ByteArray→Bool} (h:zx w b n f dom) (k:Kept w w'):zx w' b n f dom:=h.block (k.block b h.lt)
theorem zx.eq {w:World} {b n:Nat} {f g:ByteArray→Int} {dom dem:ByteArray→Bool} (h:zx w b n f dom) (hf:∀x,f x=g x) (hd:∀x,dom x=dem x):zx w b n g dem:=by
 obtain⟨D,h1,h2,h3,h4⟩:=h;exact⟨D,h1,fun x=>by rw[h2,hf],fun x=>by rw[h3,hd],h4⟩
theorem zx.look {w:World} {b n:Nat} {f:ByteArray→Int} {dom:ByteArray→Bool} (h:zx w b n f dom) (x:ByteArray) (hx:x.size≤maxLen):(Instr.lookup 321 (.map (some b)) (.string x) false).run Tryz.prog w=.ok (.int .i64 (f x)) w:=by
 obtain⟨D,h1,h2,h3,h4⟩:=h;obtain⟨c,hrun,hat,-⟩:=h1.lookup_int (t:=321) jbi Tryz.underlying321 Tryz.underlying3 (jmz _) (keyOf_string_mk Tryz.underlying9 hx);rw[hrun];have:=(h2 x).symm.trans hat;injection this with this;injection this with _ this;rw[this]
theorem zx.put {w:World} {b n:Nat} {f:ByteArray→Int} {dom:ByteArray→Bool} (h:zx w b n f dom) (hn:n<maxLen) (x:ByteArray) (hx:x.size≤maxLen) (c:Int) (hc:-9223372036854775808≤c∧c≤9223372036854775807) :
 ∃w',(Instr.mapUpdate 321 (.map (some b)) (.string x) (.int .i64 c)).run Tryz.prog w=.ok () w'∧zx w' b (n+1) (fun y=>if y=x then c else f y) (fun y=>if y=x then true else dom y)∧jg (fun i=>i=b) w w':=by
 obtain⟨D,h1,h2,h3,h4⟩:=h;obtain⟨w',hrun,ho,hg⟩:=h1.update (t:=321) jbi Tryz.underlying321 hn (keyOf_string_mk Tryz.underlying9 hx) (plainElem_int (H:=Unit) Tryz.underlying3 (WalkArith.wf_i64 hc));refine⟨w',hrun,⟨_,ho,fun y=>?_,fun y=>?_,h4.put _ _⟩,jg.grown hg fun k e=>by cases e;rfl⟩
 · by_cases e:y=x
   · subst e;rw[if_pos rfl,atKey_put_same h4 (show WideAt.IsKeyLit (.string _) from trivial)]
   · rw[if_neg e,atKey_put_other (fun g=>e (jhB g)),h2]
 · by_cases e:y=x
   · subst e;rw[if_pos rfl,has_put_same h4 (show WideAt.IsKeyLit (.string _) from trivial)]
   · rw[if_neg e,has_put_other (fun g=>e (jhB g)),h3]
open Go.RowKit
theorem zx.mono1 {w:World} {b n n':Nat} {f:ByteArray→Int} {dom:ByteArray→Bool} (h:zx w b n f dom) (hn:n≤n'):zx w b n' f dom:=by
 obtain⟨D,h1,h2,h3,h4⟩:=h;exact⟨D,h1.mono hn,h2,h3,h4⟩
theorem jke (s1 s2 s3 a1 a2 a3 a4:Option Addr) (n1 e1 n2 e2 n3 e3 m1 c1 m2 c2 m3 c3 m4 c4:Nat) (p:Pd) (nodes:List Nod) (pods:List Pd) (w:World) (hn:jo w s1 n1 nodes) (hp:jy w s2 n2 pods) (hb1:n1≤100000) (hb2:n2≤100000) :
 Calls Tryz.prog 253 #[.agg #[.slice s1 n1 e1,.slice s2 n2 e2,.slice s3 n3 e3],jx p (.slice a1 m1 c1) (.slice a2 m2 c2) (.slice a3 m3 c3) (.slice a4 m4 c4)] w fun e w'=>∃b n,e=.returned (.map (some b))∧zx w' b n (fun d=>(inD p pods d nodes:Int)) (fun d=>ZY p.key d nodes)∧w.heap.size≤b∧n≤100000∧Kept w w':=by
 obtain⟨Z,hZ⟩:=eX ((w.alloc (.cells #[.slice s1 n1 e1,.slice s2 n2 e2,.slice s3 n3 e3] 26)).alloc (.cells #[.string p.name,.string p.owner,.int .i64 p.prio,.slice a1 m1 c1,.slice a2 m2 c2,.slice a3 m3 c3,.slice a4 m4 c4,.string p.key,.int .i64 p.most,.string p.node,.bool p.hold] 52))
 have hkz:Kept w Z:=by rw[←hZ];exact jn _ _ _
 have hzs:Z.heap.size=w.heap.size+2:=by rw[←hZ];simp
 have Vw:=lH (jc w (.slice s1 n1 e1) [.slice s2 n2 e2,.slice s3 n3 e3] 26 Z (by rw[←hZ];exact ja _ _));have Vz:=lH (show jf (w.heap.size+1) [.string p.name,.string p.owner,.int .i64 p.prio,.slice a1 m1 c1,.slice a2 m2 c2,.slice a3 m3 c3,.slice a4 m4 c4,.string p.key,.int .i64 p.most,.string p.node,.bool p.hold] Z by
  have dd:=jc (w.alloc (.cells #[.slice s1 n1 e1,.slice s2 n2 e2,.slice s3 n3 e3] 26)) (.string p.name) [.string p.owner,.int .i64 p.prio,.slice a1 m1 c1,.slice a2 m2 c2,.slice a3 m3 c3,.slice a4 m4 c4,.string p.key,.int .i64 p.most,.string p.node,.bool p.hold] 52 Z (by rw[hZ];exact Kept.refl _);rw[World.size_alloc] at dd;exact dd)
 obtain⟨Y,hY⟩:=eX (Z.alloc (.map #[] 0))
 have hky:Kept Z Y:=by rw[←hY];exact ja _ _
 obtain⟨Uw,TE,Vw,Vz,Nn⟩:=lH5 (show zx Y Z.heap.size 0 (fun _=>0) (fun _=>false) by rw[←hY];exact zx.made Z) (show Y.heap.size=Z.heap.size+1 by rw[←hY,World.size_alloc]) (Vw.out.kept hky) (Vz.out.kept hky) (hkz.trans hky);obtain⟨mb,hmb⟩:=eX (Z.heap.size)
 rw[hmb] at Uw TE;obtain⟨Uh,Vf,HN,HP,VR,V1⟩:=lH6 (show w.heap.size+2≤mb by omega) hzs hn hp hn.1 hp.1;clear hn hp hkz hky hzs;have hmm:=@run_makeMap Tryz.prog;unfold jx;go_enter Tryz.func253,Tryz.ntmps253;have y0:=Vw.out.at_ 0 _ rfl;have y1:=Vw.out.at_ 1 _ rfl;have z0:=(show jf w.heap.size _ Z from jc w (.slice s1 n1 e1) [.slice s2 n2 e2,.slice s3 n3 e3] 26 Z (by rw[←hZ];exact ja _ _)).at_ 1 _ rfl;go_upto_region 2 with fail
 try rw[hZ]
 try rw[hY]
 try rw[hmb]
 clear hZ hY hmb hmm z0;go_wp2;clear y0 y1;skip;go_loopw [17] (fun i wr=>∃k:Nat,k≤n2∧i=.int .i64 k∧(∃dom,zx wr mb k (fun x=>(onN p x (pods.take k):Int)) dom)∧jg (fun i=>i=mb) Y wr) (fun i _=>n2-(intOf i).toNat)
 case atStart=>exact⟨0,Nat.zero_le _,rfl,⟨_,Uw.out.eq (fun _=>rfl) (fun _=>rfl)⟩,jg.of (Kept.refl _)⟩
 case round =>
  obtain⟨k,hk,rfl,⟨dom,hM⟩,hG⟩:=hrel;obtain⟨HM,HG,KW⟩:=lH3 hM hG (show Kept w wr from jg.below Nn.out hG fun i e=>by have:=Uh.out;omega);by_cases hlt:k<n2
  · obtain⟨g,off,rfl⟩:=HP.out.form.resolve_left (by omega);obtain⟨q,b1,k1,d1,b2,k2,d2,b3,k3,d3,b4,k4,d4,hn,hd,hb,u0,u1,u2,u3,u4,u5,u6,u7,u8,u9,u10,hat⟩:=(HP.out.kept KW.out).at_ hlt;have UO:=lH (show pods.take (k+1)=pods.take k++[q] by rw[List.take_add_one,hn];rfl);have V6:=lH hat.node;have hkk:(k:Int)<(n2:Int):=by omega
    have hk0:¬(k:Int)<0:=by omega
    obtain⟨wx,hwx⟩:=eX (wr.alloc (.cells #[.string q.name,.string q.owner,.int .i64 q.prio,.slice b1 k1 d1,.slice b2 k2 d2,.slice b3 k3 d3,.slice b4 k4 d4,.string q.key,.int .i64 q.most,.string q.node,.bool q.hold] 52))
    have hkx:Kept wr wx:=by rw[←hwx];exact ja _ _
    have Vt:=lH (jc wr (.string q.name) [.string q.owner,.int .i64 q.prio,.slice b1 k1 d1,.slice b2 k2 d2,.slice b3 k3 d3,.slice b4 k4 d4,.string q.key,.int .i64 q.most,.string q.node,.bool q.hold] 52 wx (by rw[hwx];exact Kept.refl _));obtain⟨bq,hbq⟩:=eX (wr.heap.size)
    rw[hbq] at Vt;obtain⟨UY,U8,Tl,KX⟩:=lH4 (show mb<bq by rw[←hbq];have:=TE.out;have:=hG.size;omega) ((Vz.out.block (hG.block _ (by have:=Vz.out.lt;exact this) (by have:=Uh.out;omega))).kept hkx) (hM.kept hkx) hkx;go_upto_region 5 with fail
    try rw[hwx]
    try rw[hbq]
    clear hwx hbq hd hb hat hM hG hkx hk0 hkk u0 u1 u2 u3 u4 u5 u6 u7 u8 u9 u10;obtain⟨r0,r1,r2,r3,r4,r5,r6,r7,r8,r9,r10⟩:=U8.out.at11;obtain⟨t0,t1,t2,t3,t4,t5,t6,t7,t8,t9,t10⟩:=Vt.out.at11;go_wp2_with fail
    refine(jiW p q a1 a2 a3 a4 b1 b2 b3 b4 m1 c1 m2 c2 m3 c3 m4 c4 k1 d1 k2 d2 k3 d3 k4 d4 wx).mono ?_;rintro e w3 ⟨rfl,kk⟩;clear r0 t0 r1 t1 r2 t2 r3 t3 r4 t4 r5 t5 r6 t6 r7 t7 r8 t8 r9 t9 r10 t10;have TF:=lH kk;have TG:=lH (Tl.out.kept kk);have t9:=(Vt.out.kept kk).at_ 9 _ rfl;clear kk;obtain⟨bb,hbb⟩:=eX (Xc p q)
    have Vh:=lH hbb;rw[hbb];clear hbb
    cases bb with
    | false =>
     go_wp2;go_roundw
     case rel =>
      refine⟨k+1,by omega,by go_num,⟨dom,(TG.out.mono1 (Nat.le_succ k)).eq (fun x=>?_) (fun _=>rfl)⟩,(HG.out.trans (jg.of KX.out)).trans (jg.of TF.out)⟩;rw[UO.out,jdK];show ((onN p x (pods.take k):Nat):Int)=((onN p x (pods.take k)+((if Xc p q=true∧q.node=x then 1 else 0)+0):Nat):Int);rw[if_neg (by rw[Vh.out];simp)];rfl
     case measure=>simp[intOf];omega
    | true =>
     have hsz:onN p q.node (pods.take k)≤k:=Nat.le_trans (jcw _ _ _) (by rw[List.length_take];omega);have hlook:=TG.out.look q.node V6.out;obtain⟨v,hv⟩:=eX (onN p q.node (pods.take k))
     have HV:=lH hv;rw[hv] at hlook hsz;obtain⟨v1,hv1⟩:∃z:Nat,v+1=z:=⟨_,rfl⟩
     have hv2:(v:Int)+1=(v1:Int):=by omega
     have hv3:IntKind.i64.wrap (v1:Int)=(v1:Int):=IntWalk.i64_in _ (by omega);obtain⟨w4,hput,hM4,hG4⟩:=TG.out.put (by unfold maxLen;omega) q.node V6.out (v1:Int) (by omega);obtain⟨UP,TH,No⟩:=lH3 hM4 hG4 hv1;clear hM4 hG4 hv hv1;go_wp2;go_roundw
     case rel =>
      refine⟨k+1,by omega,by go_num,⟨_,UP.out.eq (fun x=>?_) (fun _=>rfl)⟩,((HG.out.trans (jg.of KX.out)).trans (jg.of TF.out)).trans TH.out⟩;rw[UO.out,jdK];show _=((onN p x (pods.take k)+((if Xc p q=true∧q.node=x then 1 else 0)+0):Nat):Int);by_cases hx:x=q.node
      · rw[if_pos hx,if_pos ⟨Vh.out,hx.symm⟩,hx,HV.out,←No.out]
      · rw[if_neg hx,if_neg (fun g=>hx g.2.symm)];rfl
     case measure=>simp[intOf];omega
  · have hge:¬(k:Int)<(n2:Int):=by omega
    have hM:=HM.out;rw[List.take_of_length_le (by rw[V1.out];omega)] at hM;obtain⟨HM,Vw,Vz⟩:=lH3 hM (Vw.out.block (hG.block _ Vw.out.lt (by have:=Uh.out;omega))) (Vz.out.block (hG.block _ Vz.out.lt (by have:=Uh.out;omega)));obtain⟨X,hX⟩:=eX (wr.alloc (.map #[] 0))
    have hkx:Kept wr X:=by rw[←hX];exact ja _ _
    have Uw:=lH (show zx X wr.heap.size 0 (fun _=>0) (fun _=>false) by rw[←hX];exact zx.made wr);have UQ:=lH (show X.heap.size=wr.heap.size+1 by rw[←hX,World.size_alloc]);obtain⟨mc,hmc⟩:=eX (wr.heap.size)
    rw[hmc] at Uw UQ;obtain⟨Tm,HM,Vw,Vz,KX⟩:=lH5 (show mb<mc by rw[←hmc];have:=TE.out;have:=hG.size;omega) (HM.out.kept hkx) (Vw.out.kept hkx) (Vz.out.kept hkx) (KW.out.trans hkx);clear hM hG hkx;have hmm:=@run_makeMap Tryz.prog;go_upto_region 9 with fail
    try rw[hX]
    try rw[hmc]
    clear hX hmc hmm;have y0:=Vw.out.at_ 0 _ rfl;go_wp2;clear y0;go_loopw [34] (fun i wr=>∃k:Nat,k≤n1∧i=.int .i64 k∧zx wr mc k (fun d=>(inD p pods d (nodes.take k):Int)) (fun d=>ZY p.key d (nodes.take k))∧jg (fun i=>i=mc) X wr) (fun i _=>n1-(intOf i).toNat)
    case atStart=>exact⟨0,Nat.zero_le _,rfl,Uw.out.eq (fun _=>rfl) (fun _=>rfl),jg.of (Kept.refl _)⟩
    case round =>
     obtain⟨k,hk,rfl,hN,hG⟩:=hrel;obtain⟨HC,HG,KW⟩:=lH3 hN hG (show Kept w wr from jg.below KX.out hG fun i e=>by have:=Uh.out;have:=Tm.out;omega);by_cases hlt:k<n1
     · obtain⟨g,off,rfl⟩:=HN.out.form.resolve_left (by omega);obtain⟨n,b1,k1,d1,b2,k2,d2,b3,k3,d3,hn,hd,hb,u0,u1,u2,u3,u4,hat⟩:=(HN.out.kept KW.out).at_ hlt;have UO:=lH (show nodes.take (k+1)=nodes.take k++[n] by rw[List.take_add_one,hn];rfl);have VH:=lH hat;have hkk:(k:Int)<(n1:Int):=by omega
       have hk0:¬(k:Int)<0:=by omega
       obtain⟨wx,hwx⟩:=eX (wr.alloc (.cells #[.string n.name,.slice b1 k1 d1,.slice b2 k2 d2,.slice b3 k3 d3,.bool n.cordon] 78))
       have hkx:Kept wr wx:=by rw[←hwx];exact ja _ _
       have Vt:=lH (jc wr (.string n.name) [.slice b1 k1 d1,.slice b2 k2 d2,.slice b3 k3 d3,.bool n.cordon] 78 wx (by rw[hwx];exact Kept.refl _));obtain⟨bq,hbq⟩:=eX (wr.heap.size)
       rw[hbq] at Vt;obtain⟨U8,Np,RK,KX1⟩:=lH4 ((Vz.out.block (hG.block _ Vz.out.lt (by have:=Uh.out;have:=Tm.out;omega))).kept hkx) (hN.kept hkx) ((HM.out.block (hG.block _ HM.out.lt (by have:=Tm.out;omega))).kept hkx) hkx;go_upto_region 12 with fail
       try rw[hwx]
       try rw[hbq]
       clear hwx hbq hd hb hat hN hG hkx hk0 hkk u0 u1 u2 u3 u4;have r7:=U8.out.at_ 7 _ rfl;have t2:=Vt.out.at_ 2 _ rfl;obtain⟨go,hgo⟩:=eX (Je n.labels p.key)
       have Tn:=lH hgo;go_wp2_with fail
       refine(jfm (VH.out.labels.kept KX1.out) (x:=go.getD ByteArray.empty) (b:=go.isSome) (by unfold XP;rw[hgo]) (by unfold YA;rw[hgo])).mono ?_;rintro e w3 ⟨rfl,kk⟩;obtain⟨TF,TI,TG⟩:=lH3 kk (Np.out.kept kk) (RK.out.kept kk);have t0:=(Vt.out.kept kk).at_ 0 _ rfl;clear kk hgo r7 t2
       cases go with
       | none =>
        go_wp2;go_roundw
        case rel =>
         refine⟨k+1,by omega,by go_num,(TI.out.mono1 (Nat.le_succ k)).eq (fun x=>?_) (fun x=>?_),(HG.out.trans (jg.of KX1.out)).trans (jg.of TF.out)⟩
         · rw[UO.out,jdA];show ((inD p pods x (nodes.take k):Nat):Int)=((inD p pods x (nodes.take k)+((if Je n.labels p.key=some x then onN p n.name pods else 0)+0):Nat):Int);rw[if_neg (by rw[Tn.out];simp)];rfl
         · rw[UO.out];unfold ZY;rw[List.any_append,List.any_cons,Tn.out];simp
        case measure=>simp[intOf];omega
       | some d =>
        have hds:d.size≤maxLen:=jd1 VH.out.labels.fine Tn.out;have hb1a:inD p pods d (nodes.take k)≤100000*100000:=Nat.le_trans (jfy _ _ _ _) (Nat.mul_le_mul (by rw[List.length_take];omega) (by rw[V1.out];omega));have hb2a:onN p n.name pods≤100000:=Nat.le_trans (jcw _ _ _) (by rw[V1.out];omega);have hl1:=TI.out.look d hds;have hl2:=TG.out.look n.name VH.out.size;obtain⟨x1,hx1⟩:=eX (inD p pods d (nodes.take k))
        obtain⟨x2,hx2⟩:=eX (onN p n.name pods)
        have Us:=lH hx1;have UD:=lH hx2;rw[hx1] at hl1 hb1a;rw[hx2] at hl2 hb2a;obtain⟨x3,hx3⟩:∃z:Nat,x1+x2=z:=⟨_,rfl⟩
        have hx4:(x1:Int)+(x2:Int)=(x3:Int):=by omega
        have hx5:IntKind.i64.wrap (x3:Int)=(x3:Int):=IntWalk.i64_in _ (by omega);obtain⟨w4,hput,hM4,hG4⟩:=TI.out.put (by unfold maxLen;omega) d hds (x3:Int) (by omega);obtain⟨UP,TH,UM⟩:=lH3 hM4 hG4 hx3;clear hM4 hG4 hx1 hx2 hx3;go_wp2;go_roundw
        case rel =>
         refine⟨k+1,by omega,by go_num,UP.out.eq (fun x=>?_) (fun x=>?_),((HG.out.trans (jg.of KX1.out)).trans (jg.of TF.out)).trans TH.out⟩
         · rw[UO.out,jdA];show _=((inD p pods x (nodes.take k)+((if Je n.labels p.key=some x then onN p n.name pods else 0)+0):Nat):Int);by_cases hx:x=d
           · subst hx;rw[if_pos rfl,if_pos Tn.out,UD.out,Us.out,←UM.out];rfl
           · rw[if_neg hx,if_neg (fun g=>hx (by rw[Tn.out] at g;exact(Option.some.inj g).symm))];rfl
         · rw[UO.out];unfold ZY;rw[List.any_append,List.any_cons,Tn.out];by_cases hx:x=d
           · subst hx;simp
           · rw[if_neg hx];simp[show ¬d=x from fun e=>hx e.symm]
        case measure=>simp[intOf];omega
     · have hge:¬(k:Int)<(n1:Int):=by omega
       have hM:=HC.out;rw[List.take_of_length_le (by rw[VR.out];omega)] at hM;have HC:=lH hM;clear hM hN hG;go_wp2;go_ret;exact⟨mc,rfl,k,HC.out,by have:=Uh.out;have:=Tm.out;omega,by omega,KW.out⟩
open Go.RowKit Go.Maps Go.Sort Go.Shelf Go.WideShapes
attribute [local go_sem] Oper.semAt_some
def VAt (D:DataW Unit) (p:List UInt8×Int):Prop:=∀zd,D.atKey (.string p.1) zd=.lit (.int .i64 p.2)
def jmd (D:DataW Unit) (ps:List (List UInt8×Int)):Prop:=(ps.map (·.1)).Perm (strKeys D)∧(∀x,x ∈ ps.map (·.1)↔has D (.string x)=true)∧∀p ∈ ps,VAt D p
def jmw (D:DataW Unit) (ps:List (List UInt8×Int)):Prop:=(ps.map (·.1)).Nodup∧(∀x ∈ ps.map (·.1),has D (.string x)=true)∧∀p ∈ ps,VAt D p
theorem jgz (F:Fence) (n:Nat) (h8:F.fn 272) (hro:F.round=none) (hn:1≤n) (l Bm b nn:Nat) (D0:DataW Unit) (J Jx:List Int→World→Prop)
 (hY:∀pre x W,J pre W→pre.length<Maps.size D0→YieldAt F (n-1) Tryz.prog l #[.int .i64 x] W fun e W' =>
   (e=.returned (.bool true)∧J (pre++[x]) W'∧KeepsWalks W W')∨(e=.returned (.bool false)∧Jx (pre++[x]) W'))
 (W:World) (hJ:AbidesFrom W.heap.size J) (hm:W.cell? ⟨Bm,0,none⟩=some (.map (some b))) (hown:W.ownsMap Tryz.prog 9 (plainElem Tryz.prog 3) b nn D0) (h0:J [] W) :
 CallsIn F n Tryz.prog 272 #[.func (.yield l) #[] #[],.pointer (some ⟨Bm,0,none⟩)] W fun e W'=>(∃v,e=.returned v) ∧
  ((∃xs,(∃ps,jmd D0 ps∧xs=ps.map (·.2))∧J xs W')∨(∃pre,(∃ps,jmw D0 ps∧pre=ps.map (·.2))∧Jx pre W')):=by
 refine callsIn_of_wp Tryz.func272 rfl h8 ?_ hro;simp only[Tryz.ntmps272,List.size_toArray,List.length_cons,List.length_nil,Nat.reduceAdd,Nat.reduceSub,Array.replicate_succ,Array.replicate_zero,List.push_toArray,List.append_toArray,List.nil_append,List.cons_append]
 gi_wp2_with (first
  | (gi_at_range;refine wpListIn_range_own _ rfl _ 321 rfl 9 3 jbi Tryz.underlying321 _ b nn _ rfl hown ?_;intro w0 hrg0 hg0 hs0)
  | gi_in)
 go_frame
 gi_loopw [4] (fun _ wr=>∃(left:Lit→Bool) (cnt:Nat) (ps:List (List UInt8×Int)),wr.ranges Tryz.prog 9 (plainElem Tryz.prog 3) b W.heap.size nn D0 left cnt∧ps.length+cnt≤Maps.size D0∧Collected D0 left (ps.map (·.1))∧(∀p ∈ ps,VAt D0 p)∧J (ps.map (·.2)) wr)
  (fun _ wr=>wr.rangeLeft b W.heap.size)
 case atStart =>
  exact⟨_,_,[],hrg0,by simp,Collected.start D0,by simp,hJ [] W w0 none h0 hg0 (fun r e=>by cases e)⟩
 case round =>
  obtain⟨left,cnt,ps,hrg,hcs,hC,hV,hJs⟩:=hrel
  gi_wp2_with (first
   | (gi_at_next;refine wpListIn_next_ranges _ rfl _ rfl 9 jbi (plainElem Tryz.prog 3) encStr (Value.int .i64) (fun key kl hk=>by obtain⟨x,hx,_⟩:=Maps.keyOf_str Tryz.underlying9 hk;exact⟨x,hx⟩) (fun v y hv=>by obtain⟨c,rfl,_⟩:=plainElem_int_inv Tryz.underlying3 hv;exact⟨c,rfl⟩) b W.heap.size nn _ _ _ rfl hrg ?_ ?_)
   | gi_in)
  · intro hc0 hl0;gi_wp2
    go_end0
    exact⟨⟨_,rfl⟩,.inl ⟨_,⟨ps,⟨hC.perm hown jbi Tryz.underlying9 hl0,fun x=>by rw[hC.2 x,hl0];simp,hV⟩,rfl⟩,hJs⟩⟩
  · intro x c kl yd yp w2 cnt2 hkey hlk hv hat hrg2 hlt hg2 hs2 hen;obtain⟨x',ex,rfl,_⟩:=Maps.keyOf_str Tryz.underlying9 hkey;obtain rfl:x=x':=encStr_inj ex;obtain⟨c',ec,ez,_⟩:=plainElem_int_inv Tryz.underlying3 hv;obtain rfl:c=c':=by simpa using ec
    obtain rfl:yd=.lit (.int .i64 c):=(Prod.mk.inj ez).1;have hJ2:J (ps.map (·.2)) w2:=hJ _ wr w2 (some W.heap.size) hJs hg2 (fun r e=>by cases e;exact⟨Nat.le_refl _,hrg.iter_walk⟩);obtain⟨fn,tmps,assign,body,hy,hR⟩:=hY (ps.map (·.2)) c w2 hJ2 (by simp;omega);clear hs2;gi_wp2
    refine hR.mono ?_;have hC2:Collected D0 (fun z=>left z&&!z.sameKey (.string x)) ((ps++[(x,c)]).map (·.1)):=by simpa using hC.step hlk hat
    have hV2:∀p ∈ ps++[(x,c)],VAt D0 p:=fun p hp=>(List.mem_append.1 hp).elim (hV p) (fun e=>by simp at e;subst e;exact hat);rintro e W3 (⟨rfl,hJ3,hk3⟩ | ⟨rfl,hJx3⟩)
    · gi_wp2
      have hrg3:=hrg2.of_walks hk3;go_roundw
      case rel=>exact⟨_,cnt2,ps++[(x,c)],hrg3,by simp;omega,hC2,hV2,by simpa using hJ3⟩
      case measure=>rw[hrg3.left_eq,hrg.left_eq];exact hlt
    · gi_wp2
      refine bodyPost_ret (results_none rfl _ _ _) rfl ?_;exact⟨⟨_,rfl⟩,.inr ⟨_,⟨ps++[(x,c)],⟨hC2.1,fun y hy=>((hC2.2 y).1 hy).1,hV2⟩,by simp⟩,hJx3⟩⟩
theorem jeP (F:Fence) (n:Nat) (h7:F.fn 272) (hro:F.round=none) (hn:1≤n) (Bm b nn:Nat) (D0:DataW Unit) (w:World) (hBm:Bm<w.heap.size)
 (hm:w.cell? ⟨Bm,0,none⟩=some (.map (some b))) (hown:w.ownsMap Tryz.prog 9 (plainElem Tryz.prog 3) b nn D0) :
 SeqStopsK F n Tryz.prog 272 #[.pointer (some ⟨Bm,0,none⟩)] (fun c:Int=>#[Value.int .i64 c]) KeepsWalks (fun xs=>∃ps,jmd D0 ps∧xs=ps.map (·.2)) (fun pre=>∃ps,jmw D0 ps∧pre=ps.map (·.2)) (Maps.size D0) w:=fun l J Jx W hW hJ _ hY h0=>by
 have hown':W.ownsMap Tryz.prog 9 (plainElem Tryz.prog 3) b nn D0:=by
  have hbl:=hown.lt;obtain⟨es,clock,hb,Ft,hs,hD⟩:=hown;exact⟨es,clock,(hW.block b hbl).trans hb,Ft,hs,hD⟩
 exact jgz F n h7 hro hn l Bm b nn D0 J Jx hY W hJ ((hW.cell (p:=⟨Bm,0,none⟩) hBm).trans hm) hown' h0
theorem jhb (mb:Option Nat) (w:World) :
 Calls Tryz.prog 256 #[.map mb] w fun e w'=>e=.returned (.func (.func 272) #[] #[.pointer (some ⟨w.heap.size,0,none⟩)])∧w'=w.alloc (.cells #[.map mb] 321):=by
 have hmf:=hmfL (P:=Tryz.prog);go_enter Tryz.func256,Tryz.ntmps256;go_wp2;go_ret;exact⟨rfl,rfl⟩
theorem jkS:(Tryz.prog.info? 3).map (fun i=>(i.zero,i.size,i.bytes))=some (some (.int .i64 0),1,8):=by kernel_rfl
theorem jfb {W W':World} (h:KeepsOthers W W'):KeepsWalks W W':=⟨h.size,fun k o hk hw=>h.same k o hk (by cases o<;>first | rfl | cases hw)⟩
def ji7 (base:Nat) (W:World) (v:Value) (zs:List Int):Prop:=W.ownsRow base 3 1 v zs.length (zs.map (Value.int .i64))∧(v=.slice none 0 0↔zs=[])
theorem jeF (F:Fence) (n:Nat) (h3:F.fn 271) (h5:F.fn 272) (hro:F.round=none) (hn:3≤n) (Bs b nn:Nat) (D0:DataW Unit) (hlen:Maps.size D0≤1000000) (w:World)
 (hBs:Bs<w.heap.size) (hcs:w.cell? ⟨Bs,0,none⟩=some (.map (some b))) (hown:w.ownsMap Tryz.prog 9 (plainElem Tryz.prog 3) b nn D0) :
 CallsIn F n Tryz.prog 271 #[.slice none 0 0,.func (.func 272) #[] #[.pointer (some ⟨Bs,0,none⟩)]] w fun e W'=>∃v xs,e=.returned v∧(∃ps,jmd D0 ps∧xs=ps.map (·.2))∧ji7 w.heap.size W' v xs∧Below w.heap.size w W':=by
 have h1:1≤n:=by omega
 obtain⟨i0,hi,hz0,hz1,hz2⟩:=info_parts jkS;refine callsIn_of_wp_marks Tryz.func271 rfl h3 ?_ hro;simp only[Tryz.ntmps271,List.size_toArray,List.length_cons,List.length_nil,Nat.reduceAdd,Nat.reduceSub,Array.replicate_succ,Array.replicate_zero,List.push_toArray,List.append_toArray,List.nil_append,List.cons_append];gi_wp2
 have bO:=Boxed.new w 193 (.slice none 0 0);have hB0:Below w.heap.size w (w.alloc (.cells #[.slice none 0 0] 193)):=(Below.refl _ w).alloc (Nat.le_refl _) _;have hown0:(w.alloc (.cells #[.slice none 0 0] 193)).ownsMap Tryz.prog 9 (plainElem Tryz.prog 3) b nn D0:=by
  have hbl:=hown.lt;obtain⟨es,clock,hb,Ft,hs,hD⟩:=hown;exact⟨es,clock,(Below.heap_alloc _ _ b hbl).trans hb,Ft,hs,hD⟩
 refine wpIn_rangeFunc_ownG hro h1 (gf:=272) (lb:=#[.pointer (some ⟨Bs,0,none⟩)]) rfl h5 (enters_of Tryz.func272 (by kernel_rfl) rfl)
  (jeP F (n-1) h5 hro (by omega) Bs b nn D0 _ (by simp;omega) ((hB0.cell (p:=⟨Bs,0,none⟩) hBs).trans hcs) hown0) (fun h k=>h.trans k) (fun W l o o' _ h _ hw=>KeepsWalks.putObj o' h hw) (Below.refl _ _) (fun _=>rfl)
  (fun pre W=>(∃v,Boxed W w.heap.size 193 v∧W.ownsRow w.heap.size 3 1 v pre.length (pre.map (Value.int .i64))∧(v=.slice none 0 0↔pre=[]))∧Below w.heap.size w W)
  (fun _ _ _=>False)
  (OwnFrom.and (Own.from (holdsRow_own w.heap.size w.heap.size 193 3 1 (fun pre=>pre.length) (fun pre=>pre.map (Value.int .i64)) (fun pre v=>v=.slice none 0 0↔pre=[])) _) (ownFrom_below (Nat.le_refl _) (by simp)))
  (fun _ _ _ _ _ hs _ _=>hs)
  ⟨⟨_,bO,World.ownsRow_nil _ _ _ _,by simp⟩,hB0⟩
  (fun x=>{ tmps:=#[.slice none 0 0,.func (.func 272) #[] #[.pointer (some ⟨Bs,0,none⟩)],.pointer (some ⟨w.heap.size,0,none⟩),undef,.slice none 0 0,.int .i64 x,.func (.func 272) #[] #[.pointer (some ⟨Bs,0,none⟩)],.int .i64 x,undef,undef,undef,undef,undef],defers:=[] }) ?assign ?body ?done ?stop
 case assign =>
  intro l x W K hK;gi_wp2
  exact hK
 case body =>
  rintro l pre x W ⟨⟨v,hv,hrow,hnil⟩,hB⟩ hlt;have hc:=hv.cell;gi_wp2_with (gi_at_builtin;refine wpListIn_append_own _ rfl _ _ 193 rfl w.heap.size 3 i0 (.int .i64 0) 1 8 Tryz.underlying193 hi hz0 hz1 hz2 rfl (by decide) _ _ _ rfl (hrow.alloc _) ⟨W.heap.size,0,none⟩ 1 1 [.int .i64 x] rfl rfl (cell_one_new _ _ _) (by simp[Value.oneCell']) (by unfold maxLen;omega) (by omega) (by have:=hB.size;simp;omega) ?_;intro v' w1 hown' hgrow _;obtain⟨g',cap',rfl⟩:=ownsRow_succ hown';obtain⟨hv1,hv2,hr2,hk2,hb2⟩:=hv.appended (by decide) hrow hB.size (Nat.le_refl _) hown' hgrow;have hc1:=hv1.cell;have hf1:=hv1.frozen)
  exact⟨hk2.from _,jfb hk2,⟨_,hv2,by simpa using hr2,by simp⟩,hB.trans hb2⟩
 case done =>
  rintro D ys W hD hS ⟨⟨v,hv,hrow,hnil⟩,hB⟩ hK;have hc:=hv.cell;gi_wp2
  refine⟨by simp,.inl ⟨_,_,rfl,run_takeDeferred hK,?_⟩⟩;exact⟨_,results_tmp rfl _ _ _,v,ys,rfl,hS,⟨ownsRow_putObj hrow _ hK rfl,hnil⟩,hB.trans (belowK_b (w:=w) (Nat.le_refl _) W D _ _ (by simp at hD;omega) hK rfl rfl)⟩
 case stop =>
  rintro D c pre W _ _ h _;exact h.elim
theorem jgk (Bs b nn:Nat) (f:ByteArray→Int) (dom:ByteArray→Bool) (w:World) (hn:nn≤1000000) (hBs:Bs<w.heap.size) (hcs:w.cell? ⟨Bs,0,none⟩=some (.map (some b))) (h:zx w b nn f dom) :
 Calls Tryz.prog 255 #[.func (.func 272) #[] #[.pointer (some ⟨Bs,0,none⟩)]] w fun e w'=>∃v zs,e=.returned v∧ji7 w.heap.size w' v zs∧(∀x,dom x=true→f x ∈ zs)∧(∀z ∈ zs,∃x,dom x=true∧z=f x)∧zs.length≤1000000∧Kept w w':=by
 obtain⟨D,h1,h2,h3,h4⟩:=h;have hsz:Maps.size D≤1000000:=Nat.le_trans h1.size_le hn;have HA:=lH (jeF Fence.wide 3 trivial trivial rfl (by omega) Bs b nn D hsz w hBs hcs h1);have HC:=lH (show Calls Tryz.prog 271 #[.slice none 0 0,.func (.func 272) #[] #[.pointer (some ⟨Bs,0,none⟩)]] w _ from callsIn_wide.1 HA.out);clear h1 hcs;go_enter Tryz.func255,Tryz.ntmps255;go_wp2_with fail
 refine HC.out.mono ?_;rintro e w1 ⟨v,xs,rfl,⟨ps,hps,rfl⟩,ho,hb⟩;obtain⟨HO,HB,HP⟩:=lH3 ho hb hps;clear ho hb hps;have key:∀y:List UInt8,(⟨⟨y⟩⟩:ByteArray).data.toList=y:=fun _=>rfl;have hl:(ps.map (·.2)).length≤1000000:=by
  rw[List.length_map];have h5:ps.length=(strKeys D).length:=by rw[←HP.out.1.length_eq,List.length_map]
  have h6:(strKeys D).length≤Maps.size D:=by
   cases D<;>first | exact Nat.zero_le _ | (show (List.filterMap _ _).length≤_;exact List.length_filterMap_le _ _) | simp[strKeys,Maps.size]
  omega
 go_wp2;go_ret;refine⟨v,_,rfl,HO.out,fun x hx=>?_,fun z hz=>?_,hl,HB.out⟩
 · have hm:=(HP.out.2.1 x.data.toList).2 ((h3 x).trans hx);obtain⟨p,hp,e⟩:=List.mem_map.1 hm;have hv:=HP.out.2.2 p hp (.lit (.int .i64 0));rw[e] at hv;have:=(h2 x).symm.trans hv;injection this with this;injection this with _ this;exact List.mem_map.2 ⟨p,hp,this.symm⟩
 · obtain⟨p,hp,rfl⟩:=List.mem_map.1 hz;refine⟨⟨⟨p.1⟩⟩,?_,?_⟩
   · rw[←h3];exact(HP.out.2.1 p.1).1 (List.mem_map_of_mem hp)
   · have hv:=HP.out.2.2 p hp (.lit (.int .i64 0));have:=(h2 ⟨⟨p.1⟩⟩).symm.trans hv;injection this with this;injection this with _ this;exact this.symm
end Go.Proofs.YtibepooajeakfaaGreat
namespace Go.Proofs.YtibepooajeakfaaGreat
open Go.RowKit
theorem ji7.cells {base:Nat} {W:World} {v:Value} {zs:List Int} (h:ji7 base W v zs) (h0:zs≠[]):∃g cap,v=.slice (some ⟨g,0,none⟩) zs.length cap∧∀j,j<zs.length→W.cell? ⟨g,0+j,none⟩=some (.int .i64 (zs.getD j 0)):=by
 obtain⟨⟨hl,h⟩,-⟩:=h;rcases h with ⟨-,hz⟩ | ⟨g,cap,cur,rfl,-,hh,-,-,-,ht⟩
 · exact absurd (List.eq_nil_of_length_eq_zero hz) h0
 · refine⟨g,cap,rfl,fun j hj=>?_⟩;rw[Nat.zero_add,Lib.cell_of_heap hh];have h1:(cur.toList.take (zs.length*1))[j]?=some (.int .i64 (zs.getD j 0)):=by
    rw[ht,List.getElem?_map,List.getElem?_eq_getElem hj];simp[List.getD,hj]
   rw[List.getElem?_take_of_lt (by omega)] at h1;simpa using h1
theorem foldl_min:∀(l:List Int) (m:Int),l.foldl min m≤m∧(∀z ∈ l,l.foldl min m≤z)∧(l.foldl min m=m∨l.foldl min m ∈ l)
 | [],m=>⟨Int.le_refl _,fun z h=>absurd h (by simp),.inl rfl⟩
 | x::t,m=>by
  obtain⟨h1,h2,h3⟩:=foldl_min t (min m x);rw[List.foldl_cons];refine⟨by omega,fun z hz=>?_,?_⟩
  · rcases List.mem_cons.1 hz with rfl | hz
    · omega
    · exact h2 z hz
  · rcases h3 with h3 | h3
    · by_cases g:m≤x
      · exact .inl (by rw[h3];omega)
      · exact .inr (by rw[h3,show min m x=x by omega];simp)
    · exact .inr (by simp[h3])
theorem jlM {zs:List Int} (h:zs≠[]):(∀z ∈ zs,Lib.minOf zs≤z)∧Lib.minOf zs ∈ zs:=by
 cases zs with
 | nil=>exact absurd rfl h
 | cons x t =>
  obtain⟨h1,h2,h3⟩:=foldl_min (x::t) x;refine⟨h2,?_⟩;show (x::t).foldl min x ∈ _;rcases h3 with h3 | h3
  · rw[h3];simp
  · exact h3
theorem jkF {w:World} {a:Option Addr} {m:Nat} {nodes:List Nod} (h:jo w a m nodes) {key name d:ByteArray} (hd:domV key name nodes=some d):d.size≤maxLen:=by
 have:=jci hd;unfold ZY at this;rw[List.any_eq_true] at this;obtain⟨n,hn,he⟩:=this;have he:Je n.labels key=some d:=by simpa using he
 obtain⟨k,hk,e⟩:=List.getElem_of_mem hn;rcases h.2.2 with h0 | ⟨b,off,-,-,hc⟩
 · rw[h.1] at hk;omega
 · obtain⟨_,_,_,_,_,_,_,_,_,_,_,_,_,_,hN⟩:=hc k n (by rw[List.getElem?_eq_getElem hk,e]);exact jd1 hN.labels.fine he
theorem jje (s1 s2 s3 a1 a2 a3 a4:Option Addr) (n1 e1 n2 e2 n3 e3 m1 c1 m2 c2 m3 c3 m4 c4:Nat) (p:Pd) (s:Clu) (name:ByteArray) (w:World) (hn:jo w s1 n1 s.nodes) (hp:jy w s2 n2 s.pods) (hb1:n1≤100000) (hb2:n2≤100000) :
 Calls Tryz.prog 228 #[.agg #[.slice s1 n1 e1,.slice s2 n2 e2,.slice s3 n3 e3],jx p (.slice a1 m1 c1) (.slice a2 m2 c2) (.slice a3 m3 c3) (.slice a4 m4 c4),.string name] w fun e w'=>(∀d,domV p.key name s.nodes=some d→e=.returned (.int .i64 (Xh p s d)))∧(domV p.key name s.nodes=none→e=.panicked [zw 3])∧Kept w w':=by
 obtain⟨Z,hZ⟩:=eX ((w.alloc (.cells #[.slice s1 n1 e1,.slice s2 n2 e2,.slice s3 n3 e3] 26)).alloc (.cells #[.string p.name,.string p.owner,.int .i64 p.prio,.slice a1 m1 c1,.slice a2 m2 c2,.slice a3 m3 c3,.slice a4 m4 c4,.string p.key,.int .i64 p.most,.string p.node,.bool p.hold] 52))
 have hkz:Kept w Z:=by rw[←hZ];exact jn _ _ _
 have Vw:=lH (jc w (.slice s1 n1 e1) [.slice s2 n2 e2,.slice s3 n3 e3] 26 Z (by rw[←hZ];exact ja _ _));have Vz:=lH (show jf (w.heap.size+1) [.string p.name,.string p.owner,.int .i64 p.prio,.slice a1 m1 c1,.slice a2 m2 c2,.slice a3 m3 c3,.slice a4 m4 c4,.string p.key,.int .i64 p.most,.string p.node,.bool p.hold] Z by
  have dd:=jc (w.alloc (.cells #[.slice s1 n1 e1,.slice s2 n2 e2,.slice s3 n3 e3] 26)) (.string p.name) [.string p.owner,.int .i64 p.prio,.slice a1 m1 c1,.slice a2 m2 c2,.slice a3 m3 c3,.slice a4 m4 c4,.string p.key,.int .i64 p.most,.string p.node,.bool p.hold] 52 Z (by rw[hZ];exact Kept.refl _);rw[World.size_alloc] at dd;exact dd)
 obtain⟨HN,HP,VR,V1,K⟩:=lH5 hn hp hn.1 hp.1 hkz;clear hn hp hkz;unfold jx;go_enter Tryz.func228,Tryz.ntmps228;go_upto_region 1 with fail
 try rw[hZ]
 clear hZ;obtain⟨y0,y1,y2⟩:=Vw.out.at3;have r7:=Vz.out.at_ 7 _ rfl;go_wp2_with fail
 refine(jgf s1 s2 s3 n1 e1 n2 e2 n3 e3 s.nodes p.key name Z (HN.out.kept K.out) hb1).mono ?_;rintro e w1 ⟨h1,h2,kk⟩;obtain⟨Vw,Vz,K⟩:=lH3 (Vw.out.kept kk) (Vz.out.kept kk) (K.out.trans kk);clear kk y0 y1 y2 r7
 cases ho:domV p.key name s.nodes with
 | none =>
  obtain rfl:=h2 ho;have HO:=lH ho;clear h1 h2 ho;go_wp2;exact⟨rfl,(fun d e=>by rw[HO.out] at e;cases e),(fun _=>rfl),K.out⟩
 | some d =>
  obtain rfl:=h1 d ho;have HO:=lH ho;have hds:=jkF HN.out ho;have Rb:=lH hds;have TW:=lH (jci ho);clear h1 h2 ho hds;obtain⟨y0,y1,y2⟩:=Vw.out.at3;obtain⟨r0,r1,r2,r3,r4,r5,r6,r7,r8,r9,r10⟩:=Vz.out.at11;go_wp2_with fail
  have TA:=jke s1 s2 s3 a1 a2 a3 a4 n1 e1 n2 e2 n3 e3 m1 c1 m2 c2 m3 c3 m4 c4 p s.nodes s.pods w1 (HN.out.kept K.out) (HP.out.kept K.out) hb1 hb2;unfold jx at TA;refine TA.mono ?_;clear TA;rintro e w2 ⟨mc,nn,rfl,hM,hmc,hnn,kk⟩;obtain⟨HM,Nq,K,Tm⟩:=lH4 hM K.out.size (K.out.trans kk) hmc;have KS:=lH K.out.size;clear kk hM hmc y0 y1 y2 r0 r1 r2 r3 r4 r5 r6 r7 r8 r9 r10;have hb9:inD p s.pods d s.nodes≤100000*100000:=Nat.le_trans (jfy _ _ _ _) (Nat.mul_le_mul (by rw[VR.out];omega) (by rw[V1.out];omega));have hl1:=HM.out.look d Rb.out;obtain⟨x1,hx1⟩:=eX (inD p s.pods d s.nodes)
  have Us:=lH hx1;rw[hx1] at hl1 hb9;obtain⟨x3,hx3⟩:∃z:Nat,x1+1=z:=⟨_,rfl⟩
  have hx4:(x1:Int)+1=(x3:Int):=by omega
  have hx5:IntKind.i64.wrap (x3:Int)=(x3:Int):=IntWalk.i64_in _ (by omega);obtain⟨w4,hput,hM4,hG4⟩:=HM.out.put (by unfold maxLen;omega) d Rb.out (x3:Int) (by omega);have UM:=lH hx3;have TJ:=lH (show zx w4 mc (nn+1) (fun e=>((inD p s.pods e s.nodes+(if e=d then 1 else 0):Nat):Int)) (fun e=>ZY p.key e s.nodes) from hM4.eq (fun e=>by
   by_cases he:e=d
   · subst he;rw[if_pos rfl,if_pos rfl,Us.out,UM.out]
   · rw[if_neg he,if_neg he];rfl) (fun e=>by
   by_cases he:e=d
   · subst he;rw[if_pos rfl,TW.out]
   · rw[if_neg he]))
  have TH:=lH hG4;have hb10:x3≤100000*100000+1:=by omega
  have Rc:=lH hb10;have Nr:=lH hnn;clear hM4 hG4 hx1 hx3 hb9 hb10;go_upto_region 4 with fail
  clear hl1 hput hx4 hx5;have J:=lH (Kept.drew w4);refine wp_region_held_drew (S:=fun W=>zx W mc (nn+1) (fun e=>((inD p s.pods e s.nodes+(if e=d then 1 else 0):Nat):Int)) (fun e=>ZY p.key e s.nodes)) (by kernel_rfl) (TJ.out.kept J.out) (fun hHeld=>?_);refine tkJ 0 ?_;refine tkJ 1 ?_;refine tkH 2 (v:=?_) (y:=Or.inl ⟨by rfl,(by intro W hSw;have hl:=hSw.look d Rb.out;go_simp<;>with_reducible rfl)⟩) (h:=?_);try simp only[nP]
  refine tkJ 3 ?_;try simp only[nP]
  skip;refine rd1 4 fun K9 Ky=>?_;go_simp;refine(jhb (some mc) _).mono ?_;rintro e w5 ⟨rfl,rfl⟩;have kq:=ja w4.drew (.cells #[.map (some mc)] 321);obtain⟨w5,hw5⟩:=eX (w4.drew.alloc (.cells #[.map (some mc)] 321))
  have hcs:jf w4.drew.heap.size [.map (some mc)] w5:=jc w4.drew (.map (some mc)) [] 321 w5 (by rw[hw5];exact Kept.refl _);rw[hw5] at kq ⊢;obtain⟨bs,hbs⟩:=eX (w4.drew.heap.size)
  rw[hbs] at hcs ⊢;have RL:=lH hcs;have J:=lH (J.out.trans kq);clear hcs kq hw5 hbs;refine Ky.out _ _ (TJ.out.kept J.out) (fun _=>?_);clear Ky K9;try simp only[nP]
  refine rd1 5 fun K9 Ky=>?_;go_simp;refine(jgk bs mc (nn+1) _ _ w5 (by have:=Nr.out;omega) RL.out.lt (RL.out.at_ 0 _ rfl) (TJ.out.kept J.out)).mono ?_;rintro e w6 ⟨v,zs,rfl,ho,hz1,hz2,hzl,kk⟩;have J:=lH (J.out.trans kk);have hzd:=hz1 d TW.out;have hz0:zs≠[]:=fun e=>by rw[e] at hzd;cases hzd
  obtain⟨g,cap,rfl,hc⟩:=ho.cells hz0;obtain⟨HC,Tk,Ns,To,Nt⟩:=lH5 hc hz1 hz2 hz0 hzl;clear kk ho hc hz1 hz2 hz0 hzd hzl;refine Ky.out _ _ (TJ.out.kept J.out) (fun _=>?_);clear Ky K9;try simp only[nP]
  refine rd1 6 fun K9 Ky=>?_;go_simp;refine(Tryz.slices_Min_int g 0 zs.length cap zs w6 (List.length_pos_iff.2 To.out) (Nat.le_refl _) (by have:=Nt.out;omega) HC.out).mono ?_;rintro e w7 ⟨rfl,rfl⟩;rw[List.take_length];refine Ky.out _ _ (TJ.out.kept J.out) (fun _=>?_);clear Ky K9;try simp only[nP]
  obtain⟨hm1,hm2⟩:=jlM To.out;obtain⟨c,hcd,hce⟩:=Ns.out _ hm2;obtain⟨zm,hzm⟩:∃z:Nat,inD p s.pods c s.nodes+(if c=d then 1 else 0)=z:=⟨_,rfl⟩
  rw[hzm] at hce;rw[hce] at hm1 ⊢;have HL:=lH (jks (p:=p) (pods:=s.pods) (nodes:=s.nodes) (d:=d) (m:=inD p s.pods d s.nodes+1) (z:=zm) TW.out rfl (fun e he=>by have:=hm1 _ (Tk.out e he);omega) ⟨c,hcd,hzm.symm⟩);have hle:zm≤x3:=by have h:=hm1 _ (Tk.out d TW.out);rw[if_pos rfl,Us.out] at h;have:=UM.out;omega
  have Up:=lH (show Xh p s d=(x3:Int)-(zm:Int) by unfold Xh;rw[HL.out,Us.out,UM.out]);have hx6:(inD p s.pods d s.nodes+(if d=d then 1 else 0))=x3:=by rw[if_pos rfl,Us.out,UM.out]
  try rw[hx6]
  obtain⟨y,hy⟩:∃y:Nat,x3-zm=y:=⟨_,rfl⟩
  have hy1:(x3:Int)-(zm:Int)=(y:Int):=by omega
  have hy2:IntKind.i64.wrap (y:Int)=(y:Int):=IntWalk.i64_in _ (by have:=Rc.out;omega);clear hm1 hm2 hcd hce hzm;refine tkJ 7 ?_;refine tkJ 8 ?_;try simp only[nP]
  refine wpAnyH_done (by kernel_rfl) ?_ _;go_wp2;go_ret;refine⟨fun d9 e9=>?_,fun e9=>?_,(jg.below K.out TH.out fun i e=>by have:=Tm.out;have:=Nq.out;omega).trans J.out⟩
  · rw[HO.out] at e9
    cases e9
    rw[Up.out,hy1];have hv:IntKind.i64.wrap (((inD p s.pods d s.nodes:Nat):Int)+1-(zm:Int))=(y:Int):=by
     rw[Us.out,show (x1:Int)+1-(zm:Int)=(y:Int) by have:=UM.out;omega];exact hy2
    exact congrArg (fun z=>Ending.returned (.int .i64 z)) hv
  · rw[HO.out] at e9
    cases e9
open Go.RowKit Go.Shelf
def SkR (o:Option Int) (w:World) (e:Ending) (w':World):Prop:=(∀z,o=some z→e=.returned (.int .i64 z))∧(o=none→e=.panicked [zw 3])∧Kept w w'
theorem jbC (B:Nat) (q:Nat) (x y:Int) (w:World) (hq:w.cell? ⟨q,0,none⟩=some (.int .i64 y)) (hzq:w.frozen? ⟨q,0,none⟩=false) (hBq:B≤q) :
 CallsD Tryz.prog 251 #[.pointer (some ⟨q,0,none⟩)] (.panicking [zw x]) w fun e u' w' =>
  e=.returned (.tuple #[])∧u'=.panicking [{ zw x with recovered:=true }]∧w'=w.setCell ⟨q,0,none⟩ (.int .i64 x)∧w'.cell? ⟨q,0,none⟩=some (.int .i64 x)∧Below B w w':=by
 have hta:∀W,(Instr.typeAssert (.iface 69 (.int .i64 x)) 20 69 false).run Tryz.prog W=.ok (.int .i64 x) W:=fun _=>by kernel_rfl
 refine callsD_of_wpS Tryz.func251 rfl fun c₀ cs hu=>?_;apply wpS_seq;apply wpS_region;simp[wpOpsS,go_sem,recoverD,hu,Tryz.ntmps251,Exit.thenS];apply wpS_seq;apply wpS_region;simp[wpOpsS,go_sem,recoverD,Exit.thenS];refine wpS_cond (t:=true) (by simp[Act.eval,Array.replicate]) ?_;simp only[if_true];refine wpS_of_wp ?_;simp[Array.replicate];go_wp2;simp[bodyPostS,results,Tryz.results251];exact⟨World.cell?_setCell_same' _ _ _ (by rw[hq];rfl),(Below.refl B w).setCell (p:=⟨q,0,none⟩) hBq _⟩
theorem jf1 (q:Addr) (w:World) :
 CallsD Tryz.prog 251 #[.pointer (some q)] .returning w fun e u' w'=>e=.returned (.tuple #[])∧u'=.returning∧w'=w:=by
 refine callsD_of_wpS Tryz.func251 rfl fun c₀ cs hu=>?_;apply wpS_seq;apply wpS_region;simp[wpOpsS,go_sem,recoverD,hu,Tryz.ntmps251,Exit.thenS];apply wpS_seq;apply wpS_region;simp[wpOpsS,go_sem,recoverD,hu,Exit.thenS];refine wpS_cond (t:=false) (by simp[Act.eval,Array.replicate]) ?_;simp only[Bool.false_eq_true,if_false];refine wpS_of_wp (wp_skip ?_)
 cases c₀
 simp_all [bodyPostS,results,Tryz.results251]
theorem jg0 (Q1 Q2 Q3:Nat) (o:Option Int) (w:World) (hk:∀W,Kept w W→Calls Tryz.prog 227 #[.pointer (some ⟨Q1,0,none⟩),.pointer (some ⟨Q2,0,none⟩),.pointer (some ⟨Q3,0,none⟩)] W (SkR o W)) :
 Calls Tryz.prog 226 #[.func (.func 227) #[] #[.pointer (some ⟨Q1,0,none⟩),.pointer (some ⟨Q2,0,none⟩),.pointer (some ⟨Q3,0,none⟩)]] w fun e w'=>e=.returned (.tuple #[.int .i64 (o.getD 0),.int .i64 (if o.isSome=true then 0 else 3)])∧Kept w w':=by
 have hmf:=hmfL (P:=Tryz.prog);obtain⟨Z,hZ⟩:=eX (w.alloc (.cells #[.int .i64 0] 69))
 have hkz:Kept w Z:=by rw[←hZ];exact ja _ _
 obtain⟨HK,Re,Tp⟩:=lH3 hkz (jc w (.int .i64 0) [] 69 Z (by rw[hZ];exact Kept.refl _)) (hk Z hkz);clear hk hkz;go_enter_defers Tryz.func226,Tryz.ntmps226
 go_wp2_with fail
 try rw[hZ]
 refine Tp.out.mono ?_;rintro e1 w1 ⟨h0,h1,hb⟩;have KK:=lH (HK.out.trans hb);have UE:=lH (Re.out.kept hb);have ze:=UE.out.at_ 0 _ rfl;have zf:=UE.out.free 0
 cases o with
 | some z =>
  obtain rfl:=h0 z rfl;clear h0 h1 hb hZ;go_wp2_with fail
  have FE:=lH (UE.out.set (j:=0) (u:=.int .i64 0) (by simp));have KF:=lH (show Kept w (w1.setCell ⟨w.heap.size,0,none⟩ (.int .i64 0)) from KK.out.setCell (p:=⟨w.heap.size,0,none⟩) (Nat.le_refl _) _);obtain⟨WF,hWF⟩:=eX (w1.setCell ⟨w.heap.size,0,none⟩ (.int .i64 0))
  rw[hWF] at FE KF ⊢;have fe:=FE.out.at_ 0 _ rfl;clear hWF ze zf;refine leaves_cons (f:=251) (args:=#[.pointer (some ⟨w.heap.size,0,none⟩)]) (by simp) (by simp[go_sem]) ?_;refine(jf1 ⟨w.heap.size,0,none⟩ _).mono ?_;rintro e u' w'' ⟨rfl,rfl,rfl⟩;simp[Leaves,settle,results,Tryz.results226,go_sem,fe];exact KF.out
 | none =>
  obtain rfl:=h1 rfl;clear h0 h1 hb hZ;go_wp2_with fail
  refine leaves_cons (f:=251) (args:=#[.pointer (some ⟨w.heap.size,0,none⟩)]) (by simp) (by simp[go_sem]) ?_;refine(jbC w.heap.size w.heap.size 3 0 _ ze zf (Nat.le_refl _)).mono ?_;rintro e u' w'' ⟨rfl,rfl,rfl,q2,q3⟩;have KF:=lH (show Kept w _ from Below.trans KK.out q3);obtain⟨WF,hWF⟩:=eX (w1.setCell ⟨w.heap.size,0,none⟩ (.int .i64 3))
  rw[hWF] at q2 KF ⊢;clear hWF q3 ze zf;simp[Leaves,settle,results,Tryz.results226,go_sem,q2];exact KF.out
theorem jkv (Q1 Q2 Q3:Nat) (s1 s2 s3 a1 a2 a3 a4:Option Addr) (n1 e1 n2 e2 n3 e3 m1 c1 m2 c2 m3 c3 m4 c4:Nat) (p:Pd) (s:Clu) (name:ByteArray) (w:World) (hq1:jf Q1 [.slice s1 n1 e1,.slice s2 n2 e2,.slice s3 n3 e3] w) (hq2:jf Q2 [.string p.name,.string p.owner,.int .i64 p.prio,.slice a1 m1 c1,.slice a2 m2 c2,.slice a3 m3 c3,.slice a4 m4 c4,.string p.key,.int .i64 p.most,.string p.node,.bool p.hold] w) (hq3:jf Q3 [.string name] w) (hn:jo w s1 n1 s.nodes) (hp:jy w s2 n2 s.pods) (hb1:n1≤100000) (hb2:n2≤100000) :
 Calls Tryz.prog 227 #[.pointer (some ⟨Q1,0,none⟩),.pointer (some ⟨Q2,0,none⟩),.pointer (some ⟨Q3,0,none⟩)] w (SkR ((domV p.key name s.nodes).map (Xh p s)) w):=by
 have HS:=lH (jje s1 s2 s3 a1 a2 a3 a4 n1 e1 n2 e2 n3 e3 m1 c1 m2 c2 m3 c3 m4 c4 p s name w hn hp hb1 hb2);unfold jx at HS;have y0:=hq1.at_ 0 _ rfl;have y1:=hq1.at_ 1 _ rfl;have y2:=hq1.at_ 2 _ rfl;have r0:=hq2.at_ 0 _ rfl;have r1:=hq2.at_ 1 _ rfl;have r2:=hq2.at_ 2 _ rfl;have r3:=hq2.at_ 3 _ rfl;have r4:=hq2.at_ 4 _ rfl;have r5:=hq2.at_ 5 _ rfl;have r6:=hq2.at_ 6 _ rfl;have r7:=hq2.at_ 7 _ rfl;have r8:=hq2.at_ 8 _ rfl;have r9:=hq2.at_ 9 _ rfl;have r10:=hq2.at_ 10 _ rfl;have z0:=hq3.at_ 0 _ rfl;clear hq1 hq2 hq3 hn hp;go_enter Tryz.func227,Tryz.ntmps227;go_wp2_with fail
 refine HS.out.mono ?_;rintro e w1 ⟨h1,h2,kk⟩;have K:=lH kk;clear kk HS y0 y1 y2 r0 r1 r2 r3 r4 r5 r6 r7 r8 r9 r10 z0
 cases ho:domV p.key name s.nodes with
 | none =>
  obtain rfl:=h2 ho;have HO:=lH ho;clear h1 h2 ho;go_wp2;exact⟨rfl,(fun z e=>by cases e),(fun _=>rfl),K.out⟩
 | some d =>
  obtain rfl:=h1 d ho;have HO:=lH ho;clear h1 h2 ho;obtain⟨z,hz⟩:=eX (Xh p s d)
  rw[hz];have HZ:=lH hz;clear hz;go_wp2;go_ret;exact⟨(fun y e=>by rw[HO.out] at e;cases e;exact congrArg (fun z=>Ending.returned (.int .i64 z)) HZ.out.symm),(fun e=>by rw[HO.out] at e;cases e),K.out⟩
theorem jl0 (s1 s2 s3 a1 a2 a3 a4:Option Addr) (n1 e1 n2 e2 n3 e3 m1 c1 m2 c2 m3 c3 m4 c4:Nat) (p:Pd) (s:Clu) (name:ByteArray) (w:World) (hn:jo w s1 n1 s.nodes) (hp:jy w s2 n2 s.pods) (hb1:n1≤100000) (hb2:n2≤100000) :
 Calls Tryz.prog 194 #[.agg #[.slice s1 n1 e1,.slice s2 n2 e2,.slice s3 n3 e3],jx p (.slice a1 m1 c1) (.slice a2 m2 c2) (.slice a3 m3 c3) (.slice a4 m4 c4),.string name] w (Say (.tuple #[.int .i64 (ZP p s name).1,.bool (ZP p s name).2]) w):=by
 have hmf:=hmfL (P:=Tryz.prog);obtain⟨Y,hY⟩:=eX ((w.alloc (.cells #[.slice s1 n1 e1,.slice s2 n2 e2,.slice s3 n3 e3] 26)).alloc (.cells #[.string p.name,.string p.owner,.int .i64 p.prio,.slice a1 m1 c1,.slice a2 m2 c2,.slice a3 m3 c3,.slice a4 m4 c4,.string p.key,.int .i64 p.most,.string p.node,.bool p.hold] 52))
 have hky:Kept w Y:=by rw[←hY];exact jn _ _ _
 have hys:Y.heap.size=w.heap.size+2:=by rw[←hY];simp
 have hsb:=jc w (.slice s1 n1 e1) [.slice s2 n2 e2,.slice s3 n3 e3] 26 Y (by rw[←hY];exact ja _ _);have hpb:jf (w.heap.size+1) [.string p.name,.string p.owner,.int .i64 p.prio,.slice a1 m1 c1,.slice a2 m2 c2,.slice a3 m3 c3,.slice a4 m4 c4,.string p.key,.int .i64 p.most,.string p.node,.bool p.hold] Y:=by
  have dd:=jc (w.alloc (.cells #[.slice s1 n1 e1,.slice s2 n2 e2,.slice s3 n3 e3] 26)) (.string p.name) [.string p.owner,.int .i64 p.prio,.slice a1 m1 c1,.slice a2 m2 c2,.slice a3 m3 c3,.slice a4 m4 c4,.string p.key,.int .i64 p.most,.string p.node,.bool p.hold] 52 Y (by rw[hY];exact Kept.refl _);rw[World.size_alloc] at dd;exact dd
 obtain⟨Z,hZ⟩:=eX (Y.alloc (.cells #[.string name] 9))
 have hkz:Kept Y Z:=by rw[←hZ];exact ja _ _
 have hnb:jf (w.heap.size+2) [.string name] Z:=by
  have dd:=jc Y (.string name) [] 9 Z (by rw[hZ];exact Kept.refl _);rw[hys] at dd;exact dd
 have hYZ:((w.alloc (.cells #[.slice s1 n1 e1,.slice s2 n2 e2,.slice s3 n3 e3] 26)).alloc (.cells #[.string p.name,.string p.owner,.int .i64 p.prio,.slice a1 m1 c1,.slice a2 m2 c2,.slice a3 m3 c3,.slice a4 m4 c4,.string p.key,.int .i64 p.most,.string p.node,.bool p.hold] 52)).alloc (.cells #[.string name] 9)=Z:=by rw[hY];exact hZ
 obtain⟨Vw,Vz,Vv,K,HN,HP⟩:=lH6 (hsb.kept hkz) (hpb.kept hkz) hnb (hky.trans hkz) (hn.kept (hky.trans hkz)) (hp.kept (hky.trans hkz));clear hn hp hky hkz hys hsb hpb hnb hY hZ;obtain⟨t0,h0⟩:=eX ((p.key.toList==([]:List UInt8)))
 have HI:=lH (show zo p.key=t0 by rw[JY,h0]);have r7:=Vz.out.at_ 7 _ rfl;unfold jx;go_enter Tryz.func194,Tryz.ntmps194
 cases t0 with
 | true =>
  have HV:=lH (show ZP p s name=(0,true) by unfold ZP;rw[if_pos HI.out]);go_wp2;try rw[hYZ]
  go_ret2
  rw[HV.out];exact⟨rfl,by first | exact K.out | (rw[hYZ];exact K.out)⟩
 | false =>
  have HC:=lH (jg0 w.heap.size (w.heap.size+1) (w.heap.size+2) ((domV p.key name s.nodes).map (Xh p s)) Z fun W k=>jkv w.heap.size (w.heap.size+1) (w.heap.size+2) s1 s2 s3 a1 a2 a3 a4 n1 e1 n2 e2 n3 e3 m1 c1 m2 c2 m3 c3 m4 c4 p s name W (Vw.out.kept k) (Vz.out.kept k) (Vv.out.kept k) (HN.out.kept k) (HP.out.kept k) hb1 hb2);have HV:=lH (show ZP p s name=(((domV p.key name s.nodes).map (Xh p s)).getD 0,((domV p.key name s.nodes).map (Xh p s)).isSome) by
   unfold ZP;rw[if_neg (by rw[HI.out];decide)]
   cases domV p.key name s.nodes<;>rfl)
  obtain⟨o,ho⟩:=eX ((domV p.key name s.nodes).map (Xh p s))
  rw[ho] at HC HV;clear ho;go_upto_region 3 with fail
  try rw[hYZ]
  clear hYZ r7 h0;go_wp2_with fail
  refine HC.out.mono ?_;rintro e w1 ⟨rfl,kk⟩;have K:=lH (K.out.trans kk);clear kk
  cases o with
  | none =>
   have HW:=lH (show ZP p s name=(0,false) from HV.out);go_wp2;go_ret2
   rw[HW.out];exact⟨rfl,K.out⟩
  | some z =>
   have HW:=lH (show ZP p s name=(z,true) from HV.out);go_wp2;go_ret2
   rw[HW.out];exact⟨rfl,K.out⟩
theorem jfK (x:ByteArray) (u:Value) (h:u ∈ [Value.string x]):u.oneCell'=true:=jau x u h
theorem jj1:(Tryz.prog.info? 9).map (fun i=>(i.zero,i.size,i.bytes))=some (some (.string ByteArray.empty),1,16):=by kernel_rfl
def zV:TL→TL→Bool
 | [],[]=>true
 | x::s,y::t=>((x.1==y.1)&&(eqS x.2.1 y.2.1&&eqS x.2.2 y.2.2))&&zV s t
 | _,_=>false
theorem jbe:∀{l l':TL},l.length≠l'.length→zV l l'=false
 | [],[],h=>absurd rfl h
 | [],_::_,_=>rfl
 | _::_,[],_=>rfl
 | x::s,y::t,h=>by rw[zV,jbe (l:=s) (l':=t) (fun e=>h (by simp[e])),Bool.and_false]
theorem qP:∀l:TL,zV l l=true
 | []=>rfl
 | x::t=>by rw[zV,qP t,zh,zh];simp
theorem jin (a a':Option Addr) (len cap len' cap':Nat) (l l':NL) (w:World) (hr:jk ju w a len l) (hr':jk ju w a' len' l') :
 Calls Tryz.prog 102 #[.slice a len cap,.slice a' len' cap'] w fun e w'=>e=.returned (.bool (jU l l'))∧Kept w w':=by
 have hl:=hr.1;have hm:=hr.2.1;have hl':=hr'.1;have hm':=hr'.2.1;unfold maxLen at hm hm';by_cases hll:len=len'
 · subst hll;by_cases h0:len=0
   · subst h0;have HE:=lH (show jU l l'=true by rw[List.eq_nil_of_length_eq_zero hl,List.eq_nil_of_length_eq_zero hl'];rfl);clear hr hl hr' hl';go_enter Tryz.func102,Tryz.ntmps102;go_wp2;refine wp_loop_rounds 1 ?_;rw[rounds_succ];go_wp2;go_ret;exact⟨jd HE.out.symm,Kept.refl _⟩
   · obtain⟨b,off,rfl⟩:∃b off,a=some ⟨b,off,none⟩:=hr.form.resolve_left h0;obtain⟨b',off',rfl⟩:∃b off,a'=some ⟨b,off,none⟩:=hr'.form.resolve_left h0;have HR:=lH hr;have HL:=lH hl;have HR':=lH hr';have HL':=lH hl';clear hr hl hr' hl' h0;go_enter Tryz.func102,Tryz.ntmps102;go_wp2;go_loopw [13] (fun i wr=>∃k:Nat,k≤len∧i=.int .i64 k∧jU (l.drop k) (l'.drop k)=jU l l'∧Kept w wr) (fun i _=>len-(intOf i).toNat)
     case atStart=>exact⟨0,Nat.zero_le _,rfl,rfl,Kept.refl _⟩
     case round =>
      obtain⟨k,hk,rfl,hrest,hK⟩:=hrel;have HS:=lH hrest;have HK:=lH hK;by_cases hlt:k<len
      · obtain⟨x,y,m,hx,hd,hb,_,_,c1,c2,c3⟩:=(HR.out.kept hK).tri hlt;obtain⟨x9,y9,m9,hx9,hd9,hb9,_,_,d1,d2,d3⟩:=(HR'.out.kept hK).tri hlt;have HD:=lH hd;have VO:=lH hd9;clear hrest hK hx hx9 hd hd9;by_cases e0:eqS x x9=true
        · have E0:=lH e0;have e0':(x.toList==x9.toList)=true:=e0;clear e0;by_cases e1:eqS y y9=true
          · have E1:=lH e1;have e1':(y.toList==y9.toList)=true:=e1;clear e1;by_cases e2:(m==m9)=true
            · have E2:=lH e2;have e2':(m==m9)=true:=e2;clear e2;have E:=lH (show jU (l.drop k) (l'.drop k)=jU (l.drop (k+1)) (l'.drop (k+1)) by rw[HD.out,VO.out,jU,E0.out,E1.out,E2.out];rfl);go_wp2;go_quiet (fail)
              go_wp2;go_roundw
              case rel=>exact⟨k+1,by omega,by go_num,E.out.symm.trans HS.out,HK.out.trans (Kept.drewN _ _)⟩
              case measure=>simp[intOf];omega
            · have e2:(m==m9)=false:=by simpa using e2
              have E2:=lH e2;have e2':(m==m9)=false:=e2;clear e2;have E:=lH (show jU (l.drop k) (l'.drop k)=false by rw[HD.out,VO.out,jU,E0.out,E1.out,E2.out];rfl);go_wp2;go_quiet (fail)
              go_wp2;go_ret;exact⟨jd (HS.out.symm.trans E.out).symm,HK.out.trans (Kept.drewN _ _)⟩
          · have e1:eqS y y9=false:=by simpa using e1
            have E1:=lH e1;have e1':(y.toList==y9.toList)=false:=e1;clear e1;have E:=lH (show jU (l.drop k) (l'.drop k)=false by rw[HD.out,VO.out,jU,E0.out,E1.out];rfl);go_wp2;go_quiet (fail)
            go_wp2;go_ret;exact⟨jd (HS.out.symm.trans E.out).symm,HK.out.trans (Kept.drewN _ _)⟩
        · have e0:eqS x x9=false:=by simpa using e0
          have E0:=lH e0;have e0':(x.toList==x9.toList)=false:=e0;clear e0;have E:=lH (show jU (l.drop k) (l'.drop k)=false by rw[HD.out,VO.out,jU,E0.out];rfl);go_wp2;go_quiet (fail)
          go_wp2;go_ret;exact⟨jd (HS.out.symm.trans E.out).symm,HK.out.trans (Kept.drewN _ _)⟩
      · have E:=lH (show jU (l.drop k) (l'.drop k)=true by
         rw[List.drop_of_length_le (by rw[HL.out];omega),List.drop_of_length_le (by rw[HL'.out];omega),jU])
        clear hrest hK;go_wp2;go_ret;exact⟨jd (HS.out.symm.trans E.out).symm,HK.out⟩
 · have HV:=lH (show jU l l'=false from XU (by omega));clear hr hl hr' hl';have hn:((len:Int) != (len':Int))=true:=by
    simp only[bne_iff_ne,ne_eq];omega
   clear hll;go_enter Tryz.func102,Tryz.ntmps102;go_wp2;go_ret;exact⟨jd HV.out.symm,Kept.refl _⟩
theorem XE {v v':Value} {l l':NL} {c:Bool} {w:World} (h:Reads ju w v l) (h':Reads ju w v' l') (hc:jU l l'=c) :
 Calls Tryz.prog 102 #[v,v'] w (Say (.bool c) w):=by
 subst hc;obtain⟨a,cap,rfl,_,_,hr⟩:=h;obtain⟨a',cap',rfl,_,_,hr'⟩:=h';exact jin a a' _ cap _ cap' l l' w hr hr'
theorem jiI (a a':Option Addr) (len cap len' cap':Nat) (l l':TL) (w:World) (hr:jk jQ w a len l) (hr':jk jQ w a' len' l') :
 Calls Tryz.prog 101 #[.slice a len cap,.slice a' len' cap'] w fun e w'=>e=.returned (.bool (zV l l'))∧Kept w w':=by
 have hl:=hr.1;have hm:=hr.2.1;have hl':=hr'.1;have hm':=hr'.2.1;unfold maxLen at hm hm';by_cases hll:len=len'
 · subst hll;by_cases h0:len=0
   · subst h0;have HE:=lH (show zV l l'=true by rw[List.eq_nil_of_length_eq_zero hl,List.eq_nil_of_length_eq_zero hl'];rfl);clear hr hl hr' hl';go_enter Tryz.func101,Tryz.ntmps101;go_wp2;refine wp_loop_rounds 1 ?_;rw[rounds_succ];go_wp2;go_ret;exact⟨jd HE.out.symm,Kept.refl _⟩
   · obtain⟨b,off,rfl⟩:∃b off,a=some ⟨b,off,none⟩:=hr.form.resolve_left h0;obtain⟨b',off',rfl⟩:∃b off,a'=some ⟨b,off,none⟩:=hr'.form.resolve_left h0;have HR:=lH hr;have HL:=lH hl;have HR':=lH hr';have HL':=lH hl';clear hr hl hr' hl' h0;go_enter Tryz.func101,Tryz.ntmps101;go_wp2;go_loopw [13] (fun i wr=>∃k:Nat,k≤len∧i=.int .i64 k∧zV (l.drop k) (l'.drop k)=zV l l'∧Kept w wr) (fun i _=>len-(intOf i).toNat)
     case atStart=>exact⟨0,Nat.zero_le _,rfl,rfl,Kept.refl _⟩
     case round =>
      obtain⟨k,hk,rfl,hrest,hK⟩:=hrel;have HS:=lH hrest;have HK:=lH hK;by_cases hlt:k<len
      · obtain⟨o,x,y,hx,hd,hb,_,_,_,c1,c2,c3⟩:=(HR.out.kept hK).term hlt;obtain⟨o9,x9,y9,hx9,hd9,hb9,_,_,_,d1,d2,d3⟩:=(HR'.out.kept hK).term hlt;have HD:=lH hd;have VO:=lH hd9;clear hrest hK hx hx9 hd hd9;by_cases e0:(o==o9)=true
        · have E0:=lH e0;have e0':(o==o9)=true:=e0;clear e0;by_cases e1:eqS x x9=true
          · have E1:=lH e1;have e1':(x.toList==x9.toList)=true:=e1;clear e1;by_cases e2:eqS y y9=true
            · have E2:=lH e2;have e2':(y.toList==y9.toList)=true:=e2;clear e2;have E:=lH (show zV (l.drop k) (l'.drop k)=zV (l.drop (k+1)) (l'.drop (k+1)) by rw[HD.out,VO.out,zV,E0.out,E1.out,E2.out];rfl);go_wp2;go_quiet (fail)
              go_wp2;go_roundw
              case rel=>exact⟨k+1,by omega,by go_num,E.out.symm.trans HS.out,HK.out.trans (Kept.drewN _ _)⟩
              case measure=>simp[intOf];omega
            · have e2:eqS y y9=false:=by simpa using e2
              have E2:=lH e2;have e2':(y.toList==y9.toList)=false:=e2;clear e2;have E:=lH (show zV (l.drop k) (l'.drop k)=false by rw[HD.out,VO.out,zV,E0.out,E1.out,E2.out];rfl);go_wp2;go_quiet (fail)
              go_wp2;go_ret;exact⟨jd (HS.out.symm.trans E.out).symm,HK.out.trans (Kept.drewN _ _)⟩
          · have e1:eqS x x9=false:=by simpa using e1
            have E1:=lH e1;have e1':(x.toList==x9.toList)=false:=e1;clear e1;have E:=lH (show zV (l.drop k) (l'.drop k)=false by rw[HD.out,VO.out,zV,E0.out,E1.out];rfl);go_wp2;go_quiet (fail)
            go_wp2;go_ret;exact⟨jd (HS.out.symm.trans E.out).symm,HK.out.trans (Kept.drewN _ _)⟩
        · have e0:(o==o9)=false:=by simpa using e0
          have E0:=lH e0;have e0':(o==o9)=false:=e0;clear e0;have E:=lH (show zV (l.drop k) (l'.drop k)=false by rw[HD.out,VO.out,zV,E0.out];rfl);go_wp2;go_quiet (fail)
          go_wp2;go_ret;exact⟨jd (HS.out.symm.trans E.out).symm,HK.out.trans (Kept.drewN _ _)⟩
      · have E:=lH (show zV (l.drop k) (l'.drop k)=true by
         rw[List.drop_of_length_le (by rw[HL.out];omega),List.drop_of_length_le (by rw[HL'.out];omega),zV])
        clear hrest hK;go_wp2;go_ret;exact⟨jd (HS.out.symm.trans E.out).symm,HK.out⟩
 · have HV:=lH (show zV l l'=false from jbe (by omega));clear hr hl hr' hl';have hn:((len:Int) != (len':Int))=true:=by
    simp only[bne_iff_ne,ne_eq];omega
   clear hll;go_enter Tryz.func101,Tryz.ntmps101;go_wp2;go_ret;exact⟨jd HV.out.symm,Kept.refl _⟩
theorem YG {v v':Value} {l l':TL} {c:Bool} {w:World} (h:Reads jQ w v l) (h':Reads jQ w v' l') (hc:zV l l'=c) :
 Calls Tryz.prog 101 #[v,v'] w (Say (.bool c) w):=by
 subst hc;obtain⟨a,cap,rfl,_,_,hr⟩:=h;obtain⟨a',cap',rfl,_,_,hr'⟩:=h';exact jiI a a' _ cap _ cap' l l' w hr hr'
def zi (n m:Pd):Bool:=(eqS n.name m.name&&(eqS n.owner m.owner&&((n.prio==m.prio)&&(Vec.jY n.need m.need&&(Jc n.labels m.labels&&(zV n.sel m.sel&&(jU n.tols m.tols&&(eqS n.key m.key&&((n.most==m.most)&&(eqS n.node m.node&&(n.hold==m.hold)))))))))))
theorem jhc (n:Pd):zi n n=true:=by
 unfold zi;rw[zh,zh,Vec.ja8,jav,qP,jat,zh,zh];simp
theorem jgG (n m:Pd) (v1 v2 v3 v4 u1 u2 u3 u4:Value) (w:World) (h:ji w v1 v2 v3 v4 n) (g:ji w u1 u2 u3 u4 m) :
 Calls Tryz.prog 51 #[jx n v1 v2 v3 v4,jx m u1 u2 u3 u4] w (Say (.bool (zi n m)) w):=by
 have HH:=lH h;have GG:=lH g;obtain⟨b0,hb0⟩:=eX (eqS n.name m.name)
 obtain⟨b1,hb1⟩:=eX (eqS n.owner m.owner)
 obtain⟨b2,hb2⟩:=eX ((n.prio==m.prio))
 obtain⟨b3,hb3⟩:=eX (Vec.jY n.need m.need)
 obtain⟨b4,hb4⟩:=eX (Jc n.labels m.labels)
 obtain⟨b5,hb5⟩:=eX (zV n.sel m.sel)
 obtain⟨b6,hb6⟩:=eX (jU n.tols m.tols)
 obtain⟨b7,hb7⟩:=eX (eqS n.key m.key)
 obtain⟨b8,hb8⟩:=eX ((n.most==m.most))
 obtain⟨b9,hb9⟩:=eX (eqS n.node m.node)
 obtain⟨b10,hb10⟩:=eX ((n.hold==m.hold))
 have VI:=lH (show zi n m=(b0&&(b1&&(b2&&(b3&&(b4&&(b5&&(b6&&(b7&&(b8&&(b9&&b10)))))))))) by unfold zi;rw[hb0,hb1,hb2,hb3,hb4,hb5,hb6,hb7,hb8,hb9,hb10]);have t0:(n.name.toList==m.name.toList)=b0:=hb0;have t1:(n.owner.toList==m.owner.toList)=b1:=hb1;have t2:(n.prio==m.prio)=b2:=hb2;have t7:(n.key.toList==m.key.toList)=b7:=hb7;have t8:(n.most==m.most)=b8:=hb8;have t9:(n.node.toList==m.node.toList)=b9:=hb9;have t10:(n.hold==m.hold)=b10:=hb10;obtain⟨B3,B4,B5,B6⟩:=lH4 hb3 hb4 hb5 hb6;obtain⟨W0,hW0⟩:=eX ((w.alloc (.cells #[.string n.name,.string n.owner,.int .i64 n.prio,v1,v2,v3,v4,.string n.key,.int .i64 n.most,.string n.node,.bool n.hold] 52)).alloc (.cells #[.string m.name,.string m.owner,.int .i64 m.prio,u1,u2,u3,u4,.string m.key,.int .i64 m.most,.string m.node,.bool m.hold] 52))
 have hk0:Kept w W0:=by rw[←hW0];exact jn _ _ _
 have Va:=lH hk0;have HC:=lH (show ∀W,Kept W0 W→(W.cell? ⟨w.heap.size,0,none⟩=some (.string n.name)∧W.cell? ⟨w.heap.size,1,none⟩=some (.string n.owner)∧W.cell? ⟨w.heap.size,2,none⟩=some (.int .i64 n.prio)∧W.cell? ⟨w.heap.size,3,none⟩=some (v1)∧W.cell? ⟨w.heap.size,4,none⟩=some (v2)∧W.cell? ⟨w.heap.size,5,none⟩=some (v3)∧W.cell? ⟨w.heap.size,6,none⟩=some (v4)∧W.cell? ⟨w.heap.size,7,none⟩=some (.string n.key)∧W.cell? ⟨w.heap.size,8,none⟩=some (.int .i64 n.most)∧W.cell? ⟨w.heap.size,9,none⟩=some (.string n.node)∧W.cell? ⟨w.heap.size,10,none⟩=some (.bool n.hold))∧(W.cell? ⟨(w.heap.size+1),0,none⟩=some (.string m.name)∧W.cell? ⟨(w.heap.size+1),1,none⟩=some (.string m.owner)∧W.cell? ⟨(w.heap.size+1),2,none⟩=some (.int .i64 m.prio)∧W.cell? ⟨(w.heap.size+1),3,none⟩=some (u1)∧W.cell? ⟨(w.heap.size+1),4,none⟩=some (u2)∧W.cell? ⟨(w.heap.size+1),5,none⟩=some (u3)∧W.cell? ⟨(w.heap.size+1),6,none⟩=some (u4)∧W.cell? ⟨(w.heap.size+1),7,none⟩=some (.string m.key)∧W.cell? ⟨(w.heap.size+1),8,none⟩=some (.int .i64 m.most)∧W.cell? ⟨(w.heap.size+1),9,none⟩=some (.string m.node)∧W.cell? ⟨(w.heap.size+1),10,none⟩=some (.bool m.hold)) from fun W k=>by
  have c:=jc w (.string n.name) [.string n.owner,.int .i64 n.prio,v1,v2,v3,v4,.string n.key,.int .i64 n.most,.string n.node,.bool n.hold] 52 W (by rw[←hW0] at k;exact(ja _ _).trans k);have d:=jc (w.alloc (.cells #[.string n.name,.string n.owner,.int .i64 n.prio,v1,v2,v3,v4,.string n.key,.int .i64 n.most,.string n.node,.bool n.hold] 52)) (.string m.name) [.string m.owner,.int .i64 m.prio,u1,u2,u3,u4,.string m.key,.int .i64 m.most,.string m.node,.bool m.hold] 52 W (by rw[hW0];exact k);rw[World.size_alloc] at d;exact⟨⟨c.at_ 0 _ rfl,c.at_ 1 _ rfl,c.at_ 2 _ rfl,c.at_ 3 _ rfl,c.at_ 4 _ rfl,c.at_ 5 _ rfl,c.at_ 6 _ rfl,c.at_ 7 _ rfl,c.at_ 8 _ rfl,c.at_ 9 _ rfl,c.at_ 10 _ rfl⟩,d.at_ 0 _ rfl,d.at_ 1 _ rfl,d.at_ 2 _ rfl,d.at_ 3 _ rfl,d.at_ 4 _ rfl,d.at_ 5 _ rfl,d.at_ 6 _ rfl,d.at_ 7 _ rfl,d.at_ 8 _ rfl,d.at_ 9 _ rfl,d.at_ 10 _ rfl⟩)
 obtain⟨⟨c0,c1,c2,c3,c4,c5,c6,c7,c8,c9,c10⟩,d0,d1,d2,d3,d4,d5,d6,d7,d8,d9,d10⟩:=HC.out _ (Kept.refl _);clear hb0 hb1 hb2 hb3 hb4 hb5 hb6 hb7 hb8 hb9 hb10 hk0 h g;unfold jx
 cases b0 with
 | false =>
  have HV:=lH (show zi n m=false by rw[VI.out];simp);go_enter Tryz.func51,Tryz.ntmps51;have K:=lH (Kept.refl W0);go_wp2;try rw[hW0]
  go_ret;exact⟨jd HV.out.symm,Va.out.trans K.out⟩
 | true =>
  cases b1 with
  | false =>
   have HV:=lH (show zi n m=false by rw[VI.out];simp);go_enter Tryz.func51,Tryz.ntmps51;have K:=lH (Kept.refl W0);go_wp2;try rw[hW0]
   go_ret;exact⟨jd HV.out.symm,Va.out.trans K.out⟩
  | true =>
   cases b2 with
   | false =>
    have HV:=lH (show zi n m=false by rw[VI.out];simp);go_enter Tryz.func51,Tryz.ntmps51;have K:=lH (Kept.refl W0);go_wp2;try rw[hW0]
    go_ret;exact⟨jd HV.out.symm,Va.out.trans K.out⟩
   | true =>
    cases b3 with
    | false =>
     have HV:=lH (show zi n m=false by rw[VI.out];simp);go_enter Tryz.func51,Tryz.ntmps51;have K:=lH (Kept.refl W0);go_wp2_with fail
     try rw[hW0]
     refine(Vec.Yi (HH.out.need.kept (Va.out.trans K.out)) (GG.out.need.kept (Va.out.trans K.out)) B3.out).mono ?_;rintro e w3 ⟨rfl,k3⟩;have K:=lH (K.out.trans k3);clear k3 c0 d0 c1 d1 c2 d2 c3 d3 c4 d4 c5 d5 c6 d6 c7 d7 c8 d8 c9 d9 c10 d10;obtain⟨⟨c0,c1,c2,c3,c4,c5,c6,c7,c8,c9,c10⟩,d0,d1,d2,d3,d4,d5,d6,d7,d8,d9,d10⟩:=HC.out _ K.out;go_wp2;go_ret;exact⟨jd HV.out.symm,Va.out.trans K.out⟩
    | true =>
     cases b4 with
     | false =>
      have HV:=lH (show zi n m=false by rw[VI.out];simp);go_enter Tryz.func51,Tryz.ntmps51;have K:=lH (Kept.refl W0);go_wp2_with fail
      try rw[hW0]
      refine(Vec.Yi (HH.out.need.kept (Va.out.trans K.out)) (GG.out.need.kept (Va.out.trans K.out)) B3.out).mono ?_;rintro e w3 ⟨rfl,k3⟩;have K:=lH (K.out.trans k3);clear k3 c0 d0 c1 d1 c2 d2 c3 d3 c4 d4 c5 d5 c6 d6 c7 d7 c8 d8 c9 d9 c10 d10;obtain⟨⟨c0,c1,c2,c3,c4,c5,c6,c7,c8,c9,c10⟩,d0,d1,d2,d3,d4,d5,d6,d7,d8,d9,d10⟩:=HC.out _ K.out;go_wp2_with fail
      refine(Zq (HH.out.labels.kept (Va.out.trans K.out)) (GG.out.labels.kept (Va.out.trans K.out)) B4.out).mono ?_;rintro e w4 ⟨rfl,k4⟩;have K:=lH (K.out.trans k4);clear k4 c0 d0 c1 d1 c2 d2 c3 d3 c4 d4 c5 d5 c6 d6 c7 d7 c8 d8 c9 d9 c10 d10;obtain⟨⟨c0,c1,c2,c3,c4,c5,c6,c7,c8,c9,c10⟩,d0,d1,d2,d3,d4,d5,d6,d7,d8,d9,d10⟩:=HC.out _ K.out;go_wp2;go_ret;exact⟨jd HV.out.symm,Va.out.trans K.out⟩
     | true =>
      cases b5 with
      | false =>
       have HV:=lH (show zi n m=false by rw[VI.out];simp);go_enter Tryz.func51,Tryz.ntmps51;have K:=lH (Kept.refl W0);go_wp2_with fail
       try rw[hW0]
       refine(Vec.Yi (HH.out.need.kept (Va.out.trans K.out)) (GG.out.need.kept (Va.out.trans K.out)) B3.out).mono ?_;rintro e w3 ⟨rfl,k3⟩;have K:=lH (K.out.trans k3);clear k3 c0 d0 c1 d1 c2 d2 c3 d3 c4 d4 c5 d5 c6 d6 c7 d7 c8 d8 c9 d9 c10 d10;obtain⟨⟨c0,c1,c2,c3,c4,c5,c6,c7,c8,c9,c10⟩,d0,d1,d2,d3,d4,d5,d6,d7,d8,d9,d10⟩:=HC.out _ K.out;go_wp2_with fail
       refine(Zq (HH.out.labels.kept (Va.out.trans K.out)) (GG.out.labels.kept (Va.out.trans K.out)) B4.out).mono ?_;rintro e w4 ⟨rfl,k4⟩;have K:=lH (K.out.trans k4);clear k4 c0 d0 c1 d1 c2 d2 c3 d3 c4 d4 c5 d5 c6 d6 c7 d7 c8 d8 c9 d9 c10 d10;obtain⟨⟨c0,c1,c2,c3,c4,c5,c6,c7,c8,c9,c10⟩,d0,d1,d2,d3,d4,d5,d6,d7,d8,d9,d10⟩:=HC.out _ K.out;go_wp2_with fail
       refine(YG (HH.out.sel.kept (Va.out.trans K.out)) (GG.out.sel.kept (Va.out.trans K.out)) B5.out).mono ?_;rintro e w5 ⟨rfl,k5⟩;have K:=lH (K.out.trans k5);clear k5 c0 d0 c1 d1 c2 d2 c3 d3 c4 d4 c5 d5 c6 d6 c7 d7 c8 d8 c9 d9 c10 d10;obtain⟨⟨c0,c1,c2,c3,c4,c5,c6,c7,c8,c9,c10⟩,d0,d1,d2,d3,d4,d5,d6,d7,d8,d9,d10⟩:=HC.out _ K.out;go_wp2;go_ret;exact⟨jd HV.out.symm,Va.out.trans K.out⟩
      | true =>
       cases b6 with
       | false =>
        have HV:=lH (show zi n m=false by rw[VI.out];simp);go_enter Tryz.func51,Tryz.ntmps51;have K:=lH (Kept.refl W0);go_wp2_with fail
        try rw[hW0]
        refine(Vec.Yi (HH.out.need.kept (Va.out.trans K.out)) (GG.out.need.kept (Va.out.trans K.out)) B3.out).mono ?_;rintro e w3 ⟨rfl,k3⟩;have K:=lH (K.out.trans k3);clear k3 c0 d0 c1 d1 c2 d2 c3 d3 c4 d4 c5 d5 c6 d6 c7 d7 c8 d8 c9 d9 c10 d10;obtain⟨⟨c0,c1,c2,c3,c4,c5,c6,c7,c8,c9,c10⟩,d0,d1,d2,d3,d4,d5,d6,d7,d8,d9,d10⟩:=HC.out _ K.out;go_wp2_with fail
        refine(Zq (HH.out.labels.kept (Va.out.trans K.out)) (GG.out.labels.kept (Va.out.trans K.out)) B4.out).mono ?_;rintro e w4 ⟨rfl,k4⟩;have K:=lH (K.out.trans k4);clear k4 c0 d0 c1 d1 c2 d2 c3 d3 c4 d4 c5 d5 c6 d6 c7 d7 c8 d8 c9 d9 c10 d10;obtain⟨⟨c0,c1,c2,c3,c4,c5,c6,c7,c8,c9,c10⟩,d0,d1,d2,d3,d4,d5,d6,d7,d8,d9,d10⟩:=HC.out _ K.out;go_wp2_with fail
        refine(YG (HH.out.sel.kept (Va.out.trans K.out)) (GG.out.sel.kept (Va.out.trans K.out)) B5.out).mono ?_;rintro e w5 ⟨rfl,k5⟩;have K:=lH (K.out.trans k5);clear k5 c0 d0 c1 d1 c2 d2 c3 d3 c4 d4 c5 d5 c6 d6 c7 d7 c8 d8 c9 d9 c10 d10;obtain⟨⟨c0,c1,c2,c3,c4,c5,c6,c7,c8,c9,c10⟩,d0,d1,d2,d3,d4,d5,d6,d7,d8,d9,d10⟩:=HC.out _ K.out;go_wp2_with fail
        refine(XE (HH.out.tols.kept (Va.out.trans K.out)) (GG.out.tols.kept (Va.out.trans K.out)) B6.out).mono ?_;rintro e w6 ⟨rfl,k6⟩;have K:=lH (K.out.trans k6);clear k6 c0 d0 c1 d1 c2 d2 c3 d3 c4 d4 c5 d5 c6 d6 c7 d7 c8 d8 c9 d9 c10 d10;obtain⟨⟨c0,c1,c2,c3,c4,c5,c6,c7,c8,c9,c10⟩,d0,d1,d2,d3,d4,d5,d6,d7,d8,d9,d10⟩:=HC.out _ K.out;go_wp2;go_ret;exact⟨jd HV.out.symm,Va.out.trans K.out⟩
       | true =>
        cases b7 with
        | false =>
         have HV:=lH (show zi n m=false by rw[VI.out];simp);go_enter Tryz.func51,Tryz.ntmps51;have K:=lH (Kept.refl W0);go_wp2_with fail
         try rw[hW0]
         refine(Vec.Yi (HH.out.need.kept (Va.out.trans K.out)) (GG.out.need.kept (Va.out.trans K.out)) B3.out).mono ?_;rintro e w3 ⟨rfl,k3⟩;have K:=lH (K.out.trans k3);clear k3 c0 d0 c1 d1 c2 d2 c3 d3 c4 d4 c5 d5 c6 d6 c7 d7 c8 d8 c9 d9 c10 d10;obtain⟨⟨c0,c1,c2,c3,c4,c5,c6,c7,c8,c9,c10⟩,d0,d1,d2,d3,d4,d5,d6,d7,d8,d9,d10⟩:=HC.out _ K.out;go_wp2_with fail
         refine(Zq (HH.out.labels.kept (Va.out.trans K.out)) (GG.out.labels.kept (Va.out.trans K.out)) B4.out).mono ?_;rintro e w4 ⟨rfl,k4⟩;have K:=lH (K.out.trans k4);clear k4 c0 d0 c1 d1 c2 d2 c3 d3 c4 d4 c5 d5 c6 d6 c7 d7 c8 d8 c9 d9 c10 d10;obtain⟨⟨c0,c1,c2,c3,c4,c5,c6,c7,c8,c9,c10⟩,d0,d1,d2,d3,d4,d5,d6,d7,d8,d9,d10⟩:=HC.out _ K.out;go_wp2_with fail
         refine(YG (HH.out.sel.kept (Va.out.trans K.out)) (GG.out.sel.kept (Va.out.trans K.out)) B5.out).mono ?_;rintro e w5 ⟨rfl,k5⟩;have K:=lH (K.out.trans k5);clear k5 c0 d0 c1 d1 c2 d2 c3 d3 c4 d4 c5 d5 c6 d6 c7 d7 c8 d8 c9 d9 c10 d10;obtain⟨⟨c0,c1,c2,c3,c4,c5,c6,c7,c8,c9,c10⟩,d0,d1,d2,d3,d4,d5,d6,d7,d8,d9,d10⟩:=HC.out _ K.out;go_wp2_with fail
         refine(XE (HH.out.tols.kept (Va.out.trans K.out)) (GG.out.tols.kept (Va.out.trans K.out)) B6.out).mono ?_;rintro e w6 ⟨rfl,k6⟩;have K:=lH (K.out.trans k6);clear k6 c0 d0 c1 d1 c2 d2 c3 d3 c4 d4 c5 d5 c6 d6 c7 d7 c8 d8 c9 d9 c10 d10;obtain⟨⟨c0,c1,c2,c3,c4,c5,c6,c7,c8,c9,c10⟩,d0,d1,d2,d3,d4,d5,d6,d7,d8,d9,d10⟩:=HC.out _ K.out;go_wp2;go_ret;exact⟨jd HV.out.symm,Va.out.trans K.out⟩
        | true =>
         cases b8 with
         | false =>
          have HV:=lH (show zi n m=false by rw[VI.out];simp);go_enter Tryz.func51,Tryz.ntmps51;have K:=lH (Kept.refl W0);go_wp2_with fail
          try rw[hW0]
          refine(Vec.Yi (HH.out.need.kept (Va.out.trans K.out)) (GG.out.need.kept (Va.out.trans K.out)) B3.out).mono ?_;rintro e w3 ⟨rfl,k3⟩;have K:=lH (K.out.trans k3);clear k3 c0 d0 c1 d1 c2 d2 c3 d3 c4 d4 c5 d5 c6 d6 c7 d7 c8 d8 c9 d9 c10 d10;obtain⟨⟨c0,c1,c2,c3,c4,c5,c6,c7,c8,c9,c10⟩,d0,d1,d2,d3,d4,d5,d6,d7,d8,d9,d10⟩:=HC.out _ K.out;go_wp2_with fail
          refine(Zq (HH.out.labels.kept (Va.out.trans K.out)) (GG.out.labels.kept (Va.out.trans K.out)) B4.out).mono ?_;rintro e w4 ⟨rfl,k4⟩;have K:=lH (K.out.trans k4);clear k4 c0 d0 c1 d1 c2 d2 c3 d3 c4 d4 c5 d5 c6 d6 c7 d7 c8 d8 c9 d9 c10 d10;obtain⟨⟨c0,c1,c2,c3,c4,c5,c6,c7,c8,c9,c10⟩,d0,d1,d2,d3,d4,d5,d6,d7,d8,d9,d10⟩:=HC.out _ K.out;go_wp2_with fail
          refine(YG (HH.out.sel.kept (Va.out.trans K.out)) (GG.out.sel.kept (Va.out.trans K.out)) B5.out).mono ?_;rintro e w5 ⟨rfl,k5⟩;have K:=lH (K.out.trans k5);clear k5 c0 d0 c1 d1 c2 d2 c3 d3 c4 d4 c5 d5 c6 d6 c7 d7 c8 d8 c9 d9 c10 d10;obtain⟨⟨c0,c1,c2,c3,c4,c5,c6,c7,c8,c9,c10⟩,d0,d1,d2,d3,d4,d5,d6,d7,d8,d9,d10⟩:=HC.out _ K.out;go_wp2_with fail
          refine(XE (HH.out.tols.kept (Va.out.trans K.out)) (GG.out.tols.kept (Va.out.trans K.out)) B6.out).mono ?_;rintro e w6 ⟨rfl,k6⟩;have K:=lH (K.out.trans k6);clear k6 c0 d0 c1 d1 c2 d2 c3 d3 c4 d4 c5 d5 c6 d6 c7 d7 c8 d8 c9 d9 c10 d10;obtain⟨⟨c0,c1,c2,c3,c4,c5,c6,c7,c8,c9,c10⟩,d0,d1,d2,d3,d4,d5,d6,d7,d8,d9,d10⟩:=HC.out _ K.out;go_wp2;go_ret;exact⟨jd HV.out.symm,Va.out.trans K.out⟩
         | true =>
          cases b9 with
          | false =>
           have HV:=lH (show zi n m=false by rw[VI.out];simp);go_enter Tryz.func51,Tryz.ntmps51;have K:=lH (Kept.refl W0);go_wp2_with fail
           try rw[hW0]
           refine(Vec.Yi (HH.out.need.kept (Va.out.trans K.out)) (GG.out.need.kept (Va.out.trans K.out)) B3.out).mono ?_;rintro e w3 ⟨rfl,k3⟩;have K:=lH (K.out.trans k3);clear k3 c0 d0 c1 d1 c2 d2 c3 d3 c4 d4 c5 d5 c6 d6 c7 d7 c8 d8 c9 d9 c10 d10;obtain⟨⟨c0,c1,c2,c3,c4,c5,c6,c7,c8,c9,c10⟩,d0,d1,d2,d3,d4,d5,d6,d7,d8,d9,d10⟩:=HC.out _ K.out;go_wp2_with fail
           refine(Zq (HH.out.labels.kept (Va.out.trans K.out)) (GG.out.labels.kept (Va.out.trans K.out)) B4.out).mono ?_;rintro e w4 ⟨rfl,k4⟩;have K:=lH (K.out.trans k4);clear k4 c0 d0 c1 d1 c2 d2 c3 d3 c4 d4 c5 d5 c6 d6 c7 d7 c8 d8 c9 d9 c10 d10;obtain⟨⟨c0,c1,c2,c3,c4,c5,c6,c7,c8,c9,c10⟩,d0,d1,d2,d3,d4,d5,d6,d7,d8,d9,d10⟩:=HC.out _ K.out;go_wp2_with fail
           refine(YG (HH.out.sel.kept (Va.out.trans K.out)) (GG.out.sel.kept (Va.out.trans K.out)) B5.out).mono ?_;rintro e w5 ⟨rfl,k5⟩;have K:=lH (K.out.trans k5);clear k5 c0 d0 c1 d1 c2 d2 c3 d3 c4 d4 c5 d5 c6 d6 c7 d7 c8 d8 c9 d9 c10 d10;obtain⟨⟨c0,c1,c2,c3,c4,c5,c6,c7,c8,c9,c10⟩,d0,d1,d2,d3,d4,d5,d6,d7,d8,d9,d10⟩:=HC.out _ K.out;go_wp2_with fail
           refine(XE (HH.out.tols.kept (Va.out.trans K.out)) (GG.out.tols.kept (Va.out.trans K.out)) B6.out).mono ?_;rintro e w6 ⟨rfl,k6⟩;have K:=lH (K.out.trans k6);clear k6 c0 d0 c1 d1 c2 d2 c3 d3 c4 d4 c5 d5 c6 d6 c7 d7 c8 d8 c9 d9 c10 d10;obtain⟨⟨c0,c1,c2,c3,c4,c5,c6,c7,c8,c9,c10⟩,d0,d1,d2,d3,d4,d5,d6,d7,d8,d9,d10⟩:=HC.out _ K.out;go_wp2;go_ret;exact⟨jd HV.out.symm,Va.out.trans K.out⟩
          | true =>
           cases b10 with
           | false =>
            have HV:=lH (show zi n m=false by rw[VI.out];simp);go_enter Tryz.func51,Tryz.ntmps51;have K:=lH (Kept.refl W0);go_wp2_with fail
            try rw[hW0]
            refine(Vec.Yi (HH.out.need.kept (Va.out.trans K.out)) (GG.out.need.kept (Va.out.trans K.out)) B3.out).mono ?_;rintro e w3 ⟨rfl,k3⟩;have K:=lH (K.out.trans k3);clear k3 c0 d0 c1 d1 c2 d2 c3 d3 c4 d4 c5 d5 c6 d6 c7 d7 c8 d8 c9 d9 c10 d10;obtain⟨⟨c0,c1,c2,c3,c4,c5,c6,c7,c8,c9,c10⟩,d0,d1,d2,d3,d4,d5,d6,d7,d8,d9,d10⟩:=HC.out _ K.out;go_wp2_with fail
            refine(Zq (HH.out.labels.kept (Va.out.trans K.out)) (GG.out.labels.kept (Va.out.trans K.out)) B4.out).mono ?_;rintro e w4 ⟨rfl,k4⟩;have K:=lH (K.out.trans k4);clear k4 c0 d0 c1 d1 c2 d2 c3 d3 c4 d4 c5 d5 c6 d6 c7 d7 c8 d8 c9 d9 c10 d10;obtain⟨⟨c0,c1,c2,c3,c4,c5,c6,c7,c8,c9,c10⟩,d0,d1,d2,d3,d4,d5,d6,d7,d8,d9,d10⟩:=HC.out _ K.out;go_wp2_with fail
            refine(YG (HH.out.sel.kept (Va.out.trans K.out)) (GG.out.sel.kept (Va.out.trans K.out)) B5.out).mono ?_;rintro e w5 ⟨rfl,k5⟩;have K:=lH (K.out.trans k5);clear k5 c0 d0 c1 d1 c2 d2 c3 d3 c4 d4 c5 d5 c6 d6 c7 d7 c8 d8 c9 d9 c10 d10;obtain⟨⟨c0,c1,c2,c3,c4,c5,c6,c7,c8,c9,c10⟩,d0,d1,d2,d3,d4,d5,d6,d7,d8,d9,d10⟩:=HC.out _ K.out;go_wp2_with fail
            refine(XE (HH.out.tols.kept (Va.out.trans K.out)) (GG.out.tols.kept (Va.out.trans K.out)) B6.out).mono ?_;rintro e w6 ⟨rfl,k6⟩;have K:=lH (K.out.trans k6);clear k6 c0 d0 c1 d1 c2 d2 c3 d3 c4 d4 c5 d5 c6 d6 c7 d7 c8 d8 c9 d9 c10 d10;obtain⟨⟨c0,c1,c2,c3,c4,c5,c6,c7,c8,c9,c10⟩,d0,d1,d2,d3,d4,d5,d6,d7,d8,d9,d10⟩:=HC.out _ K.out;go_wp2;go_ret;exact⟨jd HV.out.symm,Va.out.trans K.out⟩
           | true =>
            have HV:=lH (show zi n m=true by rw[VI.out];rfl);go_enter Tryz.func51,Tryz.ntmps51;have K:=lH (Kept.refl W0);go_wp2_with fail
            try rw[hW0]
            refine(Vec.Yi (HH.out.need.kept (Va.out.trans K.out)) (GG.out.need.kept (Va.out.trans K.out)) B3.out).mono ?_;rintro e w3 ⟨rfl,k3⟩;have K:=lH (K.out.trans k3);clear k3 c0 d0 c1 d1 c2 d2 c3 d3 c4 d4 c5 d5 c6 d6 c7 d7 c8 d8 c9 d9 c10 d10;obtain⟨⟨c0,c1,c2,c3,c4,c5,c6,c7,c8,c9,c10⟩,d0,d1,d2,d3,d4,d5,d6,d7,d8,d9,d10⟩:=HC.out _ K.out;go_wp2_with fail
            refine(Zq (HH.out.labels.kept (Va.out.trans K.out)) (GG.out.labels.kept (Va.out.trans K.out)) B4.out).mono ?_;rintro e w4 ⟨rfl,k4⟩;have K:=lH (K.out.trans k4);clear k4 c0 d0 c1 d1 c2 d2 c3 d3 c4 d4 c5 d5 c6 d6 c7 d7 c8 d8 c9 d9 c10 d10;obtain⟨⟨c0,c1,c2,c3,c4,c5,c6,c7,c8,c9,c10⟩,d0,d1,d2,d3,d4,d5,d6,d7,d8,d9,d10⟩:=HC.out _ K.out;go_wp2_with fail
            refine(YG (HH.out.sel.kept (Va.out.trans K.out)) (GG.out.sel.kept (Va.out.trans K.out)) B5.out).mono ?_;rintro e w5 ⟨rfl,k5⟩;have K:=lH (K.out.trans k5);clear k5 c0 d0 c1 d1 c2 d2 c3 d3 c4 d4 c5 d5 c6 d6 c7 d7 c8 d8 c9 d9 c10 d10;obtain⟨⟨c0,c1,c2,c3,c4,c5,c6,c7,c8,c9,c10⟩,d0,d1,d2,d3,d4,d5,d6,d7,d8,d9,d10⟩:=HC.out _ K.out;go_wp2_with fail
            refine(XE (HH.out.tols.kept (Va.out.trans K.out)) (GG.out.tols.kept (Va.out.trans K.out)) B6.out).mono ?_;rintro e w6 ⟨rfl,k6⟩;have K:=lH (K.out.trans k6);clear k6 c0 d0 c1 d1 c2 d2 c3 d3 c4 d4 c5 d5 c6 d6 c7 d7 c8 d8 c9 d9 c10 d10;obtain⟨⟨c0,c1,c2,c3,c4,c5,c6,c7,c8,c9,c10⟩,d0,d1,d2,d3,d4,d5,d6,d7,d8,d9,d10⟩:=HC.out _ K.out;go_wp2;go_ret;exact⟨jd HV.out.symm,Va.out.trans K.out⟩
theorem jmm {v u:Value} {n m:Pd} {b:Bool} {w:World} (h:jbh w v n) (g:jbh w u m) (hb:zi n m=b):Calls Tryz.prog 51 #[v,u] w (Say (.bool b) w):=by
 subst hb;obtain⟨v1,v2,v3,v4,rfl,h⟩:=h;obtain⟨u1,u2,u3,u4,rfl,g⟩:=g;exact jgG n m v1 v2 v3 v4 u1 u2 u3 u4 w h g
end Go.Proofs.YtibepooajeakfaaGreat
