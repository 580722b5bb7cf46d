/- What serves all packages,and package by package the contracts of the functions that the law calls. -/
import Derived.Test.YtmlgobiifebjkacGreatG0
import Derived.Test.YtmlgobiifebjkacGreatG1
import Derived.Test.YtmlgobiifebjkacGreatG2
import Derived.Test.YtmlgobiifebjkacGreatG3
import Derived.Test.YtmlgobiifebjkacGreatG5
import Derived.Sort.MapsRangeIn
set_option linter.unusedVariables false
set_option maxRecDepth 100000
set_option maxHeartbeats 25600000
namespace Go.Proofs.YtmlgobiifebjkacGreat
open Go.RowKit
theorem MapIs.mono1 {w:World} {b n n':Nat} {f:ByteArray→Int} {dom:ByteArray→Bool} (h:MapIs w b n f dom) (hn:n≤n'):MapIs w b n' f dom:=by
 obtain⟨D,h1,h2,h3,h4⟩:=h;exact⟨D,h1.mono hn,h2,h3,h4⟩
theorem tally_any (s1 s2 s3 a1 a2 a3 a4:Option Addr) (n1 e1 n2 e2 n3 e3 m1 c1 m2 c2 m3 c3 m4 c4:Nat) (p:Pd) (nodes:List Nod) (pods:List Pd) (w:World) (hn:NodesAt w s1 n1 nodes) (hp:PodsAt w s2 n2 pods) (hb1:n1≤100000) (hb2:n2≤100000) :
 Calls Tryz.prog 188 #[.agg #[.slice s1 n1 e1,.slice s2 n2 e2,.slice s3 n3 e3],PodV p (.slice a1 m1 c1) (.slice a2 m2 c2) (.slice a3 m3 c3) (.slice a4 m4 c4)] w fun e w'=>∃b n,e=.returned (.map (some b))∧MapIs w' b n (fun d=>(inD p pods d nodes:Int)) (fun d=>hasD p.key d nodes)∧w.heap.size≤b∧n≤100000∧Kept w w':=by
 obtain⟨Z,hZ⟩:∃Z,(w.alloc (.cells #[.slice s1 n1 e1,.slice s2 n2 e2,.slice s3 n3 e3] 26)).alloc (.cells #[.string p.name,.string p.owner,.int .i64 p.prio,.slice a1 m1 c1,.slice a2 m2 c2,.slice a3 m3 c3,.slice a4 m4 c4,.string p.key,.int .i64 p.most,.string p.node,.bool p.hold] 35)=Z:=⟨_,rfl⟩
 have hkz:Kept w Z:=by rw[←hZ];exact kept_two _ _ _
 have hzs:Z.heap.size=w.heap.size+2:=by rw[←hZ];simp
 have HSB:=lH (freshN w (.slice s1 n1 e1) [.slice s2 n2 e2,.slice s3 n3 e3] 26 Z (by rw[←hZ];exact kept_alloc _ _));have HPB:=lH (show CellsN (w.heap.size+1) [.string p.name,.string p.owner,.int .i64 p.prio,.slice a1 m1 c1,.slice a2 m2 c2,.slice a3 m3 c3,.slice a4 m4 c4,.string p.key,.int .i64 p.most,.string p.node,.bool p.hold] Z by
  have dd:=freshN (w.alloc (.cells #[.slice s1 n1 e1,.slice s2 n2 e2,.slice s3 n3 e3] 26)) (.string p.name) [.string p.owner,.int .i64 p.prio,.slice a1 m1 c1,.slice a2 m2 c2,.slice a3 m3 c3,.slice a4 m4 c4,.string p.key,.int .i64 p.most,.string p.node,.bool p.hold] 35 Z (by rw[hZ];exact Kept.refl _);rw[World.size_alloc] at dd;exact dd)
 obtain⟨Y,hY⟩:∃Y,Z.alloc (.map #[] 0)=Y:=⟨_,rfl⟩
 have hky:Kept Z Y:=by rw[←hY];exact kept_alloc _ _
 have HM0:=lH (show MapIs Y Z.heap.size 0 (fun _=>0) (fun _=>false) by rw[←hY];exact MapIs.made Z);have HYS:=lH (show Y.heap.size=Z.heap.size+1 by rw[←hY,World.size_alloc]);have HSB:=lH (HSB.out.kept hky);have HPB:=lH (HPB.out.kept hky);have HKY:=lH (hkz.trans hky);obtain⟨mb,hmb⟩:∃q,Z.heap.size=q:=⟨_,rfl⟩
 rw[hmb] at HM0 HYS;have HMB:=lH (show w.heap.size+2≤mb by omega);have HZS:=lH hzs;have HN:=lH hn;have HP:=lH hp;have HNL:=lH hn.1;have HPL:=lH hp.1;clear hn hp hkz hky hzs;have hmm:=@run_makeMap Tryz.prog;unfold PodV;go_enter Tryz.func188,Tryz.ntmps188;have y0:=HSB.out.at_ 0 _ rfl;have y1:=HSB.out.at_ 1 _ rfl;have z0:=(show CellsN w.heap.size _ Z from freshN w (.slice s1 n1 e1) [.slice s2 n2 e2,.slice s3 n3 e3] 26 Z (by rw[←hZ];exact kept_alloc _ _)).at_ 1 _ rfl;go_upto_region 2 with fail
 try rw[hZ]
 try rw[hY]
 try rw[hmb]
 clear hZ hY hmb hmm z0;go_wp2;clear y0 y1;skip;go_loopw [17] (fun i wr=>∃k:Nat,k≤n2∧i=.int .i64 k∧(∃dom,MapIs wr mb k (fun x=>(onN p x (pods.take k):Int)) dom)∧GOff (fun i=>i=mb) Y wr) (fun i _=>n2-(intOf i).toNat)
 case atStart=>exact⟨0,Nat.zero_le _,rfl,⟨_,HM0.out.eq (fun _=>rfl) (fun _=>rfl)⟩,GOff.of (Kept.refl _)⟩
 case round =>
  obtain⟨k,hk,rfl,⟨dom,hM⟩,hG⟩:=hrel;have HM:=lH hM;have HG:=lH hG;have KW:=lH (show Kept w wr from GOff.below HKY.out hG fun i e=>by have:=HMB.out;omega);by_cases hlt:k<n2
  · obtain⟨g,off,rfl⟩:=HP.out.form.resolve_left (by omega);obtain⟨q,b1,k1,d1,b2,k2,d2,b3,k3,d3,b4,k4,d4,hn,hd,hb,u0,u1,u2,u3,u4,u5,u6,u7,u8,u9,u10,hat⟩:=(HP.out.kept KW.out).at_ hlt;have HTK:=lH (show pods.take (k+1)=pods.take k++[q] by rw[List.take_add_one,hn];rfl);have HND:=lH hat.node;have hkk:(k:Int)<(n2:Int):=by omega
    have hk0:¬(k:Int)<0:=by omega
    obtain⟨wx,hwx⟩:∃W,wr.alloc (.cells #[.string q.name,.string q.owner,.int .i64 q.prio,.slice b1 k1 d1,.slice b2 k2 d2,.slice b3 k3 d3,.slice b4 k4 d4,.string q.key,.int .i64 q.most,.string q.node,.bool q.hold] 35)=W:=⟨_,rfl⟩
    have hkx:Kept wr wx:=by rw[←hwx];exact kept_alloc _ _
    have HQB:=lH (freshN wr (.string q.name) [.string q.owner,.int .i64 q.prio,.slice b1 k1 d1,.slice b2 k2 d2,.slice b3 k3 d3,.slice b4 k4 d4,.string q.key,.int .i64 q.most,.string q.node,.bool q.hold] 35 wx (by rw[hwx];exact Kept.refl _));obtain⟨bq,hbq⟩:∃z,wr.heap.size=z:=⟨_,rfl⟩
    rw[hbq] at HQB;have HBQ:=lH (show mb<bq by rw[←hbq];have:=HYS.out;have:=hG.size;omega);have HPB1:=lH ((HPB.out.block (hG.block _ (by have:=HPB.out.lt;exact this) (by have:=HMB.out;omega))).kept hkx);have HMX:=lH (hM.kept hkx);have KX:=lH hkx;go_upto_region 5 with fail
    try rw[hwx]
    try rw[hbq]
    clear hwx hbq hd hb hat hM hG hkx hk0 hkk u0 u1 u2 u3 u4 u5 u6 u7 u8 u9 u10;have r0:=HPB1.out.at_ 0 _ rfl;have r1:=HPB1.out.at_ 1 _ rfl;have r2:=HPB1.out.at_ 2 _ rfl;have r3:=HPB1.out.at_ 3 _ rfl;have r4:=HPB1.out.at_ 4 _ rfl;have r5:=HPB1.out.at_ 5 _ rfl;have r6:=HPB1.out.at_ 6 _ rfl;have r7:=HPB1.out.at_ 7 _ rfl;have r8:=HPB1.out.at_ 8 _ rfl;have r9:=HPB1.out.at_ 9 _ rfl;have r10:=HPB1.out.at_ 10 _ rfl;have t0:=HQB.out.at_ 0 _ rfl;have t1:=HQB.out.at_ 1 _ rfl;have t2:=HQB.out.at_ 2 _ rfl;have t3:=HQB.out.at_ 3 _ rfl;have t4:=HQB.out.at_ 4 _ rfl;have t5:=HQB.out.at_ 5 _ rfl;have t6:=HQB.out.at_ 6 _ rfl;have t7:=HQB.out.at_ 7 _ rfl;have t8:=HQB.out.at_ 8 _ rfl;have t9:=HQB.out.at_ 9 _ rfl;have t10:=HQB.out.at_ 10 _ rfl;go_wp2_with fail
    refine(beside_any p q a1 a2 a3 a4 b1 b2 b3 b4 m1 c1 m2 c2 m3 c3 m4 c4 k1 d1 k2 d2 k3 d3 k4 d4 wx).mono ?_;rintro e w3 ⟨rfl,kk⟩;clear r0 t0 r1 t1 r2 t2 r3 t3 r4 t4 r5 t5 r6 t6 r7 t7 r8 t8 r9 t9 r10 t10;have HK3:=lH kk;have HM3:=lH (HMX.out.kept kk);have t9:=(HQB.out.kept kk).at_ 9 _ rfl;clear kk;obtain⟨bb,hbb⟩:∃z,besideB p q=z:=⟨_,rfl⟩
    have HBB:=lH hbb;rw[hbb];clear hbb
    cases bb with
    | false =>
     go_wp2;go_roundw
     case rel =>
      refine⟨k+1,by omega,by go_num,⟨dom,(HM3.out.mono1 (Nat.le_succ k)).eq (fun x=>?_) (fun _=>rfl)⟩,(HG.out.trans (GOff.of KX.out)).trans (GOff.of HK3.out)⟩;rw[HTK.out,onN_app];show ((onN p x (pods.take k):Nat):Int)=((onN p x (pods.take k)+((if besideB p q=true∧q.node=x then 1 else 0)+0):Nat):Int);rw[if_neg (by rw[HBB.out];simp)];rfl
     case measure=>simp[intOf];omega
    | true =>
     have hsz:onN p q.node (pods.take k)≤k:=Nat.le_trans (onN_le _ _ _) (by rw[List.length_take];omega);have hlook:=HM3.out.look q.node HND.out;obtain⟨v,hv⟩:∃v,onN p q.node (pods.take k)=v:=⟨_,rfl⟩
     have HV:=lH hv;rw[hv] at hlook hsz;obtain⟨v1,hv1⟩:∃z:Nat,v+1=z:=⟨_,rfl⟩
     have hv2:(v:Int)+1=(v1:Int):=by omega
     have hv3:IntKind.i64.wrap (v1:Int)=(v1:Int):=IntWalk.i64_in _ (by omega);obtain⟨w4,hput,hM4,hG4⟩:=HM3.out.put (by unfold maxLen;omega) q.node HND.out (v1:Int) (by omega);have HM4:=lH hM4;have HG4:=lH hG4;have HV1:=lH hv1;clear hM4 hG4 hv hv1;go_wp2;go_roundw
     case rel =>
      refine⟨k+1,by omega,by go_num,⟨_,HM4.out.eq (fun x=>?_) (fun _=>rfl)⟩,((HG.out.trans (GOff.of KX.out)).trans (GOff.of HK3.out)).trans HG4.out⟩;rw[HTK.out,onN_app];show _=((onN p x (pods.take k)+((if besideB p q=true∧q.node=x then 1 else 0)+0):Nat):Int);by_cases hx:x=q.node
      · rw[if_pos hx,if_pos ⟨HBB.out,hx.symm⟩,hx,HV.out,←HV1.out]
      · rw[if_neg hx,if_neg (fun g=>hx g.2.symm)];rfl
     case measure=>simp[intOf];omega
  · have hge:¬(k:Int)<(n2:Int):=by omega
    have hM:=HM.out;rw[List.take_of_length_le (by rw[HPL.out];omega)] at hM;have HM:=lH hM;have HSB:=lH (HSB.out.block (hG.block _ HSB.out.lt (by have:=HMB.out;omega)));have HPB:=lH (HPB.out.block (hG.block _ HPB.out.lt (by have:=HMB.out;omega)));obtain⟨X,hX⟩:∃X,wr.alloc (.map #[] 0)=X:=⟨_,rfl⟩
    have hkx:Kept wr X:=by rw[←hX];exact kept_alloc _ _
    have HM0:=lH (show MapIs X wr.heap.size 0 (fun _=>0) (fun _=>false) by rw[←hX];exact MapIs.made wr);have HXS:=lH (show X.heap.size=wr.heap.size+1 by rw[←hX,World.size_alloc]);obtain⟨mc,hmc⟩:∃q,wr.heap.size=q:=⟨_,rfl⟩
    rw[hmc] at HM0 HXS;have HMC:=lH (show mb<mc by rw[←hmc];have:=HYS.out;have:=hG.size;omega);have HM:=lH (HM.out.kept hkx);have HSB:=lH (HSB.out.kept hkx);have HPB:=lH (HPB.out.kept hkx);have KX:=lH (KW.out.trans hkx);clear hM hG hkx;have hmm:=@run_makeMap Tryz.prog;go_upto_region 9 with fail
    try rw[hX]
    try rw[hmc]
    clear hX hmc hmm;have y0:=HSB.out.at_ 0 _ rfl;go_wp2;clear y0;go_loopw [34] (fun i wr=>∃k:Nat,k≤n1∧i=.int .i64 k∧MapIs wr mc k (fun d=>(inD p pods d (nodes.take k):Int)) (fun d=>hasD p.key d (nodes.take k))∧GOff (fun i=>i=mc) X wr) (fun i _=>n1-(intOf i).toNat)
    case atStart=>exact⟨0,Nat.zero_le _,rfl,HM0.out.eq (fun _=>rfl) (fun _=>rfl),GOff.of (Kept.refl _)⟩
    case round =>
     obtain⟨k,hk,rfl,hN,hG⟩:=hrel;have HC:=lH hN;have HG:=lH hG;have KW:=lH (show Kept w wr from GOff.below KX.out hG fun i e=>by have:=HMB.out;have:=HMC.out;omega);by_cases hlt:k<n1
     · obtain⟨g,off,rfl⟩:=HN.out.form.resolve_left (by omega);obtain⟨n,b1,k1,d1,b2,k2,d2,b3,k3,d3,hn,hd,hb,u0,u1,u2,u3,u4,hat⟩:=(HN.out.kept KW.out).at_ hlt;have HTK:=lH (show nodes.take (k+1)=nodes.take k++[n] by rw[List.take_add_one,hn];rfl);have HAT:=lH hat;have hkk:(k:Int)<(n1:Int):=by omega
       have hk0:¬(k:Int)<0:=by omega
       obtain⟨wx,hwx⟩:∃W,wr.alloc (.cells #[.string n.name,.slice b1 k1 d1,.slice b2 k2 d2,.slice b3 k3 d3,.bool n.cordon] 55)=W:=⟨_,rfl⟩
       have hkx:Kept wr wx:=by rw[←hwx];exact kept_alloc _ _
       have HQB:=lH (freshN wr (.string n.name) [.slice b1 k1 d1,.slice b2 k2 d2,.slice b3 k3 d3,.bool n.cordon] 55 wx (by rw[hwx];exact Kept.refl _));obtain⟨bq,hbq⟩:∃z,wr.heap.size=z:=⟨_,rfl⟩
       rw[hbq] at HQB;have HPB1:=lH ((HPB.out.block (hG.block _ HPB.out.lt (by have:=HMB.out;have:=HMC.out;omega))).kept hkx);have HC1:=lH (hN.kept hkx);have HM1:=lH ((HM.out.block (hG.block _ HM.out.lt (by have:=HMC.out;omega))).kept hkx);have KX1:=lH hkx;go_upto_region 12 with fail
       try rw[hwx]
       try rw[hbq]
       clear hwx hbq hd hb hat hN hG hkx hk0 hkk u0 u1 u2 u3 u4;have r7:=HPB1.out.at_ 7 _ rfl;have t2:=HQB.out.at_ 2 _ rfl;obtain⟨go,hgo⟩:∃z,getS n.labels p.key=z:=⟨_,rfl⟩
       have HGO:=lH hgo;go_wp2_with fail
       refine(getR (HAT.out.labels.kept KX1.out) (x:=go.getD ByteArray.empty) (b:=go.isSome) (by unfold getT;rw[hgo]) (by unfold hasS;rw[hgo])).mono ?_;rintro e w3 ⟨rfl,kk⟩;have HK3:=lH kk;have HC3:=lH (HC1.out.kept kk);have HM3:=lH (HM1.out.kept kk);have t0:=(HQB.out.kept kk).at_ 0 _ rfl;clear kk hgo r7 t2
       cases go with
       | none =>
        go_wp2;go_roundw
        case rel =>
         refine⟨k+1,by omega,by go_num,(HC3.out.mono1 (Nat.le_succ k)).eq (fun x=>?_) (fun x=>?_),(HG.out.trans (GOff.of KX1.out)).trans (GOff.of HK3.out)⟩
         · rw[HTK.out,inD_app];show ((inD p pods x (nodes.take k):Nat):Int)=((inD p pods x (nodes.take k)+((if getS n.labels p.key=some x then onN p n.name pods else 0)+0):Nat):Int);rw[if_neg (by rw[HGO.out];simp)];rfl
         · rw[HTK.out];unfold hasD;rw[List.any_append,List.any_cons,HGO.out];simp
        case measure=>simp[intOf];omega
       | some d =>
        have hds:d.size≤maxLen:=getS_size HAT.out.labels.fine HGO.out;have hb1a:inD p pods d (nodes.take k)≤100000*100000:=Nat.le_trans (inD_le _ _ _ _) (Nat.mul_le_mul (by rw[List.length_take];omega) (by rw[HPL.out];omega));have hb2a:onN p n.name pods≤100000:=Nat.le_trans (onN_le _ _ _) (by rw[HPL.out];omega);have hl1:=HC3.out.look d hds;have hl2:=HM3.out.look n.name HAT.out.size;obtain⟨x1,hx1⟩:∃v,inD p pods d (nodes.take k)=v:=⟨_,rfl⟩
        obtain⟨x2,hx2⟩:∃v,onN p n.name pods=v:=⟨_,rfl⟩
        have HX1:=lH hx1;have HX2:=lH hx2;rw[hx1] at hl1 hb1a;rw[hx2] at hl2 hb2a;obtain⟨x3,hx3⟩:∃z:Nat,x1+x2=z:=⟨_,rfl⟩
        have hx4:(x1:Int)+(x2:Int)=(x3:Int):=by omega
        have hx5:IntKind.i64.wrap (x3:Int)=(x3:Int):=IntWalk.i64_in _ (by omega);obtain⟨w4,hput,hM4,hG4⟩:=HC3.out.put (by unfold maxLen;omega) d hds (x3:Int) (by omega);have HM4:=lH hM4;have HG4:=lH hG4;have HX3:=lH hx3;clear hM4 hG4 hx1 hx2 hx3;go_wp2;go_roundw
        case rel =>
         refine⟨k+1,by omega,by go_num,HM4.out.eq (fun x=>?_) (fun x=>?_),((HG.out.trans (GOff.of KX1.out)).trans (GOff.of HK3.out)).trans HG4.out⟩
         · rw[HTK.out,inD_app];show _=((inD p pods x (nodes.take k)+((if getS n.labels p.key=some x then onN p n.name pods else 0)+0):Nat):Int);by_cases hx:x=d
           · subst hx;rw[if_pos rfl,if_pos HGO.out,HX2.out,HX1.out,←HX3.out];rfl
           · rw[if_neg hx,if_neg (fun g=>hx (by rw[HGO.out] at g;exact(Option.some.inj g).symm))];rfl
         · rw[HTK.out];unfold hasD;rw[List.any_append,List.any_cons,HGO.out];by_cases hx:x=d
           · subst hx;simp
           · rw[if_neg hx];simp[show ¬d=x from fun e=>hx e.symm]
        case measure=>simp[intOf];omega
     · have hge:¬(k:Int)<(n1:Int):=by omega
       have hM:=HC.out;rw[List.take_of_length_le (by rw[HNL.out];omega)] at hM;have HC:=lH hM;clear hM hN hG;go_wp2;go_ret;exact⟨mc,rfl,k,HC.out,by have:=HMB.out;have:=HMC.out;omega,by omega,KW.out⟩
open Go.RowKit Go.Maps Go.Sort Go.Shelf Go.WideShapes
attribute [local go_sem] Oper.semAt_some
def VAt (D:DataW Unit) (p:List UInt8×Int):Prop:=∀zd,D.atKey (.string p.1) zd=.lit (.int .i64 p.2)
def VAll (D:DataW Unit) (ps:List (List UInt8×Int)):Prop:=(ps.map (·.1)).Perm (strKeys D)∧(∀x,x ∈ ps.map (·.1)↔has D (.string x)=true)∧∀p ∈ ps,VAt D p
def VPart (D:DataW Unit) (ps:List (List UInt8×Int)):Prop:=(ps.map (·.1)).Nodup∧(∀x ∈ ps.map (·.1),has D (.string x)=true)∧∀p ∈ ps,VAt D p
theorem mvalues1_in (F:Fence) (n:Nat) (h8:F.fn 206) (hro:F.round=none) (hn:1≤n) (l Bm b nn:Nat) (D0:DataW Unit) (J Jx:List Int→World→Prop)
 (hY:∀pre x W,J pre W→pre.length<Maps.size D0→YieldAt F (n-1) Tryz.prog l #[.int .i64 x] W fun e W' =>
   (e=.returned (.bool true)∧J (pre++[x]) W'∧KeepsWalks W W')∨(e=.returned (.bool false)∧Jx (pre++[x]) W'))
 (W:World) (hJ:AbidesFrom W.heap.size J) (hm:W.cell? ⟨Bm,0,none⟩=some (.map (some b))) (hown:W.ownsMap Tryz.prog 9 (plainElem Tryz.prog 3) b nn D0) (h0:J [] W) :
 CallsIn F n Tryz.prog 206 #[.func (.yield l) #[] #[],.pointer (some ⟨Bm,0,none⟩)] W fun e W'=>(∃v,e=.returned v) ∧
  ((∃xs,(∃ps,VAll D0 ps∧xs=ps.map (·.2))∧J xs W')∨(∃pre,(∃ps,VPart D0 ps∧pre=ps.map (·.2))∧Jx pre W')):=by
 refine callsIn_of_wp Tryz.func206 rfl h8 ?_ hro;simp only[Tryz.ntmps206,List.size_toArray,List.length_cons,List.length_nil,Nat.reduceAdd,Nat.reduceSub,Array.replicate_succ,Array.replicate_zero,List.push_toArray,List.append_toArray,List.nil_append,List.cons_append]
 gi_wp2_with (first
  | (gi_at_range;refine wpListIn_range_own _ rfl _ 259 rfl 9 3 mapLaw Tryz.underlying259 _ b nn _ rfl hown ?_;intro w0 hrg0 hg0 hs0)
  | gi_in)
 go_frame
 gi_loopw [4] (fun _ wr=>∃(left:Lit→Bool) (cnt:Nat) (ps:List (List UInt8×Int)),wr.ranges Tryz.prog 9 (plainElem Tryz.prog 3) b W.heap.size nn D0 left cnt∧ps.length+cnt≤Maps.size D0∧Collected D0 left (ps.map (·.1))∧(∀p ∈ ps,VAt D0 p)∧J (ps.map (·.2)) wr)
  (fun _ wr=>wr.rangeLeft b W.heap.size)
 case atStart =>
  exact⟨_,_,[],hrg0,by simp,Collected.start D0,by simp,hJ [] W w0 none h0 hg0 (fun r e=>by cases e)⟩
 case round =>
  obtain⟨left,cnt,ps,hrg,hcs,hC,hV,hJs⟩:=hrel
  gi_wp2_with (first
   | (gi_at_next;refine wpListIn_next_ranges _ rfl _ rfl 9 mapLaw (plainElem Tryz.prog 3) encStr (Value.int .i64) (fun key kl hk=>by obtain⟨x,hx,_⟩:=Maps.keyOf_str Tryz.underlying9 hk;exact⟨x,hx⟩) (fun v y hv=>by obtain⟨c,rfl,_⟩:=plainElem_int_inv Tryz.underlying3 hv;exact⟨c,rfl⟩) b W.heap.size nn _ _ _ rfl hrg ?_ ?_)
   | gi_in)
  · intro hc0 hl0;gi_wp2
    go_end0
    exact⟨⟨_,rfl⟩,.inl ⟨_,⟨ps,⟨hC.perm hown mapLaw Tryz.underlying9 hl0,fun x=>by rw[hC.2 x,hl0];simp,hV⟩,rfl⟩,hJs⟩⟩
  · intro x c kl yd yp w2 cnt2 hkey hlk hv hat hrg2 hlt hg2 hs2 hen;obtain⟨x',ex,rfl,_⟩:=Maps.keyOf_str Tryz.underlying9 hkey;obtain rfl:x=x':=encStr_inj ex;obtain⟨c',ec,ez,_⟩:=plainElem_int_inv Tryz.underlying3 hv;obtain rfl:c=c':=by simpa using ec
    obtain rfl:yd=.lit (.int .i64 c):=(Prod.mk.inj ez).1;have hJ2:J (ps.map (·.2)) w2:=hJ _ wr w2 (some W.heap.size) hJs hg2 (fun r e=>by cases e;exact⟨Nat.le_refl _,hrg.iter_walk⟩);obtain⟨fn,tmps,assign,body,hy,hR⟩:=hY (ps.map (·.2)) c w2 hJ2 (by simp;omega);clear hs2;gi_wp2
    refine hR.mono ?_;have hC2:Collected D0 (fun z=>left z&&!z.sameKey (.string x)) ((ps++[(x,c)]).map (·.1)):=by simpa using hC.step hlk hat
    have hV2:∀p ∈ ps++[(x,c)],VAt D0 p:=fun p hp=>(List.mem_append.1 hp).elim (hV p) (fun e=>by simp at e;subst e;exact hat);rintro e W3 (⟨rfl,hJ3,hk3⟩ | ⟨rfl,hJx3⟩)
    · gi_wp2
      have hrg3:=hrg2.of_walks hk3;go_roundw
      case rel=>exact⟨_,cnt2,ps++[(x,c)],hrg3,by simp;omega,hC2,hV2,by simpa using hJ3⟩
      case measure=>rw[hrg3.left_eq,hrg.left_eq];exact hlt
    · gi_wp2
      refine bodyPost_ret (results_none rfl _ _ _) rfl ?_;exact⟨⟨_,rfl⟩,.inr ⟨_,⟨ps++[(x,c)],⟨hC2.1,fun y hy=>((hC2.2 y).1 hy).1,hV2⟩,by simp⟩,hJx3⟩⟩
theorem mvalues_stops (F:Fence) (n:Nat) (h7:F.fn 206) (hro:F.round=none) (hn:1≤n) (Bm b nn:Nat) (D0:DataW Unit) (w:World) (hBm:Bm<w.heap.size)
 (hm:w.cell? ⟨Bm,0,none⟩=some (.map (some b))) (hown:w.ownsMap Tryz.prog 9 (plainElem Tryz.prog 3) b nn D0) :
 SeqStopsK F n Tryz.prog 206 #[.pointer (some ⟨Bm,0,none⟩)] (fun c:Int=>#[Value.int .i64 c]) KeepsWalks (fun xs=>∃ps,VAll D0 ps∧xs=ps.map (·.2)) (fun pre=>∃ps,VPart D0 ps∧pre=ps.map (·.2)) (Maps.size D0) w:=fun l J Jx W hW hJ _ hY h0=>by
 have hown':W.ownsMap Tryz.prog 9 (plainElem Tryz.prog 3) b nn D0:=by
  have hbl:=hown.lt;obtain⟨es,clock,hb,Ft,hs,hD⟩:=hown;exact⟨es,clock,(hW.block b hbl).trans hb,Ft,hs,hD⟩
 exact mvalues1_in F n h7 hro hn l Bm b nn D0 J Jx hY W hJ ((hW.cell (p:=⟨Bm,0,none⟩) hBm).trans hm) hown' h0
theorem mvalues_any (mb:Option Nat) (w:World) :
 Calls Tryz.prog 191 #[.map mb] w fun e w'=>e=.returned (.func (.func 206) #[] #[.pointer (some ⟨w.heap.size,0,none⟩)])∧w'=w.alloc (.cells #[.map mb] 259):=by
 have hmf:=hmfL (P:=Tryz.prog);go_enter Tryz.func191,Tryz.ntmps191;go_wp2;go_ret;exact⟨rfl,rfl⟩
theorem info_int9:(Tryz.prog.info? 3).map (fun i=>(i.zero,i.size,i.bytes))=some (some (.int .i64 0),1,8):=by kernel_rfl
theorem others_walks {W W':World} (h:KeepsOthers W W'):KeepsWalks W W':=⟨h.size,fun k o hk hw=>h.same k o hk (by cases o<;>first | rfl | cases hw)⟩
def OwnI (base:Nat) (W:World) (v:Value) (zs:List Int):Prop:=W.ownsRow base 3 1 v zs.length (zs.map (Value.int .i64))∧(v=.slice none 0 0↔zs=[])
theorem appendSeqI_in (F:Fence) (n:Nat) (h3:F.fn 205) (h5:F.fn 206) (hro:F.round=none) (hn:3≤n) (Bs b nn:Nat) (D0:DataW Unit) (hlen:Maps.size D0≤1000000) (w:World)
 (hBs:Bs<w.heap.size) (hcs:w.cell? ⟨Bs,0,none⟩=some (.map (some b))) (hown:w.ownsMap Tryz.prog 9 (plainElem Tryz.prog 3) b nn D0) :
 CallsIn F n Tryz.prog 205 #[.slice none 0 0,.func (.func 206) #[] #[.pointer (some ⟨Bs,0,none⟩)]] w fun e W'=>∃v xs,e=.returned v∧(∃ps,VAll D0 ps∧xs=ps.map (·.2))∧OwnI w.heap.size W' v xs∧Below w.heap.size w W':=by
 have h1:1≤n:=by omega
 obtain⟨i0,hi,hz0,hz1,hz2⟩:=info_parts info_int9;refine callsIn_of_wp_marks Tryz.func205 rfl h3 ?_ hro;simp only[Tryz.ntmps205,List.size_toArray,List.length_cons,List.length_nil,Nat.reduceAdd,Nat.reduceSub,Array.replicate_succ,Array.replicate_zero,List.push_toArray,List.append_toArray,List.nil_append,List.cons_append];gi_wp2
 have bO:=Boxed.new w 154 (.slice none 0 0);have hB0:Below w.heap.size w (w.alloc (.cells #[.slice none 0 0] 154)):=(Below.refl _ w).alloc (Nat.le_refl _) _;have hown0:(w.alloc (.cells #[.slice none 0 0] 154)).ownsMap Tryz.prog 9 (plainElem Tryz.prog 3) b nn D0:=by
  have hbl:=hown.lt;obtain⟨es,clock,hb,Ft,hs,hD⟩:=hown;exact⟨es,clock,(Below.heap_alloc _ _ b hbl).trans hb,Ft,hs,hD⟩
 refine wpIn_rangeFunc_ownG hro h1 (gf:=206) (lb:=#[.pointer (some ⟨Bs,0,none⟩)]) rfl h5 (enters_of Tryz.func206 (by kernel_rfl) rfl)
  (mvalues_stops F (n-1) h5 hro (by omega) Bs b nn D0 _ (by simp;omega) ((hB0.cell (p:=⟨Bs,0,none⟩) hBs).trans hcs) hown0) (fun h k=>h.trans k) (fun W l o o' _ h _ hw=>KeepsWalks.putObj o' h hw) (Below.refl _ _) (fun _=>rfl)
  (fun pre W=>(∃v,Boxed W w.heap.size 154 v∧W.ownsRow w.heap.size 3 1 v pre.length (pre.map (Value.int .i64))∧(v=.slice none 0 0↔pre=[]))∧Below w.heap.size w W)
  (fun _ _ _=>False)
  (OwnFrom.and (Own.from (holdsRow_own w.heap.size w.heap.size 154 3 1 (fun pre=>pre.length) (fun pre=>pre.map (Value.int .i64)) (fun pre v=>v=.slice none 0 0↔pre=[])) _) (ownFrom_below (Nat.le_refl _) (by simp)))
  (fun _ _ _ _ _ hs _ _=>hs)
  ⟨⟨_,bO,World.ownsRow_nil _ _ _ _,by simp⟩,hB0⟩
  (fun x=>{ tmps:=#[.slice none 0 0,.func (.func 206) #[] #[.pointer (some ⟨Bs,0,none⟩)],.pointer (some ⟨w.heap.size,0,none⟩),undef,.slice none 0 0,.int .i64 x,.func (.func 206) #[] #[.pointer (some ⟨Bs,0,none⟩)],.int .i64 x,undef,undef,undef,undef,undef],defers:=[] }) ?assign ?body ?done ?stop
 case assign =>
  intro l x W K hK;gi_wp2
  exact hK
 case body =>
  rintro l pre x W ⟨⟨v,hv,hrow,hnil⟩,hB⟩ hlt;have hc:=hv.cell;gi_wp2_with (gi_at_builtin;refine wpListIn_append_own _ rfl _ _ 154 rfl w.heap.size 3 i0 (.int .i64 0) 1 8 Tryz.underlying154 hi hz0 hz1 hz2 rfl (by decide) _ _ _ rfl (hrow.alloc _) ⟨W.heap.size,0,none⟩ 1 1 [.int .i64 x] rfl rfl (cell_one_new _ _ _) (by simp[Value.oneCell']) (by unfold maxLen;omega) (by omega) (by have:=hB.size;simp;omega) ?_;intro v' w1 hown' hgrow _;obtain⟨g',cap',rfl⟩:=ownsRow_succ hown';obtain⟨hv1,hv2,hr2,hk2,hb2⟩:=hv.appended (by decide) hrow hB.size (Nat.le_refl _) hown' hgrow;have hc1:=hv1.cell;have hf1:=hv1.frozen)
  exact⟨hk2.from _,others_walks hk2,⟨_,hv2,by simpa using hr2,by simp⟩,hB.trans hb2⟩
 case done =>
  rintro D ys W hD hS ⟨⟨v,hv,hrow,hnil⟩,hB⟩ hK;have hc:=hv.cell;gi_wp2
  refine⟨by simp,.inl ⟨_,_,rfl,run_takeDeferred hK,?_⟩⟩;exact⟨_,results_tmp rfl _ _ _,v,ys,rfl,hS,⟨ownsRow_putObj hrow _ hK rfl,hnil⟩,hB.trans (belowK_b (w:=w) (Nat.le_refl _) W D _ _ (by simp at hD;omega) hK rfl rfl)⟩
 case stop =>
  rintro D c pre W _ _ h _;exact h.elim
theorem collectI_any (Bs b nn:Nat) (f:ByteArray→Int) (dom:ByteArray→Bool) (w:World) (hn:nn≤1000000) (hBs:Bs<w.heap.size) (hcs:w.cell? ⟨Bs,0,none⟩=some (.map (some b))) (h:MapIs w b nn f dom) :
 Calls Tryz.prog 190 #[.func (.func 206) #[] #[.pointer (some ⟨Bs,0,none⟩)]] w fun e w'=>∃v zs,e=.returned v∧OwnI w.heap.size w' v zs∧(∀x,dom x=true→f x ∈ zs)∧(∀z ∈ zs,∃x,dom x=true∧z=f x)∧zs.length≤1000000∧Kept w w':=by
 obtain⟨D,h1,h2,h3,h4⟩:=h;have hsz:Maps.size D≤1000000:=Nat.le_trans h1.size_le hn;have HA:=lH (appendSeqI_in Fence.wide 3 trivial trivial rfl (by omega) Bs b nn D hsz w hBs hcs h1);have HC:=lH (show Calls Tryz.prog 205 #[.slice none 0 0,.func (.func 206) #[] #[.pointer (some ⟨Bs,0,none⟩)]] w _ from callsIn_wide.1 HA.out);clear h1 hcs;go_enter Tryz.func190,Tryz.ntmps190;go_wp2_with fail
 refine HC.out.mono ?_;rintro e w1 ⟨v,xs,rfl,⟨ps,hps,rfl⟩,ho,hb⟩;have HO:=lH ho;have HB:=lH hb;have HP:=lH hps;clear ho hb hps;have key:∀y:List UInt8,(⟨⟨y⟩⟩:ByteArray).data.toList=y:=fun _=>rfl;have hl:(ps.map (·.2)).length≤1000000:=by
  rw[List.length_map];have h5:ps.length=(strKeys D).length:=by rw[←HP.out.1.length_eq,List.length_map]
  have h6:(strKeys D).length≤Maps.size D:=by
   cases D<;>first | exact Nat.zero_le _ | (show (List.filterMap _ _).length≤_;exact List.length_filterMap_le _ _) | simp[strKeys,Maps.size]
  omega
 go_wp2;go_ret;refine⟨v,_,rfl,HO.out,fun x hx=>?_,fun z hz=>?_,hl,HB.out⟩
 · have hm:=(HP.out.2.1 x.data.toList).2 ((h3 x).trans hx);obtain⟨p,hp,e⟩:=List.mem_map.1 hm;have hv:=HP.out.2.2 p hp (.lit (.int .i64 0));rw[e] at hv;have:=(h2 x).symm.trans hv;injection this with this;injection this with _ this;exact List.mem_map.2 ⟨p,hp,this.symm⟩
 · obtain⟨p,hp,rfl⟩:=List.mem_map.1 hz;refine⟨⟨⟨p.1⟩⟩,?_,?_⟩
   · rw[←h3];exact(HP.out.2.1 p.1).1 (List.mem_map_of_mem hp)
   · have hv:=HP.out.2.2 p hp (.lit (.int .i64 0));have:=(h2 ⟨⟨p.1⟩⟩).symm.trans hv;injection this with this;injection this with _ this;exact this.symm
end Go.Proofs.YtmlgobiifebjkacGreat
namespace Go.Proofs.YtmlgobiifebjkacGreat
open Go.RowKit
theorem OwnI.cells {base:Nat} {W:World} {v:Value} {zs:List Int} (h:OwnI base W v zs) (h0:zs≠[]):∃g cap,v=.slice (some ⟨g,0,none⟩) zs.length cap∧∀j,j<zs.length→W.cell? ⟨g,0+j,none⟩=some (.int .i64 (zs.getD j 0)):=by
 obtain⟨⟨hl,h⟩,-⟩:=h;rcases h with ⟨-,hz⟩ | ⟨g,cap,cur,rfl,-,hh,-,-,-,ht⟩
 · exact absurd (List.eq_nil_of_length_eq_zero hz) h0
 · refine⟨g,cap,rfl,fun j hj=>?_⟩;rw[Nat.zero_add,Lib.cell_of_heap hh];have h1:(cur.toList.take (zs.length*1))[j]?=some (.int .i64 (zs.getD j 0)):=by
    rw[ht,List.getElem?_map,List.getElem?_eq_getElem hj];simp[List.getD,hj]
   rw[List.getElem?_take_of_lt (by omega)] at h1;simpa using h1
theorem foldl_min:∀(l:List Int) (m:Int),l.foldl min m≤m∧(∀z ∈ l,l.foldl min m≤z)∧(l.foldl min m=m∨l.foldl min m ∈ l)
 | [],m=>⟨Int.le_refl _,fun z h=>absurd h (by simp),.inl rfl⟩
 | x::t,m=>by
  obtain⟨h1,h2,h3⟩:=foldl_min t (min m x);rw[List.foldl_cons];refine⟨by omega,fun z hz=>?_,?_⟩
  · rcases List.mem_cons.1 hz with rfl | hz
    · omega
    · exact h2 z hz
  · rcases h3 with h3 | h3
    · by_cases g:m≤x
      · exact .inl (by rw[h3];omega)
      · exact .inr (by rw[h3,show min m x=x by omega];simp)
    · exact .inr (by simp[h3])
theorem minOf_is {zs:List Int} (h:zs≠[]):(∀z ∈ zs,Lib.minOf zs≤z)∧Lib.minOf zs ∈ zs:=by
 cases zs with
 | nil=>exact absurd rfl h
 | cons x t =>
  obtain⟨h1,h2,h3⟩:=foldl_min (x::t) x;refine⟨h2,?_⟩;show (x::t).foldl min x ∈ _;rcases h3 with h3 | h3
  · rw[h3];simp
  · exact h3
theorem domV_size {w:World} {a:Option Addr} {m:Nat} {nodes:List Nod} (h:NodesAt w a m nodes) {key name d:ByteArray} (hd:domV key name nodes=some d):d.size≤maxLen:=by
 have:=domV_has hd;unfold hasD at this;rw[List.any_eq_true] at this;obtain⟨n,hn,he⟩:=this;have he:getS n.labels key=some d:=by simpa using he
 obtain⟨k,hk,e⟩:=List.getElem_of_mem hn;rcases h.2.2 with h0 | ⟨b,off,-,-,hc⟩
 · rw[h.1] at hk;omega
 · obtain⟨_,_,_,_,_,_,_,_,_,_,_,_,_,_,hN⟩:=hc k n (by rw[List.getElem?_eq_getElem hk,e]);exact getS_size hN.labels.fine he
theorem skewOn_any (s1 s2 s3 a1 a2 a3 a4:Option Addr) (n1 e1 n2 e2 n3 e3 m1 c1 m2 c2 m3 c3 m4 c4:Nat) (p:Pd) (s:Clu) (name:ByteArray) (w:World) (hn:NodesAt w s1 n1 s.nodes) (hp:PodsAt w s2 n2 s.pods) (hb1:n1≤100000) (hb2:n2≤100000) :
 Calls Tryz.prog 170 #[.agg #[.slice s1 n1 e1,.slice s2 n2 e2,.slice s3 n3 e3],PodV p (.slice a1 m1 c1) (.slice a2 m2 c2) (.slice a3 m3 c3) (.slice a4 m4 c4),.string name] w fun e w'=>(∀d,domV p.key name s.nodes=some d→e=.returned (.int .i64 (skewD p s d)))∧(domV p.key name s.nodes=none→e=.panicked [perr 3])∧Kept w w':=by
 obtain⟨Z,hZ⟩:∃Z,(w.alloc (.cells #[.slice s1 n1 e1,.slice s2 n2 e2,.slice s3 n3 e3] 26)).alloc (.cells #[.string p.name,.string p.owner,.int .i64 p.prio,.slice a1 m1 c1,.slice a2 m2 c2,.slice a3 m3 c3,.slice a4 m4 c4,.string p.key,.int .i64 p.most,.string p.node,.bool p.hold] 35)=Z:=⟨_,rfl⟩
 have hkz:Kept w Z:=by rw[←hZ];exact kept_two _ _ _
 have HSB:=lH (freshN w (.slice s1 n1 e1) [.slice s2 n2 e2,.slice s3 n3 e3] 26 Z (by rw[←hZ];exact kept_alloc _ _));have HPB:=lH (show CellsN (w.heap.size+1) [.string p.name,.string p.owner,.int .i64 p.prio,.slice a1 m1 c1,.slice a2 m2 c2,.slice a3 m3 c3,.slice a4 m4 c4,.string p.key,.int .i64 p.most,.string p.node,.bool p.hold] Z by
  have dd:=freshN (w.alloc (.cells #[.slice s1 n1 e1,.slice s2 n2 e2,.slice s3 n3 e3] 26)) (.string p.name) [.string p.owner,.int .i64 p.prio,.slice a1 m1 c1,.slice a2 m2 c2,.slice a3 m3 c3,.slice a4 m4 c4,.string p.key,.int .i64 p.most,.string p.node,.bool p.hold] 35 Z (by rw[hZ];exact Kept.refl _);rw[World.size_alloc] at dd;exact dd)
 have HN:=lH hn;have HP:=lH hp;have HNL:=lH hn.1;have HPL:=lH hp.1;have K:=lH hkz;clear hn hp hkz;unfold PodV;go_enter Tryz.func170,Tryz.ntmps170;go_upto_region 1 with fail
 try rw[hZ]
 clear hZ;have y0:=HSB.out.at_ 0 _ rfl;have y1:=HSB.out.at_ 1 _ rfl;have y2:=HSB.out.at_ 2 _ rfl;have r7:=HPB.out.at_ 7 _ rfl;go_wp2_with fail
 refine(domainOf_any s1 s2 s3 n1 e1 n2 e2 n3 e3 s.nodes p.key name Z (HN.out.kept K.out) hb1).mono ?_;rintro e w1 ⟨h1,h2,kk⟩;have HSB:=lH (HSB.out.kept kk);have HPB:=lH (HPB.out.kept kk);have K:=lH (K.out.trans kk);clear kk y0 y1 y2 r7
 cases ho:domV p.key name s.nodes with
 | none =>
  obtain rfl:=h2 ho;have HO:=lH ho;clear h1 h2 ho;go_wp2;exact⟨rfl,(fun d e=>by rw[HO.out] at e;cases e),(fun _=>rfl),K.out⟩
 | some d =>
  obtain rfl:=h1 d ho;have HO:=lH ho;have hds:=domV_size HN.out ho;have HDS:=lH hds;have HDH:=lH (domV_has ho);clear h1 h2 ho hds;have y0:=HSB.out.at_ 0 _ rfl;have y1:=HSB.out.at_ 1 _ rfl;have y2:=HSB.out.at_ 2 _ rfl;have r0:=HPB.out.at_ 0 _ rfl;have r1:=HPB.out.at_ 1 _ rfl;have r2:=HPB.out.at_ 2 _ rfl;have r3:=HPB.out.at_ 3 _ rfl;have r4:=HPB.out.at_ 4 _ rfl;have r5:=HPB.out.at_ 5 _ rfl;have r6:=HPB.out.at_ 6 _ rfl;have r7:=HPB.out.at_ 7 _ rfl;have r8:=HPB.out.at_ 8 _ rfl;have r9:=HPB.out.at_ 9 _ rfl;have r10:=HPB.out.at_ 10 _ rfl;go_wp2_with fail
  have TA:=tally_any s1 s2 s3 a1 a2 a3 a4 n1 e1 n2 e2 n3 e3 m1 c1 m2 c2 m3 c3 m4 c4 p s.nodes s.pods w1 (HN.out.kept K.out) (HP.out.kept K.out) hb1 hb2;unfold PodV at TA;refine TA.mono ?_;clear TA;rintro e w2 ⟨mc,nn,rfl,hM,hmc,hnn,kk⟩;have HM:=lH hM;have HW1:=lH K.out.size;have K:=lH (K.out.trans kk);have HMC:=lH hmc;have KS:=lH K.out.size;clear kk hM hmc y0 y1 y2 r0 r1 r2 r3 r4 r5 r6 r7 r8 r9 r10;have hb9:inD p s.pods d s.nodes≤100000*100000:=Nat.le_trans (inD_le _ _ _ _) (Nat.mul_le_mul (by rw[HNL.out];omega) (by rw[HPL.out];omega));have hl1:=HM.out.look d HDS.out;obtain⟨x1,hx1⟩:∃v,inD p s.pods d s.nodes=v:=⟨_,rfl⟩
  have HX1:=lH hx1;rw[hx1] at hl1 hb9;obtain⟨x3,hx3⟩:∃z:Nat,x1+1=z:=⟨_,rfl⟩
  have hx4:(x1:Int)+1=(x3:Int):=by omega
  have hx5:IntKind.i64.wrap (x3:Int)=(x3:Int):=IntWalk.i64_in _ (by omega);obtain⟨w4,hput,hM4,hG4⟩:=HM.out.put (by unfold maxLen;omega) d HDS.out (x3:Int) (by omega);have HX3:=lH hx3;have HMF:=lH (show MapIs w4 mc (nn+1) (fun e=>((inD p s.pods e s.nodes+(if e=d then 1 else 0):Nat):Int)) (fun e=>hasD p.key e s.nodes) from hM4.eq (fun e=>by
   by_cases he:e=d
   · subst he;rw[if_pos rfl,if_pos rfl,HX1.out,HX3.out]
   · rw[if_neg he,if_neg he];rfl) (fun e=>by
   by_cases he:e=d
   · subst he;rw[if_pos rfl,HDH.out]
   · rw[if_neg he]))
  have HG4:=lH hG4;have hb10:x3≤100000*100000+1:=by omega
  have HB10:=lH hb10;have HNN:=lH hnn;clear hM4 hG4 hx1 hx3 hb9 hb10;go_upto_region 4 with fail
  clear hl1 hput hx4 hx5;have J:=lH (Kept.drew w4);refine wp_region_held_drew (S:=fun W=>MapIs W mc (nn+1) (fun e=>((inD p s.pods e s.nodes+(if e=d then 1 else 0):Nat):Int)) (fun e=>hasD p.key e s.nodes)) (by kernel_rfl) (HMF.out.kept J.out) (fun hHeld=>?_);refine wpAnyH_take  (i:=0) (v:=?_) (by rw[List.getElem?_toArray];exact rfl) (by kernel_rfl) (by kernel_rfl) (by kernel_rfl) (by exact fun _ _ _ h=>h) (Or.inl ⟨by rfl,(by intro W hSw;go_simp<;>with_reducible rfl)⟩) (by assumption) ?_;try simp only  [Act.put,List.setIfInBounds_toArray,List.set_cons_zero,List.set_cons_succ]
  refine wpAnyH_take  (i:=1) (v:=?_) (by rw[List.getElem?_toArray];exact rfl) (by kernel_rfl) (by kernel_rfl) (by kernel_rfl) (by exact fun _ _ _ h=>h) (Or.inl ⟨by rfl,(by intro W hSw;go_simp<;>with_reducible rfl)⟩) (by assumption) ?_;try simp only  [Act.put,List.setIfInBounds_toArray,List.set_cons_zero,List.set_cons_succ]
  refine wpAnyH_take  (i:=2) (v:=?_) (by rw[List.getElem?_toArray];exact rfl) (by kernel_rfl) (by kernel_rfl) (by kernel_rfl) (by exact fun _ _ _ h=>h) (Or.inl ⟨by rfl,(by intro W hSw;have hl:=hSw.look d HDS.out;go_simp<;>with_reducible rfl)⟩) (by assumption) ?_;try simp only  [Act.put,List.setIfInBounds_toArray,List.set_cons_zero,List.set_cons_succ]
  refine wpAnyH_take  (i:=3) (v:=?_) (by rw[List.getElem?_toArray];exact rfl) (by kernel_rfl) (by kernel_rfl) (by kernel_rfl) (by exact fun _ _ _ h=>h) (Or.inl ⟨by rfl,(by intro W hSw;go_simp<;>with_reducible rfl)⟩) (by assumption) ?_;try simp only  [Act.put,List.setIfInBounds_toArray,List.set_cons_zero,List.set_cons_succ]
  skip;refine wpAnyH_ready  (rs:=[4]) (by kernel_rfl) (by simp) (AllReadyH.cons  (by rw[List.getElem?_toArray];exact rfl) (fun K9 Ky=>?_) AllReadyH.nil);go_simp;refine(mvalues_any (some mc) _).mono ?_;rintro e w5 ⟨rfl,rfl⟩;have kq:=kept_alloc w4.drew (.cells #[.map (some mc)] 259);obtain⟨w5,hw5⟩:∃W,w4.drew.alloc (.cells #[.map (some mc)] 259)=W:=⟨_,rfl⟩
  have hcs:CellsN w4.drew.heap.size [.map (some mc)] w5:=freshN w4.drew (.map (some mc)) [] 259 w5 (by rw[hw5];exact Kept.refl _);rw[hw5] at kq ⊢;obtain⟨bs,hbs⟩:∃z,w4.drew.heap.size=z:=⟨_,rfl⟩
  rw[hbs] at hcs ⊢;have HCS:=lH hcs;have J:=lH (J.out.trans kq);clear hcs kq hw5 hbs;refine Ky.out _ _ (HMF.out.kept J.out) (fun _=>?_);clear Ky K9;try simp only  [Act.put,List.setIfInBounds_toArray,List.set_cons_zero,List.set_cons_succ]
  refine wpAnyH_ready  (rs:=[5]) (by kernel_rfl) (by simp) (AllReadyH.cons  (by rw[List.getElem?_toArray];exact rfl) (fun K9 Ky=>?_) AllReadyH.nil);go_simp;refine(collectI_any bs mc (nn+1) _ _ w5 (by have:=HNN.out;omega) HCS.out.lt (HCS.out.at_ 0 _ rfl) (HMF.out.kept J.out)).mono ?_;rintro e w6 ⟨v,zs,rfl,ho,hz1,hz2,hzl,kk⟩;have J:=lH (J.out.trans kk);have hzd:=hz1 d HDH.out;have hz0:zs≠[]:=fun e=>by rw[e] at hzd;cases hzd
  obtain⟨g,cap,rfl,hc⟩:=ho.cells hz0;have HC:=lH hc;have HZ1:=lH hz1;have HZ2:=lH hz2;have HZ0:=lH hz0;have HZL:=lH hzl;clear kk ho hc hz1 hz2 hz0 hzd hzl;refine Ky.out _ _ (HMF.out.kept J.out) (fun _=>?_);clear Ky K9;try simp only  [Act.put,List.setIfInBounds_toArray,List.set_cons_zero,List.set_cons_succ]
  refine wpAnyH_ready  (rs:=[6]) (by kernel_rfl) (by simp) (AllReadyH.cons  (by rw[List.getElem?_toArray];exact rfl) (fun K9 Ky=>?_) AllReadyH.nil);go_simp;refine(Tryz.slices_Min_int g 0 zs.length cap zs w6 (List.length_pos_iff.2 HZ0.out) (Nat.le_refl _) (by have:=HZL.out;omega) HC.out).mono ?_;rintro e w7 ⟨rfl,rfl⟩;rw[List.take_length];refine Ky.out _ _ (HMF.out.kept J.out) (fun _=>?_);clear Ky K9;try simp only  [Act.put,List.setIfInBounds_toArray,List.set_cons_zero,List.set_cons_succ]
  obtain⟨hm1,hm2⟩:=minOf_is HZ0.out;obtain⟨c,hcd,hce⟩:=HZ2.out _ hm2;obtain⟨zm,hzm⟩:∃z:Nat,inD p s.pods c s.nodes+(if c=d then 1 else 0)=z:=⟨_,rfl⟩
  rw[hzm] at hce;rw[hce] at hm1 ⊢;have HL:=lH (leastD_is (p:=p) (pods:=s.pods) (nodes:=s.nodes) (d:=d) (m:=inD p s.pods d s.nodes+1) (z:=zm) HDH.out rfl (fun e he=>by have:=hm1 _ (HZ1.out e he);omega) ⟨c,hcd,hzm.symm⟩);have hle:zm≤x3:=by have h:=hm1 _ (HZ1.out d HDH.out);rw[if_pos rfl,HX1.out] at h;have:=HX3.out;omega
  have HSK:=lH (show skewD p s d=(x3:Int)-(zm:Int) by unfold skewD;rw[HL.out,HX1.out,HX3.out]);have hx6:(inD p s.pods d s.nodes+(if d=d then 1 else 0))=x3:=by rw[if_pos rfl,HX1.out,HX3.out]
  try rw[hx6]
  obtain⟨y,hy⟩:∃y:Nat,x3-zm=y:=⟨_,rfl⟩
  have hy1:(x3:Int)-(zm:Int)=(y:Int):=by omega
  have hy2:IntKind.i64.wrap (y:Int)=(y:Int):=IntWalk.i64_in _ (by have:=HB10.out;omega);clear hm1 hm2 hcd hce hzm;refine wpAnyH_take  (i:=7) (v:=?_) (by rw[List.getElem?_toArray];exact rfl) (by kernel_rfl) (by kernel_rfl) (by kernel_rfl) (by exact fun _ _ _ h=>h) (Or.inl ⟨by rfl,(by intro W hSw;go_simp<;>with_reducible rfl)⟩) (by assumption) ?_;try simp only  [Act.put,List.setIfInBounds_toArray,List.set_cons_zero,List.set_cons_succ]
  refine wpAnyH_take  (i:=8) (v:=?_) (by rw[List.getElem?_toArray];exact rfl) (by kernel_rfl) (by kernel_rfl) (by kernel_rfl) (by exact fun _ _ _ h=>h) (Or.inl ⟨by rfl,(by intro W hSw;go_simp<;>with_reducible rfl)⟩) (by assumption) ?_;try simp only  [Act.put,List.setIfInBounds_toArray,List.set_cons_zero,List.set_cons_succ]
  refine wpAnyH_done (by kernel_rfl) ?_ _;go_wp2;go_ret;refine⟨fun d9 e9=>?_,fun e9=>?_,(GOff.below K.out HG4.out fun i e=>by have:=HMC.out;have:=HW1.out;omega).trans J.out⟩
  · rw[HO.out] at e9
    cases e9
    rw[HSK.out,hy1];have hv:IntKind.i64.wrap (((inD p s.pods d s.nodes:Nat):Int)+1-(zm:Int))=(y:Int):=by
     rw[HX1.out,show (x1:Int)+1-(zm:Int)=(y:Int) by have:=HX3.out;omega];exact hy2
    exact congrArg (fun z=>Ending.returned (.int .i64 z)) hv
  · rw[HO.out] at e9
    cases e9
open Go.RowKit Go.Shelf
def SkR (o:Option Int) (w:World) (e:Ending) (w':World):Prop:=(∀z,o=some z→e=.returned (.int .i64 z))∧(o=none→e=.panicked [perr 3])∧Kept w w'
theorem caughtI_panicking (B:Nat) (q:Nat) (x y:Int) (w:World) (hq:w.cell? ⟨q,0,none⟩=some (.int .i64 y)) (hzq:w.frozen? ⟨q,0,none⟩=false) (hBq:B≤q) :
 CallsD Tryz.prog 186 #[.pointer (some ⟨q,0,none⟩)] (.panicking [perr x]) w fun e u' w' =>
  e=.returned (.tuple #[])∧u'=.panicking [{ perr x with recovered:=true }]∧w'=w.setCell ⟨q,0,none⟩ (.int .i64 x)∧w'.cell? ⟨q,0,none⟩=some (.int .i64 x)∧Below B w w':=by
 have hta:∀W,(Instr.typeAssert (.iface 50 (.int .i64 x)) 20 50 false).run Tryz.prog W=.ok (.int .i64 x) W:=fun _=>by kernel_rfl
 refine callsD_of_wpS Tryz.func186 rfl fun c₀ cs hu=>?_;apply wpS_seq;apply wpS_region;simp[wpOpsS,go_sem,recoverD,hu,Tryz.ntmps186,Exit.thenS];apply wpS_seq;apply wpS_region;simp[wpOpsS,go_sem,recoverD,Exit.thenS];refine wpS_cond (t:=true) (by simp[Act.eval,Array.replicate]) ?_;simp only[if_true];refine wpS_of_wp ?_;simp[Array.replicate];go_wp2;simp[bodyPostS,results,Tryz.results186];exact⟨World.cell?_setCell_same' _ _ _ (by rw[hq];rfl),(Below.refl B w).setCell (p:=⟨q,0,none⟩) hBq _⟩
theorem caughtI_idle (q:Addr) (w:World) :
 CallsD Tryz.prog 186 #[.pointer (some q)] .returning w fun e u' w'=>e=.returned (.tuple #[])∧u'=.returning∧w'=w:=by
 refine callsD_of_wpS Tryz.func186 rfl fun c₀ cs hu=>?_;apply wpS_seq;apply wpS_region;simp[wpOpsS,go_sem,recoverD,hu,Tryz.ntmps186,Exit.thenS];apply wpS_seq;apply wpS_region;simp[wpOpsS,go_sem,recoverD,hu,Exit.thenS];refine wpS_cond (t:=false) (by simp[Act.eval,Array.replicate]) ?_;simp only[Bool.false_eq_true,if_false];refine wpS_of_wp (wp_skip ?_)
 cases c₀
 simp_all [bodyPostS,results,Tryz.results186]
theorem caughtI_any (Q1 Q2 Q3:Nat) (o:Option Int) (w:World) (hk:∀W,Kept w W→Calls Tryz.prog 169 #[.pointer (some ⟨Q1,0,none⟩),.pointer (some ⟨Q2,0,none⟩),.pointer (some ⟨Q3,0,none⟩)] W (SkR o W)) :
 Calls Tryz.prog 168 #[.func (.func 169) #[] #[.pointer (some ⟨Q1,0,none⟩),.pointer (some ⟨Q2,0,none⟩),.pointer (some ⟨Q3,0,none⟩)]] w fun e w'=>e=.returned (.tuple #[.int .i64 (o.getD 0),.int .i64 (if o.isSome=true then 0 else 3)])∧Kept w w':=by
 have hmf:=hmfL (P:=Tryz.prog);obtain⟨Z,hZ⟩:∃Z,w.alloc (.cells #[.int .i64 0] 50)=Z:=⟨_,rfl⟩
 have hkz:Kept w Z:=by rw[←hZ];exact kept_alloc _ _
 have HK:=lH hkz;have HZE:=lH (freshN w (.int .i64 0) [] 50 Z (by rw[hZ];exact Kept.refl _));have HKC:=lH (hk Z hkz);clear hk hkz;go_enter_defers Tryz.func168,Tryz.ntmps168
 go_wp2_with fail
 try rw[hZ]
 refine HKC.out.mono ?_;rintro e1 w1 ⟨h0,h1,hb⟩;have KK:=lH (HK.out.trans hb);have HE1:=lH (HZE.out.kept hb);have ze:=HE1.out.at_ 0 _ rfl;have zf:=HE1.out.free 0
 cases o with
 | some z =>
  obtain rfl:=h0 z rfl;clear h0 h1 hb hZ;go_wp2_with fail
  have FE:=lH (HE1.out.set (j:=0) (u:=.int .i64 0) (by simp));have KF:=lH (show Kept w (w1.setCell ⟨w.heap.size,0,none⟩ (.int .i64 0)) from KK.out.setCell (p:=⟨w.heap.size,0,none⟩) (Nat.le_refl _) _);obtain⟨WF,hWF⟩:∃W,w1.setCell ⟨w.heap.size,0,none⟩ (.int .i64 0)=W:=⟨_,rfl⟩
  rw[hWF] at FE KF ⊢;have fe:=FE.out.at_ 0 _ rfl;clear hWF ze zf;refine leaves_cons (f:=186) (args:=#[.pointer (some ⟨w.heap.size,0,none⟩)]) (by simp) (by simp[go_sem]) ?_;refine(caughtI_idle ⟨w.heap.size,0,none⟩ _).mono ?_;rintro e u' w'' ⟨rfl,rfl,rfl⟩;simp[Leaves,settle,results,Tryz.results168,go_sem,fe];exact KF.out
 | none =>
  obtain rfl:=h1 rfl;clear h0 h1 hb hZ;go_wp2_with fail
  refine leaves_cons (f:=186) (args:=#[.pointer (some ⟨w.heap.size,0,none⟩)]) (by simp) (by simp[go_sem]) ?_;refine(caughtI_panicking w.heap.size w.heap.size 3 0 _ ze zf (Nat.le_refl _)).mono ?_;rintro e u' w'' ⟨rfl,rfl,rfl,q2,q3⟩;have KF:=lH (show Kept w _ from Below.trans KK.out q3);obtain⟨WF,hWF⟩:∃W,w1.setCell ⟨w.heap.size,0,none⟩ (.int .i64 3)=W:=⟨_,rfl⟩
  rw[hWF] at q2 KF ⊢;clear hWF q3 ze zf;simp[Leaves,settle,results,Tryz.results168,go_sem,q2];exact KF.out
theorem closureSk (Q1 Q2 Q3:Nat) (s1 s2 s3 a1 a2 a3 a4:Option Addr) (n1 e1 n2 e2 n3 e3 m1 c1 m2 c2 m3 c3 m4 c4:Nat) (p:Pd) (s:Clu) (name:ByteArray) (w:World) (hq1:CellsN Q1 [.slice s1 n1 e1,.slice s2 n2 e2,.slice s3 n3 e3] w) (hq2:CellsN Q2 [.string p.name,.string p.owner,.int .i64 p.prio,.slice a1 m1 c1,.slice a2 m2 c2,.slice a3 m3 c3,.slice a4 m4 c4,.string p.key,.int .i64 p.most,.string p.node,.bool p.hold] w) (hq3:CellsN Q3 [.string name] w) (hn:NodesAt w s1 n1 s.nodes) (hp:PodsAt w s2 n2 s.pods) (hb1:n1≤100000) (hb2:n2≤100000) :
 Calls Tryz.prog 169 #[.pointer (some ⟨Q1,0,none⟩),.pointer (some ⟨Q2,0,none⟩),.pointer (some ⟨Q3,0,none⟩)] w (SkR ((domV p.key name s.nodes).map (skewD p s)) w):=by
 have HS:=lH (skewOn_any s1 s2 s3 a1 a2 a3 a4 n1 e1 n2 e2 n3 e3 m1 c1 m2 c2 m3 c3 m4 c4 p s name w hn hp hb1 hb2);unfold PodV at HS;have y0:=hq1.at_ 0 _ rfl;have y1:=hq1.at_ 1 _ rfl;have y2:=hq1.at_ 2 _ rfl;have r0:=hq2.at_ 0 _ rfl;have r1:=hq2.at_ 1 _ rfl;have r2:=hq2.at_ 2 _ rfl;have r3:=hq2.at_ 3 _ rfl;have r4:=hq2.at_ 4 _ rfl;have r5:=hq2.at_ 5 _ rfl;have r6:=hq2.at_ 6 _ rfl;have r7:=hq2.at_ 7 _ rfl;have r8:=hq2.at_ 8 _ rfl;have r9:=hq2.at_ 9 _ rfl;have r10:=hq2.at_ 10 _ rfl;have z0:=hq3.at_ 0 _ rfl;clear hq1 hq2 hq3 hn hp;go_enter Tryz.func169,Tryz.ntmps169;go_wp2_with fail
 refine HS.out.mono ?_;rintro e w1 ⟨h1,h2,kk⟩;have K:=lH kk;clear kk HS y0 y1 y2 r0 r1 r2 r3 r4 r5 r6 r7 r8 r9 r10 z0
 cases ho:domV p.key name s.nodes with
 | none =>
  obtain rfl:=h2 ho;have HO:=lH ho;clear h1 h2 ho;go_wp2;exact⟨rfl,(fun z e=>by cases e),(fun _=>rfl),K.out⟩
 | some d =>
  obtain rfl:=h1 d ho;have HO:=lH ho;clear h1 h2 ho;obtain⟨z,hz⟩:∃z,skewD p s d=z:=⟨_,rfl⟩
  rw[hz];have HZ:=lH hz;clear hz;go_wp2;go_ret;exact⟨(fun y e=>by rw[HO.out] at e;cases e;exact congrArg (fun z=>Ending.returned (.int .i64 z)) HZ.out.symm),(fun e=>by rw[HO.out] at e;cases e),K.out⟩
theorem skew_any (s1 s2 s3 a1 a2 a3 a4:Option Addr) (n1 e1 n2 e2 n3 e3 m1 c1 m2 c2 m3 c3 m4 c4:Nat) (p:Pd) (s:Clu) (name:ByteArray) (w:World) (hn:NodesAt w s1 n1 s.nodes) (hp:PodsAt w s2 n2 s.pods) (hb1:n1≤100000) (hb2:n2≤100000) :
 Calls Tryz.prog 145 #[.agg #[.slice s1 n1 e1,.slice s2 n2 e2,.slice s3 n3 e3],PodV p (.slice a1 m1 c1) (.slice a2 m2 c2) (.slice a3 m3 c3) (.slice a4 m4 c4),.string name] w (Say (.tuple #[.int .i64 (skewS p s name).1,.bool (skewS p s name).2]) w):=by
 have hmf:=hmfL (P:=Tryz.prog);obtain⟨Y,hY⟩:∃Y,(w.alloc (.cells #[.slice s1 n1 e1,.slice s2 n2 e2,.slice s3 n3 e3] 26)).alloc (.cells #[.string p.name,.string p.owner,.int .i64 p.prio,.slice a1 m1 c1,.slice a2 m2 c2,.slice a3 m3 c3,.slice a4 m4 c4,.string p.key,.int .i64 p.most,.string p.node,.bool p.hold] 35)=Y:=⟨_,rfl⟩
 have hky:Kept w Y:=by rw[←hY];exact kept_two _ _ _
 have hys:Y.heap.size=w.heap.size+2:=by rw[←hY];simp
 have hsb:=freshN w (.slice s1 n1 e1) [.slice s2 n2 e2,.slice s3 n3 e3] 26 Y (by rw[←hY];exact kept_alloc _ _);have hpb:CellsN (w.heap.size+1) [.string p.name,.string p.owner,.int .i64 p.prio,.slice a1 m1 c1,.slice a2 m2 c2,.slice a3 m3 c3,.slice a4 m4 c4,.string p.key,.int .i64 p.most,.string p.node,.bool p.hold] Y:=by
  have dd:=freshN (w.alloc (.cells #[.slice s1 n1 e1,.slice s2 n2 e2,.slice s3 n3 e3] 26)) (.string p.name) [.string p.owner,.int .i64 p.prio,.slice a1 m1 c1,.slice a2 m2 c2,.slice a3 m3 c3,.slice a4 m4 c4,.string p.key,.int .i64 p.most,.string p.node,.bool p.hold] 35 Y (by rw[hY];exact Kept.refl _);rw[World.size_alloc] at dd;exact dd
 obtain⟨Z,hZ⟩:∃Z,Y.alloc (.cells #[.string name] 9)=Z:=⟨_,rfl⟩
 have hkz:Kept Y Z:=by rw[←hZ];exact kept_alloc _ _
 have hnb:CellsN (w.heap.size+2) [.string name] Z:=by
  have dd:=freshN Y (.string name) [] 9 Z (by rw[hZ];exact Kept.refl _);rw[hys] at dd;exact dd
 have hYZ:((w.alloc (.cells #[.slice s1 n1 e1,.slice s2 n2 e2,.slice s3 n3 e3] 26)).alloc (.cells #[.string p.name,.string p.owner,.int .i64 p.prio,.slice a1 m1 c1,.slice a2 m2 c2,.slice a3 m3 c3,.slice a4 m4 c4,.string p.key,.int .i64 p.most,.string p.node,.bool p.hold] 35)).alloc (.cells #[.string name] 9)=Z:=by rw[hY];exact hZ
 have HSB:=lH (hsb.kept hkz);have HPB:=lH (hpb.kept hkz);have HNB:=lH hnb;have K:=lH (hky.trans hkz);have HN:=lH (hn.kept (hky.trans hkz));have HP:=lH (hp.kept (hky.trans hkz));clear hn hp hky hkz hys hsb hpb hnb hY hZ;obtain⟨t0,h0⟩:∃t,(p.key.toList==([]:List UInt8))=t:=⟨_,rfl⟩
 have HI:=lH (show isNo p.key=t0 by rw[no_iff,h0]);have r7:=HPB.out.at_ 7 _ rfl;unfold PodV;go_enter Tryz.func145,Tryz.ntmps145
 cases t0 with
 | true =>
  have HV:=lH (show skewS p s name=(0,true) by unfold skewS;rw[if_pos HI.out]);go_wp2;try rw[hYZ]
  go_ret2
  rw[HV.out];exact⟨rfl,by first | exact K.out | (rw[hYZ];exact K.out)⟩
 | false =>
  have HC:=lH (caughtI_any w.heap.size (w.heap.size+1) (w.heap.size+2) ((domV p.key name s.nodes).map (skewD p s)) Z fun W k=>closureSk w.heap.size (w.heap.size+1) (w.heap.size+2) s1 s2 s3 a1 a2 a3 a4 n1 e1 n2 e2 n3 e3 m1 c1 m2 c2 m3 c3 m4 c4 p s name W (HSB.out.kept k) (HPB.out.kept k) (HNB.out.kept k) (HN.out.kept k) (HP.out.kept k) hb1 hb2);have HV:=lH (show skewS p s name=(((domV p.key name s.nodes).map (skewD p s)).getD 0,((domV p.key name s.nodes).map (skewD p s)).isSome) by
   unfold skewS;rw[if_neg (by rw[HI.out];decide)]
   cases domV p.key name s.nodes<;>rfl)
  obtain⟨o,ho⟩:∃o,(domV p.key name s.nodes).map (skewD p s)=o:=⟨_,rfl⟩
  rw[ho] at HC HV;clear ho;go_upto_region 3 with fail
  try rw[hYZ]
  clear hYZ r7 h0;go_wp2_with fail
  refine HC.out.mono ?_;rintro e w1 ⟨rfl,kk⟩;have K:=lH (K.out.trans kk);clear kk
  cases o with
  | none =>
   have HW:=lH (show skewS p s name=(0,false) from HV.out);go_wp2;go_ret2
   rw[HW.out];exact⟨rfl,K.out⟩
  | some z =>
   have HW:=lH (show skewS p s name=(z,true) from HV.out);go_wp2;go_ret2
   rw[HW.out];exact⟨rfl,K.out⟩
end Go.Proofs.YtmlgobiifebjkacGreat
namespace Go.Proofs.YtmlgobiifebjkacGreat.Vec
open Go.RowKit
def namesV:Nat→V→V→List ByteArray
 | 0,_,_=>[]
 | fuel+1,la,lb =>
  if la.length+lb.length=0 then []
  else foremostV la lb::namesV fuel (takenV la (foremostV la lb)).2 (takenV lb (foremostV la lb)).2
theorem names_end {fuel:Nat} {la lb:V} (h:la.length+lb.length=0):namesV fuel la lb=[]:=by
 cases fuel with
 | zero=>rfl
 | succ n=>rw[namesV,if_pos h]
theorem next_first {fuel:Nat} {l l':V} {i k:Nat} (hi:i<l.length) (h:¬k<l'.length∨(k<l'.length∧ltS (nm l i) (nm l' k)=true)) :
 namesV (fuel+1) (l.drop i) (l'.drop k)=nm l i::namesV fuel (l.drop (i+1)) (l'.drop k):=by
 rw[namesV,if_neg (by simp only[List.length_drop];omega),drop_cons hi];rcases h with h | ⟨h,e⟩
 · rw[List.drop_of_length_le (l:=l') (by omega)];have e1:foremostV ((nm l i,qn l i)::l.drop (i+1)) []=nm l i:=rfl;rw[e1,taken_cons,if_pos (eqS_iff.2 rfl)];rfl
 · rw[drop_cons h];have e2:ltS (nm l' k) (nm l i)=false:=by
    cases e3:ltS (nm l' k) (nm l i) with
    | false=>rfl
    | true=>exact(lt_asymm' e e3).elim
   rw[foremost_cons,if_neg (by rw[e2];decide),taken_cons,if_pos (eqS_iff.2 rfl),taken_cons,if_neg (fun c=>lt_ne e (eqS_iff.1 c).symm)]
theorem next_second {fuel:Nat} {l l':V} {i k:Nat} (hk:k<l'.length) (h:¬i<l.length∨(i<l.length∧ltS (nm l' k) (nm l i)=true)) :
 namesV (fuel+1) (l.drop i) (l'.drop k)=nm l' k::namesV fuel (l.drop i) (l'.drop (k+1)):=by
 rw[namesV,if_neg (by simp only[List.length_drop];omega),drop_cons hk];rcases h with h | ⟨h,e⟩
 · rw[List.drop_of_length_le (l:=l) (by omega)];have e1:foremostV [] ((nm l' k,qn l' k)::l'.drop (k+1))=nm l' k:=rfl;rw[e1,taken_cons,if_pos (eqS_iff.2 rfl)];rfl
 · rw[drop_cons h];rw[foremost_cons,if_pos e,taken_cons (nm l' k,qn l' k),if_pos (eqS_iff.2 rfl),taken_cons,if_neg (fun c=>lt_ne e (eqS_iff.1 c).symm)]
theorem next_both {fuel:Nat} {l l':V} {i k:Nat} (hi:i<l.length) (hk:k<l'.length) (h1:ltS (nm l i) (nm l' k)=false) (h2:ltS (nm l' k) (nm l i)=false) :
 namesV (fuel+1) (l.drop i) (l'.drop k)=nm l i::namesV fuel (l.drop (i+1)) (l'.drop (k+1)):=by
 have e:=lt_tri' h1 h2;rw[namesV,if_neg (by simp only[List.length_drop];omega),drop_cons hi,drop_cons hk];rw[foremost_cons,if_neg (by rw[h2];decide),taken_cons,if_pos (eqS_iff.2 rfl),taken_cons,if_pos (eqS_iff.2 e.symm)]
open Go.RowKit Go.Proofs.YtmlgobiifebjkacGreat
theorem infoStr:(Tryz.prog.info? 9).map (fun i=>(i.zero,i.size,i.bytes))=some (some (.string ByteArray.empty),1,16):=by kernel_rfl
def Names (ns:List ByteArray) (w:World) (e:Ending) (w':World):Prop:=∃x,e=.returned x∧Own StrLay 9 w' w.heap.size x ns∧Kept w w'
theorem names_any (a a':Option Addr) (len cap len' cap':Nat) (l l':V) (w:World) (hr:VecAt w a len l) (hr':VecAt w a' len' l') (h8:len≤8) (h8':len'≤8) :
 Calls Tryz.prog 135 #[.slice a len cap,.slice a' len' cap'] w (Names (namesV (l.length+l'.length) l l') w):=by
 have HA:=lH hr;have HB:=lH hr';have HL:=lH hr.1;have HL':=lH hr'.1;have HF:=lH hr.2.2.1;have HF':=lH hr'.2.2.1;obtain⟨i0,hi,hz0,hz1,hz2⟩:=info_parts infoStr;obtain⟨NS,hNS⟩:∃NS,namesV (l.length+l'.length) l l'=NS:=⟨_,rfl⟩
 rw[hNS];have HNS:=lH hNS;clear hr hr' hNS;go_enter Tryz.func135,Tryz.ntmps135;go_wp2
 go_loopw [5,6,7] (fun v vi vk wr=>∃(i k fuel:Nat) (acc:List ByteArray),i≤len∧k≤len'∧vi=.int .i64 i∧vk=.int .i64 k∧acc++namesV fuel (l.drop i) (l'.drop k)=NS∧(len-i)+(len'-k)≤fuel∧Own StrLay 9 wr w.heap.size v acc∧Below w.heap.size w wr∧acc.length≤i+k)
  (fun _ vi vk _=>(len-(intOf vi).toNat)+(len'-(intOf vk).toNat))
 case atStart=>exact⟨0,0,l.length+l'.length,[],Nat.zero_le _,Nat.zero_le _,rfl,rfl,HNS.out,by rw[HL.out,HL'.out];omega,Own.nil _ _ _,Below.refl _ _,Nat.zero_le _⟩
 case round =>
  obtain⟨i,k,fuel,acc,hi1,hk1,rfl,rfl,hres,hfu,ho,hB,hacc⟩:=hrel;have HQ:=lH hres;have HO:=lH ho;have HB2:=lH hB;clear hres ho;by_cases hi2:i<len
  · obtain⟨b,off,rfl⟩:=HA.out.form.resolve_left (by omega);obtain⟨hb,c1,-⟩:=(HA.out.kept hB).cells hi2;have HI:=lH (show i<l.length by rw[HL.out];exact hi2);have HSI:=lH (HF.out i HI.out).1;obtain⟨f2,rfl⟩:∃f2,fuel=f2+1:=⟨fuel-1,by omega⟩
    by_cases hk2:k<len'
    · obtain⟨b',off',rfl⟩:=HB.out.form.resolve_left (by omega);obtain⟨hb',d1,-⟩:=(HB.out.kept hB).cells hk2;have HK:=lH (show k<l'.length by rw[HL'.out];exact hk2);have HSK:=lH (HF'.out k HK.out).1;have hd:decide (len'≤k)=false:=decide_eq_false (by omega);have hd2:decide (len≤i)=false:=decide_eq_false (by omega);have hi3:(i:Int)<(len:Int):=by omega
      have hk3:(k:Int)<(len':Int):=by omega
      have HS:=lH (show ∀W,Kept wr W→W.cell? ⟨b,off+i*2,none⟩=some (.string (nm l i))∧W.cell? ⟨b',off'+k*2,none⟩=some (.string (nm l' k)) from fun W kk=>⟨cell_later kk c1,cell_later kk d1⟩);clear hB;by_cases e1:ltS (nm l i) (nm l' k)=true
      · have E1:=lH e1;have e1':Op.bytesLess (nm l i).toList (nm l' k).toList=true:=e1;clear e1;have HN:=lH (show acc++[nm l i]++namesV f2 (l.drop (i+1)) (l'.drop (k))=NS by rw[←HQ.out,next_first HI.out (.inr ⟨HK.out,E1.out⟩)];simp);go_wp2;clear c1 d1;refine wp_region_held_drew (S:=fun W=>W.cell? ⟨b,off+i*2,none⟩=some (.string (nm l i))∧W.cell? ⟨b',off'+k*2,none⟩=some (.string (nm l' k))) (by kernel_rfl) (HS.out _ (Kept.drew _)) (fun hHeld=>?_);refine wpAnyH_take  (i:=0) (v:=?_) (by rw[List.getElem?_toArray];exact rfl) (by kernel_rfl) (by kernel_rfl) (by kernel_rfl) (by exact fun _ _ _ h=>h) (Or.inl ⟨by rfl,(by rintro W ⟨c1,d1⟩;go_simp<;>with_reducible rfl)⟩) (by assumption) ?_;try simp only  [Act.put,List.setIfInBounds_toArray,List.set_cons_zero,List.set_cons_succ]
        refine wpAnyH_take  (i:=1) (v:=?_) (by rw[List.getElem?_toArray];exact rfl) (by kernel_rfl) (by kernel_rfl) (by kernel_rfl) (by exact fun _ _ _ h=>h) (Or.inl ⟨by rfl,(by rintro W ⟨c1,d1⟩;go_simp<;>with_reducible rfl)⟩) (by assumption) ?_;try simp only  [Act.put,List.setIfInBounds_toArray,List.set_cons_zero,List.set_cons_succ]
        refine wpAnyH_take  (i:=2) (v:=?_) (by rw[List.getElem?_toArray];exact rfl) (by kernel_rfl) (by kernel_rfl) (by kernel_rfl) (by exact fun _ _ _ h=>h) (Or.inl ⟨by rfl,(by rintro W ⟨c1,d1⟩;go_simp<;>with_reducible rfl)⟩) (by assumption) ?_;try simp only  [Act.put,List.setIfInBounds_toArray,List.set_cons_zero,List.set_cons_succ]
        refine wpAnyH_take  (i:=3) (v:=?_) (by rw[List.getElem?_toArray];exact rfl) (by kernel_rfl) (by kernel_rfl) (by kernel_rfl) (by exact fun _ _ _ h=>h) (Or.inl ⟨by rfl,(by rintro W ⟨c1,d1⟩;go_simp<;>with_reducible rfl)⟩) (by assumption) ?_;try simp only  [Act.put,List.setIfInBounds_toArray,List.set_cons_zero,List.set_cons_succ]
        refine wpAnyH_take  (i:=4) (v:=?_) (by rw[List.getElem?_toArray];exact rfl) (by kernel_rfl) (by kernel_rfl) (by kernel_rfl) (by exact fun _ _ _ h=>h) (Or.inl ⟨by rfl,(by rintro W ⟨c1,d1⟩;go_simp<;>with_reducible rfl)⟩) (by assumption) ?_;try simp only  [Act.put,List.setIfInBounds_toArray,List.set_cons_zero,List.set_cons_succ]
        refine wpAnyH_take  (i:=5) (v:=?_) (by rw[List.getElem?_toArray];exact rfl) (by kernel_rfl) (by kernel_rfl) (by kernel_rfl) (by exact fun _ _ _ h=>h) (Or.inl ⟨by rfl,(by rintro W ⟨c1,d1⟩;go_simp<;>with_reducible rfl)⟩) (by assumption) ?_;try simp only  [Act.put,List.setIfInBounds_toArray,List.set_cons_zero,List.set_cons_succ]
        refine wpAnyH_take  (i:=6) (v:=?_) (by rw[List.getElem?_toArray];exact rfl) (by kernel_rfl) (by kernel_rfl) (by kernel_rfl) (by exact fun _ _ _ h=>h) (Or.inl ⟨by rfl,(by rintro W ⟨c1,d1⟩;go_simp<;>with_reducible rfl)⟩) (by assumption) ?_;try simp only  [Act.put,List.setIfInBounds_toArray,List.set_cons_zero,List.set_cons_succ]
        refine wpAnyH_take  (i:=7) (v:=?_) (by rw[List.getElem?_toArray];exact rfl) (by kernel_rfl) (by kernel_rfl) (by kernel_rfl) (by exact fun _ _ _ h=>h) (Or.inl ⟨by rfl,(by rintro W ⟨c1,d1⟩;go_simp<;>with_reducible rfl)⟩) (by assumption) ?_;try simp only  [Act.put,List.setIfInBounds_toArray,List.set_cons_zero,List.set_cons_succ]
        refine wpAnyH_take  (i:=8) (v:=?_) (by rw[List.getElem?_toArray];exact rfl) (by kernel_rfl) (by kernel_rfl) (by kernel_rfl) (by exact fun _ _ _ h=>h) (Or.inl ⟨by rfl,(by rintro W ⟨c1,d1⟩;go_simp<;>with_reducible rfl)⟩) (by assumption) ?_;try simp only  [Act.put,List.setIfInBounds_toArray,List.set_cons_zero,List.set_cons_succ]
        refine wpAnyH_take  (i:=9) (v:=?_) (by rw[List.getElem?_toArray];exact rfl) (by kernel_rfl) (by kernel_rfl) (by kernel_rfl) (by exact fun _ _ _ h=>h) (Or.inl ⟨by rfl,(by rintro W ⟨c1,d1⟩;go_simp<;>with_reducible rfl)⟩) (by assumption) ?_;try simp only  [Act.put,List.setIfInBounds_toArray,List.set_cons_zero,List.set_cons_succ]
        refine wpAnyH_take  (i:=10) (v:=?_) (by rw[List.getElem?_toArray];exact rfl) (by kernel_rfl) (by kernel_rfl) (by kernel_rfl) (by exact fun _ _ _ h=>h) (Or.inl ⟨by rfl,(by rintro W ⟨c1,d1⟩;go_simp<;>with_reducible rfl)⟩) (by assumption) ?_;try simp only  [Act.put,List.setIfInBounds_toArray,List.set_cons_zero,List.set_cons_succ]
        refine wpAnyH_take  (i:=11) (v:=?_) (by rw[List.getElem?_toArray];exact rfl) (by kernel_rfl) (by kernel_rfl) (by kernel_rfl) (by exact fun _ _ _ h=>h) (Or.inl ⟨by rfl,(by rintro W ⟨c1,d1⟩;go_simp<;>with_reducible rfl)⟩) (by assumption) ?_;try simp only  [Act.put,List.setIfInBounds_toArray,List.set_cons_zero,List.set_cons_succ]
        refine wpAnyH_take  (i:=12) (v:=?_) (by rw[List.getElem?_toArray];exact rfl) (by kernel_rfl) (by kernel_rfl) (by kernel_rfl) (by exact fun _ _ _ h=>h) (Or.inl ⟨by rfl,(by rintro W ⟨c1,d1⟩;go_simp<;>with_reducible rfl)⟩) (by assumption) ?_;try simp only  [Act.put,List.setIfInBounds_toArray,List.set_cons_zero,List.set_cons_succ]
        refine wpAnyH_take  (i:=13) (v:=?_) (by rw[List.getElem?_toArray];exact rfl) (by kernel_rfl) (by kernel_rfl) (by kernel_rfl) (by exact fun _ _ _ h=>h) (Or.inl ⟨by rfl,(by rintro W ⟨c1,d1⟩;go_simp<;>with_reducible rfl)⟩) (by assumption) ?_;try simp only  [Act.put,List.setIfInBounds_toArray,List.set_cons_zero,List.set_cons_succ]
        refine wpAnyH_take  (i:=14) (v:=?_) (by rw[List.getElem?_toArray];exact rfl) (by kernel_rfl) (by kernel_rfl) (by kernel_rfl) (by exact fun _ _ _ h=>h) (Or.inl ⟨by rfl,(by rintro W ⟨c1,d1⟩;go_simp<;>with_reducible rfl)⟩) (by assumption) ?_;try simp only  [Act.put,List.setIfInBounds_toArray,List.set_cons_zero,List.set_cons_succ]
        refine wpAnyH_take  (i:=15) (v:=?_) (by rw[List.getElem?_toArray];exact rfl) (by kernel_rfl) (by kernel_rfl) (by kernel_rfl) (by exact fun _ _ _ h=>h) (Or.inl ⟨by rfl,(by rintro W ⟨c1,d1⟩;go_simp<;>with_reducible rfl)⟩) (by assumption) ?_;try simp only  [Act.put,List.setIfInBounds_toArray,List.set_cons_zero,List.set_cons_succ]
        refine wpAnyH_take  (i:=16) (v:=?_) (by rw[List.getElem?_toArray];exact rfl) (by kernel_rfl) (by kernel_rfl) (by kernel_rfl) (by exact fun _ _ _ h=>h) (Or.inl ⟨by rfl,(by rintro W ⟨c1,d1⟩;go_simp<;>with_reducible rfl)⟩) (by assumption) ?_;try simp only  [Act.put,List.setIfInBounds_toArray,List.set_cons_zero,List.set_cons_succ]
        refine wpAnyH_take  (i:=17) (v:=?_) (by rw[List.getElem?_toArray];exact rfl) (by kernel_rfl) (by kernel_rfl) (by kernel_rfl) (by exact fun _ _ _ h=>h) (Or.inl ⟨by rfl,(by rintro W ⟨c1,d1⟩;go_simp<;>with_reducible rfl)⟩) (by assumption) ?_;try simp only  [Act.put,List.setIfInBounds_toArray,List.set_cons_zero,List.set_cons_succ]
        refine wpAnyH_take  (i:=18) (v:=?_) (by rw[List.getElem?_toArray];exact rfl) (by kernel_rfl) (by kernel_rfl) (by kernel_rfl) (by exact fun _ _ _ h=>h) (Or.inl ⟨by rfl,(by rintro W ⟨c1,d1⟩;go_simp<;>with_reducible rfl)⟩) (by assumption) ?_;try simp only  [Act.put,List.setIfInBounds_toArray,List.set_cons_zero,List.set_cons_succ]
        refine wpAnyH_take  (i:=19) (v:=?_) (by rw[List.getElem?_toArray];exact rfl) (by kernel_rfl) (by kernel_rfl) (by kernel_rfl) (by exact fun _ _ _ h=>h) (Or.inl ⟨by rfl,(by rintro W ⟨c1,d1⟩;go_simp<;>with_reducible rfl)⟩) (by assumption) ?_;try simp only  [Act.put,List.setIfInBounds_toArray,List.set_cons_zero,List.set_cons_succ]
        refine wpAnyH_take  (i:=20) (v:=?_) (by rw[List.getElem?_toArray];exact rfl) (by kernel_rfl) (by kernel_rfl) (by kernel_rfl) (by exact fun _ _ _ h=>h) (Or.inl ⟨by rfl,(by rintro W ⟨c1,d1⟩;go_simp<;>with_reducible rfl)⟩) (by assumption) ?_;try simp only  [Act.put,List.setIfInBounds_toArray,List.set_cons_zero,List.set_cons_succ]
        refine wpAnyH_take  (i:=21) (v:=?_) (by rw[List.getElem?_toArray];exact rfl) (by kernel_rfl) (by kernel_rfl) (by kernel_rfl) (by exact fun _ _ _ h=>h) (Or.inl ⟨by rfl,(by rintro W ⟨c1,d1⟩;go_simp<;>with_reducible rfl)⟩) (by assumption) ?_;try simp only  [Act.put,List.setIfInBounds_toArray,List.set_cons_zero,List.set_cons_succ]
        refine wpAnyH_take  (i:=22) (v:=?_) (by rw[List.getElem?_toArray];exact rfl) (by kernel_rfl) (by kernel_rfl) (by kernel_rfl) (by exact fun _ _ _ h=>h) (Or.inl ⟨by rfl,(by rintro W ⟨c1,d1⟩;go_simp<;>with_reducible rfl)⟩) (by assumption) ?_;try simp only  [Act.put,List.setIfInBounds_toArray,List.set_cons_zero,List.set_cons_succ]
        refine wpAnyH_take  (i:=23) (v:=?_) (by rw[List.getElem?_toArray];exact rfl) (by kernel_rfl) (by kernel_rfl) (by kernel_rfl) (by exact fun _ _ _ h=>h) (Or.inl ⟨by rfl,(by rintro W ⟨c1,d1⟩;go_simp<;>with_reducible rfl)⟩) (by assumption) ?_;try simp only  [Act.put,List.setIfInBounds_toArray,List.set_cons_zero,List.set_cons_succ]
        refine wpAnyH_done (by kernel_rfl) ?_ _;have HKW:=lH (show Kept wr (wr.drew) from(Kept.drew wr));obtain⟨c1,d1⟩:=HS.out _ HKW.out;have hbw:(wr.drew).heap.size=wr.heap.size:=rfl;obtain⟨W1,hW1⟩:∃W,wr.drew=W:=⟨_,rfl⟩
        rw[hW1] at HKW hbw c1 d1;try rw[hW1]
        try simp only[hW1]
        clear hW1;have hbase:w.heap.size≤W1.heap.size:=by rw[hbw];exact HB2.out.size
        have HBS:=lH hbase;have OK:=lH (HO.out.kept HKW.out);have hacc16:acc.length≤16:=by omega
        clear hbw;go_wp2_with (at_builtin;refine wpList_append_lies _ rfl _ _ _ rfl w.heap.size 9 i0 _ 1 16 Tryz.underlying47 hi hz0 hz1 hz2 rfl (by decide) u5 acc.length (rowCells StrLay acc) rfl (OK.out.1.alloc _) ⟨W1.heap.size,0,none⟩ 1 1 (StrLay.cs (nm l i)) rfl rfl (World.news_of_block (cs:=#[.string (nm l i)]) (t:=9) (fr:=(0,0)) (W1.alloc_heap_new _)) (one_s (nm l i)) (by decide) (by unfold maxLen;omega) (by omega) (by rw[World.size_alloc];exact Nat.le_succ_of_le HBS.out) (W1.heap.size+1) (World.size_alloc _ _) ?_;intro g cap1 w7 hown1 hgrow hg hlt7;refine Hid.out ?_)
        refine lH ?_;have HBW:=lH (((HB2.out.trans (Below.mono HKW.out HB2.out.size)).alloc (by exact HBS.out) _).grown hgrow (by rw[World.size_alloc];exact Nat.le_succ_of_le HBS.out) (fun j hj=>(HO.out.1.lt j hj).1));go_wp2;go_roundw
        case rel=>exact⟨i+1,k,f2,acc++[nm l i],by omega,by omega,by go_num,by go_num,HN.out,by omega,Own.snoc hown1 rfl HO.out.2 HSI.out,HBW.out,by rw[List.length_append];simp only[List.length_cons,List.length_nil];omega⟩
        case measure=>simp[intOf];omega
      · have e1:ltS (nm l i) (nm l' k)=false:=by simpa using e1
        have E1:=lH e1;have e1':Op.bytesLess (nm l i).toList (nm l' k).toList=false:=e1;clear e1;by_cases e2:ltS (nm l' k) (nm l i)=true
        · have E2:=lH e2;have e2':Op.bytesLess (nm l' k).toList (nm l i).toList=true:=e2;clear e2;have HN:=lH (show acc++[nm l' k]++namesV f2 (l.drop (i)) (l'.drop (k+1))=NS by rw[←HQ.out,next_second HK.out (.inr ⟨HI.out,E2.out⟩)];simp);go_wp2;clear c1 d1;refine wp_region_held_drew (S:=fun W=>W.cell? ⟨b,off+i*2,none⟩=some (.string (nm l i))∧W.cell? ⟨b',off'+k*2,none⟩=some (.string (nm l' k))) (by kernel_rfl) (HS.out _ (Kept.drew _)) (fun hHeld=>?_);refine wpAnyH_take  (i:=0) (v:=?_) (by rw[List.getElem?_toArray];exact rfl) (by kernel_rfl) (by kernel_rfl) (by kernel_rfl) (by exact fun _ _ _ h=>h) (Or.inl ⟨by rfl,(by rintro W ⟨c1,d1⟩;go_simp<;>with_reducible rfl)⟩) (by assumption) ?_;try simp only  [Act.put,List.setIfInBounds_toArray,List.set_cons_zero,List.set_cons_succ]
          refine wpAnyH_take  (i:=1) (v:=?_) (by rw[List.getElem?_toArray];exact rfl) (by kernel_rfl) (by kernel_rfl) (by kernel_rfl) (by exact fun _ _ _ h=>h) (Or.inl ⟨by rfl,(by rintro W ⟨c1,d1⟩;go_simp<;>with_reducible rfl)⟩) (by assumption) ?_;try simp only  [Act.put,List.setIfInBounds_toArray,List.set_cons_zero,List.set_cons_succ]
          refine wpAnyH_take  (i:=2) (v:=?_) (by rw[List.getElem?_toArray];exact rfl) (by kernel_rfl) (by kernel_rfl) (by kernel_rfl) (by exact fun _ _ _ h=>h) (Or.inl ⟨by rfl,(by rintro W ⟨c1,d1⟩;go_simp<;>with_reducible rfl)⟩) (by assumption) ?_;try simp only  [Act.put,List.setIfInBounds_toArray,List.set_cons_zero,List.set_cons_succ]
          refine wpAnyH_take  (i:=3) (v:=?_) (by rw[List.getElem?_toArray];exact rfl) (by kernel_rfl) (by kernel_rfl) (by kernel_rfl) (by exact fun _ _ _ h=>h) (Or.inl ⟨by rfl,(by rintro W ⟨c1,d1⟩;go_simp<;>with_reducible rfl)⟩) (by assumption) ?_;try simp only  [Act.put,List.setIfInBounds_toArray,List.set_cons_zero,List.set_cons_succ]
          refine wpAnyH_take  (i:=4) (v:=?_) (by rw[List.getElem?_toArray];exact rfl) (by kernel_rfl) (by kernel_rfl) (by kernel_rfl) (by exact fun _ _ _ h=>h) (Or.inl ⟨by rfl,(by rintro W ⟨c1,d1⟩;go_simp<;>with_reducible rfl)⟩) (by assumption) ?_;try simp only  [Act.put,List.setIfInBounds_toArray,List.set_cons_zero,List.set_cons_succ]
          refine wpAnyH_take  (i:=5) (v:=?_) (by rw[List.getElem?_toArray];exact rfl) (by kernel_rfl) (by kernel_rfl) (by kernel_rfl) (by exact fun _ _ _ h=>h) (Or.inl ⟨by rfl,(by rintro W ⟨c1,d1⟩;go_simp<;>with_reducible rfl)⟩) (by assumption) ?_;try simp only  [Act.put,List.setIfInBounds_toArray,List.set_cons_zero,List.set_cons_succ]
          refine wpAnyH_take  (i:=6) (v:=?_) (by rw[List.getElem?_toArray];exact rfl) (by kernel_rfl) (by kernel_rfl) (by kernel_rfl) (by exact fun _ _ _ h=>h) (Or.inl ⟨by rfl,(by rintro W ⟨c1,d1⟩;go_simp<;>with_reducible rfl)⟩) (by assumption) ?_;try simp only  [Act.put,List.setIfInBounds_toArray,List.set_cons_zero,List.set_cons_succ]
          refine wpAnyH_take  (i:=7) (v:=?_) (by rw[List.getElem?_toArray];exact rfl) (by kernel_rfl) (by kernel_rfl) (by kernel_rfl) (by exact fun _ _ _ h=>h) (Or.inl ⟨by rfl,(by rintro W ⟨c1,d1⟩;go_simp<;>with_reducible rfl)⟩) (by assumption) ?_;try simp only  [Act.put,List.setIfInBounds_toArray,List.set_cons_zero,List.set_cons_succ]
          refine wpAnyH_take  (i:=8) (v:=?_) (by rw[List.getElem?_toArray];exact rfl) (by kernel_rfl) (by kernel_rfl) (by kernel_rfl) (by exact fun _ _ _ h=>h) (Or.inl ⟨by rfl,(by rintro W ⟨c1,d1⟩;go_simp<;>with_reducible rfl)⟩) (by assumption) ?_;try simp only  [Act.put,List.setIfInBounds_toArray,List.set_cons_zero,List.set_cons_succ]
          refine wpAnyH_take  (i:=9) (v:=?_) (by rw[List.getElem?_toArray];exact rfl) (by kernel_rfl) (by kernel_rfl) (by kernel_rfl) (by exact fun _ _ _ h=>h) (Or.inl ⟨by rfl,(by rintro W ⟨c1,d1⟩;go_simp<;>with_reducible rfl)⟩) (by assumption) ?_;try simp only  [Act.put,List.setIfInBounds_toArray,List.set_cons_zero,List.set_cons_succ]
          refine wpAnyH_take  (i:=10) (v:=?_) (by rw[List.getElem?_toArray];exact rfl) (by kernel_rfl) (by kernel_rfl) (by kernel_rfl) (by exact fun _ _ _ h=>h) (Or.inl ⟨by rfl,(by rintro W ⟨c1,d1⟩;go_simp<;>with_reducible rfl)⟩) (by assumption) ?_;try simp only  [Act.put,List.setIfInBounds_toArray,List.set_cons_zero,List.set_cons_succ]
          refine wpAnyH_take  (i:=11) (v:=?_) (by rw[List.getElem?_toArray];exact rfl) (by kernel_rfl) (by kernel_rfl) (by kernel_rfl) (by exact fun _ _ _ h=>h) (Or.inl ⟨by rfl,(by rintro W ⟨c1,d1⟩;go_simp<;>with_reducible rfl)⟩) (by assumption) ?_;try simp only  [Act.put,List.setIfInBounds_toArray,List.set_cons_zero,List.set_cons_succ]
          refine wpAnyH_take  (i:=12) (v:=?_) (by rw[List.getElem?_toArray];exact rfl) (by kernel_rfl) (by kernel_rfl) (by kernel_rfl) (by exact fun _ _ _ h=>h) (Or.inl ⟨by rfl,(by rintro W ⟨c1,d1⟩;go_simp<;>with_reducible rfl)⟩) (by assumption) ?_;try simp only  [Act.put,List.setIfInBounds_toArray,List.set_cons_zero,List.set_cons_succ]
          refine wpAnyH_take  (i:=13) (v:=?_) (by rw[List.getElem?_toArray];exact rfl) (by kernel_rfl) (by kernel_rfl) (by kernel_rfl) (by exact fun _ _ _ h=>h) (Or.inl ⟨by rfl,(by rintro W ⟨c1,d1⟩;go_simp<;>with_reducible rfl)⟩) (by assumption) ?_;try simp only  [Act.put,List.setIfInBounds_toArray,List.set_cons_zero,List.set_cons_succ]
          refine wpAnyH_take  (i:=14) (v:=?_) (by rw[List.getElem?_toArray];exact rfl) (by kernel_rfl) (by kernel_rfl) (by kernel_rfl) (by exact fun _ _ _ h=>h) (Or.inl ⟨by rfl,(by rintro W ⟨c1,d1⟩;go_simp<;>with_reducible rfl)⟩) (by assumption) ?_;try simp only  [Act.put,List.setIfInBounds_toArray,List.set_cons_zero,List.set_cons_succ]
          refine wpAnyH_take  (i:=15) (v:=?_) (by rw[List.getElem?_toArray];exact rfl) (by kernel_rfl) (by kernel_rfl) (by kernel_rfl) (by exact fun _ _ _ h=>h) (Or.inl ⟨by rfl,(by rintro W ⟨c1,d1⟩;go_simp<;>with_reducible rfl)⟩) (by assumption) ?_;try simp only  [Act.put,List.setIfInBounds_toArray,List.set_cons_zero,List.set_cons_succ]
          refine wpAnyH_take  (i:=16) (v:=?_) (by rw[List.getElem?_toArray];exact rfl) (by kernel_rfl) (by kernel_rfl) (by kernel_rfl) (by exact fun _ _ _ h=>h) (Or.inl ⟨by rfl,(by rintro W ⟨c1,d1⟩;go_simp<;>with_reducible rfl)⟩) (by assumption) ?_;try simp only  [Act.put,List.setIfInBounds_toArray,List.set_cons_zero,List.set_cons_succ]
          refine wpAnyH_take  (i:=17) (v:=?_) (by rw[List.getElem?_toArray];exact rfl) (by kernel_rfl) (by kernel_rfl) (by kernel_rfl) (by exact fun _ _ _ h=>h) (Or.inl ⟨by rfl,(by rintro W ⟨c1,d1⟩;go_simp<;>with_reducible rfl)⟩) (by assumption) ?_;try simp only  [Act.put,List.setIfInBounds_toArray,List.set_cons_zero,List.set_cons_succ]
          refine wpAnyH_take  (i:=18) (v:=?_) (by rw[List.getElem?_toArray];exact rfl) (by kernel_rfl) (by kernel_rfl) (by kernel_rfl) (by exact fun _ _ _ h=>h) (Or.inl ⟨by rfl,(by rintro W ⟨c1,d1⟩;go_simp<;>with_reducible rfl)⟩) (by assumption) ?_;try simp only  [Act.put,List.setIfInBounds_toArray,List.set_cons_zero,List.set_cons_succ]
          refine wpAnyH_take  (i:=19) (v:=?_) (by rw[List.getElem?_toArray];exact rfl) (by kernel_rfl) (by kernel_rfl) (by kernel_rfl) (by exact fun _ _ _ h=>h) (Or.inl ⟨by rfl,(by rintro W ⟨c1,d1⟩;go_simp<;>with_reducible rfl)⟩) (by assumption) ?_;try simp only  [Act.put,List.setIfInBounds_toArray,List.set_cons_zero,List.set_cons_succ]
          refine wpAnyH_take  (i:=20) (v:=?_) (by rw[List.getElem?_toArray];exact rfl) (by kernel_rfl) (by kernel_rfl) (by kernel_rfl) (by exact fun _ _ _ h=>h) (Or.inl ⟨by rfl,(by rintro W ⟨c1,d1⟩;go_simp<;>with_reducible rfl)⟩) (by assumption) ?_;try simp only  [Act.put,List.setIfInBounds_toArray,List.set_cons_zero,List.set_cons_succ]
          refine wpAnyH_take  (i:=21) (v:=?_) (by rw[List.getElem?_toArray];exact rfl) (by kernel_rfl) (by kernel_rfl) (by kernel_rfl) (by exact fun _ _ _ h=>h) (Or.inl ⟨by rfl,(by rintro W ⟨c1,d1⟩;go_simp<;>with_reducible rfl)⟩) (by assumption) ?_;try simp only  [Act.put,List.setIfInBounds_toArray,List.set_cons_zero,List.set_cons_succ]
          refine wpAnyH_take  (i:=22) (v:=?_) (by rw[List.getElem?_toArray];exact rfl) (by kernel_rfl) (by kernel_rfl) (by kernel_rfl) (by exact fun _ _ _ h=>h) (Or.inl ⟨by rfl,(by rintro W ⟨c1,d1⟩;go_simp<;>with_reducible rfl)⟩) (by assumption) ?_;try simp only  [Act.put,List.setIfInBounds_toArray,List.set_cons_zero,List.set_cons_succ]
          refine wpAnyH_take  (i:=23) (v:=?_) (by rw[List.getElem?_toArray];exact rfl) (by kernel_rfl) (by kernel_rfl) (by kernel_rfl) (by exact fun _ _ _ h=>h) (Or.inl ⟨by rfl,(by rintro W ⟨c1,d1⟩;go_simp<;>with_reducible rfl)⟩) (by assumption) ?_;try simp only  [Act.put,List.setIfInBounds_toArray,List.set_cons_zero,List.set_cons_succ]
          refine wpAnyH_done (by kernel_rfl) ?_ _;go_wp2;refine wp_region_held_drew (S:=fun W=>W.cell? ⟨b,off+i*2,none⟩=some (.string (nm l i))∧W.cell? ⟨b',off'+k*2,none⟩=some (.string (nm l' k))) (by kernel_rfl) (HS.out _ ((Kept.drew _).trans (Kept.drew _))) (fun hHeld=>?_);refine wpAnyH_take  (i:=0) (v:=?_) (by rw[List.getElem?_toArray];exact rfl) (by kernel_rfl) (by kernel_rfl) (by kernel_rfl) (by exact fun _ _ _ h=>h) (Or.inl ⟨by rfl,(by rintro W ⟨c1,d1⟩;go_simp<;>with_reducible rfl)⟩) (by assumption) ?_;try simp only  [Act.put,List.setIfInBounds_toArray,List.set_cons_zero,List.set_cons_succ]
          refine wpAnyH_take  (i:=1) (v:=?_) (by rw[List.getElem?_toArray];exact rfl) (by kernel_rfl) (by kernel_rfl) (by kernel_rfl) (by exact fun _ _ _ h=>h) (Or.inl ⟨by rfl,(by rintro W ⟨c1,d1⟩;go_simp<;>with_reducible rfl)⟩) (by assumption) ?_;try simp only  [Act.put,List.setIfInBounds_toArray,List.set_cons_zero,List.set_cons_succ]
          refine wpAnyH_take  (i:=2) (v:=?_) (by rw[List.getElem?_toArray];exact rfl) (by kernel_rfl) (by kernel_rfl) (by kernel_rfl) (by exact fun _ _ _ h=>h) (Or.inl ⟨by rfl,(by rintro W ⟨c1,d1⟩;go_simp<;>with_reducible rfl)⟩) (by assumption) ?_;try simp only  [Act.put,List.setIfInBounds_toArray,List.set_cons_zero,List.set_cons_succ]
          refine wpAnyH_take  (i:=3) (v:=?_) (by rw[List.getElem?_toArray];exact rfl) (by kernel_rfl) (by kernel_rfl) (by kernel_rfl) (by exact fun _ _ _ h=>h) (Or.inl ⟨by rfl,(by rintro W ⟨c1,d1⟩;go_simp<;>with_reducible rfl)⟩) (by assumption) ?_;try simp only  [Act.put,List.setIfInBounds_toArray,List.set_cons_zero,List.set_cons_succ]
          refine wpAnyH_take  (i:=4) (v:=?_) (by rw[List.getElem?_toArray];exact rfl) (by kernel_rfl) (by kernel_rfl) (by kernel_rfl) (by exact fun _ _ _ h=>h) (Or.inl ⟨by rfl,(by rintro W ⟨c1,d1⟩;go_simp<;>with_reducible rfl)⟩) (by assumption) ?_;try simp only  [Act.put,List.setIfInBounds_toArray,List.set_cons_zero,List.set_cons_succ]
          refine wpAnyH_take  (i:=5) (v:=?_) (by rw[List.getElem?_toArray];exact rfl) (by kernel_rfl) (by kernel_rfl) (by kernel_rfl) (by exact fun _ _ _ h=>h) (Or.inl ⟨by rfl,(by rintro W ⟨c1,d1⟩;go_simp<;>with_reducible rfl)⟩) (by assumption) ?_;try simp only  [Act.put,List.setIfInBounds_toArray,List.set_cons_zero,List.set_cons_succ]
          refine wpAnyH_take  (i:=6) (v:=?_) (by rw[List.getElem?_toArray];exact rfl) (by kernel_rfl) (by kernel_rfl) (by kernel_rfl) (by exact fun _ _ _ h=>h) (Or.inl ⟨by rfl,(by rintro W ⟨c1,d1⟩;go_simp<;>with_reducible rfl)⟩) (by assumption) ?_;try simp only  [Act.put,List.setIfInBounds_toArray,List.set_cons_zero,List.set_cons_succ]
          refine wpAnyH_take  (i:=7) (v:=?_) (by rw[List.getElem?_toArray];exact rfl) (by kernel_rfl) (by kernel_rfl) (by kernel_rfl) (by exact fun _ _ _ h=>h) (Or.inl ⟨by rfl,(by rintro W ⟨c1,d1⟩;go_simp<;>with_reducible rfl)⟩) (by assumption) ?_;try simp only  [Act.put,List.setIfInBounds_toArray,List.set_cons_zero,List.set_cons_succ]
          refine wpAnyH_take  (i:=8) (v:=?_) (by rw[List.getElem?_toArray];exact rfl) (by kernel_rfl) (by kernel_rfl) (by kernel_rfl) (by exact fun _ _ _ h=>h) (Or.inl ⟨by rfl,(by rintro W ⟨c1,d1⟩;go_simp<;>with_reducible rfl)⟩) (by assumption) ?_;try simp only  [Act.put,List.setIfInBounds_toArray,List.set_cons_zero,List.set_cons_succ]
          refine wpAnyH_take  (i:=9) (v:=?_) (by rw[List.getElem?_toArray];exact rfl) (by kernel_rfl) (by kernel_rfl) (by kernel_rfl) (by exact fun _ _ _ h=>h) (Or.inl ⟨by rfl,(by rintro W ⟨c1,d1⟩;go_simp<;>with_reducible rfl)⟩) (by assumption) ?_;try simp only  [Act.put,List.setIfInBounds_toArray,List.set_cons_zero,List.set_cons_succ]
          refine wpAnyH_take  (i:=10) (v:=?_) (by rw[List.getElem?_toArray];exact rfl) (by kernel_rfl) (by kernel_rfl) (by kernel_rfl) (by exact fun _ _ _ h=>h) (Or.inl ⟨by rfl,(by rintro W ⟨c1,d1⟩;go_simp<;>with_reducible rfl)⟩) (by assumption) ?_;try simp only  [Act.put,List.setIfInBounds_toArray,List.set_cons_zero,List.set_cons_succ]
          refine wpAnyH_take  (i:=11) (v:=?_) (by rw[List.getElem?_toArray];exact rfl) (by kernel_rfl) (by kernel_rfl) (by kernel_rfl) (by exact fun _ _ _ h=>h) (Or.inl ⟨by rfl,(by rintro W ⟨c1,d1⟩;go_simp<;>with_reducible rfl)⟩) (by assumption) ?_;try simp only  [Act.put,List.setIfInBounds_toArray,List.set_cons_zero,List.set_cons_succ]
          refine wpAnyH_take  (i:=12) (v:=?_) (by rw[List.getElem?_toArray];exact rfl) (by kernel_rfl) (by kernel_rfl) (by kernel_rfl) (by exact fun _ _ _ h=>h) (Or.inl ⟨by rfl,(by rintro W ⟨c1,d1⟩;go_simp<;>with_reducible rfl)⟩) (by assumption) ?_;try simp only  [Act.put,List.setIfInBounds_toArray,List.set_cons_zero,List.set_cons_succ]
          refine wpAnyH_take  (i:=13) (v:=?_) (by rw[List.getElem?_toArray];exact rfl) (by kernel_rfl) (by kernel_rfl) (by kernel_rfl) (by exact fun _ _ _ h=>h) (Or.inl ⟨by rfl,(by rintro W ⟨c1,d1⟩;go_simp<;>with_reducible rfl)⟩) (by assumption) ?_;try simp only  [Act.put,List.setIfInBounds_toArray,List.set_cons_zero,List.set_cons_succ]
          refine wpAnyH_take  (i:=14) (v:=?_) (by rw[List.getElem?_toArray];exact rfl) (by kernel_rfl) (by kernel_rfl) (by kernel_rfl) (by exact fun _ _ _ h=>h) (Or.inl ⟨by rfl,(by rintro W ⟨c1,d1⟩;go_simp<;>with_reducible rfl)⟩) (by assumption) ?_;try simp only  [Act.put,List.setIfInBounds_toArray,List.set_cons_zero,List.set_cons_succ]
          refine wpAnyH_take  (i:=15) (v:=?_) (by rw[List.getElem?_toArray];exact rfl) (by kernel_rfl) (by kernel_rfl) (by kernel_rfl) (by exact fun _ _ _ h=>h) (Or.inl ⟨by rfl,(by rintro W ⟨c1,d1⟩;go_simp<;>with_reducible rfl)⟩) (by assumption) ?_;try simp only  [Act.put,List.setIfInBounds_toArray,List.set_cons_zero,List.set_cons_succ]
          refine wpAnyH_take  (i:=16) (v:=?_) (by rw[List.getElem?_toArray];exact rfl) (by kernel_rfl) (by kernel_rfl) (by kernel_rfl) (by exact fun _ _ _ h=>h) (Or.inl ⟨by rfl,(by rintro W ⟨c1,d1⟩;go_simp<;>with_reducible rfl)⟩) (by assumption) ?_;try simp only  [Act.put,List.setIfInBounds_toArray,List.set_cons_zero,List.set_cons_succ]
          refine wpAnyH_take  (i:=17) (v:=?_) (by rw[List.getElem?_toArray];exact rfl) (by kernel_rfl) (by kernel_rfl) (by kernel_rfl) (by exact fun _ _ _ h=>h) (Or.inl ⟨by rfl,(by rintro W ⟨c1,d1⟩;go_simp<;>with_reducible rfl)⟩) (by assumption) ?_;try simp only  [Act.put,List.setIfInBounds_toArray,List.set_cons_zero,List.set_cons_succ]
          refine wpAnyH_done (by kernel_rfl) ?_ _;have HKW:=lH (show Kept wr (wr.drew.drew) from((Kept.drew wr).trans (Kept.drew _)));obtain⟨c1,d1⟩:=HS.out _ HKW.out;have hbw:(wr.drew.drew).heap.size=wr.heap.size:=rfl;obtain⟨W1,hW1⟩:∃W,wr.drew.drew=W:=⟨_,rfl⟩
          rw[hW1] at HKW hbw c1 d1;try rw[hW1]
          try simp only[hW1]
          clear hW1;have hbase:w.heap.size≤W1.heap.size:=by rw[hbw];exact HB2.out.size
          have HBS:=lH hbase;have OK:=lH (HO.out.kept HKW.out);have hacc16:acc.length≤16:=by omega
          clear hbw;go_wp2_with (at_builtin;refine wpList_append_lies _ rfl _ _ _ rfl w.heap.size 9 i0 _ 1 16 Tryz.underlying47 hi hz0 hz1 hz2 rfl (by decide) u5 acc.length (rowCells StrLay acc) rfl (OK.out.1.alloc _) ⟨W1.heap.size,0,none⟩ 1 1 (StrLay.cs (nm l' k)) rfl rfl (World.news_of_block (cs:=#[.string (nm l' k)]) (t:=9) (fr:=(0,0)) (W1.alloc_heap_new _)) (one_s (nm l' k)) (by decide) (by unfold maxLen;omega) (by omega) (by rw[World.size_alloc];exact Nat.le_succ_of_le HBS.out) (W1.heap.size+1) (World.size_alloc _ _) ?_;intro g cap1 w7 hown1 hgrow hg hlt7;refine Hid.out ?_)
          refine lH ?_;have HBW:=lH (((HB2.out.trans (Below.mono HKW.out HB2.out.size)).alloc (by exact HBS.out) _).grown hgrow (by rw[World.size_alloc];exact Nat.le_succ_of_le HBS.out) (fun j hj=>(HO.out.1.lt j hj).1));go_wp2;go_roundw
          case rel=>exact⟨i,k+1,f2,acc++[nm l' k],by omega,by omega,by go_num,by go_num,HN.out,by omega,Own.snoc hown1 rfl HO.out.2 HSK.out,HBW.out,by rw[List.length_append];simp only[List.length_cons,List.length_nil];omega⟩
          case measure=>simp[intOf];omega
        · have e2:ltS (nm l' k) (nm l i)=false:=by simpa using e2
          have E2:=lH e2;have e2':Op.bytesLess (nm l' k).toList (nm l i).toList=false:=e2;clear e2;have HN:=lH (show acc++[nm l i]++namesV f2 (l.drop (i+1)) (l'.drop (k+1))=NS by rw[←HQ.out,next_both HI.out HK.out E1.out E2.out];simp);go_wp2;clear c1 d1;refine wp_region_held_drew (S:=fun W=>W.cell? ⟨b,off+i*2,none⟩=some (.string (nm l i))∧W.cell? ⟨b',off'+k*2,none⟩=some (.string (nm l' k))) (by kernel_rfl) (HS.out _ (Kept.drew _)) (fun hHeld=>?_);refine wpAnyH_take  (i:=0) (v:=?_) (by rw[List.getElem?_toArray];exact rfl) (by kernel_rfl) (by kernel_rfl) (by kernel_rfl) (by exact fun _ _ _ h=>h) (Or.inl ⟨by rfl,(by rintro W ⟨c1,d1⟩;go_simp<;>with_reducible rfl)⟩) (by assumption) ?_;try simp only  [Act.put,List.setIfInBounds_toArray,List.set_cons_zero,List.set_cons_succ]
          refine wpAnyH_take  (i:=1) (v:=?_) (by rw[List.getElem?_toArray];exact rfl) (by kernel_rfl) (by kernel_rfl) (by kernel_rfl) (by exact fun _ _ _ h=>h) (Or.inl ⟨by rfl,(by rintro W ⟨c1,d1⟩;go_simp<;>with_reducible rfl)⟩) (by assumption) ?_;try simp only  [Act.put,List.setIfInBounds_toArray,List.set_cons_zero,List.set_cons_succ]
          refine wpAnyH_take  (i:=2) (v:=?_) (by rw[List.getElem?_toArray];exact rfl) (by kernel_rfl) (by kernel_rfl) (by kernel_rfl) (by exact fun _ _ _ h=>h) (Or.inl ⟨by rfl,(by rintro W ⟨c1,d1⟩;go_simp<;>with_reducible rfl)⟩) (by assumption) ?_;try simp only  [Act.put,List.setIfInBounds_toArray,List.set_cons_zero,List.set_cons_succ]
          refine wpAnyH_take  (i:=3) (v:=?_) (by rw[List.getElem?_toArray];exact rfl) (by kernel_rfl) (by kernel_rfl) (by kernel_rfl) (by exact fun _ _ _ h=>h) (Or.inl ⟨by rfl,(by rintro W ⟨c1,d1⟩;go_simp<;>with_reducible rfl)⟩) (by assumption) ?_;try simp only  [Act.put,List.setIfInBounds_toArray,List.set_cons_zero,List.set_cons_succ]
          refine wpAnyH_take  (i:=4) (v:=?_) (by rw[List.getElem?_toArray];exact rfl) (by kernel_rfl) (by kernel_rfl) (by kernel_rfl) (by exact fun _ _ _ h=>h) (Or.inl ⟨by rfl,(by rintro W ⟨c1,d1⟩;go_simp<;>with_reducible rfl)⟩) (by assumption) ?_;try simp only  [Act.put,List.setIfInBounds_toArray,List.set_cons_zero,List.set_cons_succ]
          refine wpAnyH_take  (i:=5) (v:=?_) (by rw[List.getElem?_toArray];exact rfl) (by kernel_rfl) (by kernel_rfl) (by kernel_rfl) (by exact fun _ _ _ h=>h) (Or.inl ⟨by rfl,(by rintro W ⟨c1,d1⟩;go_simp<;>with_reducible rfl)⟩) (by assumption) ?_;try simp only  [Act.put,List.setIfInBounds_toArray,List.set_cons_zero,List.set_cons_succ]
          refine wpAnyH_take  (i:=6) (v:=?_) (by rw[List.getElem?_toArray];exact rfl) (by kernel_rfl) (by kernel_rfl) (by kernel_rfl) (by exact fun _ _ _ h=>h) (Or.inl ⟨by rfl,(by rintro W ⟨c1,d1⟩;go_simp<;>with_reducible rfl)⟩) (by assumption) ?_;try simp only  [Act.put,List.setIfInBounds_toArray,List.set_cons_zero,List.set_cons_succ]
          refine wpAnyH_take  (i:=7) (v:=?_) (by rw[List.getElem?_toArray];exact rfl) (by kernel_rfl) (by kernel_rfl) (by kernel_rfl) (by exact fun _ _ _ h=>h) (Or.inl ⟨by rfl,(by rintro W ⟨c1,d1⟩;go_simp<;>with_reducible rfl)⟩) (by assumption) ?_;try simp only  [Act.put,List.setIfInBounds_toArray,List.set_cons_zero,List.set_cons_succ]
          refine wpAnyH_take  (i:=8) (v:=?_) (by rw[List.getElem?_toArray];exact rfl) (by kernel_rfl) (by kernel_rfl) (by kernel_rfl) (by exact fun _ _ _ h=>h) (Or.inl ⟨by rfl,(by rintro W ⟨c1,d1⟩;go_simp<;>with_reducible rfl)⟩) (by assumption) ?_;try simp only  [Act.put,List.setIfInBounds_toArray,List.set_cons_zero,List.set_cons_succ]
          refine wpAnyH_take  (i:=9) (v:=?_) (by rw[List.getElem?_toArray];exact rfl) (by kernel_rfl) (by kernel_rfl) (by kernel_rfl) (by exact fun _ _ _ h=>h) (Or.inl ⟨by rfl,(by rintro W ⟨c1,d1⟩;go_simp<;>with_reducible rfl)⟩) (by assumption) ?_;try simp only  [Act.put,List.setIfInBounds_toArray,List.set_cons_zero,List.set_cons_succ]
          refine wpAnyH_take  (i:=10) (v:=?_) (by rw[List.getElem?_toArray];exact rfl) (by kernel_rfl) (by kernel_rfl) (by kernel_rfl) (by exact fun _ _ _ h=>h) (Or.inl ⟨by rfl,(by rintro W ⟨c1,d1⟩;go_simp<;>with_reducible rfl)⟩) (by assumption) ?_;try simp only  [Act.put,List.setIfInBounds_toArray,List.set_cons_zero,List.set_cons_succ]
          refine wpAnyH_take  (i:=11) (v:=?_) (by rw[List.getElem?_toArray];exact rfl) (by kernel_rfl) (by kernel_rfl) (by kernel_rfl) (by exact fun _ _ _ h=>h) (Or.inl ⟨by rfl,(by rintro W ⟨c1,d1⟩;go_simp<;>with_reducible rfl)⟩) (by assumption) ?_;try simp only  [Act.put,List.setIfInBounds_toArray,List.set_cons_zero,List.set_cons_succ]
          refine wpAnyH_take  (i:=12) (v:=?_) (by rw[List.getElem?_toArray];exact rfl) (by kernel_rfl) (by kernel_rfl) (by kernel_rfl) (by exact fun _ _ _ h=>h) (Or.inl ⟨by rfl,(by rintro W ⟨c1,d1⟩;go_simp<;>with_reducible rfl)⟩) (by assumption) ?_;try simp only  [Act.put,List.setIfInBounds_toArray,List.set_cons_zero,List.set_cons_succ]
          refine wpAnyH_take  (i:=13) (v:=?_) (by rw[List.getElem?_toArray];exact rfl) (by kernel_rfl) (by kernel_rfl) (by kernel_rfl) (by exact fun _ _ _ h=>h) (Or.inl ⟨by rfl,(by rintro W ⟨c1,d1⟩;go_simp<;>with_reducible rfl)⟩) (by assumption) ?_;try simp only  [Act.put,List.setIfInBounds_toArray,List.set_cons_zero,List.set_cons_succ]
          refine wpAnyH_take  (i:=14) (v:=?_) (by rw[List.getElem?_toArray];exact rfl) (by kernel_rfl) (by kernel_rfl) (by kernel_rfl) (by exact fun _ _ _ h=>h) (Or.inl ⟨by rfl,(by rintro W ⟨c1,d1⟩;go_simp<;>with_reducible rfl)⟩) (by assumption) ?_;try simp only  [Act.put,List.setIfInBounds_toArray,List.set_cons_zero,List.set_cons_succ]
          refine wpAnyH_take  (i:=15) (v:=?_) (by rw[List.getElem?_toArray];exact rfl) (by kernel_rfl) (by kernel_rfl) (by kernel_rfl) (by exact fun _ _ _ h=>h) (Or.inl ⟨by rfl,(by rintro W ⟨c1,d1⟩;go_simp<;>with_reducible rfl)⟩) (by assumption) ?_;try simp only  [Act.put,List.setIfInBounds_toArray,List.set_cons_zero,List.set_cons_succ]
          refine wpAnyH_take  (i:=16) (v:=?_) (by rw[List.getElem?_toArray];exact rfl) (by kernel_rfl) (by kernel_rfl) (by kernel_rfl) (by exact fun _ _ _ h=>h) (Or.inl ⟨by rfl,(by rintro W ⟨c1,d1⟩;go_simp<;>with_reducible rfl)⟩) (by assumption) ?_;try simp only  [Act.put,List.setIfInBounds_toArray,List.set_cons_zero,List.set_cons_succ]
          refine wpAnyH_take  (i:=17) (v:=?_) (by rw[List.getElem?_toArray];exact rfl) (by kernel_rfl) (by kernel_rfl) (by kernel_rfl) (by exact fun _ _ _ h=>h) (Or.inl ⟨by rfl,(by rintro W ⟨c1,d1⟩;go_simp<;>with_reducible rfl)⟩) (by assumption) ?_;try simp only  [Act.put,List.setIfInBounds_toArray,List.set_cons_zero,List.set_cons_succ]
          refine wpAnyH_take  (i:=18) (v:=?_) (by rw[List.getElem?_toArray];exact rfl) (by kernel_rfl) (by kernel_rfl) (by kernel_rfl) (by exact fun _ _ _ h=>h) (Or.inl ⟨by rfl,(by rintro W ⟨c1,d1⟩;go_simp<;>with_reducible rfl)⟩) (by assumption) ?_;try simp only  [Act.put,List.setIfInBounds_toArray,List.set_cons_zero,List.set_cons_succ]
          refine wpAnyH_take  (i:=19) (v:=?_) (by rw[List.getElem?_toArray];exact rfl) (by kernel_rfl) (by kernel_rfl) (by kernel_rfl) (by exact fun _ _ _ h=>h) (Or.inl ⟨by rfl,(by rintro W ⟨c1,d1⟩;go_simp<;>with_reducible rfl)⟩) (by assumption) ?_;try simp only  [Act.put,List.setIfInBounds_toArray,List.set_cons_zero,List.set_cons_succ]
          refine wpAnyH_take  (i:=20) (v:=?_) (by rw[List.getElem?_toArray];exact rfl) (by kernel_rfl) (by kernel_rfl) (by kernel_rfl) (by exact fun _ _ _ h=>h) (Or.inl ⟨by rfl,(by rintro W ⟨c1,d1⟩;go_simp<;>with_reducible rfl)⟩) (by assumption) ?_;try simp only  [Act.put,List.setIfInBounds_toArray,List.set_cons_zero,List.set_cons_succ]
          refine wpAnyH_take  (i:=21) (v:=?_) (by rw[List.getElem?_toArray];exact rfl) (by kernel_rfl) (by kernel_rfl) (by kernel_rfl) (by exact fun _ _ _ h=>h) (Or.inl ⟨by rfl,(by rintro W ⟨c1,d1⟩;go_simp<;>with_reducible rfl)⟩) (by assumption) ?_;try simp only  [Act.put,List.setIfInBounds_toArray,List.set_cons_zero,List.set_cons_succ]
          refine wpAnyH_take  (i:=22) (v:=?_) (by rw[List.getElem?_toArray];exact rfl) (by kernel_rfl) (by kernel_rfl) (by kernel_rfl) (by exact fun _ _ _ h=>h) (Or.inl ⟨by rfl,(by rintro W ⟨c1,d1⟩;go_simp<;>with_reducible rfl)⟩) (by assumption) ?_;try simp only  [Act.put,List.setIfInBounds_toArray,List.set_cons_zero,List.set_cons_succ]
          refine wpAnyH_take  (i:=23) (v:=?_) (by rw[List.getElem?_toArray];exact rfl) (by kernel_rfl) (by kernel_rfl) (by kernel_rfl) (by exact fun _ _ _ h=>h) (Or.inl ⟨by rfl,(by rintro W ⟨c1,d1⟩;go_simp<;>with_reducible rfl)⟩) (by assumption) ?_;try simp only  [Act.put,List.setIfInBounds_toArray,List.set_cons_zero,List.set_cons_succ]
          refine wpAnyH_done (by kernel_rfl) ?_ _;go_wp2;refine wp_region_held_drew (S:=fun W=>W.cell? ⟨b,off+i*2,none⟩=some (.string (nm l i))∧W.cell? ⟨b',off'+k*2,none⟩=some (.string (nm l' k))) (by kernel_rfl) (HS.out _ ((Kept.drew _).trans (Kept.drew _))) (fun hHeld=>?_);refine wpAnyH_take  (i:=0) (v:=?_) (by rw[List.getElem?_toArray];exact rfl) (by kernel_rfl) (by kernel_rfl) (by kernel_rfl) (by exact fun _ _ _ h=>h) (Or.inl ⟨by rfl,(by rintro W ⟨c1,d1⟩;go_simp<;>with_reducible rfl)⟩) (by assumption) ?_;try simp only  [Act.put,List.setIfInBounds_toArray,List.set_cons_zero,List.set_cons_succ]
          refine wpAnyH_take  (i:=1) (v:=?_) (by rw[List.getElem?_toArray];exact rfl) (by kernel_rfl) (by kernel_rfl) (by kernel_rfl) (by exact fun _ _ _ h=>h) (Or.inl ⟨by rfl,(by rintro W ⟨c1,d1⟩;go_simp<;>with_reducible rfl)⟩) (by assumption) ?_;try simp only  [Act.put,List.setIfInBounds_toArray,List.set_cons_zero,List.set_cons_succ]
          refine wpAnyH_take  (i:=2) (v:=?_) (by rw[List.getElem?_toArray];exact rfl) (by kernel_rfl) (by kernel_rfl) (by kernel_rfl) (by exact fun _ _ _ h=>h) (Or.inl ⟨by rfl,(by rintro W ⟨c1,d1⟩;go_simp<;>with_reducible rfl)⟩) (by assumption) ?_;try simp only  [Act.put,List.setIfInBounds_toArray,List.set_cons_zero,List.set_cons_succ]
          refine wpAnyH_take  (i:=3) (v:=?_) (by rw[List.getElem?_toArray];exact rfl) (by kernel_rfl) (by kernel_rfl) (by kernel_rfl) (by exact fun _ _ _ h=>h) (Or.inl ⟨by rfl,(by rintro W ⟨c1,d1⟩;go_simp<;>with_reducible rfl)⟩) (by assumption) ?_;try simp only  [Act.put,List.setIfInBounds_toArray,List.set_cons_zero,List.set_cons_succ]
          refine wpAnyH_take  (i:=4) (v:=?_) (by rw[List.getElem?_toArray];exact rfl) (by kernel_rfl) (by kernel_rfl) (by kernel_rfl) (by exact fun _ _ _ h=>h) (Or.inl ⟨by rfl,(by rintro W ⟨c1,d1⟩;go_simp<;>with_reducible rfl)⟩) (by assumption) ?_;try simp only  [Act.put,List.setIfInBounds_toArray,List.set_cons_zero,List.set_cons_succ]
          refine wpAnyH_take  (i:=5) (v:=?_) (by rw[List.getElem?_toArray];exact rfl) (by kernel_rfl) (by kernel_rfl) (by kernel_rfl) (by exact fun _ _ _ h=>h) (Or.inl ⟨by rfl,(by rintro W ⟨c1,d1⟩;go_simp<;>with_reducible rfl)⟩) (by assumption) ?_;try simp only  [Act.put,List.setIfInBounds_toArray,List.set_cons_zero,List.set_cons_succ]
          refine wpAnyH_take  (i:=6) (v:=?_) (by rw[List.getElem?_toArray];exact rfl) (by kernel_rfl) (by kernel_rfl) (by kernel_rfl) (by exact fun _ _ _ h=>h) (Or.inl ⟨by rfl,(by rintro W ⟨c1,d1⟩;go_simp<;>with_reducible rfl)⟩) (by assumption) ?_;try simp only  [Act.put,List.setIfInBounds_toArray,List.set_cons_zero,List.set_cons_succ]
          refine wpAnyH_take  (i:=7) (v:=?_) (by rw[List.getElem?_toArray];exact rfl) (by kernel_rfl) (by kernel_rfl) (by kernel_rfl) (by exact fun _ _ _ h=>h) (Or.inl ⟨by rfl,(by rintro W ⟨c1,d1⟩;go_simp<;>with_reducible rfl)⟩) (by assumption) ?_;try simp only  [Act.put,List.setIfInBounds_toArray,List.set_cons_zero,List.set_cons_succ]
          refine wpAnyH_take  (i:=8) (v:=?_) (by rw[List.getElem?_toArray];exact rfl) (by kernel_rfl) (by kernel_rfl) (by kernel_rfl) (by exact fun _ _ _ h=>h) (Or.inl ⟨by rfl,(by rintro W ⟨c1,d1⟩;go_simp<;>with_reducible rfl)⟩) (by assumption) ?_;try simp only  [Act.put,List.setIfInBounds_toArray,List.set_cons_zero,List.set_cons_succ]
          refine wpAnyH_take  (i:=9) (v:=?_) (by rw[List.getElem?_toArray];exact rfl) (by kernel_rfl) (by kernel_rfl) (by kernel_rfl) (by exact fun _ _ _ h=>h) (Or.inl ⟨by rfl,(by rintro W ⟨c1,d1⟩;go_simp<;>with_reducible rfl)⟩) (by assumption) ?_;try simp only  [Act.put,List.setIfInBounds_toArray,List.set_cons_zero,List.set_cons_succ]
          refine wpAnyH_take  (i:=10) (v:=?_) (by rw[List.getElem?_toArray];exact rfl) (by kernel_rfl) (by kernel_rfl) (by kernel_rfl) (by exact fun _ _ _ h=>h) (Or.inl ⟨by rfl,(by rintro W ⟨c1,d1⟩;go_simp<;>with_reducible rfl)⟩) (by assumption) ?_;try simp only  [Act.put,List.setIfInBounds_toArray,List.set_cons_zero,List.set_cons_succ]
          refine wpAnyH_take  (i:=11) (v:=?_) (by rw[List.getElem?_toArray];exact rfl) (by kernel_rfl) (by kernel_rfl) (by kernel_rfl) (by exact fun _ _ _ h=>h) (Or.inl ⟨by rfl,(by rintro W ⟨c1,d1⟩;go_simp<;>with_reducible rfl)⟩) (by assumption) ?_;try simp only  [Act.put,List.setIfInBounds_toArray,List.set_cons_zero,List.set_cons_succ]
          refine wpAnyH_take  (i:=12) (v:=?_) (by rw[List.getElem?_toArray];exact rfl) (by kernel_rfl) (by kernel_rfl) (by kernel_rfl) (by exact fun _ _ _ h=>h) (Or.inl ⟨by rfl,(by rintro W ⟨c1,d1⟩;go_simp<;>with_reducible rfl)⟩) (by assumption) ?_;try simp only  [Act.put,List.setIfInBounds_toArray,List.set_cons_zero,List.set_cons_succ]
          refine wpAnyH_take  (i:=13) (v:=?_) (by rw[List.getElem?_toArray];exact rfl) (by kernel_rfl) (by kernel_rfl) (by kernel_rfl) (by exact fun _ _ _ h=>h) (Or.inl ⟨by rfl,(by rintro W ⟨c1,d1⟩;go_simp<;>with_reducible rfl)⟩) (by assumption) ?_;try simp only  [Act.put,List.setIfInBounds_toArray,List.set_cons_zero,List.set_cons_succ]
          refine wpAnyH_take  (i:=14) (v:=?_) (by rw[List.getElem?_toArray];exact rfl) (by kernel_rfl) (by kernel_rfl) (by kernel_rfl) (by exact fun _ _ _ h=>h) (Or.inl ⟨by rfl,(by rintro W ⟨c1,d1⟩;go_simp<;>with_reducible rfl)⟩) (by assumption) ?_;try simp only  [Act.put,List.setIfInBounds_toArray,List.set_cons_zero,List.set_cons_succ]
          refine wpAnyH_take  (i:=15) (v:=?_) (by rw[List.getElem?_toArray];exact rfl) (by kernel_rfl) (by kernel_rfl) (by kernel_rfl) (by exact fun _ _ _ h=>h) (Or.inl ⟨by rfl,(by rintro W ⟨c1,d1⟩;go_simp<;>with_reducible rfl)⟩) (by assumption) ?_;try simp only  [Act.put,List.setIfInBounds_toArray,List.set_cons_zero,List.set_cons_succ]
          refine wpAnyH_take  (i:=16) (v:=?_) (by rw[List.getElem?_toArray];exact rfl) (by kernel_rfl) (by kernel_rfl) (by kernel_rfl) (by exact fun _ _ _ h=>h) (Or.inl ⟨by rfl,(by rintro W ⟨c1,d1⟩;go_simp<;>with_reducible rfl)⟩) (by assumption) ?_;try simp only  [Act.put,List.setIfInBounds_toArray,List.set_cons_zero,List.set_cons_succ]
          refine wpAnyH_take  (i:=17) (v:=?_) (by rw[List.getElem?_toArray];exact rfl) (by kernel_rfl) (by kernel_rfl) (by kernel_rfl) (by exact fun _ _ _ h=>h) (Or.inl ⟨by rfl,(by rintro W ⟨c1,d1⟩;go_simp<;>with_reducible rfl)⟩) (by assumption) ?_;try simp only  [Act.put,List.setIfInBounds_toArray,List.set_cons_zero,List.set_cons_succ]
          refine wpAnyH_done (by kernel_rfl) ?_ _;have HKW:=lH (show Kept wr (wr.drew.drew) from((Kept.drew wr).trans (Kept.drew _)));obtain⟨c1,d1⟩:=HS.out _ HKW.out;have hbw:(wr.drew.drew).heap.size=wr.heap.size:=rfl;obtain⟨W1,hW1⟩:∃W,wr.drew.drew=W:=⟨_,rfl⟩
          rw[hW1] at HKW hbw c1 d1;try rw[hW1]
          try simp only[hW1]
          clear hW1;have hbase:w.heap.size≤W1.heap.size:=by rw[hbw];exact HB2.out.size
          have HBS:=lH hbase;have OK:=lH (HO.out.kept HKW.out);have hacc16:acc.length≤16:=by omega
          clear hbw;go_wp2_with (at_builtin;refine wpList_append_lies _ rfl _ _ _ rfl w.heap.size 9 i0 _ 1 16 Tryz.underlying47 hi hz0 hz1 hz2 rfl (by decide) u5 acc.length (rowCells StrLay acc) rfl (OK.out.1.alloc _) ⟨W1.heap.size,0,none⟩ 1 1 (StrLay.cs (nm l i)) rfl rfl (World.news_of_block (cs:=#[.string (nm l i)]) (t:=9) (fr:=(0,0)) (W1.alloc_heap_new _)) (one_s (nm l i)) (by decide) (by unfold maxLen;omega) (by omega) (by rw[World.size_alloc];exact Nat.le_succ_of_le HBS.out) (W1.heap.size+1) (World.size_alloc _ _) ?_;intro g cap1 w7 hown1 hgrow hg hlt7;refine Hid.out ?_)
          refine lH ?_;have HBW:=lH (((HB2.out.trans (Below.mono HKW.out HB2.out.size)).alloc (by exact HBS.out) _).grown hgrow (by rw[World.size_alloc];exact Nat.le_succ_of_le HBS.out) (fun j hj=>(HO.out.1.lt j hj).1));go_wp2;go_roundw
          case rel=>exact⟨i+1,k+1,f2,acc++[nm l i],by omega,by omega,by go_num,by go_num,HN.out,by omega,Own.snoc hown1 rfl HO.out.2 HSI.out,HBW.out,by rw[List.length_append];simp only[List.length_cons,List.length_nil];omega⟩
          case measure=>simp[intOf];omega
    · have hk3:(len':Int)≤(k:Int):=by omega
      have hk4:decide ((k:Int)<(len':Int))=false:=decide_eq_false (by omega);have hk5:¬(k:Int)<(len':Int):=by omega
      have hd:decide (len'≤k)=true:=decide_eq_true (by omega);have hi3:(i:Int)<(len:Int):=by omega
      have HS:=lH (show ∀W,Kept wr W→W.cell? ⟨b,off+i*2,none⟩=some (.string (nm l i)) from fun W kk=>cell_later kk c1);clear hB;have HN:=lH (show acc++[nm l i]++namesV f2 (l.drop (i+1)) (l'.drop (k))=NS by rw[←HQ.out,next_first HI.out (.inl (by rw[HL'.out];omega))];simp);go_wp2;clear c1;refine wp_region_held_drew (S:=fun W=>W.cell? ⟨b,off+i*2,none⟩=some (.string (nm l i))) (by kernel_rfl) (HS.out _ (Kept.drew _)) (fun hHeld=>?_);refine wpAnyH_take  (i:=0) (v:=?_) (by rw[List.getElem?_toArray];exact rfl) (by kernel_rfl) (by kernel_rfl) (by kernel_rfl) (by exact fun _ _ _ h=>h) (Or.inl ⟨by rfl,(by intro W hSw;go_simp<;>with_reducible rfl)⟩) (by assumption) ?_;try simp only  [Act.put,List.setIfInBounds_toArray,List.set_cons_zero,List.set_cons_succ]
      refine wpAnyH_take  (i:=1) (v:=?_) (by rw[List.getElem?_toArray];exact rfl) (by kernel_rfl) (by kernel_rfl) (by kernel_rfl) (by exact fun _ _ _ h=>h) (Or.inl ⟨by rfl,(by intro W hSw;go_simp<;>with_reducible rfl)⟩) (by assumption) ?_;try simp only  [Act.put,List.setIfInBounds_toArray,List.set_cons_zero,List.set_cons_succ]
      refine wpAnyH_take  (i:=2) (v:=?_) (by rw[List.getElem?_toArray];exact rfl) (by kernel_rfl) (by kernel_rfl) (by kernel_rfl) (by exact fun _ _ _ h=>h) (Or.inl ⟨by rfl,(by intro W hSw;go_simp<;>with_reducible rfl)⟩) (by assumption) ?_;try simp only  [Act.put,List.setIfInBounds_toArray,List.set_cons_zero,List.set_cons_succ]
      refine wpAnyH_take  (i:=3) (v:=?_) (by rw[List.getElem?_toArray];exact rfl) (by kernel_rfl) (by kernel_rfl) (by kernel_rfl) (by exact fun _ _ _ h=>h) (Or.inl ⟨by rfl,(by intro W hSw;go_simp<;>with_reducible rfl)⟩) (by assumption) ?_;try simp only  [Act.put,List.setIfInBounds_toArray,List.set_cons_zero,List.set_cons_succ]
      refine wpAnyH_take  (i:=4) (v:=?_) (by rw[List.getElem?_toArray];exact rfl) (by kernel_rfl) (by kernel_rfl) (by kernel_rfl) (by exact fun _ _ _ h=>h) (Or.inl ⟨by rfl,(by intro W hSw;go_simp<;>with_reducible rfl)⟩) (by assumption) ?_;try simp only  [Act.put,List.setIfInBounds_toArray,List.set_cons_zero,List.set_cons_succ]
      refine wpAnyH_take  (i:=5) (v:=undef) (by rw[List.getElem?_toArray];exact rfl) (by kernel_rfl) (by kernel_rfl) (by kernel_rfl) (by exact fun _ _ _ h=>h) (Or.inr ⟨by rfl,rfl⟩) (by assumption) ?_;try simp only  [Act.put,List.setIfInBounds_toArray,List.set_cons_zero,List.set_cons_succ]
      refine wpAnyH_take  (i:=6) (v:=undef) (by rw[List.getElem?_toArray];exact rfl) (by kernel_rfl) (by kernel_rfl) (by kernel_rfl) (by exact fun _ _ _ h=>h) (Or.inr ⟨by rfl,rfl⟩) (by assumption) ?_;try simp only  [Act.put,List.setIfInBounds_toArray,List.set_cons_zero,List.set_cons_succ]
      refine wpAnyH_take  (i:=7) (v:=undef) (by rw[List.getElem?_toArray];exact rfl) (by kernel_rfl) (by kernel_rfl) (by kernel_rfl) (by exact fun _ _ _ h=>h) (Or.inr ⟨by rfl,rfl⟩) (by assumption) ?_;try simp only  [Act.put,List.setIfInBounds_toArray,List.set_cons_zero,List.set_cons_succ]
      refine wpAnyH_take  (i:=8) (v:=undef) (by rw[List.getElem?_toArray];exact rfl) (by kernel_rfl) (by kernel_rfl) (by kernel_rfl) (by exact fun _ _ _ h=>h) (Or.inr ⟨by rfl,rfl⟩) (by assumption) ?_;try simp only  [Act.put,List.setIfInBounds_toArray,List.set_cons_zero,List.set_cons_succ]
      refine wpAnyH_take  (i:=9) (v:=undef) (by rw[List.getElem?_toArray];exact rfl) (by kernel_rfl) (by kernel_rfl) (by kernel_rfl) (by exact fun _ _ _ h=>h) (Or.inr ⟨by rfl,rfl⟩) (by assumption) ?_;try simp only  [Act.put,List.setIfInBounds_toArray,List.set_cons_zero,List.set_cons_succ]
      refine wpAnyH_take  (i:=10) (v:=undef) (by rw[List.getElem?_toArray];exact rfl) (by kernel_rfl) (by kernel_rfl) (by kernel_rfl) (by exact fun _ _ _ h=>h) (Or.inr ⟨by rfl,rfl⟩) (by assumption) ?_;try simp only  [Act.put,List.setIfInBounds_toArray,List.set_cons_zero,List.set_cons_succ]
      refine wpAnyH_take  (i:=11) (v:=undef) (by rw[List.getElem?_toArray];exact rfl) (by kernel_rfl) (by kernel_rfl) (by kernel_rfl) (by exact fun _ _ _ h=>h) (Or.inr ⟨by rfl,rfl⟩) (by assumption) ?_;try simp only  [Act.put,List.setIfInBounds_toArray,List.set_cons_zero,List.set_cons_succ]
      refine wpAnyH_take  (i:=12) (v:=undef) (by rw[List.getElem?_toArray];exact rfl) (by kernel_rfl) (by kernel_rfl) (by kernel_rfl) (by exact fun _ _ _ h=>h) (Or.inr ⟨by rfl,rfl⟩) (by assumption) ?_;try simp only  [Act.put,List.setIfInBounds_toArray,List.set_cons_zero,List.set_cons_succ]
      refine wpAnyH_take  (i:=13) (v:=undef) (by rw[List.getElem?_toArray];exact rfl) (by kernel_rfl) (by kernel_rfl) (by kernel_rfl) (by exact fun _ _ _ h=>h) (Or.inr ⟨by rfl,rfl⟩) (by assumption) ?_;try simp only  [Act.put,List.setIfInBounds_toArray,List.set_cons_zero,List.set_cons_succ]
      refine wpAnyH_take  (i:=14) (v:=undef) (by rw[List.getElem?_toArray];exact rfl) (by kernel_rfl) (by kernel_rfl) (by kernel_rfl) (by exact fun _ _ _ h=>h) (Or.inr ⟨by rfl,rfl⟩) (by assumption) ?_;try simp only  [Act.put,List.setIfInBounds_toArray,List.set_cons_zero,List.set_cons_succ]
      refine wpAnyH_take  (i:=15) (v:=undef) (by rw[List.getElem?_toArray];exact rfl) (by kernel_rfl) (by kernel_rfl) (by kernel_rfl) (by exact fun _ _ _ h=>h) (Or.inr ⟨by rfl,rfl⟩) (by assumption) ?_;try simp only  [Act.put,List.setIfInBounds_toArray,List.set_cons_zero,List.set_cons_succ]
      refine wpAnyH_take  (i:=16) (v:=undef) (by rw[List.getElem?_toArray];exact rfl) (by kernel_rfl) (by kernel_rfl) (by kernel_rfl) (by exact fun _ _ _ h=>h) (Or.inr ⟨by rfl,rfl⟩) (by assumption) ?_;try simp only  [Act.put,List.setIfInBounds_toArray,List.set_cons_zero,List.set_cons_succ]
      refine wpAnyH_take  (i:=17) (v:=undef) (by rw[List.getElem?_toArray];exact rfl) (by kernel_rfl) (by kernel_rfl) (by kernel_rfl) (by exact fun _ _ _ h=>h) (Or.inr ⟨by rfl,rfl⟩) (by assumption) ?_;try simp only  [Act.put,List.setIfInBounds_toArray,List.set_cons_zero,List.set_cons_succ]
      refine wpAnyH_take  (i:=18) (v:=undef) (by rw[List.getElem?_toArray];exact rfl) (by kernel_rfl) (by kernel_rfl) (by kernel_rfl) (by exact fun _ _ _ h=>h) (Or.inr ⟨by rfl,rfl⟩) (by assumption) ?_;try simp only  [Act.put,List.setIfInBounds_toArray,List.set_cons_zero,List.set_cons_succ]
      refine wpAnyH_take  (i:=19) (v:=undef) (by rw[List.getElem?_toArray];exact rfl) (by kernel_rfl) (by kernel_rfl) (by kernel_rfl) (by exact fun _ _ _ h=>h) (Or.inr ⟨by rfl,rfl⟩) (by assumption) ?_;try simp only  [Act.put,List.setIfInBounds_toArray,List.set_cons_zero,List.set_cons_succ]
      refine wpAnyH_take  (i:=20) (v:=undef) (by rw[List.getElem?_toArray];exact rfl) (by kernel_rfl) (by kernel_rfl) (by kernel_rfl) (by exact fun _ _ _ h=>h) (Or.inr ⟨by rfl,rfl⟩) (by assumption) ?_;try simp only  [Act.put,List.setIfInBounds_toArray,List.set_cons_zero,List.set_cons_succ]
      refine wpAnyH_take  (i:=21) (v:=undef) (by rw[List.getElem?_toArray];exact rfl) (by kernel_rfl) (by kernel_rfl) (by kernel_rfl) (by exact fun _ _ _ h=>h) (Or.inr ⟨by rfl,rfl⟩) (by assumption) ?_;try simp only  [Act.put,List.setIfInBounds_toArray,List.set_cons_zero,List.set_cons_succ]
      refine wpAnyH_take  (i:=22) (v:=?_) (by rw[List.getElem?_toArray];exact rfl) (by kernel_rfl) (by kernel_rfl) (by kernel_rfl) (by exact fun _ _ _ h=>h) (Or.inl ⟨by rfl,(by intro W hSw;go_simp<;>with_reducible rfl)⟩) (by assumption) ?_;try simp only  [Act.put,List.setIfInBounds_toArray,List.set_cons_zero,List.set_cons_succ]
      refine wpAnyH_take  (i:=23) (v:=?_) (by rw[List.getElem?_toArray];exact rfl) (by kernel_rfl) (by kernel_rfl) (by kernel_rfl) (by exact fun _ _ _ h=>h) (Or.inl ⟨by rfl,(by intro W hSw;go_simp<;>with_reducible rfl)⟩) (by assumption) ?_;try simp only  [Act.put,List.setIfInBounds_toArray,List.set_cons_zero,List.set_cons_succ]
      refine wpAnyH_done (by kernel_rfl) ?_ _;have HKW:=lH (show Kept wr (wr.drew) from(Kept.drew wr));obtain c1:=HS.out _ HKW.out;have hbw:(wr.drew).heap.size=wr.heap.size:=rfl;obtain⟨W1,hW1⟩:∃W,wr.drew=W:=⟨_,rfl⟩
      rw[hW1] at HKW hbw c1;try rw[hW1]
      try simp only[hW1]
      clear hW1;have hbase:w.heap.size≤W1.heap.size:=by rw[hbw];exact HB2.out.size
      have HBS:=lH hbase;have OK:=lH (HO.out.kept HKW.out);have hacc16:acc.length≤16:=by omega
      clear hbw;go_wp2_with (at_builtin;refine wpList_append_lies _ rfl _ _ _ rfl w.heap.size 9 i0 _ 1 16 Tryz.underlying47 hi hz0 hz1 hz2 rfl (by decide) u5 acc.length (rowCells StrLay acc) rfl (OK.out.1.alloc _) ⟨W1.heap.size,0,none⟩ 1 1 (StrLay.cs (nm l i)) rfl rfl (World.news_of_block (cs:=#[.string (nm l i)]) (t:=9) (fr:=(0,0)) (W1.alloc_heap_new _)) (one_s (nm l i)) (by decide) (by unfold maxLen;omega) (by omega) (by rw[World.size_alloc];exact Nat.le_succ_of_le HBS.out) (W1.heap.size+1) (World.size_alloc _ _) ?_;intro g cap1 w7 hown1 hgrow hg hlt7;refine Hid.out ?_)
      refine lH ?_;have HBW:=lH (((HB2.out.trans (Below.mono HKW.out HB2.out.size)).alloc (by exact HBS.out) _).grown hgrow (by rw[World.size_alloc];exact Nat.le_succ_of_le HBS.out) (fun j hj=>(HO.out.1.lt j hj).1));go_wp2;go_roundw
      case rel=>exact⟨i+1,k,f2,acc++[nm l i],by omega,by omega,by go_num,by go_num,HN.out,by omega,Own.snoc hown1 rfl HO.out.2 HSI.out,HBW.out,by rw[List.length_append];simp only[List.length_cons,List.length_nil];omega⟩
      case measure=>simp[intOf];omega
  · by_cases hk2:k<len'
    · obtain⟨b',off',rfl⟩:=HB.out.form.resolve_left (by omega);obtain⟨hb',d1,-⟩:=(HB.out.kept hB).cells hk2;have HK:=lH (show k<l'.length by rw[HL'.out];exact hk2);have HSK:=lH (HF'.out k HK.out).1;obtain⟨f2,rfl⟩:∃f2,fuel=f2+1:=⟨fuel-1,by omega⟩
      have hd:decide (len'≤k)=false:=decide_eq_false (by omega);have hd2:decide (len≤i)=true:=decide_eq_true (by omega);have hi3:decide ((i:Int)<(len:Int))=false:=decide_eq_false (by omega);have hi5:¬(i:Int)<(len:Int):=by omega
      have hi6:(len:Int)≤(i:Int):=by omega
      have hk3:(k:Int)<(len':Int):=by omega
      have HS:=lH (show ∀W,Kept wr W→W.cell? ⟨b',off'+k*2,none⟩=some (.string (nm l' k)) from fun W kk=>cell_later kk d1);clear hB;have HN:=lH (show acc++[nm l' k]++namesV f2 (l.drop (i)) (l'.drop (k+1))=NS by rw[←HQ.out,next_second HK.out (.inl (by rw[HL.out];omega))];simp);go_wp2;clear d1;refine wp_region_held_drew (S:=fun W=>W.cell? ⟨b',off'+k*2,none⟩=some (.string (nm l' k))) (by kernel_rfl) (HS.out _ (Kept.drew _)) (fun hHeld=>?_);refine wpAnyH_take  (i:=0) (v:=?_) (by rw[List.getElem?_toArray];exact rfl) (by kernel_rfl) (by kernel_rfl) (by kernel_rfl) (by exact fun _ _ _ h=>h) (Or.inl ⟨by rfl,(by intro W hSw;go_simp<;>with_reducible rfl)⟩) (by assumption) ?_;try simp only  [Act.put,List.setIfInBounds_toArray,List.set_cons_zero,List.set_cons_succ]
      refine wpAnyH_take  (i:=1) (v:=?_) (by rw[List.getElem?_toArray];exact rfl) (by kernel_rfl) (by kernel_rfl) (by kernel_rfl) (by exact fun _ _ _ h=>h) (Or.inl ⟨by rfl,(by intro W hSw;go_simp<;>with_reducible rfl)⟩) (by assumption) ?_;try simp only  [Act.put,List.setIfInBounds_toArray,List.set_cons_zero,List.set_cons_succ]
      refine wpAnyH_take  (i:=2) (v:=?_) (by rw[List.getElem?_toArray];exact rfl) (by kernel_rfl) (by kernel_rfl) (by kernel_rfl) (by exact fun _ _ _ h=>h) (Or.inl ⟨by rfl,(by intro W hSw;go_simp<;>with_reducible rfl)⟩) (by assumption) ?_;try simp only  [Act.put,List.setIfInBounds_toArray,List.set_cons_zero,List.set_cons_succ]
      refine wpAnyH_take  (i:=3) (v:=?_) (by rw[List.getElem?_toArray];exact rfl) (by kernel_rfl) (by kernel_rfl) (by kernel_rfl) (by exact fun _ _ _ h=>h) (Or.inl ⟨by rfl,(by intro W hSw;go_simp<;>with_reducible rfl)⟩) (by assumption) ?_;try simp only  [Act.put,List.setIfInBounds_toArray,List.set_cons_zero,List.set_cons_succ]
      refine wpAnyH_take  (i:=4) (v:=?_) (by rw[List.getElem?_toArray];exact rfl) (by kernel_rfl) (by kernel_rfl) (by kernel_rfl) (by exact fun _ _ _ h=>h) (Or.inl ⟨by rfl,(by intro W hSw;go_simp<;>with_reducible rfl)⟩) (by assumption) ?_;try simp only  [Act.put,List.setIfInBounds_toArray,List.set_cons_zero,List.set_cons_succ]
      refine wpAnyH_take  (i:=5) (v:=?_) (by rw[List.getElem?_toArray];exact rfl) (by kernel_rfl) (by kernel_rfl) (by kernel_rfl) (by exact fun _ _ _ h=>h) (Or.inl ⟨by rfl,(by intro W hSw;go_simp<;>with_reducible rfl)⟩) (by assumption) ?_;try simp only  [Act.put,List.setIfInBounds_toArray,List.set_cons_zero,List.set_cons_succ]
      refine wpAnyH_take  (i:=6) (v:=?_) (by rw[List.getElem?_toArray];exact rfl) (by kernel_rfl) (by kernel_rfl) (by kernel_rfl) (by exact fun _ _ _ h=>h) (Or.inl ⟨by rfl,(by intro W hSw;go_simp<;>with_reducible rfl)⟩) (by assumption) ?_;try simp only  [Act.put,List.setIfInBounds_toArray,List.set_cons_zero,List.set_cons_succ]
      refine wpAnyH_take  (i:=7) (v:=?_) (by rw[List.getElem?_toArray];exact rfl) (by kernel_rfl) (by kernel_rfl) (by kernel_rfl) (by exact fun _ _ _ h=>h) (Or.inl ⟨by rfl,(by intro W hSw;go_simp<;>with_reducible rfl)⟩) (by assumption) ?_;try simp only  [Act.put,List.setIfInBounds_toArray,List.set_cons_zero,List.set_cons_succ]
      refine wpAnyH_take  (i:=8) (v:=?_) (by rw[List.getElem?_toArray];exact rfl) (by kernel_rfl) (by kernel_rfl) (by kernel_rfl) (by exact fun _ _ _ h=>h) (Or.inl ⟨by rfl,(by intro W hSw;go_simp<;>with_reducible rfl)⟩) (by assumption) ?_;try simp only  [Act.put,List.setIfInBounds_toArray,List.set_cons_zero,List.set_cons_succ]
      refine wpAnyH_take  (i:=9) (v:=?_) (by rw[List.getElem?_toArray];exact rfl) (by kernel_rfl) (by kernel_rfl) (by kernel_rfl) (by exact fun _ _ _ h=>h) (Or.inl ⟨by rfl,(by intro W hSw;go_simp<;>with_reducible rfl)⟩) (by assumption) ?_;try simp only  [Act.put,List.setIfInBounds_toArray,List.set_cons_zero,List.set_cons_succ]
      refine wpAnyH_take  (i:=10) (v:=undef) (by rw[List.getElem?_toArray];exact rfl) (by kernel_rfl) (by kernel_rfl) (by kernel_rfl) (by exact fun _ _ _ h=>h) (Or.inr ⟨by rfl,rfl⟩) (by assumption) ?_;try simp only  [Act.put,List.setIfInBounds_toArray,List.set_cons_zero,List.set_cons_succ]
      refine wpAnyH_take  (i:=11) (v:=undef) (by rw[List.getElem?_toArray];exact rfl) (by kernel_rfl) (by kernel_rfl) (by kernel_rfl) (by exact fun _ _ _ h=>h) (Or.inr ⟨by rfl,rfl⟩) (by assumption) ?_;try simp only  [Act.put,List.setIfInBounds_toArray,List.set_cons_zero,List.set_cons_succ]
      refine wpAnyH_take  (i:=12) (v:=undef) (by rw[List.getElem?_toArray];exact rfl) (by kernel_rfl) (by kernel_rfl) (by kernel_rfl) (by exact fun _ _ _ h=>h) (Or.inr ⟨by rfl,rfl⟩) (by assumption) ?_;try simp only  [Act.put,List.setIfInBounds_toArray,List.set_cons_zero,List.set_cons_succ]
      refine wpAnyH_take  (i:=13) (v:=undef) (by rw[List.getElem?_toArray];exact rfl) (by kernel_rfl) (by kernel_rfl) (by kernel_rfl) (by exact fun _ _ _ h=>h) (Or.inr ⟨by rfl,rfl⟩) (by assumption) ?_;try simp only  [Act.put,List.setIfInBounds_toArray,List.set_cons_zero,List.set_cons_succ]
      refine wpAnyH_take  (i:=14) (v:=undef) (by rw[List.getElem?_toArray];exact rfl) (by kernel_rfl) (by kernel_rfl) (by kernel_rfl) (by exact fun _ _ _ h=>h) (Or.inr ⟨by rfl,rfl⟩) (by assumption) ?_;try simp only  [Act.put,List.setIfInBounds_toArray,List.set_cons_zero,List.set_cons_succ]
      refine wpAnyH_take  (i:=15) (v:=undef) (by rw[List.getElem?_toArray];exact rfl) (by kernel_rfl) (by kernel_rfl) (by kernel_rfl) (by exact fun _ _ _ h=>h) (Or.inr ⟨by rfl,rfl⟩) (by assumption) ?_;try simp only  [Act.put,List.setIfInBounds_toArray,List.set_cons_zero,List.set_cons_succ]
      refine wpAnyH_take  (i:=16) (v:=undef) (by rw[List.getElem?_toArray];exact rfl) (by kernel_rfl) (by kernel_rfl) (by kernel_rfl) (by exact fun _ _ _ h=>h) (Or.inr ⟨by rfl,rfl⟩) (by assumption) ?_;try simp only  [Act.put,List.setIfInBounds_toArray,List.set_cons_zero,List.set_cons_succ]
      refine wpAnyH_take  (i:=17) (v:=undef) (by rw[List.getElem?_toArray];exact rfl) (by kernel_rfl) (by kernel_rfl) (by kernel_rfl) (by exact fun _ _ _ h=>h) (Or.inr ⟨by rfl,rfl⟩) (by assumption) ?_;try simp only  [Act.put,List.setIfInBounds_toArray,List.set_cons_zero,List.set_cons_succ]
      refine wpAnyH_take  (i:=18) (v:=undef) (by rw[List.getElem?_toArray];exact rfl) (by kernel_rfl) (by kernel_rfl) (by kernel_rfl) (by exact fun _ _ _ h=>h) (Or.inr ⟨by rfl,rfl⟩) (by assumption) ?_;try simp only  [Act.put,List.setIfInBounds_toArray,List.set_cons_zero,List.set_cons_succ]
      refine wpAnyH_take  (i:=19) (v:=undef) (by rw[List.getElem?_toArray];exact rfl) (by kernel_rfl) (by kernel_rfl) (by kernel_rfl) (by exact fun _ _ _ h=>h) (Or.inr ⟨by rfl,rfl⟩) (by assumption) ?_;try simp only  [Act.put,List.setIfInBounds_toArray,List.set_cons_zero,List.set_cons_succ]
      refine wpAnyH_take  (i:=20) (v:=undef) (by rw[List.getElem?_toArray];exact rfl) (by kernel_rfl) (by kernel_rfl) (by kernel_rfl) (by exact fun _ _ _ h=>h) (Or.inr ⟨by rfl,rfl⟩) (by assumption) ?_;try simp only  [Act.put,List.setIfInBounds_toArray,List.set_cons_zero,List.set_cons_succ]
      refine wpAnyH_take  (i:=21) (v:=?_) (by rw[List.getElem?_toArray];exact rfl) (by kernel_rfl) (by kernel_rfl) (by kernel_rfl) (by exact fun _ _ _ h=>h) (Or.inl ⟨by rfl,(by intro W hSw;go_simp<;>with_reducible rfl)⟩) (by assumption) ?_;try simp only  [Act.put,List.setIfInBounds_toArray,List.set_cons_zero,List.set_cons_succ]
      refine wpAnyH_take  (i:=22) (v:=?_) (by rw[List.getElem?_toArray];exact rfl) (by kernel_rfl) (by kernel_rfl) (by kernel_rfl) (by exact fun _ _ _ h=>h) (Or.inl ⟨by rfl,(by intro W hSw;go_simp<;>with_reducible rfl)⟩) (by assumption) ?_;try simp only  [Act.put,List.setIfInBounds_toArray,List.set_cons_zero,List.set_cons_succ]
      refine wpAnyH_take  (i:=23) (v:=?_) (by rw[List.getElem?_toArray];exact rfl) (by kernel_rfl) (by kernel_rfl) (by kernel_rfl) (by exact fun _ _ _ h=>h) (Or.inl ⟨by rfl,(by intro W hSw;go_simp<;>with_reducible rfl)⟩) (by assumption) ?_;try simp only  [Act.put,List.setIfInBounds_toArray,List.set_cons_zero,List.set_cons_succ]
      refine wpAnyH_done (by kernel_rfl) ?_ _;go_wp2;refine wp_region_held_drew (S:=fun W=>W.cell? ⟨b',off'+k*2,none⟩=some (.string (nm l' k))) (by kernel_rfl) (HS.out _ ((Kept.drew _).trans (Kept.drew _))) (fun hHeld=>?_);refine wpAnyH_take  (i:=0) (v:=?_) (by rw[List.getElem?_toArray];exact rfl) (by kernel_rfl) (by kernel_rfl) (by kernel_rfl) (by exact fun _ _ _ h=>h) (Or.inl ⟨by rfl,(by intro W hSw;go_simp<;>with_reducible rfl)⟩) (by assumption) ?_;try simp only  [Act.put,List.setIfInBounds_toArray,List.set_cons_zero,List.set_cons_succ]
      refine wpAnyH_take  (i:=1) (v:=?_) (by rw[List.getElem?_toArray];exact rfl) (by kernel_rfl) (by kernel_rfl) (by kernel_rfl) (by exact fun _ _ _ h=>h) (Or.inl ⟨by rfl,(by intro W hSw;go_simp<;>with_reducible rfl)⟩) (by assumption) ?_;try simp only  [Act.put,List.setIfInBounds_toArray,List.set_cons_zero,List.set_cons_succ]
      refine wpAnyH_take  (i:=2) (v:=?_) (by rw[List.getElem?_toArray];exact rfl) (by kernel_rfl) (by kernel_rfl) (by kernel_rfl) (by exact fun _ _ _ h=>h) (Or.inl ⟨by rfl,(by intro W hSw;go_simp<;>with_reducible rfl)⟩) (by assumption) ?_;try simp only  [Act.put,List.setIfInBounds_toArray,List.set_cons_zero,List.set_cons_succ]
      refine wpAnyH_take  (i:=3) (v:=?_) (by rw[List.getElem?_toArray];exact rfl) (by kernel_rfl) (by kernel_rfl) (by kernel_rfl) (by exact fun _ _ _ h=>h) (Or.inl ⟨by rfl,(by intro W hSw;go_simp<;>with_reducible rfl)⟩) (by assumption) ?_;try simp only  [Act.put,List.setIfInBounds_toArray,List.set_cons_zero,List.set_cons_succ]
      refine wpAnyH_take  (i:=4) (v:=?_) (by rw[List.getElem?_toArray];exact rfl) (by kernel_rfl) (by kernel_rfl) (by kernel_rfl) (by exact fun _ _ _ h=>h) (Or.inl ⟨by rfl,(by intro W hSw;go_simp<;>with_reducible rfl)⟩) (by assumption) ?_;try simp only  [Act.put,List.setIfInBounds_toArray,List.set_cons_zero,List.set_cons_succ]
      refine wpAnyH_take  (i:=5) (v:=undef) (by rw[List.getElem?_toArray];exact rfl) (by kernel_rfl) (by kernel_rfl) (by kernel_rfl) (by exact fun _ _ _ h=>h) (Or.inr ⟨by rfl,rfl⟩) (by assumption) ?_;try simp only  [Act.put,List.setIfInBounds_toArray,List.set_cons_zero,List.set_cons_succ]
      refine wpAnyH_take  (i:=6) (v:=undef) (by rw[List.getElem?_toArray];exact rfl) (by kernel_rfl) (by kernel_rfl) (by kernel_rfl) (by exact fun _ _ _ h=>h) (Or.inr ⟨by rfl,rfl⟩) (by assumption) ?_;try simp only  [Act.put,List.setIfInBounds_toArray,List.set_cons_zero,List.set_cons_succ]
      refine wpAnyH_take  (i:=7) (v:=undef) (by rw[List.getElem?_toArray];exact rfl) (by kernel_rfl) (by kernel_rfl) (by kernel_rfl) (by exact fun _ _ _ h=>h) (Or.inr ⟨by rfl,rfl⟩) (by assumption) ?_;try simp only  [Act.put,List.setIfInBounds_toArray,List.set_cons_zero,List.set_cons_succ]
      refine wpAnyH_take  (i:=8) (v:=undef) (by rw[List.getElem?_toArray];exact rfl) (by kernel_rfl) (by kernel_rfl) (by kernel_rfl) (by exact fun _ _ _ h=>h) (Or.inr ⟨by rfl,rfl⟩) (by assumption) ?_;try simp only  [Act.put,List.setIfInBounds_toArray,List.set_cons_zero,List.set_cons_succ]
      refine wpAnyH_take  (i:=9) (v:=undef) (by rw[List.getElem?_toArray];exact rfl) (by kernel_rfl) (by kernel_rfl) (by kernel_rfl) (by exact fun _ _ _ h=>h) (Or.inr ⟨by rfl,rfl⟩) (by assumption) ?_;try simp only  [Act.put,List.setIfInBounds_toArray,List.set_cons_zero,List.set_cons_succ]
      refine wpAnyH_take  (i:=10) (v:=undef) (by rw[List.getElem?_toArray];exact rfl) (by kernel_rfl) (by kernel_rfl) (by kernel_rfl) (by exact fun _ _ _ h=>h) (Or.inr ⟨by rfl,rfl⟩) (by assumption) ?_;try simp only  [Act.put,List.setIfInBounds_toArray,List.set_cons_zero,List.set_cons_succ]
      refine wpAnyH_take  (i:=11) (v:=undef) (by rw[List.getElem?_toArray];exact rfl) (by kernel_rfl) (by kernel_rfl) (by kernel_rfl) (by exact fun _ _ _ h=>h) (Or.inr ⟨by rfl,rfl⟩) (by assumption) ?_;try simp only  [Act.put,List.setIfInBounds_toArray,List.set_cons_zero,List.set_cons_succ]
      refine wpAnyH_take  (i:=12) (v:=undef) (by rw[List.getElem?_toArray];exact rfl) (by kernel_rfl) (by kernel_rfl) (by kernel_rfl) (by exact fun _ _ _ h=>h) (Or.inr ⟨by rfl,rfl⟩) (by assumption) ?_;try simp only  [Act.put,List.setIfInBounds_toArray,List.set_cons_zero,List.set_cons_succ]
      refine wpAnyH_take  (i:=13) (v:=undef) (by rw[List.getElem?_toArray];exact rfl) (by kernel_rfl) (by kernel_rfl) (by kernel_rfl) (by exact fun _ _ _ h=>h) (Or.inr ⟨by rfl,rfl⟩) (by assumption) ?_;try simp only  [Act.put,List.setIfInBounds_toArray,List.set_cons_zero,List.set_cons_succ]
      refine wpAnyH_take  (i:=14) (v:=undef) (by rw[List.getElem?_toArray];exact rfl) (by kernel_rfl) (by kernel_rfl) (by kernel_rfl) (by exact fun _ _ _ h=>h) (Or.inr ⟨by rfl,rfl⟩) (by assumption) ?_;try simp only  [Act.put,List.setIfInBounds_toArray,List.set_cons_zero,List.set_cons_succ]
      refine wpAnyH_take  (i:=15) (v:=undef) (by rw[List.getElem?_toArray];exact rfl) (by kernel_rfl) (by kernel_rfl) (by kernel_rfl) (by exact fun _ _ _ h=>h) (Or.inr ⟨by rfl,rfl⟩) (by assumption) ?_;try simp only  [Act.put,List.setIfInBounds_toArray,List.set_cons_zero,List.set_cons_succ]
      refine wpAnyH_take  (i:=16) (v:=?_) (by rw[List.getElem?_toArray];exact rfl) (by kernel_rfl) (by kernel_rfl) (by kernel_rfl) (by exact fun _ _ _ h=>h) (Or.inl ⟨by rfl,(by intro W hSw;go_simp<;>with_reducible rfl)⟩) (by assumption) ?_;try simp only  [Act.put,List.setIfInBounds_toArray,List.set_cons_zero,List.set_cons_succ]
      refine wpAnyH_take  (i:=17) (v:=?_) (by rw[List.getElem?_toArray];exact rfl) (by kernel_rfl) (by kernel_rfl) (by kernel_rfl) (by exact fun _ _ _ h=>h) (Or.inl ⟨by rfl,(by intro W hSw;go_simp<;>with_reducible rfl)⟩) (by assumption) ?_;try simp only  [Act.put,List.setIfInBounds_toArray,List.set_cons_zero,List.set_cons_succ]
      refine wpAnyH_done (by kernel_rfl) ?_ _;have HKW:=lH (show Kept wr (wr.drew.drew) from((Kept.drew wr).trans (Kept.drew _)));obtain d1:=HS.out _ HKW.out;have hbw:(wr.drew.drew).heap.size=wr.heap.size:=rfl;obtain⟨W1,hW1⟩:∃W,wr.drew.drew=W:=⟨_,rfl⟩
      rw[hW1] at HKW hbw d1;try rw[hW1]
      try simp only[hW1]
      clear hW1;have hbase:w.heap.size≤W1.heap.size:=by rw[hbw];exact HB2.out.size
      have HBS:=lH hbase;have OK:=lH (HO.out.kept HKW.out);have hacc16:acc.length≤16:=by omega
      clear hbw;go_wp2_with (at_builtin;refine wpList_append_lies _ rfl _ _ _ rfl w.heap.size 9 i0 _ 1 16 Tryz.underlying47 hi hz0 hz1 hz2 rfl (by decide) u5 acc.length (rowCells StrLay acc) rfl (OK.out.1.alloc _) ⟨W1.heap.size,0,none⟩ 1 1 (StrLay.cs (nm l' k)) rfl rfl (World.news_of_block (cs:=#[.string (nm l' k)]) (t:=9) (fr:=(0,0)) (W1.alloc_heap_new _)) (one_s (nm l' k)) (by decide) (by unfold maxLen;omega) (by omega) (by rw[World.size_alloc];exact Nat.le_succ_of_le HBS.out) (W1.heap.size+1) (World.size_alloc _ _) ?_;intro g cap1 w7 hown1 hgrow hg hlt7;refine Hid.out ?_)
      refine lH ?_;have HBW:=lH (((HB2.out.trans (Below.mono HKW.out HB2.out.size)).alloc (by exact HBS.out) _).grown hgrow (by rw[World.size_alloc];exact Nat.le_succ_of_le HBS.out) (fun j hj=>(HO.out.1.lt j hj).1));go_wp2;go_roundw
      case rel=>exact⟨i,k+1,f2,acc++[nm l' k],by omega,by omega,by go_num,by go_num,HN.out,by omega,Own.snoc hown1 rfl HO.out.2 HSK.out,HBW.out,by rw[List.length_append];simp only[List.length_cons,List.length_nil];omega⟩
      case measure=>simp[intOf];omega
    · have hi3:decide ((i:Int)<(len:Int))=false:=decide_eq_false (by omega);have hk3:decide ((k:Int)<(len':Int))=false:=decide_eq_false (by omega);have HE:=lH (show NS=acc by
       rw[←HQ.out,names_end (by simp only[List.length_drop];rw[HL.out,HL'.out];omega),List.append_nil])
      clear hB;go_wp2_with fail
      go_ret;exact⟨_,rfl,by rw[HE.out];exact HO.out,HB2.out⟩
end Go.Proofs.YtmlgobiifebjkacGreat.Vec
namespace Go.Proofs.YtmlgobiifebjkacGreat
open Go.RowKit
def RVec (r:Int×Vec.V) (w:World) (e:Ending) (w':World):Prop:=∃y,e=.returned (.tuple #[y,.int .i64 r.1])∧Vec.Reads w' y r.2∧Kept w w'
def AllSl (W:World) (q:Nat):Prop:=∀i u,W.cell? ⟨q,i,none⟩=some u→∃a n c,u=.slice a n c
theorem all_sl {W:World} {q:Nat} {a1 a2 a3:Option Addr} {m1 c1 m2 c2 m3 c3:Nat} {T:TypeId} {fr:Nat×Nat} (hh:W.heap[q]?=some (.cells #[.slice a1 m1 c1,.slice a2 m2 c2,.slice a3 m3 c3] T fr)):AllSl W q:=by
 intro i u h;rw[Lib.cell_of_heap hh] at h
 match i,h with
 | 0,h=>cases h;exact⟨_,_,_,rfl⟩
 | 1,h=>cases h;exact⟨_,_,_,rfl⟩
 | 2,h=>cases h;exact⟨_,_,_,rfl⟩
 | i+3,h=>simp at h
theorem AllSl.noRow {W:World} {q:Nat} (h:AllSl W q):NoRow W q:=fun o x u h1 _=>by
 obtain⟨_,_,_,e⟩:=h _ _ h1
 cases e
theorem row_past {α:Type} {L:Lay α} {w w':World} {a:Option Addr} {len:Nat} {l:List α} {N:Nat} (hL:∀x,∃u,(L.cs x)[0]?=some u∧∀a n c,u≠.slice a n c) (h:RowAt L w a len l) (hs:w'.heap.size=w.heap.size) (hb:∀b,b≠N→w'.heap[b]?=w.heap[b]?) (hn:AllSl w N):RowAt L w' a len l:=by
 obtain⟨h3,h4,h5,h6⟩:=h;refine⟨h3,h4,h5,?_⟩;rcases h6 with h6 | ⟨b,off,rfl,hlt,hc⟩
 · exact .inl h6
 · cases l with
   | nil=>exact .inl h3.symm
   | cons x t =>
    have hne:b≠N:=by
     rintro rfl;obtain⟨u,g0,g1⟩:=hL x;obtain⟨_,_,_,e⟩:=hn _ _ (hc 0 x 0 _ rfl g0);exact g1 _ _ _ e
    exact .inr ⟨b,off,rfl,by rw[hs];exact hlt,fun i x j u hi hj=>(World.cell?_of_block (a:=⟨b,off+i*L.m+j,none⟩) (hb b hne)).trans (hc i x j u hi hj)⟩
theorem reads_pastS {α:Type} {L:Lay α} {w w':World} {v:Value} {l:List α} {N:Nat} (hL:∀x,∃u,(L.cs x)[0]?=some u∧∀a n c,u≠.slice a n c) (h:Reads L w v l) (hs:w'.heap.size=w.heap.size) (hb:∀b,b≠N→w'.heap[b]?=w.heap[b]?) (hn:AllSl w N):Reads L w' v l:=by
 obtain⟨a,cap,rfl,h1,h2,h3⟩:=h;exact⟨a,cap,rfl,h1,h2,row_past hL h3 hs hb hn⟩
theorem fst_P (x:ByteArray×ByteArray):∃u,(PairLay.cs x)[0]?=some u∧∀a n c,u≠.slice a n c:=⟨_,rfl,fun _ _ _ e=>by cases e⟩
theorem fst_A (x:NT):∃u,(TaLay.cs x)[0]?=some u∧∀a n c,u≠.slice a n c:=⟨_,rfl,fun _ _ _ e=>by cases e⟩
theorem fst_T (x:Int×ByteArray×ByteArray):∃u,(TermLay.cs x)[0]?=some u∧∀a n c,u≠.slice a n c:=⟨_,rfl,fun _ _ _ e=>by cases e⟩
theorem fst_N (x:NX):∃u,(NodLay0.cs x)[0]?=some u∧∀a n c,u≠.slice a n c:=⟨_,rfl,fun _ _ _ e=>by cases e⟩
theorem fst_Pd (x:PX):∃u,(PodLay0.cs x)[0]?=some u∧∀a n c,u≠.slice a n c:=⟨_,rfl,fun _ _ _ e=>by cases e⟩
theorem fst_B (x:BX):∃u,(BudLay0.cs x)[0]?=some u∧∀a n c,u≠.slice a n c:=⟨_,rfl,fun _ _ _ e=>by cases e⟩
theorem buds_row {w:World} {a:Option Addr} {len:Nat} {lx:List BX} (h:RowAt BudLay0 w a len lx) (hf:∀z ∈ lx,At1 w z):BudsAt w a len (lx.map fun z=>z.1):=by
 obtain⟨g0,g1,g2,g3⟩:=h;refine⟨by rw[List.length_map];exact g0,g1,g3.imp id ?_⟩;rintro ⟨b,off,rfl,hb,hc⟩;refine⟨b,off,rfl,hb,fun i n hi=>?_⟩;rw[List.getElem?_map] at hi;obtain⟨z,hz,rfl⟩:=Option.map_eq_some_iff.1 hi;exact⟨_,hc i z 0 _ hz rfl,hc i z 1 _ hz rfl,hc i z 2 _ hz rfl,hf z (List.mem_of_getElem? hz)⟩
section
variable {w w':World} {N:Nat} (hs:w'.heap.size=w.heap.size) (hb:∀b,b≠N→w'.heap[b]?=w.heap[b]?) (hn:AllSl w N)
include hs hb hn
theorem nodes_pastS {v:Value} {l:List Nod} (h:NodesR w v l):NodesR w' v l:=by
 obtain⟨a,cap,rfl,h1,h2,h3⟩:=h;obtain⟨lx,hm,hr,hat⟩:=nrows_x h3;exact⟨a,cap,rfl,h1,h2,by rw[←hm];exact nodes_row (by rw[hm];exact row_past fst_N hr hs hb hn) fun z hz=>node_past (hat z hz) hs hb hn.noRow⟩
theorem pods_pastS {v:Value} {l:List Pd} (h:PodsR w v l):PodsR w' v l:=by
 obtain⟨a,cap,rfl,h1,h2,h3⟩:=h;obtain⟨lx,hm,hr,hat⟩:=prows_x h3;exact⟨a,cap,rfl,h1,h2,by
  rw[←hm];exact pods_row (by rw[hm];exact row_past fst_Pd hr hs hb hn) fun z hz=>by
   have g:=hat z hz;exact⟨g.name,g.owner,g.key,g.node,g.prio,g.most,vec_past g.need hs hb hn.noRow,reads_pastS fst_P g.labels hs hb hn,reads_pastS fst_T g.sel hs hb hn,reads_pastS fst_A g.tols hs hb hn⟩⟩
theorem buds_pastS {v:Value} {l:List Bd} (h:BudsR w v l):BudsR w' v l:=by
 obtain⟨a,cap,rfl,h1,h2,h3⟩:=h;obtain⟨lx,hm,hr,hat⟩:=brows_x h3;exact⟨a,cap,rfl,h1,h2,by
  rw[←hm];exact buds_row (by rw[hm];exact row_past fst_B hr hs hb hn) fun z hz=>by
   have g:=hat z hz;exact⟨g.name,g.floor,reads_pastS fst_T g.sel hs hb hn⟩⟩
theorem clu_pastS {v:Value} {s:Clu} (h:CluR w v s):CluR w' v s:=by
 obtain⟨v1,v2,v3,e,g⟩:=h;exact⟨v1,v2,v3,e,nodes_pastS hs hb hn g.nodes,pods_pastS hs hb hn g.pods,buds_pastS hs hb hn g.buds⟩
end
end Go.Proofs.YtmlgobiifebjkacGreat
namespace Go.Proofs.YtmlgobiifebjkacGreat
open Go.RowKit
theorem done_told {r:Int×Vec.V} {w w':World} {e:Ending} (h:Vec.Done r w e w'):RVec r w e w':=by
 obtain⟨v,e,h,k⟩:=h;exact⟨v,e,h.at_,k⟩
theorem usedR {v:Value} {s:Clu} {w:World} (h:CluR w v s) (x:ByteArray) (hl:LowClu s):Calls Tryz.prog 90 #[v,.string x] w (RVec (usedSt s x) w):=by
 obtain⟨v1,v2,v3,rfl,⟨a,cap,rfl,l1,m1,h1⟩,⟨b,cp,rfl,l2,m2,h2⟩,⟨d,cb,rfl,l3,m3,h3⟩⟩:=h;exact(usedF_any a b d _ cap _ cp _ cb s.nodes s.pods x w h1 h2 hl.nodes).mono fun _ _ h=>done_told h
theorem freeR {v:Value} {s:Clu} {w:World} (h:CluR w v s) (x:ByteArray) (hl:LowClu s):Calls Tryz.prog 146 #[v,.string x] w (RVec (freeSt s x) w):=by
 obtain⟨v1,v2,v3,rfl,⟨a,cap,rfl,l1,m1,h1⟩,⟨b,cp,rfl,l2,m2,h2⟩,⟨d,cb,rfl,l3,m3,h3⟩⟩:=h;exact(freeF_any a b d _ cap _ cp _ cb s.nodes s.pods x w h1 h2 hl.nodes).mono fun _ _ h=>done_told h
theorem onR {v:Value} {s:Clu} {w:World} (h:CluR w v s) (x:ByteArray) (hl:LowClu s):Calls Tryz.prog 87 #[v,.string x] w fun e w'=>∃y,e=.returned y∧PodsR w' y (onP x s.pods)∧Kept w w':=by
 obtain⟨v1,v2,v3,rfl,⟨a,cap,rfl,l1,m1,h1⟩,⟨b,cp,rfl,l2,m2,h2⟩,⟨d,cb,rfl,l3,m3,h3⟩⟩:=h;exact onSt_any b a d _ cp _ cap _ cb s.pods x w h2 hl.pods hl.podsN
theorem CluR.nAt {w:World} {v2 v3:Value} {b:Option Addr} {m cp:Nat} {s:Clu} (h:CluR w (CluV (.slice b m cp) v2 v3) s):NodesAt w b m s.nodes∧m=s.nodes.length:=by
 obtain⟨_,_,_,e,g0⟩:=h
 cases e
 obtain⟨a',cap',e,_,_,h⟩:=g0.nodes
 cases e
 exact⟨h,rfl⟩
theorem CluR.pAt {w:World} {v1 v3:Value} {b:Option Addr} {m cp:Nat} {s:Clu} (h:CluR w (CluV v1 (.slice b m cp) v3) s):PodsAt w b m s.pods∧m=s.pods.length:=by
 obtain⟨_,_,_,e,g0⟩:=h
 cases e
 obtain⟨a',cap',e,_,_,h⟩:=g0.pods
 cases e
 exact⟨h,rfl⟩
theorem isWanted_any (p:Pd) (n:Nod) (a1 a2 a3 a4:Option Addr) (m1 c1 m2 c2 m3 c3 m4 c4:Nat) (b1 b2 b3:Option Addr) (k1 d1 k2 d2 k3 d3:Nat) (w:World) (hp:PodAt w (.slice a1 m1 c1) (.slice a2 m2 c2) (.slice a3 m3 c3) (.slice a4 m4 c4) p) (hn:NodAt w (.slice b1 k1 d1) (.slice b2 k2 d2) (.slice b3 k3 d3) n):Calls Tryz.prog 108 #[PodV p (.slice a1 m1 c1) (.slice a2 m2 c2) (.slice a3 m3 c3) (.slice a4 m4 c4),NodV n (.slice b1 k1 d1) (.slice b2 k2 d2) (.slice b3 k3 d3)] w (Say (.bool (wantedB p n)) w):=by
 obtain⟨t,ht⟩:∃t,matchT p.sel n.labels=t:=⟨_,rfl⟩
 have HM0:=lH (fun (W:World) (k:Kept w W)=>matchR (hp.sel.kept k) (hn.labels.kept k) ht);obtain⟨cd,hcd⟩:∃t,n.cordon=t:=⟨_,rfl⟩
 have HV:=lH (show wantedB p n=(!cd&&t) by unfold wantedB;rw[ht,hcd]);clear ht;obtain⟨Z,hZ⟩:∃Z,(w.alloc (.cells #[.string p.name,.string p.owner,.int .i64 p.prio,.slice a1 m1 c1,.slice a2 m2 c2,.slice a3 m3 c3,.slice a4 m4 c4,.string p.key,.int .i64 p.most,.string p.node,.bool p.hold] 35)).alloc (.cells #[.string n.name,.slice b1 k1 d1,.slice b2 k2 d2,.slice b3 k3 d3,.bool cd] 55)=Z:=⟨_,rfl⟩
 have hkz:Kept w Z:=by rw[←hZ];exact kept_two _ _ _
 have HB1:=lH (freshN w (.string p.name) [.string p.owner,.int .i64 p.prio,.slice a1 m1 c1,.slice a2 m2 c2,.slice a3 m3 c3,.slice a4 m4 c4,.string p.key,.int .i64 p.most,.string p.node,.bool p.hold] 35 Z (by rw[←hZ];exact kept_alloc _ _));have HB2:=lH (show CellsN (w.heap.size+1) [.string n.name,.slice b1 k1 d1,.slice b2 k2 d2,.slice b3 k3 d3,.bool cd] Z by
  have dd:=freshN (w.alloc (.cells #[.string p.name,.string p.owner,.int .i64 p.prio,.slice a1 m1 c1,.slice a2 m2 c2,.slice a3 m3 c3,.slice a4 m4 c4,.string p.key,.int .i64 p.most,.string p.node,.bool p.hold] 35)) (.string n.name) [.slice b1 k1 d1,.slice b2 k2 d2,.slice b3 k3 d3,.bool cd] 55 Z (by rw[hZ];exact Kept.refl _);rw[World.size_alloc] at dd;exact dd)
 have K:=lH hkz;have HM:=lH (HM0.out Z hkz);clear HM0 hp hn hkz;have r5:=HB1.out.at_ 5 _ rfl;have q2:=HB2.out.at_ 2 _ rfl;have q4:=HB2.out.at_ 4 _ rfl;unfold PodV NodV;rw[hcd];clear hcd;go_enter Tryz.func108,Tryz.ntmps108
 cases cd with
 | true =>
  go_wp2;try rw[hZ]
  go_ret;exact⟨ret_bool (by rw[HV.out];rfl),by first | exact K.out | (rw[hZ];exact K.out)⟩
 | false =>
  go_wp2_with fail
  try rw[hZ]
  refine HM.out.mono ?_;rintro e w1 ⟨rfl,kk⟩;have K:=lH (K.out.trans kk);clear kk hZ;go_wp2;go_ret;exact⟨ret_bool (by rw[HV.out];rfl),K.out⟩
theorem isBorne_any (p:Pd) (n:Nod) (a1 a2 a3 a4:Option Addr) (m1 c1 m2 c2 m3 c3 m4 c4:Nat) (b1 b2 b3:Option Addr) (k1 d1 k2 d2 k3 d3:Nat) (w:World) (hp:PodAt w (.slice a1 m1 c1) (.slice a2 m2 c2) (.slice a3 m3 c3) (.slice a4 m4 c4) p) (hn:NodAt w (.slice b1 k1 d1) (.slice b2 k2 d2) (.slice b3 k3 d3) n):Calls Tryz.prog 109 #[PodV p (.slice a1 m1 c1) (.slice a2 m2 c2) (.slice a3 m3 c3) (.slice a4 m4 c4),NodV n (.slice b1 k1 d1) (.slice b2 k2 d2) (.slice b3 k3 d3)] w (Say (.bool (borneB p n)) w):=by
 obtain⟨t,ht⟩:∃t,(worstN p.tols n.taints).isSome=t:=⟨_,rfl⟩
 obtain⟨⟨x,y,mm⟩,hx⟩:∃x,wT (worstN p.tols n.taints)=x:=⟨_,rfl⟩
 have HM0:=lH (fun (W:World) (k:Kept w W)=>worstR (hp.tols.kept k) (hn.taints.kept k) hx ht);have HV:=lH (show borneB p n=(!t) by unfold borneB;rw[ht]);clear ht hx;obtain⟨Z,hZ⟩:∃Z,(w.alloc (.cells #[.string p.name,.string p.owner,.int .i64 p.prio,.slice a1 m1 c1,.slice a2 m2 c2,.slice a3 m3 c3,.slice a4 m4 c4,.string p.key,.int .i64 p.most,.string p.node,.bool p.hold] 35)).alloc (.cells #[.string n.name,.slice b1 k1 d1,.slice b2 k2 d2,.slice b3 k3 d3,.bool n.cordon] 55)=Z:=⟨_,rfl⟩
 have hkz:Kept w Z:=by rw[←hZ];exact kept_two _ _ _
 have HB1:=lH (freshN w (.string p.name) [.string p.owner,.int .i64 p.prio,.slice a1 m1 c1,.slice a2 m2 c2,.slice a3 m3 c3,.slice a4 m4 c4,.string p.key,.int .i64 p.most,.string p.node,.bool p.hold] 35 Z (by rw[←hZ];exact kept_alloc _ _));have HB2:=lH (show CellsN (w.heap.size+1) [.string n.name,.slice b1 k1 d1,.slice b2 k2 d2,.slice b3 k3 d3,.bool n.cordon] Z by
  have dd:=freshN (w.alloc (.cells #[.string p.name,.string p.owner,.int .i64 p.prio,.slice a1 m1 c1,.slice a2 m2 c2,.slice a3 m3 c3,.slice a4 m4 c4,.string p.key,.int .i64 p.most,.string p.node,.bool p.hold] 35)) (.string n.name) [.slice b1 k1 d1,.slice b2 k2 d2,.slice b3 k3 d3,.bool n.cordon] 55 Z (by rw[hZ];exact Kept.refl _);rw[World.size_alloc] at dd;exact dd)
 have K:=lH hkz;have HM:=lH (HM0.out Z hkz);clear HM0 hp hn hkz;have r6:=HB1.out.at_ 6 _ rfl;have q3:=HB2.out.at_ 3 _ rfl;unfold PodV NodV;go_enter Tryz.func109,Tryz.ntmps109;go_wp2_with fail
 try rw[hZ]
 refine HM.out.mono ?_;rintro e w1 ⟨rfl,kk⟩;have K:=lH (K.out.trans kk);clear kk hZ;go_wp2;go_ret;exact⟨ret_bool (by rw[HV.out]),K.out.trans (kept_alloc _ _)⟩
theorem isCrowded_any (s1 s2 s3:Option Addr) (n1 e1 n2 e2 n3 e3:Nat) (a1 a2 a3 a4:Option Addr) (m1 c1 m2 c2 m3 c3 m4 c4:Nat) (p:Pd) (s:Clu) (name:ByteArray) (w:World) (hs:CluR w (CluV (.slice s1 n1 e1) (.slice s2 n2 e2) (.slice s3 n3 e3)) s) (hl:LowClu s):Calls Tryz.prog 110 #[.agg #[.slice s1 n1 e1,.slice s2 n2 e2,.slice s3 n3 e3],PodV p (.slice a1 m1 c1) (.slice a2 m2 c2) (.slice a3 m3 c3) (.slice a4 m4 c4),.string name] w (Say (.bool (crowdB s p name)) w):=by
 have hn1:=hs.nAt.2;have hn2:=hs.pAt.2;have g1:=hl.nodesN;have g2:=hl.podsN;obtain⟨Z,hZ⟩:∃Z,(w.alloc (.cells #[.slice s1 n1 e1,.slice s2 n2 e2,.slice s3 n3 e3] 26)).alloc (.cells #[.string p.name,.string p.owner,.int .i64 p.prio,.slice a1 m1 c1,.slice a2 m2 c2,.slice a3 m3 c3,.slice a4 m4 c4,.string p.key,.int .i64 p.most,.string p.node,.bool p.hold] 35)=Z:=⟨_,rfl⟩
 have hkz:Kept w Z:=by rw[←hZ];exact kept_two _ _ _
 have HB1:=lH (freshN w (.slice s1 n1 e1) [.slice s2 n2 e2,.slice s3 n3 e3] 26 Z (by rw[←hZ];exact kept_alloc _ _));have HB2:=lH (show CellsN (w.heap.size+1) [.string p.name,.string p.owner,.int .i64 p.prio,.slice a1 m1 c1,.slice a2 m2 c2,.slice a3 m3 c3,.slice a4 m4 c4,.string p.key,.int .i64 p.most,.string p.node,.bool p.hold] Z by
  have dd:=freshN (w.alloc (.cells #[.slice s1 n1 e1,.slice s2 n2 e2,.slice s3 n3 e3] 26)) (.string p.name) [.string p.owner,.int .i64 p.prio,.slice a1 m1 c1,.slice a2 m2 c2,.slice a3 m3 c3,.slice a4 m4 c4,.string p.key,.int .i64 p.most,.string p.node,.bool p.hold] 35 Z (by rw[hZ];exact Kept.refl _);rw[World.size_alloc] at dd;exact dd)
 have K:=lH hkz;have HS:=lH (skew_any s1 s2 s3 a1 a2 a3 a4 n1 e1 n2 e2 n3 e3 m1 c1 m2 c2 m3 c3 m4 c4 p s name Z (hs.nAt.1.kept hkz) (hs.pAt.1.kept hkz) (by omega) (by omega));clear hs hkz hl hn1 hn2 g1 g2;obtain⟨t7,h7⟩:∃t,(p.key.toList==([]:List UInt8))=t:=⟨_,rfl⟩
 have H7:=lH (show isNo p.key=t7 by rw[no_iff,h7]);have y0:=HB1.out.at_ 0 _ rfl;have y1:=HB1.out.at_ 1 _ rfl;have y2:=HB1.out.at_ 2 _ rfl;have r0:=HB2.out.at_ 0 _ rfl;have r1:=HB2.out.at_ 1 _ rfl;have r2:=HB2.out.at_ 2 _ rfl;have r3:=HB2.out.at_ 3 _ rfl;have r4:=HB2.out.at_ 4 _ rfl;have r5:=HB2.out.at_ 5 _ rfl;have r6:=HB2.out.at_ 6 _ rfl;have r7:=HB2.out.at_ 7 _ rfl;have r8:=HB2.out.at_ 8 _ rfl;have r9:=HB2.out.at_ 9 _ rfl;have r10:=HB2.out.at_ 10 _ rfl;unfold PodV at HS ⊢;go_enter Tryz.func110,Tryz.ntmps110
 cases t7 with
 | true =>
  have HV:=lH (show crowdB s p name=false by unfold crowdB;rw[if_pos H7.out]);go_wp2;try rw[hZ]
  go_ret;exact⟨ret_bool HV.out.symm,by first | exact K.out | (rw[hZ];exact K.out)⟩
 | false =>
  have HV:=lH (show crowdB s p name=(!(skewS p s name).2||decide (p.most<(skewS p s name).1)) by unfold crowdB;rw[if_neg (by rw[H7.out];decide)]);obtain⟨z,hz⟩:∃z,(skewS p s name).1=z:=⟨_,rfl⟩
  obtain⟨b,hb⟩:∃z,(skewS p s name).2=z:=⟨_,rfl⟩
  rw[hz,hb] at HS HV;clear hz hb;go_upto_region 3 with fail
  try rw[hZ]
  clear hZ;go_wp2_with fail
  refine HS.out.mono ?_;rintro e w1 ⟨rfl,kk⟩;have K:=lH (K.out.trans kk);have r8:=(HB2.out.kept kk).at_ 8 _ rfl;clear kk y0 y1 y2 r0 r1 r2 r3 r4 r5 r6 r7 r9 r10
  cases b with
  | false =>
   go_wp2;go_ret;exact⟨ret_bool (by rw[HV.out];rfl),K.out⟩
  | true =>
   by_cases hlt:p.most<z
   · have HLT:=lH hlt;go_wp2;go_ret;exact⟨ret_bool (by rw[HV.out,decide_eq_true HLT.out];rfl),K.out⟩
   · have HLT:=lH hlt;have hle:z≤p.most:=by omega
     clear hlt;go_wp2;go_ret;exact⟨ret_bool (by rw[HV.out,decide_eq_false (by have:=HLT.out;omega)];rfl),K.out⟩
theorem hasRoom_any (s1 s2 s3:Option Addr) (n1 e1 n2 e2 n3 e3:Nat) (a1 a2 a3 a4:Option Addr) (m1 c1 m2 c2 m3 c3 m4 c4:Nat) (p:Pd) (s:Clu) (name:ByteArray) (w:World) (hs:CluR w (CluV (.slice s1 n1 e1) (.slice s2 n2 e2) (.slice s3 n3 e3)) s) (hl:LowClu s) (hp:PodAt w (.slice a1 m1 c1) (.slice a2 m2 c2) (.slice a3 m3 c3) (.slice a4 m4 c4) p):Calls Tryz.prog 111 #[.agg #[.slice s1 n1 e1,.slice s2 n2 e2,.slice s3 n3 e3],PodV p (.slice a1 m1 c1) (.slice a2 m2 c2) (.slice a3 m3 c3) (.slice a4 m4 c4),.string name] w (Say (.bool (roomB s p name)) w):=by
 obtain⟨Z,hZ⟩:∃Z,(w.alloc (.cells #[.slice s1 n1 e1,.slice s2 n2 e2,.slice s3 n3 e3] 26)).alloc (.cells #[.string p.name,.string p.owner,.int .i64 p.prio,.slice a1 m1 c1,.slice a2 m2 c2,.slice a3 m3 c3,.slice a4 m4 c4,.string p.key,.int .i64 p.most,.string p.node,.bool p.hold] 35)=Z:=⟨_,rfl⟩
 have hkz:Kept w Z:=by rw[←hZ];exact kept_two _ _ _
 have HB1:=lH (freshN w (.slice s1 n1 e1) [.slice s2 n2 e2,.slice s3 n3 e3] 26 Z (by rw[←hZ];exact kept_alloc _ _));have HB2:=lH (show CellsN (w.heap.size+1) [.string p.name,.string p.owner,.int .i64 p.prio,.slice a1 m1 c1,.slice a2 m2 c2,.slice a3 m3 c3,.slice a4 m4 c4,.string p.key,.int .i64 p.most,.string p.node,.bool p.hold] Z by
  have dd:=freshN (w.alloc (.cells #[.slice s1 n1 e1,.slice s2 n2 e2,.slice s3 n3 e3] 26)) (.string p.name) [.string p.owner,.int .i64 p.prio,.slice a1 m1 c1,.slice a2 m2 c2,.slice a3 m3 c3,.slice a4 m4 c4,.string p.key,.int .i64 p.most,.string p.node,.bool p.hold] 35 Z (by rw[hZ];exact Kept.refl _);rw[World.size_alloc] at dd;exact dd)
 have K:=lH hkz;have HF:=lH (freeR (hs.kept hkz) name hl);unfold CluV at HF;have HP:=lH (hp.need.kept hkz);clear hs hkz hl hp;have y0:=HB1.out.at_ 0 _ rfl;have y1:=HB1.out.at_ 1 _ rfl;have y2:=HB1.out.at_ 2 _ rfl;unfold PodV;obtain⟨c,hc⟩:∃c,(freeSt s name).1=c:=⟨_,rfl⟩
 obtain⟨fl,hfl⟩:∃c,(freeSt s name).2=c:=⟨_,rfl⟩
 obtain⟨q,hq⟩:∃q,Vec.fitsFrom fl p.need=q:=⟨_,rfl⟩
 have HV:=lH (show roomB s p name=(decide (c=0)&&q) by unfold roomB;rw[hc,hfl,hq]);have HQ:=lH hq;go_enter Tryz.func111,Tryz.ntmps111;go_wp2_with fail
 try rw[hZ]
 refine HF.out.mono ?_;rintro e w1 ⟨y,rfl,hy,kk⟩;rw[hc];rw[hfl] at hy;have HY:=lH hy;have K:=lH (K.out.trans kk);have HP:=lH (HP.out.kept kk);have r3:=(HB2.out.kept kk).at_ 3 _ rfl;clear kk hZ hc hfl hq hy HF y0 y1 y2;by_cases h0:c=0
 · subst h0;go_wp2_with fail
   refine(Vec.fitsR HP.out HY.out HQ.out).mono ?_;rintro e w2 ⟨rfl,kk⟩;have K:=lH (K.out.trans kk);clear kk;go_wp2;go_ret;exact⟨ret_bool (by rw[HV.out];rfl),K.out⟩
 · have h0b:(c==0)=false:=by simpa using h0
   have H0:=lH h0;clear h0;go_wp2;go_ret;exact⟨ret_bool (by rw[HV.out,decide_eq_false H0.out];rfl),K.out⟩
end Go.Proofs.YtmlgobiifebjkacGreat
