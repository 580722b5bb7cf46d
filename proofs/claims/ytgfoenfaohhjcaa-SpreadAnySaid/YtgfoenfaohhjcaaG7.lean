/- What serves all packages,and package by package the contracts of the functions that the law calls. -/
import Derived.Test.YtgfoenfaohhjcaaG0
import Derived.Test.YtgfoenfaohhjcaaG1
import Derived.Test.YtgfoenfaohhjcaaG2
import Derived.Test.YtgfoenfaohhjcaaG4
import Derived.Test.YtgfoenfaohhjcaaG5
import Derived.Test.YtgfoenfaohhjcaaG6
set_option linter.unusedVariables false
set_option maxRecDepth 100000
set_option maxHeartbeats 25600000
namespace Go.Proofs.Ytgfoenfaohhjcaa
open Go.RowKit
theorem jaT (p:Pd) (d:ByteArray) (a b:List Pd):∀l:List Nod,inD p (a++b) d l=inD p a d l+inD p b d l
 | []=>rfl
 | n::t=>by
  rw[inD,inD,inD,jaT p d a b t,YS];split<;>omega
def zE (p q:Pd) (d:ByteArray) (nodes:List Nod):Bool:=za p q&&decide (domV p.key q.node nodes=some d)
theorem jcP {p q:Pd} {pods:List Pd} {d:ByteArray} {nodes:List Nod} {k:Nat} (h:Zm nodes) (hq:pods[k]?=some q):inD p (pods.take (k+1)) d nodes=inD p (pods.take k) d nodes+(if zE p q d nodes=true then 1 else 0):=by
 rw[List.take_add_one,hq,show (some q).toList=[q] from rfl,jaT,ZY,ZW,jcO p q d h];unfold zE
 cases hb:za p q
 · simp
 · by_cases hd:domV p.key q.node nodes=some d
   · simp[hd]
   · simp[hd]
theorem jbN {p:Pd} {d:ByteArray} {nodes:List Nod} (h:Zm nodes) (l:List Pd):inD p l d nodes≤l.length:=Nat.le_trans (ja7 p d h l) (jaS p l)
theorem ZO {p:Pd} (h:zu p.owner=true) (d:ByteArray) (nodes:List Nod):∀l:List Pd,inD p l d nodes=0
 | []=>ZW p d nodes
 | q::t=>by
  rw[ZY,ZO h d nodes t,if_neg (by unfold za;rw[h];simp)]
theorem Yv {key x:ByteArray}:∀{l:List Nod},domV key x l=(jI l x).bind fun n=>jr n.labels key
 | []=>rfl
 | n::t=>by
  rw[domV];unfold jI;rw[List.find?_cons]
  cases h:eqS n.name x with
  | true=>rfl
  | false =>
   have:=Yv (key:=key) (x:=x) (l:=t);unfold jI at this;simpa using this
theorem jcy {x:ByteArray} (h:zu x=true):isName x=false:=by
 rw[zB] at h;have e:x.toList=[]:=by simpa using h
 have e2:x.data.toList=[]:=by rw[←Lib.toList_data];exact e
 have e3:x.size=0:=by rw[←ByteArray.size_data,←Array.length_toList,e2];rfl
 unfold isName;rw[e3];rfl
theorem Ya.spelt {w:World} {v:Value} {n:Nod} (h:Ya w v n):∃b1 k1 d1 b2 k2 d2 b3 k3 d3,v=.agg #[.string n.name,.slice b1 k1 d1,.slice b2 k2 d2,.slice b3 k3 d3,.bool n.cordon]∧zl w (.slice b1 k1 d1) (.slice b2 k2 d2) (.slice b3 k3 d3) n:=by
 obtain⟨v1,v2,v3,rfl,hat⟩:=h;have g1:=hat.cap;have g2:=hat.labels;have g3:=hat.taints;obtain⟨b1,d1,rfl,-,-,-⟩:=g1;obtain⟨b2,d2,rfl,-,-,-⟩:=g2;obtain⟨b3,d3,rfl,-,-,-⟩:=g3;exact⟨_,_,_,_,_,_,_,_,_,rfl,hat⟩
theorem jcm {w:World} {v:Value} {l:PL} {key x:ByteArray} {b:Bool} (h:Reads jl w v l) (hx:Zb l key=x) (hb:Za l key=b):Calls Try.prog 48 #[v,.string key] w fun e w'=>e=.returned (.tuple #[.string x,.bool b])∧w=w':=by
 subst hx hb;obtain⟨a,cap,rfl,-,-,hr⟩:=h;exact Yq a _ cap l key w hr
theorem Z8 (s1 s2 s3:Option Addr) (n1 e1 n2 e2 n3 e3:Nat) (a1 a2 a3 a4:Option Addr) (m1 c1 m2 c2 m3 c3 m4 c4:Nat) (p:Pd) (s:Clu) (d:ByteArray) (w:World) (hn:ju w s1 n1 s.nodes) (hp:jN w s2 n2 s.pods) (hb2:n2≤100000) (ha:Zm s.nodes) (hk:∀n ∈ s.nodes,jE n=0):Calls Try.prog 18 #[.agg #[.slice s1 n1 e1,.slice s2 n2 e2,.slice s3 n3 e3],jy p (.slice a1 m1 c1) (.slice a2 m2 c2) (.slice a3 m3 c3) (.slice a4 m4 c4),.string d] w (Say (.int .i64 (inD p s.pods d s.nodes)) w):=by
 obtain⟨Z,hZ⟩:∃Z,(w.alloc (.cells #[.slice s1 n1 e1,.slice s2 n2 e2,.slice s3 n3 e3] 51)).alloc (.cells #[.string p.name,.string p.owner,.int .i64 p.prio,.slice a1 m1 c1,.slice a2 m2 c2,.slice a3 m3 c3,.slice a4 m4 c4,.string p.key,.int .i64 p.most,.string p.node,.bool p.hold] 45)=Z:=⟨_,rfl⟩
 have hkz:Kept w Z:=by rw[←hZ];exact jX _ _ _
 have HB1:=lH (jd w (.slice s1 n1 e1) [.slice s2 n2 e2,.slice s3 n3 e3] 51 Z (by rw[←hZ];exact ja _ _));have HB2:=lH (show jh (w.heap.size+1) [.string p.name,.string p.owner,.int .i64 p.prio,.slice a1 m1 c1,.slice a2 m2 c2,.slice a3 m3 c3,.slice a4 m4 c4,.string p.key,.int .i64 p.most,.string p.node,.bool p.hold] Z by
  have dd:=jd (w.alloc (.cells #[.slice s1 n1 e1,.slice s2 n2 e2,.slice s3 n3 e3] 51)) (.string p.name) [.string p.owner,.int .i64 p.prio,.slice a1 m1 c1,.slice a2 m2 c2,.slice a3 m3 c3,.slice a4 m4 c4,.string p.key,.int .i64 p.most,.string p.node,.bool p.hold] 45 Z (by rw[hZ];exact Kept.refl _);rw[World.size_alloc] at dd;exact dd)
 have HKZ:=lH hkz;have HN:=lH (hn.kept hkz);have HP:=lH (hp.kept hkz);have HPL:=lH hp.1;have HAS:=lH ha;have HCK:=lH hk;clear hn hp hkz ha hk;obtain⟨t0,h0⟩:∃t,(p.owner.toList==([]:List UInt8))=t:=⟨_,rfl⟩
 have h0b:(p.owner.toList != ([]:List UInt8))=!t0:=by rw[←h0];rfl
 have T0:=lH (show zu p.owner=t0 by rw[zB,h0]);unfold jy;go_enter Try.func18,Try.ntmps18;go_upto_region 2 with fail
 try rw[hZ]
 clear hZ;go_wp2;go_loopw [7,8] (fun nv iv wr=>∃i k:Nat,i≤n2∧iv=.int .i64 i∧nv=.int .i64 k∧Hid (inD p (s.pods.take i) d s.nodes=k∧Kept Z wr)) (fun _ iv _=>n2-(intOf iv).toNat)
 case atStart=>exact⟨0,0,Nat.zero_le _,rfl,rfl,ZW p d s.nodes,Kept.refl _⟩
 case round =>
  obtain⟨i,k,hi9,rfl,rfl,HH⟩:=hrel;have HKE:=lH HH.out.1;have HK:=lH HH.out.2;clear HH;have HS1:=lH (HB1.out.kept HK.out);have HS2:=lH (HB2.out.kept HK.out);have y0:=HS1.out.at_ 0 _ rfl;have y1:=HS1.out.at_ 1 _ rfl;have y2:=HS1.out.at_ 2 _ rfl;have r0:=HS2.out.at_ 0 _ rfl;have r1:=HS2.out.at_ 1 _ rfl;have r7:=HS2.out.at_ 7 _ rfl;by_cases hlt:i<n2
  · have hkk:(i:Int)<(n2:Int):=by omega
    cases t0 with
    | true =>
     have HE:=lH (show inD p s.pods d s.nodes=k by rw[←HKE.out,ZO T0.out,ZO T0.out]);go_wp2;go_ret;exact⟨jb (by rw[HE.out]),HKZ.out.trans HK.out⟩
    | false =>
     obtain⟨g,off,rfl⟩:=HP.out.form.resolve_left (by omega);obtain⟨q,u1,h1,l1,u2,h2,l2,u3,h3,l3,u4,h4,l4,hn,hd,hb,j0,j1,j2,j3,j4,j5,j6,j7,j8,j9,j10,hat⟩:=(HP.out.kept HK.out).at_ hlt;have hki:k≤i:=by
      have:=jbN (p:=p) (d:=d) HAS.out (s.pods.take i);rw[HKE.out,List.length_take] at this;omega
     have HTK:=lH (jcP (p:=p) (d:=d) HAS.out hn);have hk0:¬(i:Int)<0:=by omega
     obtain⟨wx,hwx⟩:∃W,wr.alloc (.cells #[.string q.name,.string q.owner,.int .i64 q.prio,.slice u1 h1 l1,.slice u2 h2 l2,.slice u3 h3 l3,.slice u4 h4 l4,.string q.key,.int .i64 q.most,.string q.node,.bool q.hold] 45)=W:=⟨_,rfl⟩
     have hkx:Kept wr wx:=by rw[←hwx];exact ja _ _
     have HQB:=lH (jd wr (.string q.name) [.string q.owner,.int .i64 q.prio,.slice u1 h1 l1,.slice u2 h2 l2,.slice u3 h3 l3,.slice u4 h4 l4,.string q.key,.int .i64 q.most,.string q.node,.bool q.hold] 45 wx (by rw[hwx];exact Kept.refl _));obtain⟨bq,hbq⟩:∃z,wr.heap.size=z:=⟨_,rfl⟩
     rw[hbq] at HQB;have KX:=lH (HK.out.trans hkx);have HS1:=lH (HS1.out.kept hkx);have HS2:=lH (HS2.out.kept hkx);go_upto_region 6 with fail
     try rw[hwx]
     try rw[hbq]
     clear hwx hbq hd hb hn hkx hk0 hkk hat j0 j1 j2 j3 j4 j5 j6 j7 j8 j9 j10 y0 y1 y2 r0 r1 r7;obtain⟨t4,h4⟩:∃t,q.hold=t:=⟨_,rfl⟩
     rw[h4] at HQB;have j0:=HQB.out.at_ 0 _ rfl;have j1:=HQB.out.at_ 1 _ rfl;have j9:=HQB.out.at_ 9 _ rfl;have j10:=HQB.out.at_ 10 _ rfl;have y0:=HS1.out.at_ 0 _ rfl;have y1:=HS1.out.at_ 1 _ rfl;have y2:=HS1.out.at_ 2 _ rfl;have r0:=HS2.out.at_ 0 _ rfl;have r1:=HS2.out.at_ 1 _ rfl;have r7:=HS2.out.at_ 7 _ rfl;obtain⟨t2,h2⟩:∃t,(q.owner.toList==p.owner.toList)=t:=⟨_,rfl⟩
     have h2b:(q.owner.toList != p.owner.toList)=!t2:=by rw[←h2];rfl
     have T2:=lH (show eqS q.owner p.owner=t2 from h2);obtain⟨t1,h1⟩:∃t,(q.name.toList==p.name.toList)=t:=⟨_,rfl⟩
     have T1:=lH (show eqS q.name p.name=t1 from h1);obtain⟨t5,h5⟩:∃t,(q.node.toList==([]:List UInt8))=t:=⟨_,rfl⟩
     have T5:=lH (show zu q.node=t5 by rw[zB,h5]);have T4:=lH h4;clear h4
     cases t2 with
     | false =>
      have HC:=lH (show zE p q d s.nodes=false by unfold zE za;rw[T2.out];simp);have HE:=lH (show inD p (s.pods.take (i+1)) d s.nodes=k by rw[HTK.out,HC.out,HKE.out];rfl);go_wp2;go_roundw
      case rel=>exact⟨i+1,k,by omega,by go_num,rfl,HE.out,KX.out⟩
      case measure=>simp[intOf];omega
     | true =>
      cases t4 with
      | true =>
       have HC:=lH (show zE p q d s.nodes=false by unfold zE za;rw[T4.out];simp);have HE:=lH (show inD p (s.pods.take (i+1)) d s.nodes=k by rw[HTK.out,HC.out,HKE.out];rfl);go_wp2;go_roundw
       case rel=>exact⟨i+1,k,by omega,by go_num,rfl,HE.out,KX.out⟩
       case measure=>simp[intOf];omega
      | false =>
       cases t1 with
       | true =>
        have HC:=lH (show zE p q d s.nodes=false by unfold zE za;rw[T1.out];simp);have HE:=lH (show inD p (s.pods.take (i+1)) d s.nodes=k by rw[HTK.out,HC.out,HKE.out];rfl);go_wp2;go_roundw
        case rel=>exact⟨i+1,k,by omega,by go_num,rfl,HE.out,KX.out⟩
        case measure=>simp[intOf];omega
       | false =>
        cases t5 with
        | true =>
         have HC:=lH (show zE p q d s.nodes=false by unfold zE;rw[Y1 (jcy T5.out) HCK.out];simp);have HE:=lH (show inD p (s.pods.take (i+1)) d s.nodes=k by rw[HTK.out,HC.out,HKE.out];rfl);go_wp2;go_roundw
         case rel=>exact⟨i+1,k,by omega,by go_num,rfl,HE.out,KX.out⟩
         case measure=>simp[intOf];omega
        | false =>
         have HBS:=lH (show za p q=true by unfold za;rw[T0.out,T2.out,T4.out,T1.out];rfl);go_wp2_with fail
         refine(YD s1 n1 e1 s.nodes q.node wx (HN.out.kept KX.out)).mono ?_;rintro e wy ⟨v,rfl,hv,kk⟩;obtain⟨b1,k1,d1,b2,k2,d2,b3,k3,d3,rfl,hat⟩:=hv.spelt;obtain⟨fo,hfo⟩:∃fo,jI s.nodes q.node=fo:=⟨_,rfl⟩
         rw[hfo] at hat;rw[hfo];have HFO:=lH hfo;obtain⟨nd,hnd⟩:∃nd,fo.getD Nod.zero=nd:=⟨_,rfl⟩
         rw[hnd] at hat;rw[hnd];have HND:=lH hnd;clear hfo hnd hv;obtain⟨wz,hwz⟩:∃W,wy.alloc (.cells #[.string nd.name,.slice b1 k1 d1,.slice b2 k2 d2,.slice b3 k3 d3,.bool nd.cordon] 99)=W:=⟨_,rfl⟩
         have kz:Kept wy wz:=by rw[←hwz];exact ja _ _
         have HNB:=lH (jd wy (.string nd.name) [.slice b1 k1 d1,.slice b2 k2 d2,.slice b3 k3 d3,.bool nd.cordon] 99 wz (by rw[hwz];exact Kept.refl _));have HAT:=lH (hat.kept kz);have HWZ:=lH hwz;obtain⟨bn,hbn⟩:∃z,wy.heap.size=z:=⟨_,rfl⟩
         rw[hbn] at HNB;have HBN:=lH hbn;have KX:=lH (KX.out.trans (kk.trans kz));have HS2:=lH (HS2.out.kept (kk.trans kz));clear kk kz hat hwz hbn j0 j1 j9 j10 y0 y1 y2 r0 r1 r7;go_upto_region 8 with fail
         try rw[HWZ.out]
         try rw[HBN.out]
         clear HWZ HBN;have z0:=HNB.out.at_ 0 _ rfl;have z1:=HNB.out.at_ 1 _ rfl;have z2:=HNB.out.at_ 2 _ rfl;have z3:=HNB.out.at_ 3 _ rfl;have z4:=HNB.out.at_ 4 _ rfl;have r0:=HS2.out.at_ 0 _ rfl;have r1:=HS2.out.at_ 1 _ rfl;have r7:=HS2.out.at_ 7 _ rfl;obtain⟨go,hgo⟩:∃g,jr nd.labels p.key=g:=⟨_,rfl⟩
         have HGO:=lH hgo;have HLB:=lH (jcm (key:=p.key) (x:=go.getD ByteArray.empty) (b:=go.isSome) HAT.out.labels (by unfold Zb;rw[hgo]) (by unfold Za;rw[hgo]));clear hgo;go_wp2_with fail
         refine HLB.out.mono ?_;rintro e wv ⟨rfl,rfl⟩;clear HLB z0 z1 z2 z3 z4 r0 r1 r7;have HDV:=lH (show domV p.key q.node s.nodes=fo.bind fun n=>jr n.labels p.key from by rw[Yv,HFO.out])
         cases fo with
         | none =>
          have HC:=lH (show zE p q d s.nodes=false by unfold zE;rw[HDV.out];simp);have HE:=lH (show inD p (s.pods.take (i+1)) d s.nodes=k by rw[HTK.out,HC.out,HKE.out];rfl);go_wp2;go_roundw
          case rel=>exact⟨i+1,k,by omega,by go_num,rfl,HE.out,KX.out⟩
          case measure=>simp[intOf];omega
         | some n0 =>
          have HDV:=lH (show domV p.key q.node s.nodes=go from by rw[HDV.out,←HGO.out,←HND.out];rfl)
          cases go with
          | none =>
           have HC:=lH (show zE p q d s.nodes=false by unfold zE;rw[HDV.out];simp);have HE:=lH (show inD p (s.pods.take (i+1)) d s.nodes=k by rw[HTK.out,HC.out,HKE.out];rfl);go_wp2;go_roundw
           case rel=>exact⟨i+1,k,by omega,by go_num,rfl,HE.out,KX.out⟩
           case measure=>simp[intOf];omega
          | some x =>
           obtain⟨t7,h7⟩:∃t,(x.toList==d.toList)=t:=⟨_,rfl⟩
           have T7:=lH (show eqS x d=t7 from h7)
           cases t7 with
           | false =>
            have HC:=lH (show zE p q d s.nodes=false by unfold zE;rw[HDV.out];simp;intro _ e;subst e;have:=T7.out;rw[JU] at this;cases this);have HE:=lH (show inD p (s.pods.take (i+1)) d s.nodes=k by rw[HTK.out,HC.out,HKE.out];rfl);go_wp2;go_roundw
            case rel=>exact⟨i+1,k,by omega,by go_num,rfl,HE.out,KX.out⟩
            case measure=>simp[intOf];omega
           | true =>
            have HC:=lH (show zE p q d s.nodes=true by unfold zE;rw[HDV.out,HBS.out,jJ.1 T7.out];simp);have HE:=lH (show inD p (s.pods.take (i+1)) d s.nodes=k+1 by rw[HTK.out,HC.out,HKE.out];rfl);go_wp2;go_roundw
            case rel=>exact⟨i+1,k+1,by omega,by go_num,by go_num,HE.out,KX.out⟩
            case measure=>simp[intOf];omega
  · have hge:¬(i:Int)<(n2:Int):=by omega
    have HE:=lH (show inD p s.pods d s.nodes=k by rw[←HKE.out,List.take_of_length_le (by rw[HPL.out];omega)]);go_wp2;go_ret;exact⟨jb (by rw[HE.out]),HKZ.out.trans HK.out⟩
theorem ji.upto {α:Type} {L:Lay α} {w:World} {b off len:Nat} {l:List α} {k:Nat} (h:ji L w (some ⟨b,off,none⟩) len l) (hk:k≤len):ji L w (some ⟨b,off,none⟩) k (l.take k):=ji.preP h (by rw[h.1];exact hk)
theorem Zz {l:List ByteArray} {n:Nat} (h:l.length=n):(jc StrLay l).length=n*1:=by rw[ZF,h];rfl
theorem jcp {la:List ByteArray} {q:Nat} {d:ByteArray}:jc StrLay (la.take q)++[.string d]++jc StrLay (la.drop q)=jc StrLay (la.take q++d::la.drop q):=by
 rw[JD,show d::la.drop q=[d]++la.drop q from rfl,JD,List.append_assoc];rfl
theorem ZH (l:List ByteArray):∀u ∈ jc StrLay l,u.oneCell'=true:=fun u hu=>qG StrLay l u hu
def Yd (key:ByteArray) (nodes:List Nod) (B k:Nat) (v:Value) (Z wr:World):Prop:=∃la:List ByteArray,la.length≤k∧XO la∧(∀x,x ∈ la↔x ∈ zS key (nodes.take k))∧Own StrLay 9 wr B v la∧Kept Z wr
theorem Yd.more {key d:ByteArray} {nodes:List Nod} {B k q m g:Nat} {W Z wr:World} {la:List ByteArray} {n:Nod} {c:Nat} (hn:nodes[k]?=some n) (hg:jr n.labels key=some d) (hd:d.size≤maxLen) (hr:XO la) (hl:la.length≤k) (hmem:∀x,x ∈ la↔x ∈ zS key (nodes.take k)) (hf:∀x ∈ la,StrLay.fine x) (h1:∀x ∈ la.take q,ltS x d=true) (h2:∀x ∈ la.drop q,ltS d x=true) (hq:q≤la.length) (hm:la.length+1=m)
 (hB:B≤wr.heap.size) (hk:Kept Z wr) (hw:Kept wr W) (ho:W.ownsRow wr.heap.size 9 1 (.slice (some ⟨g,0,none⟩) m c) m (jc StrLay (la.take q)++[.string d]++jc StrLay (la.drop q))):Yd key nodes B (k+1) (.slice (some ⟨g,0,none⟩) m c) Z W:=by
 have hlen:(la.take q++d::la.drop q).length=m:=by rw[List.length_append,List.length_cons,List.length_take,List.length_drop];omega
 refine⟨la.take q++d::la.drop q,by omega,jd3 hr h1 h2,fun x=>?_,(show Own StrLay 9 W wr.heap.size _ _ from⟨?_,fun x hx=>?_⟩).base_le hB,hk.trans hw⟩
 · rw[ins_mem',qY hn hg,hmem]
 · rw[jcp] at ho;rw[hlen];exact ho
 · rcases ins_mem'.1 hx with hx | rfl
   · exact hf x hx
   · exact hd
theorem YI (s1 s2 s3:Option Addr) (n1 e1 n2 e2 n3 e3:Nat) (nodes:List Nod) (key:ByteArray) (w:World) (hn:ju w s1 n1 nodes) (hb1:n1≤100000):Calls Try.prog 16 #[.agg #[.slice s1 n1 e1,.slice s2 n2 e2,.slice s3 n3 e3],.string key] w fun e w'=>∃v,e=.returned v∧Own StrLay 9 w' w.heap.size v (zG key nodes)∧Kept w w':=by
 obtain⟨Z,hZ⟩:∃Z,w.alloc (.cells #[.slice s1 n1 e1,.slice s2 n2 e2,.slice s3 n3 e3] 51)=Z:=⟨_,rfl⟩
 have hkz:Kept w Z:=by rw[←hZ];exact ja _ _
 have HSB:=lH (jd w (.slice s1 n1 e1) [.slice s2 n2 e2,.slice s3 n3 e3] 51 Z (by rw[hZ];exact Kept.refl _));have HN:=lH (hn.kept hkz);have HNL:=lH hn.1;have HKZ:=lH hkz;clear hn hkz;go_enter Try.func16,Try.ntmps16;go_upto_region 2 with fail
 try rw[hZ]
 clear hZ;go_wp2;go_loopw [5,6] (fun v i wr=>∃k:Nat,k≤n1∧i=.int .i64 k∧Hid (Yd key nodes Z.heap.size k v Z wr)) (fun _ i _=>n1-(intOf i).toNat)
 case atStart=>exact⟨0,Nat.zero_le _,rfl,[],Nat.zero_le _,List.Pairwise.nil,(fun x=>by simp[zS]),Own.nil _ _ _,Kept.refl _⟩
 case round =>
  obtain⟨k,hk,rfl,HI⟩:=hrel;obtain⟨la,hl,hr,hmem,ho,hK⟩:=HI.out;have HLK:=lH hl;have HR:=lH hr;have HM:=lH hmem;have HO:=lH ho;have HK:=lH hK;clear hl hr hmem ho hK;have HSR:=lH (HSB.out.kept HK.out);have y0:=HSR.out.at_ 0 _ rfl;by_cases hlt:k<n1
  · obtain⟨gn,off,rfl⟩:=HN.out.form.resolve_left (by omega);obtain⟨n,b1,q1,f1,b2,q2,f2,b3,q3,f3,hn,hd,hb,u0,u1,u2,u3,u4,hat⟩:=(HN.out.kept HK.out).at_ hlt;have HNN:=lH hn;have HAT:=lH hat;have hkk:(k:Int)<(n1:Int):=by omega
    have hk0:¬(k:Int)<0:=by omega
    obtain⟨go,hgo⟩:∃g,jr n.labels key=g:=⟨_,rfl⟩
    have HGO:=lH hgo;have HLB:=lH (show Calls Try.prog 48 #[.slice b2 q2 f2,.string key] wr fun e w'=>e=.returned (.tuple #[.string (go.getD ByteArray.empty),.bool go.isSome])∧wr=w' from by
     obtain⟨a9,c9,e9,-,-,hrow⟩:=hat.labels;injection e9 with e1 e2 e3;subst e1 e2 e3;have h:=Yq b2 _ f2 n.labels key wr hrow;unfold Zb Za at h;rw[hgo] at h;exact h)
    clear hgo hn hd hb hat;go_wp2_with fail
    refine HLB.out.mono ?_;rintro e w3 ⟨rfl,rfl⟩;clear HLB
    cases go with
    | none =>
     have HX:=lH (show Yd key nodes Z.heap.size (k+1) u5 Z wr from⟨la,by have:=HLK.out;omega,HR.out,(fun x=>by rw[jdc HNN.out HGO.out];exact HM.out x),HO.out,HK.out⟩);go_wp2;go_roundw
     case rel=>exact⟨k+1,by omega,by go_num,HX⟩
     case measure=>simp[intOf];omega
    | some d =>
     have HDS:=lH (jc5 HAT.out.labels HGO.out);have hB:Z.heap.size≤wr.heap.size:=HK.out.size;obtain⟨oa,oc,rfl,hcap,hcm,hrow⟩:=HO.out.at_;obtain⟨m,hm⟩:∃m,la.length=m:=⟨_,rfl⟩
     rw[hm] at hcap hrow;try rw[hm]
     have HLM:=lH hm;have HRW:=lH hrow;have ho2:=HO.out;rw[hm] at ho2;have HO:=lH ho2;clear ho2;have hmk:m≤k:=by have:=HLK.out;omega
     have hmx:maxLen=9223372036854775807:=rfl;clear hm hrow;go_wp2;go_loop [9] (fun iv=>∃q:Nat,q≤m∧iv=.int .i64 q∧Hid (∀x ∈ la.take q,ltS x d=true)) (fun iv=>m-(intOf iv).toNat)
     case atStart=>exact⟨0,Nat.zero_le _,rfl,fun x hx=>by simp at hx⟩
     case round =>
      obtain⟨q,hq,rfl,HQ⟩:=hrel;by_cases hqm:q<m
      · obtain⟨g,gz,rfl⟩:=HRW.out.form.resolve_left (by omega);obtain⟨y,hy,-,-,-,cy⟩:=HRW.out.str hqm;have hqi:(q:Int)<(m:Int):=by omega
        have hq0:¬(q:Int)<0:=by omega
        obtain⟨t,ht⟩:∃t,Op.bytesLess y.toList d.toList=t:=⟨_,rfl⟩
        have HT:=lH (show ltS y d=t from ht)
        cases t with
        | true =>
         have HQ2:=lH (jed HQ.out hy HT.out);clear hy;go_wp2;go_round
         case rel=>exact⟨q+1,by omega,by go_num,HQ2⟩
         case measure=>simp[intOf];omega
        | false =>
         obtain⟨z,hz⟩:∃z,(y.toList==d.toList)=z:=⟨_,rfl⟩
         have HZ:=lH (show eqS y d=z from hz)
         cases z with
         | true =>
          have hyd:y=d:=jJ.1 HZ.out;have HX:=lH (show Yd key nodes Z.heap.size (k+1) (.slice (some ⟨g,gz,none⟩) m oc) Z wr from⟨la,by have:=HLK.out;omega,HR.out,(fun x=>by rw[qY HNN.out HGO.out,←HM.out];exact⟨fun h=>.inl h,fun h=>h.elim id fun e=>by rw[e,←hyd];exact List.mem_of_getElem? hy⟩),HO.out,HK.out⟩);clear hy hyd;go_wp2;go_roundw
          case rel=>exact⟨k+1,by omega,by go_num,HX⟩
          case measure=>simp[intOf];omega
         | false =>
          have HD:=lH (jcQ HR.out hy HT.out HZ.out);have hgz:gz=0:=by
           rcases HO.out.1.2 with ⟨e,_⟩ | ⟨_,_,_,e,_⟩
           · cases e
           · cases e;rfl
          subst hgz;rw[Nat.zero_add] at cy;have hqc:¬oc=q:=by omega
          clear hy;have HW1:=lH (ZD wr wr.heap.size 1 9 (Nat.le_refl _));have HA1:=lH ((ji.upto (HRW.out.kept (ja wr (.cells #[] 9))) hq).src (cap:=oc));have hc1:=Zz (l:=la.take q) (n:=q) (by rw[List.length_take,HLM.out];omega);have HA3:=lH (fun (W:World) (k:Kept wr W)=>show ZS W (.slice (some ⟨g,q,none⟩) (m-q) (oc-q)) (m-q) (jc StrLay (la.drop q)) from by
           have h:=(ji.postP (HRW.out.kept k) (k:=q) (by rw[HLM.out];exact hq)).src (cap:=oc-q);rw[HLM.out,show 0+q*StrLay.m=q from by show 0+q*1=q;omega] at h;exact h)
          have hc3:=Zz (l:=la.drop q) (n:=m-q) (by rw[List.length_drop,HLM.out]);go_wp2_with (at_builtin;first
           | (refine jC kindStr _ rfl (.tmp 57) (.tmp 60) rfl wr.heap.size (by simp) wr.heap.size 0 0 [] rfl HW1.out _ q (jc StrLay (la.take q)) rfl hc1 (ZH _) HA1.out (by omega) (by omega) ?_;intro g1 c1 w4 ho1 hx1 hg1;have HO1:=lH (show w4.ownsRow wr.heap.size 9 1 (.slice (some ⟨g1,0,none⟩) q c1) q (jc StrLay (la.take q)) from by simpa using ho1);have K4:=lH (show Kept wr w4 from Below.trans (ja wr (.cells #[] 9)) hx1);try simp only[Nat.zero_add];clear ho1 hx1 hg1)
           | (refine jC kindStr _ rfl (.tmp 61) (.tmp 63) rfl wr.heap.size (by have:=K4.out.size;simp;omega) g1 q c1 (jc StrLay (la.take q)) rfl (ZG HO1.out _) _ 1 [.string d] rfl rfl (Jk d) (YV rfl (World.alloc_heap_new w4 _)) (by omega) (by omega) ?_;intro g2 c2 w5 ho2 hx2 hg2;have K5:=lH (show Kept wr w5 from Below.trans (Below.trans K4.out (Below.mono (ja w4 _) K4.out.size)) hx2);have HO2:=lH ho2;clear ho2 hx2 hg2)
           | (refine jC kindStr _ rfl (.tmp 65) (.tmp 68) rfl wr.heap.size K5.out.size g2 (q+1) c2 (jc StrLay (la.take q)++[.string d]) rfl HO2.out _ (m-q) (jc StrLay (la.drop q)) rfl hc3 (ZH _) (HA3.out _ K5.out) (by omega) (by omega) ?_;intro g3 c3 w6 ho3 hx3 hg3;have K6:=lH (show Kept wr w6 from Below.trans K5.out hx3);have HO3:=lH ho3;clear ho3 hx3 hg3))
          have HO3:=lH (show w6.ownsRow wr.heap.size 9 1 (.slice (some ⟨g3,0,none⟩) (q+1+(m-q)) c3) (q+1+(m-q)) (jc StrLay (la.take q)++[.string d]++jc StrLay (la.drop q)) from HO3.out);have HX:=lH (Yd.more (B:=Z.heap.size) (q:=q) HNN.out HGO.out HDS.out HR.out HLK.out HM.out HO.out.2 HQ.out HD.out (by have:=HLM.out;omega) (show la.length+1=q+1+(m-q) by have:=HLM.out;omega) hB HK.out K6.out HO3.out);go_roundw
          case rel=>exact⟨k+1,by omega,by go_num,by first | exact HX | (simpa using HX)⟩
          case measure=>simp[intOf];omega
      · have hqi:¬(q:Int)<(m:Int):=by omega
        have hqe:q=m:=by omega
        clear hqm;rcases HO.out.1.2 with ⟨e0,h0⟩ | ⟨g,oc2,cur,e0,-⟩
        · have e1:oa=none:=by injection e0
          have e2:m=0:=by injection e0
          have e3:oc=0:=by injection e0
          subst e1 e3;subst e2;obtain rfl:q=0:=by omega
          clear e0 h0 hqe;have HW1:=lH (ZD wr wr.heap.size 1 9 (Nat.le_refl _));go_wp2_with (at_builtin;first
           | (refine jC kindStr _ rfl (.tmp 57) (.tmp 60) rfl wr.heap.size (by simp) wr.heap.size 0 0 [] rfl HW1.out _ 0 [] rfl rfl (by intro u hu;cases hu) (.inr ⟨_,rfl,rfl⟩) (by decide) (by decide) ?_;intro g1 c1 w4 ho1 hx1 hg1;have HO1:=lH (show w4.ownsRow wr.heap.size 9 1 (.slice (some ⟨g1,0,none⟩) 0 c1) 0 ([]) from by simpa using ho1);have K4:=lH (show Kept wr w4 from Below.trans (ja wr (.cells #[] 9)) hx1);try simp only[Nat.zero_add];clear ho1 hx1 hg1)
           | (refine jC kindStr _ rfl (.tmp 61) (.tmp 63) rfl wr.heap.size (by have:=K4.out.size;simp;omega) g1 0 c1 ([]) rfl (ZG HO1.out _) _ 1 [.string d] rfl rfl (Jk d) (YV rfl (World.alloc_heap_new w4 _)) (by omega) (by omega) ?_;intro g2 c2 w5 ho2 hx2 hg2;have K5:=lH (show Kept wr w5 from Below.trans (Below.trans K4.out (Below.mono (ja w4 _) K4.out.size)) hx2);have HO2:=lH ho2;clear ho2 hx2 hg2)
           | (refine jC kindStr _ rfl (.tmp 65) (.tmp 68) rfl wr.heap.size K5.out.size g2 (0+1) c2 ([]++[.string d]) rfl HO2.out _ 0 [] rfl rfl (by intro u hu;cases hu) (.inr ⟨_,rfl,rfl⟩) (by decide) (by decide) ?_;intro g3 c3 w6 ho3 hx3 hg3;have K6:=lH (show Kept wr w6 from Below.trans K5.out hx3);have HO3:=lH ho3;clear ho3 hx3 hg3))
          have HO3:=lH (show w6.ownsRow wr.heap.size 9 1 (.slice (some ⟨g3,0,none⟩) (0+1) c3) (0+1) (jc StrLay (la.take 0)++[.string d]++jc StrLay (la.drop 0)) from by
           rw[List.drop_of_length_le (show la.length≤0 by rw[HLM.out];omega)];have h:=HO3.out;simpa [jc] using h)
          have HX:=lH (Yd.more (B:=Z.heap.size) (q:=0) HNN.out HGO.out HDS.out HR.out HLK.out HM.out HO.out.2 (fun x hx=>by simp at hx) (fun x hx=>by rw[List.drop_of_length_le (by rw[HLM.out];omega)] at hx;cases hx) (by have:=HLM.out;omega) (show la.length+1=0+1 by have:=HLM.out;omega) hB HK.out K6.out HO3.out);go_roundw
          case rel=>exact⟨k+1,by omega,by go_num,by first | exact HX | (simpa using HX)⟩
          case measure=>simp[intOf];omega
        · have e1:oa=some ⟨g,0,none⟩:=by injection e0
          subst e1;clear e0;subst hqe;by_cases hqc:oc=q
          · have hqe2:q=oc:=hqc.symm;clear hqc;subst hqe2;have HW1:=lH (ZD wr wr.heap.size 1 9 (Nat.le_refl _));have HA1:=lH ((ji.upto (HRW.out.kept (ja wr (.cells #[] 9))) hq).src (cap:=q));have hc1:=Zz (l:=la.take q) (n:=q) (by rw[List.length_take,HLM.out];omega);go_wp2_with (at_builtin;first
             | (refine jC kindStr _ rfl (.tmp 57) (.tmp 60) rfl wr.heap.size (by simp) wr.heap.size 0 0 [] rfl HW1.out _ q (jc StrLay (la.take q)) rfl hc1 (ZH _) HA1.out (by omega) (by omega) ?_;intro g1 c1 w4 ho1 hx1 hg1;have HO1:=lH (show w4.ownsRow wr.heap.size 9 1 (.slice (some ⟨g1,0,none⟩) q c1) q (jc StrLay (la.take q)) from by simpa using ho1);have K4:=lH (show Kept wr w4 from Below.trans (ja wr (.cells #[] 9)) hx1);try simp only[Nat.zero_add];clear ho1 hx1 hg1)
             | (refine jC kindStr _ rfl (.tmp 61) (.tmp 63) rfl wr.heap.size (by have:=K4.out.size;simp;omega) g1 q c1 (jc StrLay (la.take q)) rfl (ZG HO1.out _) _ 1 [.string d] rfl rfl (Jk d) (YV rfl (World.alloc_heap_new w4 _)) (by omega) (by omega) ?_;intro g2 c2 w5 ho2 hx2 hg2;have K5:=lH (show Kept wr w5 from Below.trans (Below.trans K4.out (Below.mono (ja w4 _) K4.out.size)) hx2);have HO2:=lH ho2;clear ho2 hx2 hg2)
             | (refine jC kindStr _ rfl (.tmp 65) (.tmp 68) rfl wr.heap.size K5.out.size g2 (q+1) c2 (jc StrLay (la.take q)++[.string d]) rfl HO2.out _ 0 [] rfl rfl (by intro u hu;cases hu) (.inl ⟨_,_,rfl,by intro j u hu;simp at hu⟩) (by omega) (by omega) ?_;intro g3 c3 w6 ho3 hx3 hg3;have K6:=lH (show Kept wr w6 from Below.trans K5.out hx3);have HO3:=lH ho3;clear ho3 hx3 hg3))
            have HO3:=lH (show w6.ownsRow wr.heap.size 9 1 (.slice (some ⟨g3,0,none⟩) (q+1) c3) (q+1) (jc StrLay (la.take q)++[.string d]++jc StrLay (la.drop q)) from by
             rw[List.drop_of_length_le (show la.length≤q by rw[HLM.out];omega)];have h:=HO3.out;simpa [jc] using h)
            have HX:=lH (Yd.more (B:=Z.heap.size) (q:=q) HNN.out HGO.out HDS.out HR.out HLK.out HM.out HO.out.2 HQ.out (fun x hx=>by rw[List.drop_of_length_le (by rw[HLM.out];omega)] at hx;cases hx) (by have:=HLM.out;omega) (show la.length+1=q+1 by have:=HLM.out;omega) hB HK.out K6.out HO3.out);go_roundw
            case rel=>exact⟨k+1,by omega,by go_num,by first | exact HX | (simpa using HX)⟩
            case measure=>simp[intOf];omega
          · skip;have HW1:=lH (ZD wr wr.heap.size 1 9 (Nat.le_refl _));have HA1:=lH ((ji.upto (HRW.out.kept (ja wr (.cells #[] 9))) hq).src (cap:=oc));have hc1:=Zz (l:=la.take q) (n:=q) (by rw[List.length_take,HLM.out];omega);go_wp2_with (at_builtin;first
             | (refine jC kindStr _ rfl (.tmp 57) (.tmp 60) rfl wr.heap.size (by simp) wr.heap.size 0 0 [] rfl HW1.out _ q (jc StrLay (la.take q)) rfl hc1 (ZH _) HA1.out (by omega) (by omega) ?_;intro g1 c1 w4 ho1 hx1 hg1;have HO1:=lH (show w4.ownsRow wr.heap.size 9 1 (.slice (some ⟨g1,0,none⟩) q c1) q (jc StrLay (la.take q)) from by simpa using ho1);have K4:=lH (show Kept wr w4 from Below.trans (ja wr (.cells #[] 9)) hx1);try simp only[Nat.zero_add];clear ho1 hx1 hg1)
             | (refine jC kindStr _ rfl (.tmp 61) (.tmp 63) rfl wr.heap.size (by have:=K4.out.size;simp;omega) g1 q c1 (jc StrLay (la.take q)) rfl (ZG HO1.out _) _ 1 [.string d] rfl rfl (Jk d) (YV rfl (World.alloc_heap_new w4 _)) (by omega) (by omega) ?_;intro g2 c2 w5 ho2 hx2 hg2;have K5:=lH (show Kept wr w5 from Below.trans (Below.trans K4.out (Below.mono (ja w4 _) K4.out.size)) hx2);have HO2:=lH ho2;clear ho2 hx2 hg2)
             | (refine jC kindStr _ rfl (.tmp 65) (.tmp 68) rfl wr.heap.size K5.out.size g2 (q+1) c2 (jc StrLay (la.take q)++[.string d]) rfl HO2.out _ 0 [] rfl rfl (by intro u hu;cases hu) (.inl ⟨_,_,rfl,by intro j u hu;simp at hu⟩) (by omega) (by omega) ?_;intro g3 c3 w6 ho3 hx3 hg3;have K6:=lH (show Kept wr w6 from Below.trans K5.out hx3);have HO3:=lH ho3;clear ho3 hx3 hg3))
            have HO3:=lH (show w6.ownsRow wr.heap.size 9 1 (.slice (some ⟨g3,0,none⟩) (q+1) c3) (q+1) (jc StrLay (la.take q)++[.string d]++jc StrLay (la.drop q)) from by
             rw[List.drop_of_length_le (show la.length≤q by rw[HLM.out];omega)];have h:=HO3.out;simpa [jc] using h)
            have HX:=lH (Yd.more (B:=Z.heap.size) (q:=q) HNN.out HGO.out HDS.out HR.out HLK.out HM.out HO.out.2 HQ.out (fun x hx=>by rw[List.drop_of_length_le (by rw[HLM.out];omega)] at hx;cases hx) (by have:=HLM.out;omega) (show la.length+1=q+1 by have:=HLM.out;omega) hB HK.out K6.out HO3.out);go_roundw
            case rel=>exact⟨k+1,by omega,by go_num,by first | exact HX | (simpa using HX)⟩
            case measure=>simp[intOf];omega
  · have hge:¬(k:Int)<(n1:Int):=by omega
    have HE:=lH (show la=zG key nodes from jdY HR.out fun x=>by rw[HM.out,List.take_of_length_le (by rw[HNL.out];omega)]);go_wp2;go_ret;exact⟨_,rfl,by rw[←HE.out];exact HO.out.base_le HKZ.out.size,HKZ.out.trans HK.out⟩
theorem jak {key e:ByteArray} {nodes:List Nod}:zU key e nodes=true↔e ∈ zG key nodes:=by
 rw[jdr];unfold zU;rw[List.any_eq_true];exact⟨fun ⟨n,hn,h⟩=>⟨n,hn,of_decide_eq_true h⟩,fun ⟨n,hn,h⟩=>⟨n,hn,decide_eq_true h⟩⟩
def JS (p:Pd) (s:Clu) (d:ByteArray) (i z:Nat):Prop:=z≤inD p s.pods d s.nodes+1∧(∀e ∈ (zG p.key s.nodes).take i,z≤inD p s.pods e s.nodes+(if e=d then 1 else 0))∧(z=inD p s.pods d s.nodes+1∨∃e ∈ (zG p.key s.nodes).take i,z=inD p s.pods e s.nodes+(if e=d then 1 else 0))
theorem JS.same {p:Pd} {s:Clu} {d e:ByteArray} {i z:Nat} (h:JS p s d i z) (he:(zG p.key s.nodes)[i]?=some e) (hz:z≤inD p s.pods e s.nodes+(if e=d then 1 else 0)):JS p s d (i+1) z:=by
 obtain⟨h1,h2,h3⟩:=h;refine⟨h1,fun x hx=>?_,h3.imp id fun ⟨x,hx,e2⟩=>⟨x,by rw[List.take_add_one];exact List.mem_append_left _ hx,e2⟩⟩;rw[List.take_add_one,he] at hx;rcases List.mem_append.1 hx with hx | hx
 · exact h2 x hx
 · rcases List.mem_singleton.1 hx with rfl;exact hz
theorem JS.less {p:Pd} {s:Clu} {d e:ByteArray} {i z y:Nat} (h:JS p s d i z) (he:(zG p.key s.nodes)[i]?=some e) (hy:y=inD p s.pods e s.nodes+(if e=d then 1 else 0)) (hz:y≤z):JS p s d (i+1) y:=by
 obtain⟨h1,h2,h3⟩:=h;refine⟨by omega,fun x hx=>?_,.inr ⟨e,by rw[List.take_add_one,he];exact List.mem_append_right _ (by simp),hy⟩⟩;rw[List.take_add_one,he] at hx;rcases List.mem_append.1 hx with hx | hx
 · exact Nat.le_trans hz (h2 x hx)
 · rcases List.mem_singleton.1 hx with rfl;omega
theorem JS.end_ {p:Pd} {s:Clu} {name d:ByteArray} {i z c:Nat} (h:JS p s d i z) (hi:(zG p.key s.nodes).length≤i) (hk:zu p.key=false) (hd:domV p.key name s.nodes=some d) (hc:inD p s.pods d s.nodes=c):jx p s name=(((c+1:Nat):Int)-(z:Int),true):=by
 obtain⟨h1,h2,h3⟩:=h;rw[List.take_of_length_le hi] at h2 h3;have hl:JO p s.pods s.nodes d s.nodes (inD p s.pods d s.nodes+1)=z:=XT (Zq hd) rfl (fun e he=>h2 e (jak.1 he)) (by
  rcases h3 with h3 | ⟨e,he,h3⟩
  · exact⟨d,Zq hd,by rw[if_pos rfl];exact h3⟩
  · exact⟨e,jak.2 he,h3⟩)
 unfold jx JI;rw[if_neg (by rw[hk];decide),hd];dsimp only;rw[hl,hc]
theorem qc (s1 s2 s3:Option Addr) (n1 e1 n2 e2 n3 e3:Nat) (a1 a2 a3 a4:Option Addr) (m1 c1 m2 c2 m3 c3 m4 c4:Nat) (p:Pd) (s:Clu) (name:ByteArray) (w:World) (hn:ju w s1 n1 s.nodes) (hp:jN w s2 n2 s.pods) (hb1:n1≤100000) (hb2:n2≤100000) (ha:Zm s.nodes) (hk:∀n ∈ s.nodes,jE n=0):Calls Try.prog 13 #[.agg #[.slice s1 n1 e1,.slice s2 n2 e2,.slice s3 n3 e3],jy p (.slice a1 m1 c1) (.slice a2 m2 c2) (.slice a3 m3 c3) (.slice a4 m4 c4),.string name] w (Say (.tuple #[.int .i64 (jx p s name).1,.bool (jx p s name).2]) w):=by
 obtain⟨Z,hZ⟩:∃Z,(w.alloc (.cells #[.slice s1 n1 e1,.slice s2 n2 e2,.slice s3 n3 e3] 51)).alloc (.cells #[.string p.name,.string p.owner,.int .i64 p.prio,.slice a1 m1 c1,.slice a2 m2 c2,.slice a3 m3 c3,.slice a4 m4 c4,.string p.key,.int .i64 p.most,.string p.node,.bool p.hold] 45)=Z:=⟨_,rfl⟩
 have hkz:Kept w Z:=by rw[←hZ];exact jX _ _ _
 have HB1:=lH (jd w (.slice s1 n1 e1) [.slice s2 n2 e2,.slice s3 n3 e3] 51 Z (by rw[←hZ];exact ja _ _));have HB2:=lH (show jh (w.heap.size+1) [.string p.name,.string p.owner,.int .i64 p.prio,.slice a1 m1 c1,.slice a2 m2 c2,.slice a3 m3 c3,.slice a4 m4 c4,.string p.key,.int .i64 p.most,.string p.node,.bool p.hold] Z by
  have dd:=jd (w.alloc (.cells #[.slice s1 n1 e1,.slice s2 n2 e2,.slice s3 n3 e3] 51)) (.string p.name) [.string p.owner,.int .i64 p.prio,.slice a1 m1 c1,.slice a2 m2 c2,.slice a3 m3 c3,.slice a4 m4 c4,.string p.key,.int .i64 p.most,.string p.node,.bool p.hold] 45 Z (by rw[hZ];exact Kept.refl _);rw[World.size_alloc] at dd;exact dd)
 have HKZ:=lH hkz;have HN:=lH (hn.kept hkz);have HP:=lH (hp.kept hkz);have HPL:=lH hp.1;have HAS:=lH ha;have HCK:=lH hk;clear hn hp hkz ha hk;obtain⟨t0,h0⟩:∃t,(p.key.toList==([]:List UInt8))=t:=⟨_,rfl⟩
 have T0:=lH (show zu p.key=t0 by rw[zB,h0]);have y0:=HB1.out.at_ 0 _ rfl;have y1:=HB1.out.at_ 1 _ rfl;have y2:=HB1.out.at_ 2 _ rfl;have r0:=HB2.out.at_ 0 _ rfl;have r1:=HB2.out.at_ 1 _ rfl;have r2:=HB2.out.at_ 2 _ rfl;have r3:=HB2.out.at_ 3 _ rfl;have r4:=HB2.out.at_ 4 _ rfl;have r5:=HB2.out.at_ 5 _ rfl;have r6:=HB2.out.at_ 6 _ rfl;have r7:=HB2.out.at_ 7 _ rfl;have r8:=HB2.out.at_ 8 _ rfl;have r9:=HB2.out.at_ 9 _ rfl;have r10:=HB2.out.at_ 10 _ rfl;unfold jy;go_enter Try.func13,Try.ntmps13
 cases t0 with
 | true =>
  have HV:=lH (show jx p s name=(0,true) by unfold jx;rw[if_pos T0.out]);go_wp2;try rw[hZ]
  go_ret2
  rw[HV.out];exact⟨rfl,by first | exact HKZ.out | (rw[hZ];exact HKZ.out)⟩
 | false =>
  go_upto_region 3 with fail
  try rw[hZ]
  clear hZ;go_wp2_with fail
  refine(YD s1 n1 e1 s.nodes name Z HN.out).mono ?_;rintro e wy ⟨v,rfl,hv,kk⟩;obtain⟨b1,k1,d1,b2,k2,d2,b3,k3,d3,rfl,hat⟩:=hv.spelt;obtain⟨fo,hfo⟩:∃fo,jI s.nodes name=fo:=⟨_,rfl⟩
  rw[hfo] at hat;rw[hfo];have HFO:=lH hfo;obtain⟨nd,hnd⟩:∃nd,fo.getD Nod.zero=nd:=⟨_,rfl⟩
  rw[hnd] at hat;rw[hnd];have HND:=lH hnd;clear hfo hnd hv;obtain⟨wz,hwz⟩:∃W,wy.alloc (.cells #[.string nd.name,.slice b1 k1 d1,.slice b2 k2 d2,.slice b3 k3 d3,.bool nd.cordon] 99)=W:=⟨_,rfl⟩
  have kz:Kept wy wz:=by rw[←hwz];exact ja _ _
  have HNB:=lH (jd wy (.string nd.name) [.slice b1 k1 d1,.slice b2 k2 d2,.slice b3 k3 d3,.bool nd.cordon] 99 wz (by rw[hwz];exact Kept.refl _));have HAT:=lH (hat.kept kz);have HWZ:=lH hwz;obtain⟨bn,hbn⟩:∃z,wy.heap.size=z:=⟨_,rfl⟩
  rw[hbn] at HNB;have HBN:=lH hbn;have K:=lH (kk.trans kz);have HB1:=lH (HB1.out.kept (kk.trans kz));have HB2:=lH (HB2.out.kept (kk.trans kz));clear kk kz hat hwz hbn y0 y1 y2 r0 r1 r2 r3 r4 r5 r6 r7 r8 r9 r10;go_upto_region 4 with fail
  try rw[HWZ.out]
  try rw[HBN.out]
  clear HWZ HBN;have z0:=HNB.out.at_ 0 _ rfl;have z1:=HNB.out.at_ 1 _ rfl;have z2:=HNB.out.at_ 2 _ rfl;have z3:=HNB.out.at_ 3 _ rfl;have z4:=HNB.out.at_ 4 _ rfl;have r7:=HB2.out.at_ 7 _ rfl;obtain⟨go,hgo⟩:∃g,jr nd.labels p.key=g:=⟨_,rfl⟩
  have HGO:=lH hgo;have HLB:=lH (jcm (key:=p.key) (x:=go.getD ByteArray.empty) (b:=go.isSome) HAT.out.labels (by unfold Zb;rw[hgo]) (by unfold Za;rw[hgo]));clear hgo;go_wp2_with fail
  refine HLB.out.mono ?_;rintro e wv ⟨rfl,rfl⟩;clear HLB z0 z1 z2 z3 z4 r7;have HDV:=lH (show domV p.key name s.nodes=fo.bind fun n=>jr n.labels p.key from by rw[Yv,HFO.out])
  cases fo with
  | none =>
   have HV:=lH (show jx p s name=(0,false) by unfold jx;rw[if_neg (by rw[T0.out];decide),show domV p.key name s.nodes=none from HDV.out]);go_wp2;go_ret2
   rw[HV.out];exact⟨rfl,HKZ.out.trans K.out⟩
  | some n0 =>
   have HDV:=lH (show domV p.key name s.nodes=go from by rw[HDV.out,←HGO.out,←HND.out];rfl)
   cases go with
   | none =>
    have HV:=lH (show jx p s name=(0,false) by unfold jx;rw[if_neg (by rw[T0.out];decide),show domV p.key name s.nodes=none from HDV.out]);go_wp2;go_ret2
    rw[HV.out];exact⟨rfl,HKZ.out.trans K.out⟩
   | some d =>
    have y0:=HB1.out.at_ 0 _ rfl;have y1:=HB1.out.at_ 1 _ rfl;have y2:=HB1.out.at_ 2 _ rfl;have r0:=HB2.out.at_ 0 _ rfl;have r1:=HB2.out.at_ 1 _ rfl;have r2:=HB2.out.at_ 2 _ rfl;have r3:=HB2.out.at_ 3 _ rfl;have r4:=HB2.out.at_ 4 _ rfl;have r5:=HB2.out.at_ 5 _ rfl;have r6:=HB2.out.at_ 6 _ rfl;have r7:=HB2.out.at_ 7 _ rfl;have r8:=HB2.out.at_ 8 _ rfl;have r9:=HB2.out.at_ 9 _ rfl;have r10:=HB2.out.at_ 10 _ rfl;obtain⟨c,hc⟩:∃c,inD p s.pods d s.nodes=c:=⟨_,rfl⟩
    have HC:=lH hc;have hcb:c≤100000:=by have:=jbN (p:=p) (d:=d) HAS.out s.pods;rw[hc,HPL.out] at this;omega
    have HCT:=Z8 s1 s2 s3 n1 e1 n2 e2 n3 e3 a1 a2 a3 a4 m1 c1 m2 c2 m3 c3 m4 c4 p s d wz (HN.out.kept K.out) (HP.out.kept K.out) hb2 HAS.out HCK.out;rw[hc] at HCT;unfold jy at HCT;have HCT:=lH HCT;clear hc;obtain⟨cc,hcc⟩:∃q,c+1=q:=⟨_,rfl⟩
    have hadd:(c:Int)+1=(cc:Int):=by omega
    have haw:IntKind.i64.wrap (cc:Int)=(cc:Int):=IntWalk.i64_in _ (by omega);have HCC:=lH hcc;clear hcc;go_wp2_with fail
    refine HCT.out.mono ?_;rintro e w3 ⟨rfl,kk⟩;clear HCT y0 y1 y2 r0 r1 r2 r3 r4 r5 r6 r7 r8 r9 r10;have HB1:=lH (HB1.out.kept kk);have HB2:=lH (HB2.out.kept kk);have K:=lH (K.out.trans kk);clear kk;have y0:=HB1.out.at_ 0 _ rfl;have y1:=HB1.out.at_ 1 _ rfl;have y2:=HB1.out.at_ 2 _ rfl;have r7:=HB2.out.at_ 7 _ rfl;go_wp2_with fail
    refine(YI s1 s2 s3 n1 e1 n2 e2 n3 e3 s.nodes p.key w3 (HN.out.kept K.out) hb1).mono ?_;rintro e w4 ⟨v9,rfl,ho,kk⟩;have HB1:=lH (HB1.out.kept kk);have HB2:=lH (HB2.out.kept kk);have K:=lH (K.out.trans kk);obtain⟨la,lc,rfl,-,-,hrow⟩:=ho.reads;obtain⟨m,hm⟩:∃m,(zG p.key s.nodes).length=m:=⟨_,rfl⟩
    rw[hm] at hrow;try rw[hm]
    have HRW:=lH hrow;have HM:=lH hm;have hmx:=hrow.2.1;unfold maxLen at hmx;clear kk ho hrow hm r7 y0 y1 y2;go_wp2;go_loopw [13,15] (fun lv iv wr=>∃i z:Nat,i≤m∧iv=.int .i64 i∧lv=.int .i64 z∧Hid (JS p s d i z∧Kept w4 wr)) (fun _ iv _=>m-(intOf iv).toNat)
    case atStart=>exact⟨0,cc,Nat.zero_le _,rfl,rfl,⟨by rw[HC.out,HCC.out];exact Nat.le_refl _,(fun e he=>by simp at he),.inl (by rw[HC.out,HCC.out])⟩,Kept.refl _⟩
    case round =>
     obtain⟨i,z,hi9,rfl,rfl,HH⟩:=hrel;have HLI:=lH HH.out.1;have HK:=lH HH.out.2;clear HH;have hzc:z≤cc:=by have:=HLI.out.1;rw[HC.out,HCC.out] at this;exact this
     by_cases hlt:i<m
     · obtain⟨bl,ol,rfl⟩:=HRW.out.form.resolve_left (by omega);obtain⟨x,hx,-,hxb,hxs,cx⟩:=(HRW.out.kept HK.out).str hlt;have HXX:=lH hx;have CXX:=lH cx;have hkk:(i:Int)<(m:Int):=by omega
       have hk0:¬(i:Int)<0:=by omega
       clear hx cx hxb;have HS1:=lH (HB1.out.kept HK.out);have HS2:=lH (HB2.out.kept HK.out);have HF:=lH (show ∀W,Kept wr W→W.cell? ⟨w.heap.size,0,none⟩=some (.slice s1 n1 e1)∧W.cell? ⟨w.heap.size,1,none⟩=some (.slice s2 n2 e2)∧W.cell? ⟨w.heap.size,2,none⟩=some (.slice s3 n3 e3)∧W.cell? ⟨w.heap.size+1,0,none⟩=some (.string p.name)∧W.cell? ⟨w.heap.size+1,1,none⟩=some (.string p.owner)∧W.cell? ⟨w.heap.size+1,2,none⟩=some (.int .i64 p.prio)∧W.cell? ⟨w.heap.size+1,3,none⟩=some (.slice a1 m1 c1)∧W.cell? ⟨w.heap.size+1,4,none⟩=some (.slice a2 m2 c2)∧W.cell? ⟨w.heap.size+1,5,none⟩=some (.slice a3 m3 c3)∧W.cell? ⟨w.heap.size+1,6,none⟩=some (.slice a4 m4 c4)∧W.cell? ⟨w.heap.size+1,7,none⟩=some (.string p.key)∧W.cell? ⟨w.heap.size+1,8,none⟩=some (.int .i64 p.most)∧W.cell? ⟨w.heap.size+1,9,none⟩=some (.string p.node)∧W.cell? ⟨w.heap.size+1,10,none⟩=some (.bool p.hold)∧W.cell? ⟨bl,ol+i,none⟩=some (.string x) from fun W k=>by
        have h1:=HS1.out.kept k;have h2:=HS2.out.kept k;exact⟨h1.at_ 0 _ rfl,h1.at_ 1 _ rfl,h1.at_ 2 _ rfl,h2.at_ 0 _ rfl,h2.at_ 1 _ rfl,h2.at_ 2 _ rfl,h2.at_ 3 _ rfl,h2.at_ 4 _ rfl,h2.at_ 5 _ rfl,h2.at_ 6 _ rfl,h2.at_ 7 _ rfl,h2.at_ 8 _ rfl,h2.at_ 9 _ rfl,h2.at_ 10 _ rfl,cell_later k CXX.out⟩)
       obtain⟨y,hy⟩:∃y,inD p s.pods x s.nodes=y:=⟨_,rfl⟩
       have HY:=lH hy;have HCT:=lH (show ∀W,Kept wr W→Calls Try.prog 18 #[.agg #[.slice s1 n1 e1,.slice s2 n2 e2,.slice s3 n3 e3],.agg #[.string p.name,.string p.owner,.int .i64 p.prio,.slice a1 m1 c1,.slice a2 m2 c2,.slice a3 m3 c3,.slice a4 m4 c4,.string p.key,.int .i64 p.most,.string p.node,.bool p.hold],.string x] W (Say (.int .i64 y) W) from fun W k=>by
        have h:=Z8 s1 s2 s3 n1 e1 n2 e2 n3 e3 a1 a2 a3 a4 m1 c1 m2 c2 m3 c3 m4 c4 p s x W (HN.out.kept (K.out.trans (HK.out.trans k))) (HP.out.kept (K.out.trans (HK.out.trans k))) hb2 HAS.out HCK.out;rw[hy] at h;exact h)
       clear hy;go_upto_region 13 with fail
       have J:=lH (Kept.drew wr);refine wp_region_held_drew (S:=fun W=>W.cell? ⟨w.heap.size,0,none⟩=some (.slice s1 n1 e1)∧W.cell? ⟨w.heap.size,1,none⟩=some (.slice s2 n2 e2)∧W.cell? ⟨w.heap.size,2,none⟩=some (.slice s3 n3 e3)∧W.cell? ⟨w.heap.size+1,0,none⟩=some (.string p.name)∧W.cell? ⟨w.heap.size+1,1,none⟩=some (.string p.owner)∧W.cell? ⟨w.heap.size+1,2,none⟩=some (.int .i64 p.prio)∧W.cell? ⟨w.heap.size+1,3,none⟩=some (.slice a1 m1 c1)∧W.cell? ⟨w.heap.size+1,4,none⟩=some (.slice a2 m2 c2)∧W.cell? ⟨w.heap.size+1,5,none⟩=some (.slice a3 m3 c3)∧W.cell? ⟨w.heap.size+1,6,none⟩=some (.slice a4 m4 c4)∧W.cell? ⟨w.heap.size+1,7,none⟩=some (.string p.key)∧W.cell? ⟨w.heap.size+1,8,none⟩=some (.int .i64 p.most)∧W.cell? ⟨w.heap.size+1,9,none⟩=some (.string p.node)∧W.cell? ⟨w.heap.size+1,10,none⟩=some (.bool p.hold)∧W.cell? ⟨bl,ol+i,none⟩=some (.string x)) (by kernel_rfl) (HF.out _ J.out) (fun hHeld=>?_);obtain⟨wd,hwd⟩:∃W,wr.drew=W:=⟨_,rfl⟩
       rw[hwd] at J hHeld;try rw[hwd]
       clear hwd;refine wpAnyH_take  (i:=0) (v:=?_) (by rw[List.getElem?_toArray];exact rfl) (by kernel_rfl) (by kernel_rfl) (by kernel_rfl) (by exact fun _ _ _ h=>h) (Or.inl ⟨by rfl,(by rintro W ⟨o0,o1,o2,o3,o4,o5,o6,o7,o8,o9,o10,o11,o12,o13,o14⟩;go_simp<;>with_reducible rfl)⟩) (by assumption) ?_;try simp only  [Act.put,List.setIfInBounds_toArray,List.set_cons_zero,List.set_cons_succ]
       refine wpAnyH_take  (i:=1) (v:=?_) (by rw[List.getElem?_toArray];exact rfl) (by kernel_rfl) (by kernel_rfl) (by kernel_rfl) (by exact fun _ _ _ h=>h) (Or.inl ⟨by rfl,(by rintro W ⟨o0,o1,o2,o3,o4,o5,o6,o7,o8,o9,o10,o11,o12,o13,o14⟩;go_simp<;>with_reducible rfl)⟩) (by assumption) ?_;try simp only  [Act.put,List.setIfInBounds_toArray,List.set_cons_zero,List.set_cons_succ]
       refine wpAnyH_take  (i:=2) (v:=?_) (by rw[List.getElem?_toArray];exact rfl) (by kernel_rfl) (by kernel_rfl) (by kernel_rfl) (by exact fun _ _ _ h=>h) (Or.inl ⟨by rfl,(by rintro W ⟨o0,o1,o2,o3,o4,o5,o6,o7,o8,o9,o10,o11,o12,o13,o14⟩;go_simp<;>with_reducible rfl)⟩) (by assumption) ?_;try simp only  [Act.put,List.setIfInBounds_toArray,List.set_cons_zero,List.set_cons_succ]
       refine wpAnyH_take  (i:=3) (v:=?_) (by rw[List.getElem?_toArray];exact rfl) (by kernel_rfl) (by kernel_rfl) (by kernel_rfl) (by exact fun _ _ _ h=>h) (Or.inl ⟨by rfl,(by rintro W ⟨o0,o1,o2,o3,o4,o5,o6,o7,o8,o9,o10,o11,o12,o13,o14⟩;go_simp<;>with_reducible rfl)⟩) (by assumption) ?_;try simp only  [Act.put,List.setIfInBounds_toArray,List.set_cons_zero,List.set_cons_succ]
       refine wpAnyH_take  (i:=4) (v:=?_) (by rw[List.getElem?_toArray];exact rfl) (by kernel_rfl) (by kernel_rfl) (by kernel_rfl) (by exact fun _ _ _ h=>h) (Or.inl ⟨by rfl,(by rintro W ⟨o0,o1,o2,o3,o4,o5,o6,o7,o8,o9,o10,o11,o12,o13,o14⟩;go_simp<;>with_reducible rfl)⟩) (by assumption) ?_;try simp only  [Act.put,List.setIfInBounds_toArray,List.set_cons_zero,List.set_cons_succ]
       refine wpAnyH_take  (i:=5) (v:=?_) (by rw[List.getElem?_toArray];exact rfl) (by kernel_rfl) (by kernel_rfl) (by kernel_rfl) (by exact fun _ _ _ h=>h) (Or.inl ⟨by rfl,(by rintro W ⟨o0,o1,o2,o3,o4,o5,o6,o7,o8,o9,o10,o11,o12,o13,o14⟩;go_simp<;>with_reducible rfl)⟩) (by assumption) ?_;try simp only  [Act.put,List.setIfInBounds_toArray,List.set_cons_zero,List.set_cons_succ]
       refine wpAnyH_ready  (rs:=[6]) (by kernel_rfl) (by simp) (AllReadyH.cons  (by rw[List.getElem?_toArray];exact rfl) (fun K9 hK9=>?_) AllReadyH.nil);go_simp;refine(HCT.out _ J.out).mono ?_;rintro e wc ⟨rfl,kk⟩;have J:=lH (J.out.trans kk);clear kk HCT;refine hK9.out _ _ (HF.out _ J.out) (fun hHeld1=>?_);clear hK9 K9;try simp only  [Act.put,List.setIfInBounds_toArray,List.set_cons_zero,List.set_cons_succ]
       refine wpAnyH_take  (i:=7) (v:=?_) (by rw[List.getElem?_toArray];exact rfl) (by kernel_rfl) (by kernel_rfl) (by kernel_rfl) (by exact fun _ _ _ h=>h) (Or.inl ⟨by rfl,(by rintro W ⟨o0,o1,o2,o3,o4,o5,o6,o7,o8,o9,o10,o11,o12,o13,o14⟩;go_simp<;>with_reducible rfl)⟩) (by assumption) ?_;try simp only  [Act.put,List.setIfInBounds_toArray,List.set_cons_zero,List.set_cons_succ]
       refine wpAnyH_done (by kernel_rfl) ?_ _;have cx:=cell_later J.out CXX.out;obtain⟨t,ht⟩:∃t,(x.toList==d.toList)=t:=⟨_,rfl⟩
       have htb:(x.toList != d.toList)=!t:=by rw[←ht];rfl
       have HT:=lH (show eqS x d=t from ht)
       cases t with
       | true =>
        have HL2:=lH (HLI.out.same HXX.out (by rw[jJ.1 HT.out,if_pos rfl];exact HLI.out.1));go_wp2;go_roundw
        case rel=>exact⟨i+1,z,by omega,by go_num,rfl,HL2.out,HK.out.trans J.out⟩
        case measure=>simp[intOf];omega
       | false =>
        have hne:¬x=d:=fun e=>by have:=HT.out;rw[e,JU] at this;cases this
        by_cases hyz:y<z
        · have HL2:=lH (HLI.out.less HXX.out (by rw[HY.out,if_neg hne];rfl) (Nat.le_of_lt hyz));clear hne;go_wp2;go_roundw
          case rel=>exact⟨i+1,y,by omega,by go_num,rfl,HL2.out,HK.out.trans J.out⟩
          case measure=>simp[intOf];omega
        · have HL2:=lH (HLI.out.same HXX.out (by rw[HY.out,if_neg hne];omega));clear hne;go_wp2;go_roundw
          case rel=>exact⟨i+1,z,by omega,by go_num,rfl,HL2.out,HK.out.trans J.out⟩
          case measure=>simp[intOf];omega
     · have hge:¬(i:Int)<(m:Int):=by omega
       have HV:=lH (HLI.out.end_ (by rw[HM.out];omega) T0.out HDV.out HC.out);obtain⟨r,hr⟩:∃r:Nat,(cc:Int)-(z:Int)=(r:Int):=⟨cc-z,by omega⟩
       have hrw:IntKind.i64.wrap (r:Int)=(r:Int):=IntWalk.i64_in _ (by omega);have HV2:=lH (show jx p s name=((r:Int),true) by rw[HV.out,HCC.out,hr]);go_wp2;go_ret2
       rw[HV2.out];exact⟨rfl,HKZ.out.trans (K.out.trans HK.out)⟩
theorem jcX (s1 s2 s3:Option Addr) (n1 e1 n2 e2 n3 e3:Nat) (s:Clu) (w:World) (hn:ju w s1 n1 s.nodes) (hp:jN w s2 n2 s.pods) (hb1:n1≤100000) (hb2:n2≤100000) (ha:Zm s.nodes) (hk:∀n ∈ s.nodes,jE n=0) :
 Calls Try.prog 20 #[.agg #[.slice s1 n1 e1,.slice s2 n2 e2,.slice s3 n3 e3]] w fun e w'=>∃v,e=.returned v∧Reads StrLay w' v (Y6 s)∧Kept w w':=by
 obtain⟨i0,hi,hz0,hz1,hz2'⟩:=info_parts qu;obtain⟨Z,hZ⟩:∃Z,w.alloc (.cells #[.slice s1 n1 e1,.slice s2 n2 e2,.slice s3 n3 e3] 51)=Z:=⟨_,rfl⟩
 have hkz:Kept w Z:=by rw[←hZ];exact ja _ _
 have HSB:=lH (jd w (.slice s1 n1 e1) [.slice s2 n2 e2,.slice s3 n3 e3] 51 Z (by rw[hZ];exact Kept.refl _));have HN:=lH (hn.kept hkz);have HP:=lH (hp.kept hkz);have HPL:=lH hp.1;have HKZ:=lH hkz;have HZS:=lH (show w.heap.size<Z.heap.size by rw[←hZ];simp);have HAS:=lH ha;have HCK:=lH hk;clear hn hp hkz ha hk;go_enter Try.func20,Try.ntmps20;have y1:=HSB.out.at_ 1 _ rfl;go_upto_region 2 with fail
 try rw[hZ]
 clear hZ;go_wp2;clear y1;go_loopw [3,4] (fun v i wr=>∃k:Nat,k≤n2∧i=.int .i64 k∧∃la:List ByteArray,JJ s (s.pods.take k)=la∧Own StrLay 9 wr Z.heap.size v la∧Kept Z wr) (fun _ i _=>n2-(intOf i).toNat)
 case atStart=>exact⟨0,Nat.zero_le _,rfl,[],rfl,Own.nil _ _ _,Kept.refl _⟩
 case round =>
  obtain⟨k,hk,rfl,la,hla,ho,hK⟩:=hrel;have HX:=lH hla;have HO:=lH ho;have HK:=lH hK;obtain⟨m,hm⟩:∃m,la.length=m:=⟨_,rfl⟩
  have hmk:m≤k:=by
   have:=jad s (s.pods.take k);rw[hla,hm,List.length_take] at this;omega
  have HT:=lH hm;have hbase:Z.heap.size≤wr.heap.size:=hK.size;have y1:=(HSB.out.kept hK).at_ 1 _ rfl;by_cases hlt:k<n2
  · obtain⟨g,off,rfl⟩:=HP.out.form.resolve_left (by omega);obtain⟨p,a1,m1,c1,a2,m2,c2,a3,m3,c3,a4,m4,c4,hn,hd,hb,q0,q1,q2,q3,q4,q5,q6,q7,q8,q9,q10,hat⟩:=(HP.out.kept hK).at_ hlt;have HSZ:=lH hat.name;have HBT:=lH (X7 (s:=s) hn);have hkk:(k:Int)<(n2:Int):=by omega
    have hk0:¬(k:Int)<0:=by omega
    obtain⟨wx,hwx⟩:∃W,wr.alloc (.cells #[.string p.name,.string p.owner,.int .i64 p.prio,.slice a1 m1 c1,.slice a2 m2 c2,.slice a3 m3 c3,.slice a4 m4 c4,.string p.key,.int .i64 p.most,.string p.node,.bool p.hold] 45)=W:=⟨_,rfl⟩
    have hkx:Kept wr wx:=by rw[←hwx];exact ja _ _
    have HQB:=lH (jd wr (.string p.name) [.string p.owner,.int .i64 p.prio,.slice a1 m1 c1,.slice a2 m2 c2,.slice a3 m3 c3,.slice a4 m4 c4,.string p.key,.int .i64 p.most,.string p.node,.bool p.hold] 45 wx (by rw[hwx];exact Kept.refl _));obtain⟨bq,hbq⟩:∃z,wr.heap.size=z:=⟨_,rfl⟩
    rw[hbq] at HQB;have HSX:=lH (HSB.out.kept (hK.trans hkx));have HST:=lH (qc s1 (some ⟨g,off,none⟩) s3 n1 e1 n2 e2 n3 e3 a1 a2 a3 a4 m1 c1 m2 c2 m3 c3 m4 c4 p s p.node wx (HN.out.kept (hK.trans hkx)) (HP.out.kept (hK.trans hkx)) hb1 hb2 HAS.out HCK.out);have KX:=lH hkx;unfold jy at HST;go_upto_region 6 with fail
    try rw[hwx]
    try rw[hbq]
    clear hwx hbq hd hb hn hkx hk0 hkk hat hla ho hm hK q0 q1 q2 q3 q4 q5 q6 q7 q8 q9 q10;clear y1;have y0:=HSX.out.at_ 0 _ rfl;have y1:=HSX.out.at_ 1 _ rfl;have y2:=HSX.out.at_ 2 _ rfl;have r0:=HQB.out.at_ 0 _ rfl;have r1:=HQB.out.at_ 1 _ rfl;have r2:=HQB.out.at_ 2 _ rfl;have r3:=HQB.out.at_ 3 _ rfl;have r4:=HQB.out.at_ 4 _ rfl;have r5:=HQB.out.at_ 5 _ rfl;have r6:=HQB.out.at_ 6 _ rfl;have r7:=HQB.out.at_ 7 _ rfl;have r8:=HQB.out.at_ 8 _ rfl;have r9:=HQB.out.at_ 9 _ rfl;have r10:=HQB.out.at_ 10 _ rfl;have KW:=lH KX.out;obtain⟨t9,h9⟩:∃t,(p.node.toList==([]:List UInt8))=t:=⟨_,rfl⟩
    obtain⟨t7,h7⟩:∃t,(p.key.toList==([]:List UInt8))=t:=⟨_,rfl⟩
    have H9:=lH (show zu p.node=t9 by rw[zB,h9]);have H7:=lH (show zu p.key=t7 by rw[zB,h7])
    cases t9 with
    | true =>
     have HV:=lH (show JJ s (s.pods.take (k+1))=la by rw[HBT.out,HX.out,if_neg (by rw[show zV s p=false by unfold zV;rw[if_pos (.inl H9.out)]];decide),List.append_nil]);go_wp2;go_roundw
     case rel=>exact⟨k+1,by omega,by go_num,la,HV.out,HO.out.kept KW.out,HK.out.trans KW.out⟩
     case measure=>simp[intOf];omega
    | false =>
    cases t7 with
    | true =>
     have HV:=lH (show JJ s (s.pods.take (k+1))=la by rw[HBT.out,HX.out,if_neg (by rw[show zV s p=false by unfold zV;rw[if_pos (.inr H7.out)]];decide),List.append_nil]);go_wp2;go_roundw
     case rel=>exact⟨k+1,by omega,by go_num,la,HV.out,HO.out.kept KW.out,HK.out.trans KW.out⟩
     case measure=>simp[intOf];omega
    | false =>
    have HQ:=lH (show zV s p=(!(jx p s p.node).2||decide (p.most<(jx p s p.node).1)) by unfold zV;rw[if_neg (by rw[H9.out,H7.out];simp)]);obtain⟨z,hz⟩:∃z,(jx p s p.node).1=z:=⟨_,rfl⟩
    obtain⟨b,hb9⟩:∃z,(jx p s p.node).2=z:=⟨_,rfl⟩
    rw[hz,hb9] at HST HQ;clear hz hb9;go_wp2_with fail
    refine HST.out.mono ?_;rintro e w1 ⟨rfl,kk⟩;have KW:=lH (KX.out.trans kk);clear HST y0 y1 y2 r0 r1 r2 r3 r4 r5 r6 r7 r8 r9 r10;have r0:=(HQB.out.kept kk).at_ 0 _ rfl;have r8:=(HQB.out.kept kk).at_ 8 _ rfl;clear kk
    cases b with
    | false =>
     have HV:=lH (show JJ s (s.pods.take (k+1))=la++[p.name] by rw[HBT.out,HX.out,if_pos (by rw[HQ.out];rfl)]);have HOW2:=lH (show w1.ownsRow Z.heap.size 9 1 u3 m (jc StrLay la) by have:=(HO.out.kept KW.out).1;rw[HT.out] at this;exact this);have hs1:wr.heap.size≤w1.heap.size:=Below.size KW.out;go_wp2_with (at_builtin;refine wpList_append_lies _ rfl _ _ _ rfl Z.heap.size 9 i0 _ 1 16 Try.underlying57 hi hz0 hz1 hz2' rfl (by decide) u3 m (jc StrLay la) rfl (HOW2.out.alloc _) ⟨w1.heap.size,0,none⟩ 1 1 (StrLay.cs p.name) rfl rfl (World.news_of_block (cs:=#[.string p.name]) (t:=9) (fr:=(0,0)) (heap_alloc_new w1 _)) (Jk p.name) (by decide) (by unfold maxLen;omega) (by omega) (by simp;omega) (w1.heap.size+1) (by simp) ?_;intro gg cap1 w2 hown1 hgrow hat hlt1)
     have HBW:=lH ((show Below Z.heap.size Z _ from HK.out.trans (KW.out.trans (ja w1 _))).grown hgrow (by simp;omega) (fun j hj=>(HOW2.out.lt j hj).1));go_wp2;go_roundw
     case rel=>exact⟨k+1,by omega,by go_num,la++[p.name],HV.out,Own.snoc hown1 (by rw[HT.out]) HO.out.2 HSZ.out,HBW.out⟩
     case measure=>simp[intOf];omega
    | true =>
    by_cases hmz:p.most<z
    · have HMZ:=lH hmz;have HV:=lH (show JJ s (s.pods.take (k+1))=la++[p.name] by rw[HBT.out,HX.out,if_pos (by rw[HQ.out,decide_eq_true HMZ.out];rfl)]);have HOW2:=lH (show w1.ownsRow Z.heap.size 9 1 u3 m (jc StrLay la) by have:=(HO.out.kept KW.out).1;rw[HT.out] at this;exact this);have hs1:wr.heap.size≤w1.heap.size:=Below.size KW.out;go_wp2_with (at_builtin;refine wpList_append_lies _ rfl _ _ _ rfl Z.heap.size 9 i0 _ 1 16 Try.underlying57 hi hz0 hz1 hz2' rfl (by decide) u3 m (jc StrLay la) rfl (HOW2.out.alloc _) ⟨w1.heap.size,0,none⟩ 1 1 (StrLay.cs p.name) rfl rfl (World.news_of_block (cs:=#[.string p.name]) (t:=9) (fr:=(0,0)) (heap_alloc_new w1 _)) (Jk p.name) (by decide) (by unfold maxLen;omega) (by omega) (by simp;omega) (w1.heap.size+1) (by simp) ?_;intro gg cap1 w2 hown1 hgrow hat hlt1)
      have HBW:=lH ((show Below Z.heap.size Z _ from HK.out.trans (KW.out.trans (ja w1 _))).grown hgrow (by simp;omega) (fun j hj=>(HOW2.out.lt j hj).1));go_wp2;go_roundw
      case rel=>exact⟨k+1,by omega,by go_num,la++[p.name],HV.out,Own.snoc hown1 (by rw[HT.out]) HO.out.2 HSZ.out,HBW.out⟩
      case measure=>simp[intOf];omega
    · have HMZ:=lH hmz;have hle:z≤p.most:=by omega
      clear hmz;have HV:=lH (show JJ s (s.pods.take (k+1))=la by rw[HBT.out,HX.out,if_neg (by rw[show zV s p=false by rw[HQ.out,decide_eq_false HMZ.out];rfl];decide),List.append_nil]);go_wp2;go_roundw
      case rel=>exact⟨k+1,by omega,by go_num,la,HV.out,HO.out.kept KW.out,HK.out.trans KW.out⟩
      case measure=>simp[intOf];omega
  · have hge:¬(k:Int)<(n2:Int):=by omega
    have HE:=lH (show Y6 s=la by rw[←hla,List.take_of_length_le (by rw[HPL.out];omega)];rfl);clear hla ho hm hK;go_wp2;go_ret;exact⟨_,rfl,by rw[HE.out];exact HO.out.reads,HKZ.out.trans HK.out⟩
end Go.Proofs.Ytgfoenfaohhjcaa
