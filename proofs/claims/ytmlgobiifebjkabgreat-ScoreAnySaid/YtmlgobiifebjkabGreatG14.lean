/- C. -/
import Derived.Test.YtmlgobiifebjkabGreatG4
import Derived.Test.YtmlgobiifebjkabGreatG6
import Derived.Test.YtmlgobiifebjkabGreatG7
import Derived.Test.YtmlgobiifebjkabGreatG8
import Derived.Test.YtmlgobiifebjkabGreatG10
import Derived.Test.YtmlgobiifebjkabGreatG12
import Derived.Test.YtmlgobiifebjkabGreatG13
set_option linter.unusedVariables false
set_option maxRecDepth 100000
set_option maxHeartbeats 25600000
namespace Go.Proofs.YtmlgobiifebjkabGreat
open Go.RowKit
theorem jkE {pack:Bool} {r t:Nat} {a b:ByteArray} (m:Int):zP pack m m (nrm r) (nrm t) a b=(decide (cpM pack r t<0)||(decide (cpM pack r t=0)&&ltS a b)):=by
 obtain⟨h1,h2⟩:=jdE pack r t;unfold zP;rw[decide_eq_false (show ¬m<m by omega),decide_eq_true (rfl:m=m),Bool.false_or,Bool.true_and];congr 1
 · exact decide_eq_decide.2 h1.symm
 · congr 1
   exact decide_eq_decide.2 h2.symm
theorem jms (r t:Nat):cp r t=-1∨cp r t=0∨cp r t=1:=by unfold cp;omega
theorem jkK {pack:Bool} {m n:Int} {x y:Option Nat} {a b:ByteArray} (h:m<n):zP pack m n x y a b=true:=Yq.2 (.inl h)
theorem jj3 {pack:Bool} {m n:Int} {x y:Option Nat} {a b:ByteArray} (h:n<m):zP pack m n x y a b=false:=Xn.2 (fun g=>by rcases g with g | ⟨g,-⟩<;>omega)
theorem jhS (s1 s2 s3:Option Addr) (n1 e1 n2 e2 n3 e3:Nat) (a1 a2 a3 a4:Option Addr) (m1 c1 m2 c2 m3 c3 m4 c4:Nat) (pack:Bool) (p:Pd) (s:Clu) (na nb:ByteArray) (w:World) (hs:jA w (zv (.slice s1 n1 e1) (.slice s2 n2 e2) (.slice s3 n3 e3)) s) (hl:jH s) (hA:Asc s.pods) (hnn:∀n ∈ s.nodes,zZ n.name=false) (hp:js w (.slice a1 m1 c1) (.slice a2 m2 c2) (.slice a3 m3 c3) (.slice a4 m4 c4) p) (hxa:na.size≤maxLen) (hxb:nb.size≤maxLen):Calls Tryz.prog 56 #[.agg #[.slice s1 n1 e1,.slice s2 n2 e2,.slice s3 n3 e3],jr p (.slice a1 m1 c1) (.slice a2 m2 c2) (.slice a3 m3 c3) (.slice a4 m4 c4),.bool pack,.string na,.string nb] w (Say (.bool (jT s p pack na nb)) w):=by
 obtain⟨Z,hZ⟩:∃Z,(w.alloc (.cells #[.slice s1 n1 e1,.slice s2 n2 e2,.slice s3 n3 e3] 51)).alloc (.cells #[.string p.name,.string p.owner,.int .i64 p.prio,.slice a1 m1 c1,.slice a2 m2 c2,.slice a3 m3 c3,.slice a4 m4 c4,.string p.key,.int .i64 p.most,.string p.node,.bool p.hold] 45)=Z:=⟨_,rfl⟩
 have hkz:Kept w Z:=by rw[←hZ];exact jm _ _ _
 have Vd:=lH (jd w (.slice s1 n1 e1) [.slice s2 n2 e2,.slice s3 n3 e3] 51 Z (by rw[←hZ];exact ja _ _));have Vb:=lH (show jf (w.heap.size+1) [.string p.name,.string p.owner,.int .i64 p.prio,.slice a1 m1 c1,.slice a2 m2 c2,.slice a3 m3 c3,.slice a4 m4 c4,.string p.key,.int .i64 p.most,.string p.node,.bool p.hold] Z by
  have dd:=jd (w.alloc (.cells #[.slice s1 n1 e1,.slice s2 n2 e2,.slice s3 n3 e3] 51)) (.string p.name) [.string p.owner,.int .i64 p.prio,.slice a1 m1 c1,.slice a2 m2 c2,.slice a3 m3 c3,.slice a4 m4 c4,.string p.key,.int .i64 p.most,.string p.node,.bool p.hold] 45 Z (by rw[hZ];exact Kept.refl _);rw[World.size_alloc] at dd;exact dd)
 have K:=lH hkz;have HS:=lH (hs.kept hkz);have HP:=lH (hp.kept hkz);have HL:=lH hl;have HA:=lH hA;have TM:=lH hs;clear hs hp hkz hl hA ;have UZ:=lH hxa;have VQ:=lH hxb;have HV:=lH (show jT s p pack na nb=zP pack (Zo s p na) (Zo s p nb) (Zk s p na) (Zk s p nb) na nb by unfold jT;rw[qY HA.out hnn,qY HA.out hnn]);clear hxa hxb hnn;have V7:=lH (jcc s1 n1 e1 s na w Z K.out TM.out.nAt.1);have y0:=Vd.out.at_ 0 _ rfl;unfold jr;go_enter Tryz.func56,Tryz.ntmps56;go_wp2_with fail
 try rw[hZ]
 clear hZ;refine V7.out.mono ?_;rintro e w1 ⟨b1,k1,d1,b2,k2,d2,b3,k3,d3,rfl,hat,kk⟩;have Ru:=lH hat.taints;have HS:=lH (HS.out.kept kk);have HP:=lH (HP.out.kept kk);have Vd:=lH (Vd.out.kept kk);have Vb:=lH (Vb.out.kept kk);have K:=lH (K.out.trans kk);clear kk hat y0 V7;obtain⟨nz,hnz⟩:∃q,zb s na=q:=⟨_,rfl⟩
 have M5:=lH hnz;rw[hnz] at Ru;rw[hnz];clear hnz;unfold zw;obtain⟨gA,hgA⟩:∃g,w1.heap.size=g:=⟨_,rfl⟩
 obtain⟨w2,hw2⟩:∃W,w1.alloc (.cells #[.string nz.name,.slice b1 k1 d1,.slice b2 k2 d2,.slice b3 k3 d3,.bool nz.cordon] 99)=W:=⟨_,rfl⟩
 have kk:Kept w1 w2:=by rw[←hw2];exact ja _ _
 have CA:=lH (show jf gA [.string nz.name,.slice b1 k1 d1,.slice b2 k2 d2,.slice b3 k3 d3,.bool nz.cordon] w2 from by
  have c:=jd w1 (.string nz.name) [.slice b1 k1 d1,.slice b2 k2 d2,.slice b3 k3 d3,.bool nz.cordon] 99 w2 (by rw[hw2];exact Kept.refl _);rw[hgA] at c;exact c)
 have R9:=lH hgA;have Ux:=lH hw2;clear hgA hw2;have HS:=lH (HS.out.kept kk);have HP:=lH (HP.out.kept kk);have Vd:=lH (Vd.out.kept kk);have Vb:=lH (Vb.out.kept kk);have K:=lH (K.out.trans kk);clear kk;go_upto_region 2 with fail
 rw[Ux.out];try rw[R9.out]
 clear Ux R9;have V7:=lH (jcc s1 n1 e1 s nb w w2 K.out TM.out.nAt.1);have y0:=Vd.out.at_ 0 _ rfl;go_wp2_with fail
 refine V7.out.mono ?_;rintro e w3 ⟨f1,l1,g1,f2,l2,g2,f3,l3,g3,rfl,hat,kk⟩;have N7:=lH hat.taints;have HS:=lH (HS.out.kept kk);have HP:=lH (HP.out.kept kk);have Vd:=lH (Vd.out.kept kk);have Vb:=lH (Vb.out.kept kk);have CA:=lH (CA.out.kept kk);have K:=lH (K.out.trans kk);clear kk hat y0 V7;obtain⟨mz,hmz⟩:∃q,zb s nb=q:=⟨_,rfl⟩
 have Vg:=lH hmz;rw[hmz] at N7;rw[hmz];clear hmz;unfold zw;obtain⟨gB,hgB⟩:∃g,w3.heap.size=g:=⟨_,rfl⟩
 obtain⟨w4,hw4⟩:∃W,w3.alloc (.cells #[.string mz.name,.slice f1 l1 g1,.slice f2 l2 g2,.slice f3 l3 g3,.bool mz.cordon] 99)=W:=⟨_,rfl⟩
 have kk:Kept w3 w4:=by rw[←hw4];exact ja _ _
 have CB:=lH (show jf gB [.string mz.name,.slice f1 l1 g1,.slice f2 l2 g2,.slice f3 l3 g3,.bool mz.cordon] w4 from by
  have c:=jd w3 (.string mz.name) [.slice f1 l1 g1,.slice f2 l2 g2,.slice f3 l3 g3,.bool mz.cordon] 99 w4 (by rw[hw4];exact Kept.refl _);rw[hgB] at c;exact c)
 have Tv:=lH hgB;have Tg:=lH hw4;clear hgB hw4;have HS:=lH (HS.out.kept kk);have HP:=lH (HP.out.kept kk);have Vd:=lH (Vd.out.kept kk);have Vb:=lH (Vb.out.kept kk);have CA:=lH (CA.out.kept kk);have K:=lH (K.out.trans kk);clear kk;go_upto_region 3 with fail
 rw[Tg.out];try rw[Tv.out]
 clear Tg Tv;obtain⟨sm,hsm⟩:∃q,softN p.tols nz.taints=q:=⟨_,rfl⟩
 obtain⟨sn,hsn⟩:∃q,softN p.tols mz.taints=q:=⟨_,rfl⟩
 have N8:=lH (show Zo s p na=(sm:Int) by unfold Zo;rw[M5.out,hsm]);have N9:=lH (show Zo s p nb=(sn:Int) by unfold Zo;rw[Vg.out,hsn]);have r6:=Vb.out.at_ 6 _ rfl;have t3:=CA.out.at_ 3 _ rfl;go_wp2_with fail
 refine(jfB HP.out.tols (Ru.out.kept K.out) hsm).mono ?_;rintro e w5 ⟨rfl,kk⟩;have HS:=lH (HS.out.kept kk);have HP:=lH (HP.out.kept kk);have Vd:=lH (Vd.out.kept kk);have Vb:=lH (Vb.out.kept kk);have CB:=lH (CB.out.kept kk);have K:=lH (K.out.trans kk);clear kk r6 t3 hsm;have r6:=Vb.out.at_ 6 _ rfl;have t3:=CB.out.at_ 3 _ rfl;go_wp2_with fail
 refine(jfB HP.out.tols (N7.out.kept K.out) hsn).mono ?_;rintro e w6 ⟨rfl,kk⟩;have HS:=lH (HS.out.kept kk);have HP:=lH (HP.out.kept kk);have Vd:=lH (Vd.out.kept kk);have Vb:=lH (Vb.out.kept kk);have K:=lH (K.out.trans kk);clear kk r6 t3 hsn Ru N7 CA CB;rcases Nat.lt_trichotomy sm sn with hlt | heq | hlt
 · have HR:=lH (show jT s p pack na nb=true by rw[HV.out,N8.out,N9.out];exact jkK (by omega));have q1:((sm:Int) != (sn:Int))=true:=by simp;omega
   have q2:(sm:Int)<(sn:Int):=by omega
   go_wp2;go_ret;exact⟨je HR.out.symm,K.out⟩
 · subst heq;have Ma:=lH (show ∀r t,nrm r=Zk s p na→nrm t=Zk s p nb→jT s p pack na nb=(decide (cpM pack r t<0)||(decide (cpM pack r t=0)&&ltS na nb)) from fun r t h1 h2=>by rw[HV.out,N8.out,N9.out,←h1,←h2];exact jkE _);have HF:=lH (show ∀W,Kept w6 W→W.cell? ⟨w.heap.size,0,none⟩=some (.slice s1 n1 e1)∧W.cell? ⟨w.heap.size,1,none⟩=some (.slice s2 n2 e2)∧W.cell? ⟨w.heap.size,2,none⟩=some (.slice s3 n3 e3)∧W.cell? ⟨w.heap.size+1,0,none⟩=some (.string p.name)∧W.cell? ⟨w.heap.size+1,1,none⟩=some (.string p.owner)∧W.cell? ⟨w.heap.size+1,2,none⟩=some (.int .i64 p.prio)∧W.cell? ⟨w.heap.size+1,3,none⟩=some (.slice a1 m1 c1)∧W.cell? ⟨w.heap.size+1,4,none⟩=some (.slice a2 m2 c2)∧W.cell? ⟨w.heap.size+1,5,none⟩=some (.slice a3 m3 c3)∧W.cell? ⟨w.heap.size+1,6,none⟩=some (.slice a4 m4 c4)∧W.cell? ⟨w.heap.size+1,7,none⟩=some (.string p.key)∧W.cell? ⟨w.heap.size+1,8,none⟩=some (.int .i64 p.most)∧W.cell? ⟨w.heap.size+1,9,none⟩=some (.string p.node)∧W.cell? ⟨w.heap.size+1,10,none⟩=some (.bool p.hold) from fun W kk=>by
    have h:=Vd.out.kept kk;have q:=Vb.out.kept kk;exact⟨h.at_ 0 _ rfl,h.at_ 1 _ rfl,h.at_ 2 _ rfl,q.at_ 0 _ rfl,q.at_ 1 _ rfl,q.at_ 2 _ rfl,q.at_ 3 _ rfl,q.at_ 4 _ rfl,q.at_ 5 _ rfl,q.at_ 6 _ rfl,q.at_ 7 _ rfl,q.at_ 8 _ rfl,q.at_ 9 _ rfl,q.at_ 10 _ rfl⟩)
   go_upto_region 7 with fail
   have J:=lH (Kept.drew w6);refine wp_region_held_drew (S:=fun W=>W.cell? ⟨w.heap.size,0,none⟩=some (.slice s1 n1 e1)∧W.cell? ⟨w.heap.size,1,none⟩=some (.slice s2 n2 e2)∧W.cell? ⟨w.heap.size,2,none⟩=some (.slice s3 n3 e3)∧W.cell? ⟨w.heap.size+1,0,none⟩=some (.string p.name)∧W.cell? ⟨w.heap.size+1,1,none⟩=some (.string p.owner)∧W.cell? ⟨w.heap.size+1,2,none⟩=some (.int .i64 p.prio)∧W.cell? ⟨w.heap.size+1,3,none⟩=some (.slice a1 m1 c1)∧W.cell? ⟨w.heap.size+1,4,none⟩=some (.slice a2 m2 c2)∧W.cell? ⟨w.heap.size+1,5,none⟩=some (.slice a3 m3 c3)∧W.cell? ⟨w.heap.size+1,6,none⟩=some (.slice a4 m4 c4)∧W.cell? ⟨w.heap.size+1,7,none⟩=some (.string p.key)∧W.cell? ⟨w.heap.size+1,8,none⟩=some (.int .i64 p.most)∧W.cell? ⟨w.heap.size+1,9,none⟩=some (.string p.node)∧W.cell? ⟨w.heap.size+1,10,none⟩=some (.bool p.hold)) (by kernel_rfl) (HF.out _ J.out) (fun hHeld=>?_);obtain⟨wd,hwd⟩:∃W,w6.drew=W:=⟨_,rfl⟩
   rw[hwd] at J hHeld;try rw[hwd]
   clear hwd;refine tkI 0 ?_;refine tkI 1 ?_;refine tkI 2 ?_;refine tkI 4 ?_;refine tkI 5 ?_;refine tkI 6 ?_;try simp only[nP]
   refine rd1 3 fun K9 Ky=>?_;go_simp;have hsc:=qB s1 s2 s3 n1 e1 n2 e2 n3 e3 a1 a2 a3 a4 m1 c1 m2 c2 m3 c3 m4 c4 p s na _ (HS.out.kept J.out) HL.out HA.out (HP.out.kept J.out) UZ.out;unfold jr at hsc;refine hsc.mono ?_;clear hsc;rintro e w7 ⟨r1,rfl,hr1,-,kk⟩;have Hr1:=lH hr1;have J:=lH (J.out.trans kk);clear kk hr1;refine Ky.out _ _ (HF.out _ J.out) (fun _=>?_);clear Ky K9;try simp only[nP]
   refine rd1 7 fun K9 Ky=>?_;go_simp;have hsc:=qB s1 s2 s3 n1 e1 n2 e2 n3 e3 a1 a2 a3 a4 m1 c1 m2 c2 m3 c3 m4 c4 p s nb _ (HS.out.kept J.out) HL.out HA.out (HP.out.kept J.out) VQ.out;unfold jr at hsc;refine hsc.mono ?_;clear hsc;rintro e w8 ⟨r2,rfl,hr2,-,kk⟩;have Hr2:=lH hr2;have J:=lH (J.out.trans kk);clear kk hr2;refine Ky.out _ _ (HF.out _ J.out) (fun _=>?_);clear Ky K9;try simp only[nP]
   refine rd1 8 fun K9 Ky=>?_;go_simp;refine(jaq r1 r2 _).mono ?_;rintro e w9 ⟨rfl,n9,rfl⟩;have J:=lH (J.out.trans (Kept.drewN w8 n9));refine Ky.out _ _ (HF.out _ J.out) (fun _=>?_);clear Ky K9;try simp only[nP]
   refine tkI 9 ?_;try simp only[nP]
   refine wpAnyH_done (by kernel_rfl) ?_ _;have TN:=lH (Ma.out r1 r2 Hr1.out Hr2.out);have hcs:=jms r1 r2;have hsw:=jgX r1 r2;have K:=lH (K.out.trans J.out)
   cases pack with
   | false =>
    rcases hcs with hc | hc | hc
    · rw[hc];have hm:cpM false r1 r2=-1:=by exact hc
      have HR:=lH (show jT s p false na nb=true by rw[TN.out,hm];first | done | rfl);clear hc hsw hm;go_wp2;go_ret;exact⟨je HR.out.symm,K.out⟩
    · rw[hc];have hm:cpM false r1 r2=0:=by exact hc
      clear hc hsw
      cases hl9:ltS na nb with
      | true =>
       have q9:Op.bytesLess na.toList nb.toList=true:=hl9;have HR:=lH (show jT s p false na nb=true by rw[TN.out,hm,hl9];first | done | rfl);clear hm hl9;go_wp2;go_ret;exact⟨je HR.out.symm,K.out⟩
      | false =>
       have q9:Op.bytesLess na.toList nb.toList=false:=hl9;have HR:=lH (show jT s p false na nb=false by rw[TN.out,hm,hl9];first | done | rfl);clear hm hl9;go_wp2;go_ret;exact⟨je HR.out.symm,K.out⟩
    · rw[hc];have hm:cpM false r1 r2=1:=by exact hc
      have HR:=lH (show jT s p false na nb=false by rw[TN.out,hm];first | done | rfl);clear hc hsw hm;go_wp2;go_ret;exact⟨je HR.out.symm,K.out⟩
   | true =>
    rcases hcs with hc | hc | hc
    · rw[hc];have hm:cpM true r1 r2=1:=by show cp r2 r1=_;rw[hsw,hc];first | done | rfl
      have HR:=lH (show jT s p true na nb=false by rw[TN.out,hm];first | done | rfl);clear hc hsw hm;go_wp2;go_ret;exact⟨je HR.out.symm,K.out⟩
    · rw[hc];have hm:cpM true r1 r2=0:=by show cp r2 r1=_;rw[hsw,hc];first | done | rfl
      clear hc hsw
      cases hl9:ltS na nb with
      | true =>
       have q9:Op.bytesLess na.toList nb.toList=true:=hl9;have HR:=lH (show jT s p true na nb=true by rw[TN.out,hm,hl9];first | done | rfl);clear hm hl9;go_wp2;go_ret;exact⟨je HR.out.symm,K.out⟩
      | false =>
       have q9:Op.bytesLess na.toList nb.toList=false:=hl9;have HR:=lH (show jT s p true na nb=false by rw[TN.out,hm,hl9];first | done | rfl);clear hm hl9;go_wp2;go_ret;exact⟨je HR.out.symm,K.out⟩
    · rw[hc];have hm:cpM true r1 r2=-1:=by show cp r2 r1=_;rw[hsw,hc];first | done | rfl
      have HR:=lH (show jT s p true na nb=true by rw[TN.out,hm];first | done | rfl);clear hc hsw hm;go_wp2;go_ret;exact⟨je HR.out.symm,K.out⟩
 · have HR:=lH (show jT s p pack na nb=false by rw[HV.out,N8.out,N9.out];exact jj3 (by omega));have q1:((sm:Int) != (sn:Int))=true:=by simp;omega
   have q2:¬(sm:Int)<(sn:Int):=by omega
   have q3:decide (sm<sn)=false:=decide_eq_false (by omega);go_wp2;go_ret;exact⟨je HR.out.symm,K.out⟩
theorem jh.upto {α:Type} {L:Lay α} {w:World} {b off len:Nat} {l:List α} {k:Nat} (h:jh L w (some ⟨b,off,none⟩) len l) (hk:k≤len):jh L w (some ⟨b,off,none⟩) k (l.take k):=jh.preP h (by rw[h.1];exact hk)
theorem Yi {l:List ByteArray} {n:Nat} (h:l.length=n):(jb ji l).length=n*1:=by rw[jt,h];rfl
theorem jdb {la:List ByteArray} {q:Nat} {d:ByteArray}:jb ji (la.take q)++[.string d]++jb ji (la.drop q)=jb ji (la.take q++d::la.drop q):=by
 rw[zJ,show d::la.drop q=[d]++la.drop q from rfl,zJ,List.append_assoc];rfl
theorem cells_one (l:List ByteArray):∀u ∈ jb ji l,u.oneCell'=true:=fun u hu=>jB ji l u hu
def qy (key:ByteArray) (nodes:List Nod) (B k:Nat) (v:Value) (Z wr:World):Prop:=∃la:List ByteArray,la.length≤k∧jcV la∧(∀x,x ∈ la↔x ∈ YK key (nodes.take k))∧Own ji 9 wr B v la∧Kept Z wr
theorem qy.more {key d:ByteArray} {nodes:List Nod} {B k q m g:Nat} {W Z wr:World} {la:List ByteArray} {n:Nod} {c:Nat} (hn:nodes[k]?=some n) (hg:jU n.labels key=some d) (hd:d.size≤maxLen) (hr:jcV la) (hl:la.length≤k) (hmem:∀x,x ∈ la↔x ∈ YK key (nodes.take k)) (hf:∀x ∈ la,ji.fine x) (h1:∀x ∈ la.take q,ltS x d=true) (h2:∀x ∈ la.drop q,ltS d x=true) (hq:q≤la.length) (hm:la.length+1=m)
 (hB:B≤wr.heap.size) (hk:Kept Z wr) (hw:Kept wr W) (ho:W.ownsRow wr.heap.size 9 1 (.slice (some ⟨g,0,none⟩) m c) m (jb ji (la.take q)++[.string d]++jb ji (la.drop q))):qy key nodes B (k+1) (.slice (some ⟨g,0,none⟩) m c) Z W:=by
 have hlen:(la.take q++d::la.drop q).length=m:=by rw[List.length_append,List.length_cons,List.length_take,List.length_drop];omega
 refine⟨la.take q++d::la.drop q,by omega,jl3 hr h1 h2,fun x=>?_,(show Own ji 9 W wr.heap.size _ _ from⟨?_,fun x hx=>?_⟩).base_le hB,hk.trans hw⟩
 · rw[ins_mem',jeV hn hg,hmem]
 · rw[jdb] at ho;rw[hlen];exact ho
 · rcases ins_mem'.1 hx with hx | rfl
   · exact hf x hx
   · exact hd
theorem jfy (s1 s2 s3:Option Addr) (n1 e1 n2 e2 n3 e3:Nat) (nodes:List Nod) (key:ByteArray) (w:World) (hn:jE w s1 n1 nodes) (hb1:n1≤100000):Calls Tryz.prog 98 #[.agg #[.slice s1 n1 e1,.slice s2 n2 e2,.slice s3 n3 e3],.string key] w fun e w'=>∃v,e=.returned v∧Own ji 9 w' w.heap.size v (YP key nodes)∧Kept w w':=by
 obtain⟨Z,hZ⟩:∃Z,w.alloc (.cells #[.slice s1 n1 e1,.slice s2 n2 e2,.slice s3 n3 e3] 51)=Z:=⟨_,rfl⟩
 have hkz:Kept w Z:=by rw[←hZ];exact ja _ _
 have Vw:=lH (jd w (.slice s1 n1 e1) [.slice s2 n2 e2,.slice s3 n3 e3] 51 Z (by rw[hZ];exact Kept.refl _));have HN:=lH (hn.kept hkz);have VY:=lH hn.1;have Ve:=lH hkz;clear hn hkz;go_enter Tryz.func98,Tryz.ntmps98;go_upto_region 2 with fail
 try rw[hZ]
 clear hZ;go_wp2;go_loopw [5,6] (fun v i wr=>∃k:Nat,k≤n1∧i=.int .i64 k∧Hid (qy key nodes Z.heap.size k v Z wr)) (fun _ i _=>n1-(intOf i).toNat)
 case atStart=>exact⟨0,Nat.zero_le _,rfl,[],Nat.zero_le _,List.Pairwise.nil,(fun x=>by simp[YK]),Own.nil _ _ _,Kept.refl _⟩
 case round =>
  obtain⟨k,hk,rfl,HI⟩:=hrel;obtain⟨la,hl,hr,hmem,ho,hK⟩:=HI.out;have Ra:=lH hl;have HR:=lH hr;have HM:=lH hmem;have HO:=lH ho;have HK:=lH hK;clear hl hr hmem ho hK;have Uw:=lH (Vw.out.kept HK.out);have y0:=Uw.out.at_ 0 _ rfl;by_cases hlt:k<n1
  · obtain⟨gn,off,rfl⟩:=HN.out.form.resolve_left (by omega);obtain⟨n,b1,q1,f1,b2,q2,f2,b3,q3,f3,hn,hd,hb,u0,u1,u2,u3,u4,hat⟩:=(HN.out.kept HK.out).at_ hlt;have Ti:=lH hn;have Vu:=lH hat;have hkk:(k:Int)<(n1:Int):=by omega
    have hk0:¬(k:Int)<0:=by omega
    obtain⟨go,hgo⟩:∃g,jU n.labels key=g:=⟨_,rfl⟩
    have Us:=lH hgo;have Vl:=lH (show Calls Tryz.prog 95 #[.slice b2 q2 f2,.string key] wr fun e w'=>e=.returned (.tuple #[.string (go.getD ByteArray.empty),.bool go.isSome])∧wr=w' from by
     obtain⟨a9,c9,e9,-,-,hrow⟩:=hat.labels;injection e9 with e1 e2 e3;subst e1 e2 e3;have h:=XH b2 _ f2 n.labels key wr hrow;unfold ZP Za at h;rw[hgo] at h;exact h)
    clear hgo hn hd hb hat;go_wp2_with fail
    refine Vl.out.mono ?_;rintro e w3 ⟨rfl,rfl⟩;clear Vl
    cases go with
    | none =>
     have HX:=lH (show qy key nodes Z.heap.size (k+1) u5 Z wr from⟨la,by have:=Ra.out;omega,HR.out,(fun x=>by rw[jjX Ti.out Us.out];exact HM.out x),HO.out,HK.out⟩);go_wp2;go_roundw
     case rel=>exact⟨k+1,by omega,by go_num,HX⟩
     case measure=>simp[intOf];omega
    | some d =>
     have TD:=lH (jj9 Vu.out.labels Us.out);have hB:Z.heap.size≤wr.heap.size:=HK.out.size;obtain⟨oa,oc,rfl,hcap,hcm,hrow⟩:=HO.out.at_;obtain⟨m,hm⟩:∃m,la.length=m:=⟨_,rfl⟩
     rw[hm] at hcap hrow;try rw[hm]
     have Vx:=lH hm;have Ul:=lH hrow;have ho2:=HO.out;rw[hm] at ho2;have HO:=lH ho2;clear ho2;have hmk:m≤k:=by have:=Ra.out;omega
     have hmx:maxLen=9223372036854775807:=rfl;clear hm hrow;go_wp2;go_loop [9] (fun iv=>∃q:Nat,q≤m∧iv=.int .i64 q∧Hid (∀x ∈ la.take q,ltS x d=true)) (fun iv=>m-(intOf iv).toNat)
     case atStart=>exact⟨0,Nat.zero_le _,rfl,fun x hx=>by simp at hx⟩
     case round =>
      obtain⟨q,hq,rfl,HQ⟩:=hrel;by_cases hqm:q<m
      · obtain⟨g,gz,rfl⟩:=Ul.out.form.resolve_left (by omega);obtain⟨y,hy,-,-,-,cy⟩:=Ul.out.str hqm;have hqi:(q:Int)<(m:Int):=by omega
        have hq0:¬(q:Int)<0:=by omega
        obtain⟨t,ht⟩:∃t,Op.bytesLess y.toList d.toList=t:=⟨_,rfl⟩
        have HT:=lH (show ltS y d=t from ht)
        cases t with
        | true =>
         have Tk:=lH (jlc HQ.out hy HT.out);clear hy;go_wp2;go_round
         case rel=>exact⟨q+1,by omega,by go_num,Tk⟩
         case measure=>simp[intOf];omega
        | false =>
         obtain⟨z,hz⟩:∃z,(y.toList==d.toList)=z:=⟨_,rfl⟩
         have HZ:=lH (show eqS y d=z from hz)
         cases z with
         | true =>
          have hyd:y=d:=jL.1 HZ.out;have HX:=lH (show qy key nodes Z.heap.size (k+1) (.slice (some ⟨g,gz,none⟩) m oc) Z wr from⟨la,by have:=Ra.out;omega,HR.out,(fun x=>by rw[jeV Ti.out Us.out,←HM.out];exact⟨fun h=>.inl h,fun h=>h.elim id fun e=>by rw[e,←hyd];exact List.mem_of_getElem? hy⟩),HO.out,HK.out⟩);clear hy hyd;go_wp2;go_roundw
          case rel=>exact⟨k+1,by omega,by go_num,HX⟩
          case measure=>simp[intOf];omega
         | false =>
          have HD:=lH (jj7 HR.out hy HT.out HZ.out);have hgz:gz=0:=by
           rcases HO.out.1.2 with ⟨e,_⟩ | ⟨_,_,_,e,_⟩
           · cases e
           · cases e;rfl
          subst hgz;rw[Nat.zero_add] at cy;have hqc:¬oc=q:=by omega
          clear hy;have Tr:=lH (zl wr wr.heap.size 1 9 (Nat.le_refl _));have Tm:=lH ((jh.upto (Ul.out.kept (ja wr (.cells #[] 9))) hq).src (cap:=oc));have hc1:=Yi (l:=la.take q) (n:=q) (by rw[List.length_take,Vx.out];omega);have Na:=lH (fun (W:World) (k:Kept wr W)=>show Z4 W (.slice (some ⟨g,q,none⟩) (m-q) (oc-q)) (m-q) (jb ji (la.drop q)) from by
           have h:=(jh.postP (Ul.out.kept k) (k:=q) (by rw[Vx.out];exact hq)).src (cap:=oc-q);rw[Vx.out,show 0+q*ji.m=q from by show 0+q*1=q;omega] at h;exact h)
          have hc3:=Yi (l:=la.drop q) (n:=m-q) (by rw[List.length_drop,Vx.out])
          go_wp2_with (at_builtin;first
           | (refine jv kindStr _ rfl (.tmp 57) (.tmp 60) rfl wr.heap.size (by simp) wr.heap.size 0 0 [] rfl Tr.out _ q (jb ji (la.take q)) rfl hc1 (cells_one _) Tm.out (by omega) (by omega) ?_;intro g1 c1 w4 ho1 hx1 hg1;have UU:=lH (show w4.ownsRow wr.heap.size 9 1 (.slice (some ⟨g1,0,none⟩) q c1) q (jb ji (la.take q)) from by simpa using ho1);have K4:=lH (show Kept wr w4 from Below.trans (ja wr (.cells #[] 9)) hx1);try simp only[Nat.zero_add];clear ho1 hx1 hg1)
           | (refine jv kindStr _ rfl (.tmp 61) (.tmp 63) rfl wr.heap.size (by have:=K4.out.size;simp;omega) g1 q c1 (jb ji (la.take q)) rfl (JH UU.out _) _ 1 [.string d] rfl rfl (Jm d) (Jf rfl (World.alloc_heap_new w4 _)) (by omega) (by omega) ?_;intro g2 c2 w5 ho2 hx2 hg2;have K5:=lH (show Kept wr w5 from Below.trans (Below.trans K4.out (Below.mono (ja w4 _) K4.out.size)) hx2);have UW:=lH ho2;clear ho2 hx2 hg2)
           | (refine jv kindStr _ rfl (.tmp 65) (.tmp 68) rfl wr.heap.size K5.out.size g2 (q+1) c2 (jb ji (la.take q)++[.string d]) rfl UW.out _ (m-q) (jb ji (la.drop q)) rfl hc3 (cells_one _) (Na.out _ K5.out) (by omega) (by omega) ?_;intro g3 c3 w6 ho3 hx3 hg3;have K6:=lH (show Kept wr w6 from Below.trans K5.out hx3);have VH:=lH ho3;clear ho3 hx3 hg3))
          have VH:=lH (show w6.ownsRow wr.heap.size 9 1 (.slice (some ⟨g3,0,none⟩) (q+1+(m-q)) c3) (q+1+(m-q)) (jb ji (la.take q)++[.string d]++jb ji (la.drop q)) from VH.out);have HX:=lH (qy.more (B:=Z.heap.size) (q:=q) Ti.out Us.out TD.out HR.out Ra.out HM.out HO.out.2 HQ.out HD.out (by have:=Vx.out;omega) (show la.length+1=q+1+(m-q) by have:=Vx.out;omega) hB HK.out K6.out VH.out);go_roundw
          case rel=>exact⟨k+1,by omega,by go_num,by first | exact HX | (simpa using HX)⟩
          case measure=>simp[intOf];omega
      · have hqi:¬(q:Int)<(m:Int):=by omega
        have hqe:q=m:=by omega
        clear hqm;rcases HO.out.1.2 with ⟨e0,h0⟩ | ⟨g,oc2,cur,e0,-⟩
        · have e1:oa=none:=by injection e0
          have e2:m=0:=by injection e0
          have e3:oc=0:=by injection e0
          subst e1 e3;subst e2;obtain rfl:q=0:=by omega
          clear e0 h0 hqe;have Tr:=lH (zl wr wr.heap.size 1 9 (Nat.le_refl _))
          go_wp2_with (at_builtin;first
           | (refine jv kindStr _ rfl (.tmp 57) (.tmp 60) rfl wr.heap.size (by simp) wr.heap.size 0 0 [] rfl Tr.out _ 0 [] rfl rfl (by intro u hu;cases hu) (.inr ⟨_,rfl,rfl⟩) (by decide) (by decide) ?_;intro g1 c1 w4 ho1 hx1 hg1;have UU:=lH (show w4.ownsRow wr.heap.size 9 1 (.slice (some ⟨g1,0,none⟩) 0 c1) 0 ([]) from by simpa using ho1);have K4:=lH (show Kept wr w4 from Below.trans (ja wr (.cells #[] 9)) hx1);try simp only[Nat.zero_add];clear ho1 hx1 hg1)
           | (refine jv kindStr _ rfl (.tmp 61) (.tmp 63) rfl wr.heap.size (by have:=K4.out.size;simp;omega) g1 0 c1 ([]) rfl (JH UU.out _) _ 1 [.string d] rfl rfl (Jm d) (Jf rfl (World.alloc_heap_new w4 _)) (by omega) (by omega) ?_;intro g2 c2 w5 ho2 hx2 hg2;have K5:=lH (show Kept wr w5 from Below.trans (Below.trans K4.out (Below.mono (ja w4 _) K4.out.size)) hx2);have UW:=lH ho2;clear ho2 hx2 hg2)
           | (refine jv kindStr _ rfl (.tmp 65) (.tmp 68) rfl wr.heap.size K5.out.size g2 (0+1) c2 ([]++[.string d]) rfl UW.out _ 0 [] rfl rfl (by intro u hu;cases hu) (.inr ⟨_,rfl,rfl⟩) (by decide) (by decide) ?_;intro g3 c3 w6 ho3 hx3 hg3;have K6:=lH (show Kept wr w6 from Below.trans K5.out hx3);have VH:=lH ho3;clear ho3 hx3 hg3))
          have VH:=lH (show w6.ownsRow wr.heap.size 9 1 (.slice (some ⟨g3,0,none⟩) (0+1) c3) (0+1) (jb ji (la.take 0)++[.string d]++jb ji (la.drop 0)) from by
           rw[List.drop_of_length_le (show la.length≤0 by rw[Vx.out];omega)];have h:=VH.out;simpa [jb] using h)
          have HX:=lH (qy.more (B:=Z.heap.size) (q:=0) Ti.out Us.out TD.out HR.out Ra.out HM.out HO.out.2 (fun x hx=>by simp at hx) (fun x hx=>by rw[List.drop_of_length_le (by rw[Vx.out];omega)] at hx;cases hx) (by have:=Vx.out;omega) (show la.length+1=0+1 by have:=Vx.out;omega) hB HK.out K6.out VH.out);go_roundw
          case rel=>exact⟨k+1,by omega,by go_num,by first | exact HX | (simpa using HX)⟩
          case measure=>simp[intOf];omega
        · have e1:oa=some ⟨g,0,none⟩:=by injection e0
          subst e1;clear e0;subst hqe;by_cases hqc:oc=q
          · have hqe2:q=oc:=hqc.symm;clear hqc;subst hqe2;have Tr:=lH (zl wr wr.heap.size 1 9 (Nat.le_refl _));have Tm:=lH ((jh.upto (Ul.out.kept (ja wr (.cells #[] 9))) hq).src (cap:=q));have hc1:=Yi (l:=la.take q) (n:=q) (by rw[List.length_take,Vx.out];omega)
            go_wp2_with (at_builtin;first
             | (refine jv kindStr _ rfl (.tmp 57) (.tmp 60) rfl wr.heap.size (by simp) wr.heap.size 0 0 [] rfl Tr.out _ q (jb ji (la.take q)) rfl hc1 (cells_one _) Tm.out (by omega) (by omega) ?_;intro g1 c1 w4 ho1 hx1 hg1;have UU:=lH (show w4.ownsRow wr.heap.size 9 1 (.slice (some ⟨g1,0,none⟩) q c1) q (jb ji (la.take q)) from by simpa using ho1);have K4:=lH (show Kept wr w4 from Below.trans (ja wr (.cells #[] 9)) hx1);try simp only[Nat.zero_add];clear ho1 hx1 hg1)
             | (refine jv kindStr _ rfl (.tmp 61) (.tmp 63) rfl wr.heap.size (by have:=K4.out.size;simp;omega) g1 q c1 (jb ji (la.take q)) rfl (JH UU.out _) _ 1 [.string d] rfl rfl (Jm d) (Jf rfl (World.alloc_heap_new w4 _)) (by omega) (by omega) ?_;intro g2 c2 w5 ho2 hx2 hg2;have K5:=lH (show Kept wr w5 from Below.trans (Below.trans K4.out (Below.mono (ja w4 _) K4.out.size)) hx2);have UW:=lH ho2;clear ho2 hx2 hg2)
             | (refine jv kindStr _ rfl (.tmp 65) (.tmp 68) rfl wr.heap.size K5.out.size g2 (q+1) c2 (jb ji (la.take q)++[.string d]) rfl UW.out _ 0 [] rfl rfl (by intro u hu;cases hu) (.inl ⟨_,_,rfl,by intro j u hu;simp at hu⟩) (by omega) (by omega) ?_;intro g3 c3 w6 ho3 hx3 hg3;have K6:=lH (show Kept wr w6 from Below.trans K5.out hx3);have VH:=lH ho3;clear ho3 hx3 hg3))
            have VH:=lH (show w6.ownsRow wr.heap.size 9 1 (.slice (some ⟨g3,0,none⟩) (q+1) c3) (q+1) (jb ji (la.take q)++[.string d]++jb ji (la.drop q)) from by
             rw[List.drop_of_length_le (show la.length≤q by rw[Vx.out];omega)];have h:=VH.out;simpa [jb] using h)
            have HX:=lH (qy.more (B:=Z.heap.size) (q:=q) Ti.out Us.out TD.out HR.out Ra.out HM.out HO.out.2 HQ.out (fun x hx=>by rw[List.drop_of_length_le (by rw[Vx.out];omega)] at hx;cases hx) (by have:=Vx.out;omega) (show la.length+1=q+1 by have:=Vx.out;omega) hB HK.out K6.out VH.out);go_roundw
            case rel=>exact⟨k+1,by omega,by go_num,by first | exact HX | (simpa using HX)⟩
            case measure=>simp[intOf];omega
          · skip;have Tr:=lH (zl wr wr.heap.size 1 9 (Nat.le_refl _));have Tm:=lH ((jh.upto (Ul.out.kept (ja wr (.cells #[] 9))) hq).src (cap:=oc));have hc1:=Yi (l:=la.take q) (n:=q) (by rw[List.length_take,Vx.out];omega)
            go_wp2_with (at_builtin;first
             | (refine jv kindStr _ rfl (.tmp 57) (.tmp 60) rfl wr.heap.size (by simp) wr.heap.size 0 0 [] rfl Tr.out _ q (jb ji (la.take q)) rfl hc1 (cells_one _) Tm.out (by omega) (by omega) ?_;intro g1 c1 w4 ho1 hx1 hg1;have UU:=lH (show w4.ownsRow wr.heap.size 9 1 (.slice (some ⟨g1,0,none⟩) q c1) q (jb ji (la.take q)) from by simpa using ho1);have K4:=lH (show Kept wr w4 from Below.trans (ja wr (.cells #[] 9)) hx1);try simp only[Nat.zero_add];clear ho1 hx1 hg1)
             | (refine jv kindStr _ rfl (.tmp 61) (.tmp 63) rfl wr.heap.size (by have:=K4.out.size;simp;omega) g1 q c1 (jb ji (la.take q)) rfl (JH UU.out _) _ 1 [.string d] rfl rfl (Jm d) (Jf rfl (World.alloc_heap_new w4 _)) (by omega) (by omega) ?_;intro g2 c2 w5 ho2 hx2 hg2;have K5:=lH (show Kept wr w5 from Below.trans (Below.trans K4.out (Below.mono (ja w4 _) K4.out.size)) hx2);have UW:=lH ho2;clear ho2 hx2 hg2)
             | (refine jv kindStr _ rfl (.tmp 65) (.tmp 68) rfl wr.heap.size K5.out.size g2 (q+1) c2 (jb ji (la.take q)++[.string d]) rfl UW.out _ 0 [] rfl rfl (by intro u hu;cases hu) (.inl ⟨_,_,rfl,by intro j u hu;simp at hu⟩) (by omega) (by omega) ?_;intro g3 c3 w6 ho3 hx3 hg3;have K6:=lH (show Kept wr w6 from Below.trans K5.out hx3);have VH:=lH ho3;clear ho3 hx3 hg3))
            have VH:=lH (show w6.ownsRow wr.heap.size 9 1 (.slice (some ⟨g3,0,none⟩) (q+1) c3) (q+1) (jb ji (la.take q)++[.string d]++jb ji (la.drop q)) from by
             rw[List.drop_of_length_le (show la.length≤q by rw[Vx.out];omega)];have h:=VH.out;simpa [jb] using h)
            have HX:=lH (qy.more (B:=Z.heap.size) (q:=q) Ti.out Us.out TD.out HR.out Ra.out HM.out HO.out.2 HQ.out (fun x hx=>by rw[List.drop_of_length_le (by rw[Vx.out];omega)] at hx;cases hx) (by have:=Vx.out;omega) (show la.length+1=q+1 by have:=Vx.out;omega) hB HK.out K6.out VH.out);go_roundw
            case rel=>exact⟨k+1,by omega,by go_num,by first | exact HX | (simpa using HX)⟩
            case measure=>simp[intOf];omega
  · have hge:¬(k:Int)<(n1:Int):=by omega
    have HE:=lH (show la=YP key nodes from jlr HR.out fun x=>by rw[HM.out,List.take_of_length_le (by rw[VY.out];omega)]);go_wp2;go_ret;exact⟨_,rfl,by rw[←HE.out];exact HO.out.base_le Ve.out.size,Ve.out.trans HK.out⟩
theorem jeA {key e:ByteArray} {nodes:List Nod}:Zn key e nodes=true↔e ∈ YP key nodes:=by
 rw[jkl];unfold Zn;rw[List.any_eq_true];exact⟨fun ⟨n,hn,h⟩=>⟨n,hn,of_decide_eq_true h⟩,fun ⟨n,hn,h⟩=>⟨n,hn,decide_eq_true h⟩⟩
def YM (p:Pd) (s:Clu) (d:ByteArray) (i z:Nat):Prop:=z≤inD p s.pods d s.nodes+1∧(∀e ∈ (YP p.key s.nodes).take i,z≤inD p s.pods e s.nodes+(if e=d then 1 else 0))∧(z=inD p s.pods d s.nodes+1∨∃e ∈ (YP p.key s.nodes).take i,z=inD p s.pods e s.nodes+(if e=d then 1 else 0))
theorem YM.same {p:Pd} {s:Clu} {d e:ByteArray} {i z:Nat} (h:YM p s d i z) (he:(YP p.key s.nodes)[i]?=some e) (hz:z≤inD p s.pods e s.nodes+(if e=d then 1 else 0)):YM p s d (i+1) z:=by
 obtain⟨h1,h2,h3⟩:=h;refine⟨h1,fun x hx=>?_,h3.imp id fun ⟨x,hx,e2⟩=>⟨x,by rw[List.take_add_one];exact List.mem_append_left _ hx,e2⟩⟩;rw[List.take_add_one,he] at hx;rcases List.mem_append.1 hx with hx | hx
 · exact h2 x hx
 · rcases List.mem_singleton.1 hx with rfl;exact hz
theorem YM.less {p:Pd} {s:Clu} {d e:ByteArray} {i z y:Nat} (h:YM p s d i z) (he:(YP p.key s.nodes)[i]?=some e) (hy:y=inD p s.pods e s.nodes+(if e=d then 1 else 0)) (hz:y≤z):YM p s d (i+1) y:=by
 obtain⟨h1,h2,h3⟩:=h;refine⟨by omega,fun x hx=>?_,.inr ⟨e,by rw[List.take_add_one,he];exact List.mem_append_right _ (by simp),hy⟩⟩;rw[List.take_add_one,he] at hx;rcases List.mem_append.1 hx with hx | hx
 · exact Nat.le_trans hz (h2 x hx)
 · rcases List.mem_singleton.1 hx with rfl;omega
theorem YM.end_ {p:Pd} {s:Clu} {name d:ByteArray} {i z c:Nat} (h:YM p s d i z) (hi:(YP p.key s.nodes).length≤i) (hk:zZ p.key=false) (hd:domV p.key name s.nodes=some d) (hc:inD p s.pods d s.nodes=c):zN p s name=(((c+1:Nat):Int)-(z:Int),true):=by
 obtain⟨h1,h2,h3⟩:=h;rw[List.take_of_length_le hi] at h2 h3;have hl:Ys p s.pods s.nodes d s.nodes (inD p s.pods d s.nodes+1)=z:=jdj (Xt hd) rfl (fun e he=>h2 e (jeA.1 he)) (by
  rcases h3 with h3 | ⟨e,he,h3⟩
  · exact⟨d,Xt hd,by rw[if_pos rfl];exact h3⟩
  · exact⟨e,jeA.2 he,h3⟩)
 unfold zN YJ;rw[if_neg (by rw[hk];decide),hd];dsimp only;rw[hl,hc]
theorem jjC (s1 s2 s3:Option Addr) (n1 e1 n2 e2 n3 e3:Nat) (a1 a2 a3 a4:Option Addr) (m1 c1 m2 c2 m3 c3 m4 c4:Nat) (p:Pd) (s:Clu) (name:ByteArray) (w:World) (hn:jE w s1 n1 s.nodes) (hp:jN w s2 n2 s.pods) (hb1:n1≤100000) (hb2:n2≤100000) (ha:YD s.nodes) (hk:∀n ∈ s.nodes,jZ n=0):Calls Tryz.prog 60 #[.agg #[.slice s1 n1 e1,.slice s2 n2 e2,.slice s3 n3 e3],jr p (.slice a1 m1 c1) (.slice a2 m2 c2) (.slice a3 m3 c3) (.slice a4 m4 c4),.string name] w (Say (.tuple #[.int .i64 (zN p s name).1,.bool (zN p s name).2]) w):=by
 obtain⟨Z,hZ⟩:∃Z,(w.alloc (.cells #[.slice s1 n1 e1,.slice s2 n2 e2,.slice s3 n3 e3] 51)).alloc (.cells #[.string p.name,.string p.owner,.int .i64 p.prio,.slice a1 m1 c1,.slice a2 m2 c2,.slice a3 m3 c3,.slice a4 m4 c4,.string p.key,.int .i64 p.most,.string p.node,.bool p.hold] 45)=Z:=⟨_,rfl⟩
 have hkz:Kept w Z:=by rw[←hZ];exact jm _ _ _
 have Vd:=lH (jd w (.slice s1 n1 e1) [.slice s2 n2 e2,.slice s3 n3 e3] 51 Z (by rw[←hZ];exact ja _ _));have Vb:=lH (show jf (w.heap.size+1) [.string p.name,.string p.owner,.int .i64 p.prio,.slice a1 m1 c1,.slice a2 m2 c2,.slice a3 m3 c3,.slice a4 m4 c4,.string p.key,.int .i64 p.most,.string p.node,.bool p.hold] Z by
  have dd:=jd (w.alloc (.cells #[.slice s1 n1 e1,.slice s2 n2 e2,.slice s3 n3 e3] 51)) (.string p.name) [.string p.owner,.int .i64 p.prio,.slice a1 m1 c1,.slice a2 m2 c2,.slice a3 m3 c3,.slice a4 m4 c4,.string p.key,.int .i64 p.most,.string p.node,.bool p.hold] 45 Z (by rw[hZ];exact Kept.refl _);rw[World.size_alloc] at dd;exact dd)
 have Ve:=lH hkz;have HN:=lH (hn.kept hkz);have HP:=lH (hp.kept hkz);have UF:=lH hp.1;have Tn:=lH ha;have VT:=lH hk;clear hn hp hkz ha hk;obtain⟨t0,h0⟩:∃t,(p.key.toList==([]:List UInt8))=t:=⟨_,rfl⟩
 have T0:=lH (show zZ p.key=t0 by rw[JA,h0]);have y0:=Vd.out.at_ 0 _ rfl;have y1:=Vd.out.at_ 1 _ rfl;have y2:=Vd.out.at_ 2 _ rfl;have r0:=Vb.out.at_ 0 _ rfl;have r1:=Vb.out.at_ 1 _ rfl;have r2:=Vb.out.at_ 2 _ rfl;have r3:=Vb.out.at_ 3 _ rfl;have r4:=Vb.out.at_ 4 _ rfl;have r5:=Vb.out.at_ 5 _ rfl;have r6:=Vb.out.at_ 6 _ rfl;have r7:=Vb.out.at_ 7 _ rfl;have r8:=Vb.out.at_ 8 _ rfl;have r9:=Vb.out.at_ 9 _ rfl;have r10:=Vb.out.at_ 10 _ rfl;unfold jr;go_enter Tryz.func60,Tryz.ntmps60
 cases t0 with
 | true =>
  have HV:=lH (show zN p s name=(0,true) by unfold zN;rw[if_pos T0.out]);go_wp2;try rw[hZ]
  go_ret2
  rw[HV.out];exact⟨rfl,by first | exact Ve.out | (rw[hZ];exact Ve.out)⟩
 | false =>
  go_upto_region 3 with fail
  try rw[hZ]
  clear hZ;go_wp2_with fail
  refine(X6 s1 n1 e1 s.nodes name Z HN.out).mono ?_;rintro e wy ⟨v,rfl,hv,kk⟩;obtain⟨b1,k1,d1,b2,k2,d2,b3,k3,d3,rfl,hat⟩:=hv.spelt;obtain⟨fo,hfo⟩:∃fo,jj s.nodes name=fo:=⟨_,rfl⟩
  rw[hfo] at hat;rw[hfo];have N4:=lH hfo;obtain⟨nd,hnd⟩:∃nd,fo.getD Nod.zero=nd:=⟨_,rfl⟩
  rw[hnd] at hat;rw[hnd];have VW:=lH hnd;clear hfo hnd hv;obtain⟨wz,hwz⟩:∃W,wy.alloc (.cells #[.string nd.name,.slice b1 k1 d1,.slice b2 k2 d2,.slice b3 k3 d3,.bool nd.cordon] 99)=W:=⟨_,rfl⟩
  have kz:Kept wy wz:=by rw[←hwz];exact ja _ _
  have Vg:=lH (jd wy (.string nd.name) [.slice b1 k1 d1,.slice b2 k2 d2,.slice b3 k3 d3,.bool nd.cordon] 99 wz (by rw[hwz];exact Kept.refl _));have Vu:=lH (hat.kept kz);have TJ:=lH hwz;obtain⟨bn,hbn⟩:∃z,wy.heap.size=z:=⟨_,rfl⟩
  rw[hbn] at Vg;have TK:=lH hbn;have K:=lH (kk.trans kz);have Vd:=lH (Vd.out.kept (kk.trans kz));have Vb:=lH (Vb.out.kept (kk.trans kz));clear kk kz hat hwz hbn y0 y1 y2 r0 r1 r2 r3 r4 r5 r6 r7 r8 r9 r10;go_upto_region 4 with fail
  try rw[TJ.out]
  try rw[TK.out]
  clear TJ TK;have z0:=Vg.out.at_ 0 _ rfl;have z1:=Vg.out.at_ 1 _ rfl;have z2:=Vg.out.at_ 2 _ rfl;have z3:=Vg.out.at_ 3 _ rfl;have z4:=Vg.out.at_ 4 _ rfl;have r7:=Vb.out.at_ 7 _ rfl;obtain⟨go,hgo⟩:∃g,jU nd.labels p.key=g:=⟨_,rfl⟩
  have Us:=lH hgo;have Vl:=lH (jia (key:=p.key) (x:=go.getD ByteArray.empty) (b:=go.isSome) Vu.out.labels (by unfold ZP;rw[hgo]) (by unfold Za;rw[hgo]));clear hgo;go_wp2_with fail
  refine Vl.out.mono ?_;rintro e wv ⟨rfl,rfl⟩;clear Vl z0 z1 z2 z3 z4 r7;have UX:=lH (show domV p.key name s.nodes=fo.bind fun n=>jU n.labels p.key from by rw[jar,N4.out])
  cases fo with
  | none =>
   have HV:=lH (show zN p s name=(0,false) by unfold zN;rw[if_neg (by rw[T0.out];decide),show domV p.key name s.nodes=none from UX.out]);go_wp2;go_ret2
   rw[HV.out];exact⟨rfl,Ve.out.trans K.out⟩
  | some n0 =>
   have UX:=lH (show domV p.key name s.nodes=go from by rw[UX.out,←Us.out,←VW.out];rfl)
   cases go with
   | none =>
    have HV:=lH (show zN p s name=(0,false) by unfold zN;rw[if_neg (by rw[T0.out];decide),show domV p.key name s.nodes=none from UX.out]);go_wp2;go_ret2
    rw[HV.out];exact⟨rfl,Ve.out.trans K.out⟩
   | some d =>
    have y0:=Vd.out.at_ 0 _ rfl;have y1:=Vd.out.at_ 1 _ rfl;have y2:=Vd.out.at_ 2 _ rfl;have r0:=Vb.out.at_ 0 _ rfl;have r1:=Vb.out.at_ 1 _ rfl;have r2:=Vb.out.at_ 2 _ rfl;have r3:=Vb.out.at_ 3 _ rfl;have r4:=Vb.out.at_ 4 _ rfl;have r5:=Vb.out.at_ 5 _ rfl;have r6:=Vb.out.at_ 6 _ rfl;have r7:=Vb.out.at_ 7 _ rfl;have r8:=Vb.out.at_ 8 _ rfl;have r9:=Vb.out.at_ 9 _ rfl;have r10:=Vb.out.at_ 10 _ rfl;obtain⟨c,hc⟩:∃c,inD p s.pods d s.nodes=c:=⟨_,rfl⟩
    have HC:=lH hc;have hcb:c≤100000:=by have:=jib (p:=p) (d:=d) Tn.out s.pods;rw[hc,UF.out] at this;omega
    have Tx:=jcb s1 s2 s3 n1 e1 n2 e2 n3 e3 a1 a2 a3 a4 m1 c1 m2 c2 m3 c3 m4 c4 p s d wz (HN.out.kept K.out) (HP.out.kept K.out) hb2 Tn.out VT.out;rw[hc] at Tx;unfold jr at Tx;have Tx:=lH Tx;clear hc;obtain⟨cc,hcc⟩:∃q,c+1=q:=⟨_,rfl⟩
    have hadd:(c:Int)+1=(cc:Int):=by omega
    have haw:IntKind.i64.wrap (cc:Int)=(cc:Int):=IntWalk.i64_in _ (by omega);have Um:=lH hcc;clear hcc;go_wp2_with fail
    refine Tx.out.mono ?_;rintro e w3 ⟨rfl,kk⟩;clear Tx y0 y1 y2 r0 r1 r2 r3 r4 r5 r6 r7 r8 r9 r10;have Vd:=lH (Vd.out.kept kk);have Vb:=lH (Vb.out.kept kk);have K:=lH (K.out.trans kk);clear kk;have y0:=Vd.out.at_ 0 _ rfl;have y1:=Vd.out.at_ 1 _ rfl;have y2:=Vd.out.at_ 2 _ rfl;have r7:=Vb.out.at_ 7 _ rfl;go_wp2_with fail
    refine(jfy s1 s2 s3 n1 e1 n2 e2 n3 e3 s.nodes p.key w3 (HN.out.kept K.out) hb1).mono ?_;rintro e w4 ⟨v9,rfl,ho,kk⟩;have Vd:=lH (Vd.out.kept kk);have Vb:=lH (Vb.out.kept kk);have K:=lH (K.out.trans kk);obtain⟨la,lc,rfl,-,-,hrow⟩:=ho.reads;obtain⟨m,hm⟩:∃m,(YP p.key s.nodes).length=m:=⟨_,rfl⟩
    rw[hm] at hrow;try rw[hm]
    have Ul:=lH hrow;have HM:=lH hm;have hmx:=hrow.2.1;unfold maxLen at hmx;clear kk ho hrow hm r7 y0 y1 y2;go_wp2;go_loopw [13,15] (fun lv iv wr=>∃i z:Nat,i≤m∧iv=.int .i64 i∧lv=.int .i64 z∧Hid (YM p s d i z∧Kept w4 wr)) (fun _ iv _=>m-(intOf iv).toNat)
    case atStart=>exact⟨0,cc,Nat.zero_le _,rfl,rfl,⟨by rw[HC.out,Um.out];exact Nat.le_refl _,(fun e he=>by simp at he),.inl (by rw[HC.out,Um.out])⟩,Kept.refl _⟩
    case round =>
     obtain⟨i,z,hi9,rfl,rfl,HH⟩:=hrel;have Ry:=lH HH.out.1;have HK:=lH HH.out.2;clear HH;have hzc:z≤cc:=by have:=Ry.out.1;rw[HC.out,Um.out] at this;exact this
     by_cases hlt:i<m
     · obtain⟨bl,ol,rfl⟩:=Ul.out.form.resolve_left (by omega);obtain⟨x,hx,-,hxb,hxs,cx⟩:=(Ul.out.kept HK.out).str hlt;have Ub:=lH hx;have CXX:=lH cx;have hkk:(i:Int)<(m:Int):=by omega
       have hk0:¬(i:Int)<0:=by omega
       clear hx cx hxb;have Vp:=lH (Vd.out.kept HK.out);have Uc:=lH (Vb.out.kept HK.out);have HF:=lH (show ∀W,Kept wr W→W.cell? ⟨w.heap.size,0,none⟩=some (.slice s1 n1 e1)∧W.cell? ⟨w.heap.size,1,none⟩=some (.slice s2 n2 e2)∧W.cell? ⟨w.heap.size,2,none⟩=some (.slice s3 n3 e3)∧W.cell? ⟨w.heap.size+1,0,none⟩=some (.string p.name)∧W.cell? ⟨w.heap.size+1,1,none⟩=some (.string p.owner)∧W.cell? ⟨w.heap.size+1,2,none⟩=some (.int .i64 p.prio)∧W.cell? ⟨w.heap.size+1,3,none⟩=some (.slice a1 m1 c1)∧W.cell? ⟨w.heap.size+1,4,none⟩=some (.slice a2 m2 c2)∧W.cell? ⟨w.heap.size+1,5,none⟩=some (.slice a3 m3 c3)∧W.cell? ⟨w.heap.size+1,6,none⟩=some (.slice a4 m4 c4)∧W.cell? ⟨w.heap.size+1,7,none⟩=some (.string p.key)∧W.cell? ⟨w.heap.size+1,8,none⟩=some (.int .i64 p.most)∧W.cell? ⟨w.heap.size+1,9,none⟩=some (.string p.node)∧W.cell? ⟨w.heap.size+1,10,none⟩=some (.bool p.hold)∧W.cell? ⟨bl,ol+i,none⟩=some (.string x) from fun W k=>by
        have h1:=Vp.out.kept k;have h2:=Uc.out.kept k;exact⟨h1.at_ 0 _ rfl,h1.at_ 1 _ rfl,h1.at_ 2 _ rfl,h2.at_ 0 _ rfl,h2.at_ 1 _ rfl,h2.at_ 2 _ rfl,h2.at_ 3 _ rfl,h2.at_ 4 _ rfl,h2.at_ 5 _ rfl,h2.at_ 6 _ rfl,h2.at_ 7 _ rfl,h2.at_ 8 _ rfl,h2.at_ 9 _ rfl,h2.at_ 10 _ rfl,cell_later k CXX.out⟩)
       obtain⟨y,hy⟩:∃y,inD p s.pods x s.nodes=y:=⟨_,rfl⟩
       have HY:=lH hy;have Tx:=lH (show ∀W,Kept wr W→Calls Tryz.prog 97 #[.agg #[.slice s1 n1 e1,.slice s2 n2 e2,.slice s3 n3 e3],.agg #[.string p.name,.string p.owner,.int .i64 p.prio,.slice a1 m1 c1,.slice a2 m2 c2,.slice a3 m3 c3,.slice a4 m4 c4,.string p.key,.int .i64 p.most,.string p.node,.bool p.hold],.string x] W (Say (.int .i64 y) W) from fun W k=>by
        have h:=jcb s1 s2 s3 n1 e1 n2 e2 n3 e3 a1 a2 a3 a4 m1 c1 m2 c2 m3 c3 m4 c4 p s x W (HN.out.kept (K.out.trans (HK.out.trans k))) (HP.out.kept (K.out.trans (HK.out.trans k))) hb2 Tn.out VT.out;rw[hy] at h;exact h)
       clear hy;go_upto_region 13 with fail
       have J:=lH (Kept.drew wr);refine wp_region_held_drew (S:=fun W=>W.cell? ⟨w.heap.size,0,none⟩=some (.slice s1 n1 e1)∧W.cell? ⟨w.heap.size,1,none⟩=some (.slice s2 n2 e2)∧W.cell? ⟨w.heap.size,2,none⟩=some (.slice s3 n3 e3)∧W.cell? ⟨w.heap.size+1,0,none⟩=some (.string p.name)∧W.cell? ⟨w.heap.size+1,1,none⟩=some (.string p.owner)∧W.cell? ⟨w.heap.size+1,2,none⟩=some (.int .i64 p.prio)∧W.cell? ⟨w.heap.size+1,3,none⟩=some (.slice a1 m1 c1)∧W.cell? ⟨w.heap.size+1,4,none⟩=some (.slice a2 m2 c2)∧W.cell? ⟨w.heap.size+1,5,none⟩=some (.slice a3 m3 c3)∧W.cell? ⟨w.heap.size+1,6,none⟩=some (.slice a4 m4 c4)∧W.cell? ⟨w.heap.size+1,7,none⟩=some (.string p.key)∧W.cell? ⟨w.heap.size+1,8,none⟩=some (.int .i64 p.most)∧W.cell? ⟨w.heap.size+1,9,none⟩=some (.string p.node)∧W.cell? ⟨w.heap.size+1,10,none⟩=some (.bool p.hold)∧W.cell? ⟨bl,ol+i,none⟩=some (.string x)) (by kernel_rfl) (HF.out _ J.out) (fun hHeld=>?_);obtain⟨wd,hwd⟩:∃W,wr.drew=W:=⟨_,rfl⟩
       rw[hwd] at J hHeld;try rw[hwd]
       clear hwd;refine tkI 0 ?_;refine tkI 1 ?_;refine tkI 2 ?_;refine tkI 3 ?_;refine tkI 4 ?_;refine tkI 5 ?_;try simp only[nP]
       refine rd1 6 fun K9 Ky=>?_;go_simp;refine(Tx.out _ J.out).mono ?_;rintro e wc ⟨rfl,kk⟩;have J:=lH (J.out.trans kk);clear kk Tx;refine Ky.out _ _ (HF.out _ J.out) (fun _=>?_);clear Ky K9;try simp only[nP]
       refine tkI 7 ?_;try simp only[nP]
       refine wpAnyH_done (by kernel_rfl) ?_ _;have cx:=cell_later J.out CXX.out;obtain⟨t,ht⟩:∃t,(x.toList==d.toList)=t:=⟨_,rfl⟩
       have htb:(x.toList != d.toList)=!t:=by rw[←ht];rfl
       have HT:=lH (show eqS x d=t from ht)
       cases t with
       | true =>
        have UJ:=lH (Ry.out.same Ub.out (by rw[jL.1 HT.out,if_pos rfl];exact Ry.out.1));go_wp2;go_roundw
        case rel=>exact⟨i+1,z,by omega,by go_num,rfl,UJ.out,HK.out.trans J.out⟩
        case measure=>simp[intOf];omega
       | false =>
        have hne:¬x=d:=fun e=>by have:=HT.out;rw[e,ZJ] at this;cases this
        by_cases hyz:y<z
        · have UJ:=lH (Ry.out.less Ub.out (by rw[HY.out,if_neg hne];rfl) (Nat.le_of_lt hyz));clear hne;go_wp2;go_roundw
          case rel=>exact⟨i+1,y,by omega,by go_num,rfl,UJ.out,HK.out.trans J.out⟩
          case measure=>simp[intOf];omega
        · have UJ:=lH (Ry.out.same Ub.out (by rw[HY.out,if_neg hne];omega));clear hne;go_wp2;go_roundw
          case rel=>exact⟨i+1,z,by omega,by go_num,rfl,UJ.out,HK.out.trans J.out⟩
          case measure=>simp[intOf];omega
     · have hge:¬(i:Int)<(m:Int):=by omega
       have HV:=lH (Ry.out.end_ (by rw[HM.out];omega) T0.out UX.out HC.out);obtain⟨r,hr⟩:∃r:Nat,(cc:Int)-(z:Int)=(r:Int):=⟨cc-z,by omega⟩
       have hrw:IntKind.i64.wrap (r:Int)=(r:Int):=IntWalk.i64_in _ (by omega);have Ma:=lH (show zN p s name=((r:Int),true) by rw[HV.out,Um.out,hr]);go_wp2;go_ret2
       rw[Ma.out];exact⟨rfl,Ve.out.trans (K.out.trans HK.out)⟩
theorem jkk {v:Value} {s:Clu} {w:World} (h:jA w v s) (x:ByteArray) (hl:s.pods.length≤100000):Calls Tryz.prog 57 #[v,.string x] w (qv (jcD s x) w):=by
 have h0:=h;obtain⟨v1,v2,v3,rfl,⟨a,cap,rfl,-,-,-⟩,⟨b,cp,rfl,-,-,-⟩,⟨d,cb,rfl,-,-,-⟩⟩:=h0;obtain⟨len,hl1⟩:∃q,s.nodes.length=q:=⟨_,rfl⟩
 obtain⟨m,hl2⟩:∃q,s.pods.length=q:=⟨_,rfl⟩
 obtain⟨n,hl3⟩:∃q,s.buds.length=q:=⟨_,rfl⟩
 rw[hl1,hl2,hl3] at h ⊢;rw[hl2] at hl;clear hl1 hl2 hl3;obtain⟨i0,hi,hz0,hz1,hz2'⟩:=info_parts jeq;obtain⟨Z,hZ⟩:∃Z,(w.alloc (.cells #[.slice a len cap,.slice b m cp,.slice d n cb] 51)).alloc (.cells #[.slice none 0 0,.slice none 0 0,.slice none 0 0] 51)=Z:=⟨_,rfl⟩
 have hkz:Kept w Z:=by rw[←hZ];exact jm _ _ _
 have HQ:=lH (show jf w.heap.size [.slice a len cap,.slice b m cp,.slice d n cb] Z from jd w (.slice a len cap) [.slice b m cp,.slice d n cb] 51 Z (by rw[←hZ];exact ja _ _));have HH:=lH (show jf (w.heap.size+1) [.slice none 0 0,.slice none 0 0,.slice none 0 0] Z by
  have dd:=jd (w.alloc (.cells #[.slice a len cap,.slice b m cp,.slice d n cb] 51)) (.slice none 0 0) [.slice none 0 0,.slice none 0 0] 51 Z (by rw[hZ];exact Kept.refl _);rw[World.size_alloc] at dd;exact dd)
 have Tl:=lH (show ∀W,Kept Z W→Yy W (w.heap.size+1) from fun W k=>by
  have hh:Z.heap[w.heap.size+1]?=some (.cells #[.slice none 0 0,.slice none 0 0,.slice none 0 0] 51):=by
   have:=(w.alloc (.cells #[.slice a len cap,.slice b m cp,.slice d n cb] 51)).alloc_heap_new (.cells #[.slice none 0 0,.slice none 0 0,.slice none 0 0] 51);rw[World.size_alloc,hZ] at this;exact this
  exact zk ((k.block _ (Array.getElem?_eq_some_iff.1 hh).1).trans hh))
 have HV:=lH (h.kept hkz);have Ve:=lH hkz;clear h hkz;obtain⟨lx,hlx,hrow,hat4⟩:=jgL HV.out.podsAt;have UH:=lH hrow;have Tw:=lH hlx;have Vu:=lH hat4;have hlen:lx.length=m:=hrow.1;have Vi:=lH hlen;have hmm:=hrow.2.1;unfold maxLen at hmm;clear hrow hlx hat4 hlen;have cq0:=(HQ.out.kept (Kept.refl _)).at_ 0 _ rfl;have cq1:=(HQ.out.kept (Kept.refl _)).at_ 1 _ rfl;have cq2:=(HQ.out.kept (Kept.refl _)).at_ 2 _ rfl;go_enter Tryz.func57,Tryz.ntmps57;go_upto_region 1 with fail
 try rw[hZ]
 clear hZ cq0 cq1 cq2;go_wp2;go_loopw [5,6] (fun v i wr=>∃k:Nat,k≤m∧i=.int .i64 k∧∃ly:List PX,ly=(lx.take k).filter (fun z=>!eqS z.1.name x)∧ly.length≤k∧Own jg 45 wr Z.heap.size v ly∧Kept Z wr) (fun _ i _=>m-(intOf i).toNat)
 case atStart=>exact⟨0,Nat.zero_le _,rfl,[],rfl,Nat.le_refl _,Own.nil _ _ _,Kept.refl _⟩
 case round =>
  obtain⟨k,hk,rfl,ly,hly,hll,ho,hK⟩:=hrel;have M6:=lH hly;have UM:=lH hll;have HO:=lH ho;have HK:=lH hK;have cq0:=(HQ.out.kept hK).at_ 0 _ rfl;have cq1:=(HQ.out.kept hK).at_ 1 _ rfl;have cq2:=(HQ.out.kept hK).at_ 2 _ rfl;by_cases hlt:k<m
  · have hkk:(k:Int)<(m:Int):=by omega
    obtain⟨b9,off,rfl⟩:=UH.out.form.resolve_left (by omega);obtain⟨z,hz,hd,hb,-,hc⟩:=(UH.out.kept hK).cells hlt;have M7:=lH hz;obtain⟨n9,⟨a1,m1,c1⟩,⟨a2,m2,c2⟩,⟨a3,m3,c3⟩,⟨a4,m4,c4⟩⟩:=z;have p0:wr.cell? ⟨b9,off+k*11,none⟩=some (.string n9.name):=hc 0 _ rfl;have p1:wr.cell? ⟨b9,off+k*11+1,none⟩=some (.string n9.owner):=hc 1 _ rfl;have p2:wr.cell? ⟨b9,off+k*11+2,none⟩=some (.int .i64 n9.prio):=hc 2 _ rfl;have p3:wr.cell? ⟨b9,off+k*11+3,none⟩=some (.slice a1 m1 c1):=hc 3 _ rfl;have p4:wr.cell? ⟨b9,off+k*11+4,none⟩=some (.slice a2 m2 c2):=hc 4 _ rfl;have p5:wr.cell? ⟨b9,off+k*11+5,none⟩=some (.slice a3 m3 c3):=hc 5 _ rfl;have p6:wr.cell? ⟨b9,off+k*11+6,none⟩=some (.slice a4 m4 c4):=hc 6 _ rfl;have p7:wr.cell? ⟨b9,off+k*11+7,none⟩=some (.string n9.key):=hc 7 _ rfl;have p8:wr.cell? ⟨b9,off+k*11+8,none⟩=some (.int .i64 n9.most):=hc 8 _ rfl;have p9:wr.cell? ⟨b9,off+k*11+9,none⟩=some (.string n9.node):=hc 9 _ rfl;have p10:wr.cell? ⟨b9,off+k*11+10,none⟩=some (.bool n9.hold):=hc 10 _ rfl;obtain⟨e1,he1⟩:∃e,eqS n9.name x=e:=⟨_,rfl⟩
    have he1':(n9.name.toList==x.toList)=e1:=he1;have he1n:(n9.name.toList != x.toList)=!e1:=by rw[bne,he1']
    have HE:=lH he1;have Rv:=lH (show (lx.take (k+1)).filter (fun z:PX=>!eqS z.1.name x)=ly++(if (!e1)=true then [(n9,(a1,m1,c1),(a2,m2,c2),(a3,m3,c3),(a4,m4,c4))] else []) by
     have hz9:lx[k]?=some (n9,(a1,m1,c1),(a2,m2,c2),(a3,m3,c3),(a4,m4,c4)):=M7.out;rw[zE hz9,List.filter_append,←M6.out,List.filter_cons,List.filter_nil];simp only[HE.out])
    clear hly hll ho hK hz hd hc hb he1
    cases e1 with
    | true =>
     have HX:=lH (show ly=(lx.take (k+1)).filter (fun z:PX=>!eqS z.1.name x) by rw[Rv.out];simp);go_wp2;go_roundw
     case rel=>exact⟨k+1,by omega,by go_num,ly,HX.out,by have:=UM.out;omega,HO.out,HK.out⟩
     case measure=>simp[intOf];omega
    | false =>
     obtain⟨len1,hlen1⟩:∃q,ly.length=q:=⟨_,rfl⟩
     have Uz:=lH hlen1;rw[hlen1] at UM;clear hlen1;have hbase:Z.heap.size≤wr.heap.size:=HK.out.size;have Vo:=lH (show wr.ownsRow Z.heap.size 45 11 u5 len1 (jb jg ly) by have:=HO.out.1;rw[Uz.out] at this;exact this);go_wp2_with (at_builtin;refine wpList_append_lies _ rfl _ _ _ rfl Z.heap.size 45 i0 _ 11 184 Tryz.underlying48 hi hz0 hz1 hz2' rfl (by decide) u5 len1 (jb jg ly) rfl (Vo.out.alloc _) ⟨wr.heap.size,0,none⟩ 1 1 (jg.cs (n9,(a1,m1,c1),(a2,m2,c2),(a3,m3,c3),(a4,m4,c4))) rfl rfl (World.news_of_block (cs:=#[.string n9.name,.string n9.owner,.int .i64 n9.prio,.slice a1 m1 c1,.slice a2 m2 c2,.slice a3 m3 c3,.slice a4 m4 c4,.string n9.key,.int .i64 n9.most,.string n9.node,.bool n9.hold]) (t:=45) (fr:=(0,0)) (heap_alloc_new wr _)) (JN _) (by decide) (by unfold maxLen;have:=UM.out;omega) (by have:=UM.out;omega) (by simp;omega) (wr.heap.size+1) (by simp) ?_;intro gg cap1 w2 hown1 hgrow hat hlt1)
     have M8:=lH (show Own jg 45 w2 Z.heap.size (.slice (some ⟨gg,0,none⟩) (len1+1) cap1) (ly++[(n9,(a1,m1,c1),(a2,m2,c2),(a3,m3,c3),(a4,m4,c4))]) from Own.snoc hown1 (by rw[Uz.out]) HO.out.2 trivial);have Nz:=lH (show Kept Z w2 from(show Below Z.heap.size Z _ from HK.out.trans (ja wr (.cells #[.string n9.name,.string n9.owner,.int .i64 n9.prio,.slice a1 m1 c1,.slice a2 m2 c2,.slice a3 m3 c3,.slice a4 m4 c4,.string n9.key,.int .i64 n9.most,.string n9.node,.bool n9.hold] 45))).grown hgrow (by rw[World.size_alloc];omega) (fun j hj=>(Vo.out.lt j hj).1));have HX:=lH (show ly++[(n9,(a1,m1,c1),(a2,m2,c2),(a3,m3,c3),(a4,m4,c4))]=(lx.take (k+1)).filter (fun z:PX=>!eqS z.1.name x) by rw[Rv.out];rfl);clear hown1 hgrow hat hlt1;go_wp2;go_roundw
     case rel=>exact⟨k+1,by omega,by go_num,_,HX.out,by rw[List.length_append,Uz.out];have:=UM.out;simp;omega,M8.out,Nz.out⟩
     case measure=>simp[intOf];omega
  · have hkk:¬(k:Int)<(m:Int):=by omega
    have Vz:=lH (show zr wr u5 (Y5 x s.pods) by
     have:=ZO ho (fun z hz=>js.kept (Vu.out z (List.mem_of_mem_take (List.mem_filter.1 (hly▸hz)).1)) hK);rw[hly,List.take_of_length_le (by rw[Vi.out];omega)] at this;unfold Y5;rw[←Tw.out,List.filter_map];exact this)
    clear hly hll ho hK;obtain⟨b9,m9,c9,rfl,-,-,-⟩:=Vz.out.shape;go_wp2_with fail
    refine(jaH (HV.out.kept HK.out) Vz.out).mono ?_;rintro e w9 ⟨y9,rfl,hy,kk⟩;have hy0:=hy;obtain⟨_,_,_,rfl,⟨g1,r1,rfl,-,-,-⟩,⟨g2,r2,rfl,-,-,-⟩,⟨g3,r3,rfl,-,-,-⟩⟩:=hy0;have K9:=lH (HK.out.trans kk);obtain⟨t1,ht1⟩:∃q,({ s with pods:=Y5 x s.pods }:Clu).nodes.length=q:=⟨_,rfl⟩
    rw[ht1] at hy;try rw[ht1]
    clear ht1;obtain⟨t2,ht2⟩:∃q,({ s with pods:=Y5 x s.pods }:Clu).pods.length=q:=⟨_,rfl⟩
    rw[ht2] at hy;try rw[ht2]
    clear ht2;obtain⟨t3,ht3⟩:∃q,({ s with pods:=Y5 x s.pods }:Clu).buds.length=q:=⟨_,rfl⟩
    rw[ht3] at hy;try rw[ht3]
    clear ht3;have HY:=lH hy;clear hy kk cq0 cq1 cq2;have H9:=lH (HH.out.kept K9.out);have z0:=H9.out.at_ 0 _ rfl;have z1:=H9.out.at_ 1 _ rfl;have z2:=H9.out.at_ 2 _ rfl;have f0:=H9.out.free 0;have f1:=H9.out.free 1;have f2:=H9.out.free 2;have PP:=lH (jW (vs:=[.slice g1 t1 r1,.slice g2 t2 r2,.slice g3 t3 r3]) H9.out rfl);go_wp2;obtain⟨WE,hWE⟩:∃V,w9.setCells (w.heap.size+1) 0 [.slice g1 t1 r1,.slice g2 t2 r2,.slice g3 t3 r3]=V:=⟨_,rfl⟩
    have hWE2:(((w9.setCell ⟨(w.heap.size+1),0,none⟩ (.slice g1 t1 r1)).setCell ⟨(w.heap.size+1),1,none⟩ (.slice g2 t2 r2)).setCell ⟨(w.heap.size+1),2,none⟩ (.slice g3 t3 r3))=WE:=hWE;rw[hWE] at PP;try rw[hWE2]
    clear hWE hWE2;obtain⟨PC,hsz,hbl,hkp⟩:=PP.out;refine bodyPost_ret (by simp[results,Tryz.results57,go_sem,PC.at_ 0 _ rfl,PC.at_ 1 _ rfl,PC.at_ 2 _ rfl];try rfl) rfl ?_;exact⟨_,rfl,zj hsz hbl (Tl.out _ K9.out) HY.out,hkp _ _ (Nat.le_succ _) (Ve.out.trans K9.out)⟩
end Go.Proofs.YtmlgobiifebjkabGreat
namespace Go.Proofs.YtmlgobiifebjkabGreat.Vec
open Go.RowKit Go.Proofs.YtmlgobiifebjkabGreat
theorem jiK (a a':Option Addr) (len cap len' cap':Nat) (l l':V) (w:World) (hr:jw w a len l) (hr':jw w a' len' l') :
 Calls Tryz.prog 99 #[.slice a len cap,.slice a' len' cap'] w (Told (jk jX l l').1 (jk jX l l').2 w):=by
 have HA:=lH hr;have HB:=lH hr';have HL:=lH hr.1;have HL':=lH hr'.1;by_cases hc:ZE l l'=0
 · obtain⟨ha,hb⟩:=jde hc;have HC:=lH hc;have HG:=lH (Zq ha hr.2.2.1);have HG':=lH (Zq hb hr'.2.2.1);have h8:len≤8:=by have:=J7 ha;rw[HL.out] at this;exact this
   have h8':len'≤8:=by have:=J7 hb;rw[HL'.out] at this;exact this
   have HM:=lH (jbb jX ha hb hr.2.2.1 hr'.2.2.1);have HP:=lH (show ∀n ∈ zg (l.length+l'.length) l l',0<jy l n+jy l' n from fun n hn=>jda HG.out HG'.out hn);obtain⟨NS,hNS⟩:∃NS,zg (l.length+l'.length) l l'=NS:=⟨_,rfl⟩
   have hlen:=jaO (l.length+l'.length) l l';have hn16:NS.length≤16:=by rw[hNS,HL.out,HL'.out] at hlen;omega
   rw[hNS] at HM HP;have RO:=lH hNS;obtain⟨R,hR⟩:∃R,Jh jX l l' NS []=R:=⟨_,rfl⟩
   rw[hR] at HM;have UC:=lH hR;have ND:=lH h8;have HH8':=lH h8';obtain⟨i0,hi,hz0,hz1,hz2⟩:=info_parts jc0;clear hr hr' hc ha hb hNS hR hlen h8 h8';go_enter Tryz.func99,Tryz.ntmps99;go_wp2_with fail
   refine(XU _ _ _ _ _ _ l l' _ HA.out HB.out).mono ?_;rw[HC.out];rintro e1 w1 ⟨rfl,k1⟩;have K1:=lH k1;clear k1;go_wp2_with fail
   refine(qf _ _ _ _ _ _ l l' _ (HA.out.kept K1.out) (HB.out.kept K1.out) ND.out HH8'.out).mono ?_;rw[RO.out];rintro e2 w2 ⟨x2,rfl,ho,k2⟩;have MM:=lH ho.2;obtain⟨s,scap,rfl,hs1,hs2,hrow⟩:=ho.reads;have Uq:=lH hrow;have RP:=lH hs1;have K2:=lH (K1.out.trans k2);obtain⟨n,hn⟩:∃n,NS.length=n:=⟨_,rfl⟩
   have VY:=lH hn;rw[hn] at hn16 Uq ⊢;clear k2 ho hrow hn hs1 hs2;go_wp2
   go_loopw [8,9] (fun v i wr=>∃(k:Nat) (acc:V),k≤n∧i=.int .i64 k∧Jh jX l l' (NS.drop k) acc=R∧jR 127 wr w2.heap.size v acc∧Below w2.heap.size w2 wr∧acc.length≤k)
    (fun _ i _=>n-(intOf i).toNat)
   case atStart=>exact⟨0,[],Nat.zero_le _,rfl,UC.out,jR.nil _ _ _,Below.refl _ _,Nat.le_refl _⟩
   case round =>
    obtain⟨k,acc,hk,rfl,hres,ho,hB,hacc⟩:=hrel;have HQ:=lH hres;have HO:=lH ho;have Vb:=lH hB;clear hres ho;by_cases hlt:k<n
    · obtain⟨b,off,rfl⟩:∃b off,s=some ⟨b,off,none⟩:=Uq.out.form.resolve_left (by omega);obtain⟨x,hx,hdrop,hbx,hsz,c1⟩:=(Uq.out.kept hB).str hlt;have HD:=lH hdrop;have Ri:=lH hsz;have HS:=lH (show ∀W,Kept wr W→W.cell? ⟨b,off+k,none⟩=some (.string x) from fun W kk=>cell_later kk c1);have HX:=lH (show 0<jy l x+jy l' x from HP.out x (List.mem_of_getElem? hx));have Rm:=lH (show ∀W,Kept wr W→jw W a len l from fun W kk=>HA.out.kept (K2.out.trans (Kept.trans hB kk)));have Tj:=lH (show ∀W,Kept wr W→jw W a' len' l' from fun W kk=>HB.out.kept (K2.out.trans (Kept.trans hB kk)));obtain⟨g1,hg1⟩:∃g,jy l x=g:=⟨_,rfl⟩
      obtain⟨g2,hg2⟩:∃g,jy l' x=g:=⟨_,rfl⟩
      have Rn:=lH hg1;have Ts:=lH hg2;have B1:=lH (show 0≤g1∧g1≤9223372036854775807 by rw[←hg1];exact XM x HG.out);have B2:=lH (show 0≤g2∧g2≤9223372036854775807 by rw[←hg2];exact XM x HG'.out);rw[hg1,hg2] at HX;obtain⟨r1,r2,hr⟩:∃r1 r2,jX g1 g2=(r1,r2):=⟨_,_,rfl⟩
      have QF:=lH (show ∀W,Calls Tryz.prog 129 #[.int .i64 g1,.int .i64 g2] W (Ans r1 r2 W) from fun W=>by
       have:=jmb g1 g2 W B1.out B2.out;rw[hr] at this;exact this)
      have RB:=lH (show 0≤r1∧r1≤9223372036854775807 by have:=jgG B1.out B2.out;rw[hr] at this;exact this);have HF:=lH (show jX (jy l x) (jy l' x)=(r1,r2) by rw[hg1,hg2];exact hr);have Tt:=lH hr;have hk1:(k:Int)<(n:Int):=by omega
      clear hB hx hdrop hsz hg1 hg2 hr;by_cases hz:r2=0
      · subst hz;by_cases hy:r1=0
        · subst hy;have HN:=lH (show Jh jX l l' (NS.drop (k+1)) acc=R by
           have:=jaG (t:=NS.drop (k+1)) (acc:=acc) HF.out;unfold Xf at this;rw[if_pos rfl] at this;rw[←this,←HD.out];exact HQ.out)
          go_wp2;clear c1;refine wp_region_held_drew (S:=fun W=>W.cell? ⟨b,off+k,none⟩=some (.string x)) (by kernel_rfl) (HS.out _ (Kept.drew _)) (fun hHeld=>?_);refine tkJ 0 ?_;refine tkJ 1 ?_;refine tkJ 2 ?_;refine tkJ 3 ?_;refine tkJ 4 ?_;refine tkJ 6 ?_;refine tkJ 7 ?_;refine tkJ 8 ?_;refine tkJ 9 ?_;refine tkJ 10 ?_;try simp only[nP]
          refine rd1 5 fun K9 Ky=>?_;go_simp;refine(Jn _ _ _ l x _ (Rm.out _ (Kept.drew _))).mono ?_;rintro e3 w3 ⟨rfl,kk⟩;have J1:=lH ((Kept.drew _).trans kk);clear kk;refine Ky.out _ _ (HS.out _ J1.out) (fun _=>?_);clear Ky K9;try simp only[nP]
          refine rd1 11 fun K9 Ky=>?_;go_simp;refine(Jn _ _ _ l' x _ (Tj.out _ J1.out)).mono ?_;rintro e4 w4 ⟨rfl,kk⟩;have J2:=lH ((J1.out).trans kk);clear kk;refine Ky.out _ _ (HS.out _ J2.out) (fun _=>?_);clear Ky K9;try simp only[nP]
          rw[Rn.out,Ts.out];refine rd1 12 fun K9 Ky=>?_;go_simp;refine(QF.out _).mono ?_;rintro e5 w5 ⟨rfl,kk⟩;have J3:=lH ((J2.out).trans kk);clear kk;refine Ky.out _ _ (HS.out _ J3.out) (fun _=>?_);clear Ky K9;try simp only[nP]
          refine tkJ 13 ?_;refine tkJ 14 ?_;refine tkJ 15 ?_;refine tkJ 16 ?_;refine tkJ 17 ?_;try simp only[nP]
          refine wpAnyH_done (by kernel_rfl) ?_ _;have c1:=HS.out _ J3.out;have B6:=lH (Vb.out.trans (Below.mono J3.out Vb.out.size));have O6:=lH (HO.out.kept J3.out);go_wp2;go_roundw
          case rel=>exact⟨k+1,acc,by omega,by go_num,HN.out,O6.out,B6.out,by omega⟩
          case measure=>simp[intOf];omega
        · have hy1:0<r1:=by have:=RB.out;omega
          have HN:=lH (show Jh jX l l' (NS.drop (k+1)) (acc++[(x,r1)])=R by
           have:=jaG (t:=NS.drop (k+1)) (acc:=acc) HF.out;unfold Xf at this;rw[if_neg hy] at this;rw[←this,←HD.out];exact HQ.out)
          clear hy;go_wp2;clear c1;refine wp_region_held_drew (S:=fun W=>W.cell? ⟨b,off+k,none⟩=some (.string x)) (by kernel_rfl) (HS.out _ (Kept.drew _)) (fun hHeld=>?_);refine tkJ 0 ?_;refine tkJ 1 ?_;refine tkJ 2 ?_;refine tkJ 3 ?_;refine tkJ 4 ?_;refine tkJ 6 ?_;refine tkJ 7 ?_;refine tkJ 8 ?_;refine tkJ 9 ?_;refine tkJ 10 ?_;try simp only[nP]
          refine rd1 5 fun K9 Ky=>?_;go_simp;refine(Jn _ _ _ l x _ (Rm.out _ (Kept.drew _))).mono ?_;rintro e3 w3 ⟨rfl,kk⟩;have J1:=lH ((Kept.drew _).trans kk);clear kk;refine Ky.out _ _ (HS.out _ J1.out) (fun _=>?_);clear Ky K9;try simp only[nP]
          refine rd1 11 fun K9 Ky=>?_;go_simp;refine(Jn _ _ _ l' x _ (Tj.out _ J1.out)).mono ?_;rintro e4 w4 ⟨rfl,kk⟩;have J2:=lH ((J1.out).trans kk);clear kk;refine Ky.out _ _ (HS.out _ J2.out) (fun _=>?_);clear Ky K9;try simp only[nP]
          rw[Rn.out,Ts.out];refine rd1 12 fun K9 Ky=>?_;go_simp;refine(QF.out _).mono ?_;rintro e5 w5 ⟨rfl,kk⟩;have J3:=lH ((J2.out).trans kk);clear kk;refine Ky.out _ _ (HS.out _ J3.out) (fun _=>?_);clear Ky K9;try simp only[nP]
          refine tkJ 13 ?_;refine tkJ 14 ?_;refine tkJ 15 ?_;refine tkJ 16 ?_;refine tkJ 17 ?_;try simp only[nP]
          refine wpAnyH_done (by kernel_rfl) ?_ _;have c1:=HS.out _ J3.out;have B6:=lH (Vb.out.trans (Below.mono J3.out Vb.out.size));have O6:=lH (HO.out.kept J3.out);have RQ:=lH (show (w5.alloc (.cells #[.string x,.int .i64 r1] 127)).ownsRow w2.heap.size 127 2 u8 acc.length (cellsOf acc) from(O6.out.1.alloc _));have VD:=lH (show w2.heap.size≤w5.heap.size from B6.out.size);go_wp2_with (at_builtin;refine wpList_append_lies _ rfl _ _ _ rfl w2.heap.size 127 i0 _ 2 24 Tryz.underlying40 hi hz0 hz1 hz2 rfl (by decide) u8 acc.length (cellsOf acc) rfl RQ.out ⟨w5.heap.size,0,none⟩ 1 1 [.string x,.int .i64 r1] rfl rfl (jbE _ _ _ _) (Zv [(x,r1)]) (by decide) (by unfold maxLen;omega) (by omega) (by rw[World.size_alloc];have:=VD.out;omega) (w5.heap.size+1) (World.size_alloc _ _) ?_;intro g cap1 w7 hown1 hgrow hg hlt7;refine Hid.out ?_)
          refine lH ?_;go_wp2;go_roundw
          case rel =>
           refine⟨k+1,acc++[(x,r1)],by omega,by go_num,HN.out,⟨?_,O6.out.2.snoc Ri.out (by have:=RB.out;omega) (by have:=RB.out;omega)⟩,(B6.out.alloc VD.out _).grown hgrow (by rw[World.size_alloc];have:=VD.out;omega) (fun j hj=>(RQ.out.lt j hj).1),by rw[List.length_append];simp only[List.length_cons,List.length_nil];omega⟩;rw[List.length_append,Zj];exact hown1
          case measure=>simp[intOf];omega
      · have hz':(r2==0)=false:=by simpa using hz
        have HE:=lH (show jk jX l l'=(r2,[]) by
         have:R=(r2,[]):=by rw[←HQ.out,HD.out];exact jeM HF.out hz
         rw[HM.out,this];simp only;rw[if_pos hz])
        clear hz;go_wp2;clear c1;refine wp_region_held_drew (S:=fun W=>W.cell? ⟨b,off+k,none⟩=some (.string x)) (by kernel_rfl) (HS.out _ (Kept.drew _)) (fun hHeld=>?_);refine tkJ 0 ?_;refine tkJ 1 ?_;refine tkJ 2 ?_;refine tkJ 3 ?_;refine tkJ 4 ?_;refine tkJ 6 ?_;refine tkJ 7 ?_;refine tkJ 8 ?_;refine tkJ 9 ?_;refine tkJ 10 ?_;try simp only[nP]
        refine rd1 5 fun K9 Ky=>?_;go_simp;refine(Jn _ _ _ l x _ (Rm.out _ (Kept.drew _))).mono ?_;rintro e3 w3 ⟨rfl,kk⟩;have J1:=lH ((Kept.drew _).trans kk);clear kk;refine Ky.out _ _ (HS.out _ J1.out) (fun _=>?_);clear Ky K9;try simp only[nP]
        refine rd1 11 fun K9 Ky=>?_;go_simp;refine(Jn _ _ _ l' x _ (Tj.out _ J1.out)).mono ?_;rintro e4 w4 ⟨rfl,kk⟩;have J2:=lH ((J1.out).trans kk);clear kk;refine Ky.out _ _ (HS.out _ J2.out) (fun _=>?_);clear Ky K9;try simp only[nP]
        rw[Rn.out,Ts.out];refine rd1 12 fun K9 Ky=>?_;go_simp;refine(QF.out _).mono ?_;rintro e5 w5 ⟨rfl,kk⟩;have J3:=lH ((J2.out).trans kk);clear kk;refine Ky.out _ _ (HS.out _ J3.out) (fun _=>?_);clear Ky K9;try simp only[nP]
        refine tkJ 13 ?_;refine tkJ 14 ?_;refine tkJ 15 ?_;refine tkJ 16 ?_;refine tkJ 17 ?_;try simp only[nP]
        refine wpAnyH_done (by kernel_rfl) ?_ _;have c1:=HS.out _ J3.out;have B6:=lH (Vb.out.trans (Below.mono J3.out Vb.out.size));have O6:=lH (HO.out.kept J3.out);go_wp2;go_ret2
        rw[HE.out];exact Told.none (K2.out.trans B6.out)
    · have HE:=lH (show R=(0,acc) by
       have e:NS.drop k=[]:=List.drop_of_length_le (by rw[VY.out];omega);rw[←HQ.out,e];rfl)
      have Uk:=lH (K2.out.trans (show Kept w2 wr from hB));obtain⟨av,cv,rfl,hv1,hv2,-⟩:=HO.out.at_;have NF:=lH (jR.base_le HO.out K2.out.size);clear hB hv1 hv2;by_cases h9:acc.length≤8
      · have HW:=lH (show jk jX l l'=(0,acc) by
         rw[HM.out,HE.out];simp only;rw[if_neg (by decide),if_neg (by omega)])
        have QW:=lH (fun W=>jdf av acc.length cv W h9);clear h9;go_wp2_with fail
        refine(QW.out _).mono ?_;rintro e9 w9 ⟨rfl,rfl⟩;go_wp2;go_ret2
        rw[HW.out];exact⟨_,rfl,NF.out,Uk.out⟩
      · have HW:=lH (show jk jX l l'=(4,[]) by
         rw[HM.out,HE.out];simp only;rw[if_neg (by decide),if_pos (by omega)])
        have QW:=lH (fun W=>ja5 av acc.length cv W (by omega));clear h9;go_wp2_with fail
        refine(QW.out _).mono ?_;rintro e9 w9 ⟨rfl,rfl⟩;go_wp2;go_ret2
        rw[HW.out];exact Told.none Uk.out
 · have HE:=lH (ja4 (f:=jX) hc);obtain⟨c,hc2⟩:∃c,ZE l l'=c:=⟨_,rfl⟩
   rw[hc2] at HE hc;have hc':(c==0)=false:=by simpa using hc
   have HC:=lH hc2;clear hr hr' hc hc2;go_enter Tryz.func99,Tryz.ntmps99;go_wp2_with fail
   refine(XU _ _ _ _ _ _ l l' _ HA.out HB.out).mono ?_;rw[HC.out];rintro e1 w1 ⟨rfl,k1⟩;have K1:=lH k1;clear k1;go_wp2;go_ret2
   rw[HE.out];exact Told.none K1.out
theorem jmw {v v':Value} {l l' m:V} {c:Int} {w:World} (h:Reads w v l) (h':Reads w v' l') (e:jk jX l l'=(c,m)) :
 Calls Tryz.prog 99 #[v,v'] w fun e w'=>∃x,e=.returned (.tuple #[x,.int .i64 c])∧Reads w' x m∧Kept w w':=by
 obtain⟨a,cap,rfl,_,_,hb⟩:=h;obtain⟨a9,cap9,rfl,_,_,hr⟩:=h';refine(jiK a a9 _ cap _ cap9 l l' w hb hr).mono ?_;rw[e];rintro e w' ⟨x,rfl,ho,k⟩;exact⟨x,rfl,ho.at_,k⟩
end Go.Proofs.YtmlgobiifebjkabGreat.Vec
namespace Go.Proofs.YtmlgobiifebjkabGreat
open Go.RowKit
theorem jkJ {s:Clu} {x:ByteArray} {c:Int} {u:Vec.V} (h:zy s x=(c,u)) (hc:c≠0):J4 s x=(c,[]):=by
 unfold zy at h;unfold J4
 cases hf:jj s.nodes x with
 | none =>
  rw[hf] at h;dsimp only at h ⊢;rw[(Prod.mk.inj h).1]
 | some n =>
  rw[hf] at h;dsimp only at h ⊢;rw[h,if_neg hc]
theorem jl0 {s:Clu} {x:ByteArray} {u:Vec.V} (h:zy s x=(0,u)):∃n,jj s.nodes x=some n∧J4 s x=Vec.jk Vec.jX n.cap u:=by
 unfold zy at h;unfold J4
 cases hf:jj s.nodes x with
 | none =>
  rw[hf] at h
  cases (Prod.mk.inj h).1
 | some n =>
  rw[hf] at h;dsimp only at h ⊢;exact⟨n,rfl,by rw[h,if_pos rfl]⟩
theorem jA.nodesR {w:World} {v1 v2 v3:Value} {s:Clu} (h:jA w (zv v1 v2 v3) s):zV w v1 s.nodes:=by
 obtain⟨_,_,_,e,g0⟩:=h
 cases e
 exact g0.nodes
theorem jby {v:Value} {s:Clu} {w:World} (h:jA w v s) (x:ByteArray):Calls Tryz.prog 61 #[v,.string x] w (Z1 (J4 s x) w):=by
 have h0:=h;obtain⟨v1,v2,v3,rfl,⟨a,cap,rfl,-,-,-⟩,⟨b,cp,rfl,-,-,-⟩,⟨d,cb,rfl,-,-,-⟩⟩:=h0;obtain⟨len,hl1⟩:∃q,s.nodes.length=q:=⟨_,rfl⟩
 obtain⟨m,hl2⟩:∃q,s.pods.length=q:=⟨_,rfl⟩
 obtain⟨n,hl3⟩:∃q,s.buds.length=q:=⟨_,rfl⟩
 rw[hl1,hl2,hl3] at h ⊢;clear hl1 hl2 hl3;obtain⟨Z,hZ⟩:∃Z,w.alloc (.cells #[.slice a len cap,.slice b m cp,.slice d n cb] 51)=Z:=⟨_,rfl⟩
 have hkz:Kept w Z:=by rw[←hZ];exact ja _ _
 have HQ:=lH (show jf w.heap.size [.slice a len cap,.slice b m cp,.slice d n cb] Z from jd w (.slice a len cap) [.slice b m cp,.slice d n cb] 51 Z (by rw[hZ];exact Kept.refl _));have HV:=lH (h.kept hkz);have Ve:=lH hkz;clear h hkz;obtain⟨c,u,hcu⟩:∃c u,zy s x=(c,u):=⟨_,_,rfl⟩
 have Rs:=lH hcu;have cq0:=(HQ.out.kept (Kept.refl _)).at_ 0 _ rfl;have cq1:=(HQ.out.kept (Kept.refl _)).at_ 1 _ rfl;have cq2:=(HQ.out.kept (Kept.refl _)).at_ 2 _ rfl;go_enter Tryz.func61,Tryz.ntmps61;go_upto_region 1 with fail
 try rw[hZ]
 clear hZ;go_wp2_with fail
 refine(jbK HV.out x).mono ?_;rw[hcu];rintro e w1 ⟨y1,rfl,hy,kk⟩;have HY:=lH hy;have K:=lH kk;clear hy kk hcu cq0 cq1 cq2;have cq0:=(HQ.out.kept K.out).at_ 0 _ rfl;have cq1:=(HQ.out.kept K.out).at_ 1 _ rfl;have cq2:=(HQ.out.kept K.out).at_ 2 _ rfl;dsimp only at HY;by_cases hc:¬c=0
 · have hcn:(c != 0)=true:=by simpa using hc
   have HX:=lH (jkJ Rs.out hc);clear hc;go_wp2;go_ret2
   exact Z1.mk' HX.out (Xr _) (Ve.out.trans K.out)
 obtain rfl:c=0:=Decidable.of_not_not hc;obtain⟨n9,hf,hfr⟩:=jl0 Rs.out;have V7:=lH hf;have Tt:=lH hfr;clear hc hf hfr;go_wp2_with fail
 refine(jew (HV.out.kept K.out).nodesR).mono ?_;rw[V7.out];rintro e w2 ⟨y2,rfl,hr,kk⟩;obtain⟨q1,q2,q3,rfl,hat⟩:=hr;have g1:=hat.cap;have g2:=hat.labels;have g3:=hat.taints;have Uj:=lH hat.cap;obtain⟨b1,d1,rfl,-,-,-⟩:=g1;obtain⟨b2,d2,rfl,-,-,-⟩:=g2;obtain⟨b3,d3,rfl,-,-,-⟩:=g3;try unfold zw
 dsimp only[Option.getD] at *;obtain⟨n1,hn1⟩:∃q,n9.cap.length=q:=⟨_,rfl⟩
 obtain⟨n2,hn2⟩:∃q,n9.labels.length=q:=⟨_,rfl⟩
 obtain⟨n3,hn3⟩:∃q,n9.taints.length=q:=⟨_,rfl⟩
 try rw[hn1] at Uj
 try rw[hn1,hn2,hn3]
 have K:=lH (K.out.trans kk);have HY:=lH (HY.out.kept kk);clear hat kk hn1 hn2 hn3 cq0 cq1 cq2;obtain⟨W3,hW3⟩:∃W,w2.alloc (.cells #[.string n9.name,.slice b1 n1 d1,.slice b2 n2 d2,.slice b3 n3 d3,.bool n9.cordon] 99)=W:=⟨_,rfl⟩
 have hk3:Kept w2 W3:=by rw[←hW3];exact ja _ _
 have VP:=lH (show jf w2.heap.size [.string n9.name,.slice b1 n1 d1,.slice b2 n2 d2,.slice b3 n3 d3,.bool n9.cordon] W3 from jd w2 (.string n9.name) [.slice b1 n1 d1,.slice b2 n2 d2,.slice b3 n3 d3,.bool n9.cordon] 99 W3 (by rw[hW3];exact Kept.refl _));obtain⟨xq,hxq⟩:∃q,w2.heap.size=q:=⟨_,rfl⟩
 rw[hxq] at VP;have Ro:=lH hW3;clear hW3;go_upto_region 5 with fail
 try rw[Ro.out]
 try rw[hxq]
 have K:=lH (K.out.trans hk3);have HY:=lH (HY.out.kept hk3);have Uj:=lH (Uj.out.kept hk3);clear hk3 Ro hxq;have xq0:=VP.out.at_ 0 _ rfl;have xq1:=VP.out.at_ 1 _ rfl;have xq2:=VP.out.at_ 2 _ rfl;have xq3:=VP.out.at_ 3 _ rfl;have xq4:=VP.out.at_ 4 _ rfl;obtain⟨c3,m3,hcm⟩:∃c m,Vec.jk Vec.jX n9.cap u=(c,m):=⟨_,_,rfl⟩
 have HX:=lH (Tt.out.trans hcm);have Um:=lH (Vec.jmw Uj.out HY.out hcm);clear hcm;go_wp2_with fail
 refine Um.out.mono ?_;rintro e w4 ⟨y4,rfl,hy,kk⟩;have M9:=lH hy;have K:=lH (K.out.trans kk);clear hy kk;go_wp2;go_ret2
 exact Z1.mk' HX.out M9.out (Ve.out.trans K.out)
theorem jef (s1 s2 s3:Option Addr) (n1 e1 n2 e2 n3 e3:Nat) (a1 a2 a3 a4:Option Addr) (m1 c1 m2 c2 m3 c3 m4 c4:Nat) (p:Pd) (s:Clu) (name:ByteArray) (w:World) (hs:jA w (zv (.slice s1 n1 e1) (.slice s2 n2 e2) (.slice s3 n3 e3)) s) (hl:jH s) (hA:Asc s.pods) (ha:YD s.nodes) (hk:∀n ∈ s.nodes,jZ n=0) (hp:js w (.slice a1 m1 c1) (.slice a2 m2 c2) (.slice a3 m3 c3) (.slice a4 m4 c4) p):Calls Tryz.prog 17 #[.agg #[.slice s1 n1 e1,.slice s2 n2 e2,.slice s3 n3 e3],jr p (.slice a1 m1 c1) (.slice a2 m2 c2) (.slice a3 m3 c3) (.slice a4 m4 c4),.string name] w (Say (.int .i64 (Yc s p name)) w):=by
 obtain⟨Z,hZ⟩:∃Z,(w.alloc (.cells #[.slice s1 n1 e1,.slice s2 n2 e2,.slice s3 n3 e3] 51)).alloc (.cells #[.string p.name,.string p.owner,.int .i64 p.prio,.slice a1 m1 c1,.slice a2 m2 c2,.slice a3 m3 c3,.slice a4 m4 c4,.string p.key,.int .i64 p.most,.string p.node,.bool p.hold] 45)=Z:=⟨_,rfl⟩
 have hkz:Kept w Z:=by rw[←hZ];exact jm _ _ _
 have Vd:=lH (jd w (.slice s1 n1 e1) [.slice s2 n2 e2,.slice s3 n3 e3] 51 Z (by rw[←hZ];exact ja _ _));have Vb:=lH (show jf (w.heap.size+1) [.string p.name,.string p.owner,.int .i64 p.prio,.slice a1 m1 c1,.slice a2 m2 c2,.slice a3 m3 c3,.slice a4 m4 c4,.string p.key,.int .i64 p.most,.string p.node,.bool p.hold] Z by
  have dd:=jd (w.alloc (.cells #[.slice s1 n1 e1,.slice s2 n2 e2,.slice s3 n3 e3] 51)) (.string p.name) [.string p.owner,.int .i64 p.prio,.slice a1 m1 c1,.slice a2 m2 c2,.slice a3 m3 c3,.slice a4 m4 c4,.string p.key,.int .i64 p.most,.string p.node,.bool p.hold] 45 Z (by rw[hZ];exact Kept.refl _);rw[World.size_alloc] at dd;exact dd)
 have Ve:=lH hkz;have Vk:=lH (show Z.heap[w.heap.size]?=some (.cells #[.slice s1 n1 e1,.slice s2 n2 e2,.slice s3 n3 e3] 51) by
  have h1:=World.alloc_heap_new w (.cells #[.slice s1 n1 e1,.slice s2 n2 e2,.slice s3 n3 e3] 51);have k2:=ja (w.alloc (.cells #[.slice s1 n1 e1,.slice s2 n2 e2,.slice s3 n3 e3] 51)) (.cells #[.string p.name,.string p.owner,.int .i64 p.prio,.slice a1 m1 c1,.slice a2 m2 c2,.slice a3 m3 c3,.slice a4 m4 c4,.string p.key,.int .i64 p.most,.string p.node,.bool p.hold] 45);rw[hZ] at k2;exact(k2.block _ (by simp)).trans h1)
 have HS:=lH (hs.kept hkz);have T8:=lH hp;have HL:=lH hl;have HA:=lH hA;have Tn:=lH ha;have VT:=lH hk;clear hs hkz hp hA ha hk hl;obtain⟨sd,hsd⟩:∃z,zU s p.name=z:=⟨_,rfl⟩
 have Mv:=lH hsd;have Mw:=lH (show jH sd by rw[←hsd];exact jbl HL.out p.name);have Vn:=lH (show sd.nodes=s.nodes by rw[←hsd];rfl);have Rz:=jkk HS.out p.name HL.out.podsN;rw[jfJ HA.out,hsd] at Rz;try unfold zv at Rz
 have Rz:=lH Rz;clear hsd;have y0:=Vd.out.at_ 0 _ rfl;have y1:=Vd.out.at_ 1 _ rfl;have y2:=Vd.out.at_ 2 _ rfl;have r0:=Vb.out.at_ 0 _ rfl;unfold jr;go_enter Tryz.func17,Tryz.ntmps17;go_wp2_with fail
 try rw[hZ]
 clear hZ;refine Rz.out.mono ?_;rintro e w1 ⟨yv,rfl,hy,kk⟩;obtain⟨t1,f1,l1,t2,f2,l2,t3,f3,l3,rfl⟩:=hy.spelt;have HY:=lH hy;have Vk:=lH ((kk.block w.heap.size Vd.out.lt).trans Vk.out);have Vd:=lH (Vd.out.kept kk);have Vb:=lH (Vb.out.kept kk);have K:=lH (Ve.out.trans kk);clear kk hy Rz y0 y1 y2 r0;have y0:=Vd.out.at_ 0 _ rfl;have y1:=Vd.out.at_ 1 _ rfl;have y2:=Vd.out.at_ 2 _ rfl;have q0:=Vd.out.free 0;have q1:=Vd.out.free 1;have q2:=Vd.out.free 2;have PP:=lH (jW (vs:=[.slice t1 f1 l1,.slice t2 f2 l2,.slice t3 f3 l3]) Vd.out rfl);obtain⟨WE,hWE⟩:∃W,w1.setCells w.heap.size 0 [.slice t1 f1 l1,.slice t2 f2 l2,.slice t3 f3 l3]=W:=⟨_,rfl⟩
 have hWE2:(((w1.setCell ⟨w.heap.size,0,none⟩ (.slice t1 f1 l1)).setCell ⟨w.heap.size,1,none⟩ (.slice t2 f2 l2)).setCell ⟨w.heap.size,2,none⟩ (.slice t3 f3 l3))=WE:=hWE;rw[hWE] at PP;have HY:=lH (show jA WE (.agg #[.slice t1 f1 l1,.slice t2 f2 l2,.slice t3 f3 l3]) sd from zj (w:=w1) (N:=w.heap.size) PP.out.size PP.out.far (zk Vk.out) HY.out);have K:=lH (show Kept w WE from PP.out.below _ _ (Nat.le_refl _) K.out);have Vb:=lH (Vb.out.block (PP.out.far _ (by omega)));have Mx:=lH hWE2;clear hWE hWE2;have Vd:=lH PP.out.cells;have HP:=lH (T8.out.kept K.out);clear PP;go_upto_region 2 with fail
 rw[Mx.out];clear Mx y0 y1 y2 q0 q1 q2;have y0:=Vd.out.at_ 0 _ rfl;have y1:=Vd.out.at_ 1 _ rfl;have y2:=Vd.out.at_ 2 _ rfl;go_wp2_with fail
 refine(X6 t1 f1 l1 sd.nodes name WE HY.out.nAt.1).mono ?_;rintro e wy ⟨v,rfl,hv,kk⟩;obtain⟨b1,k1,d1,b2,k2,d2,b3,k3,d3,rfl,hat⟩:=hv.spelt;have Vd:=lH (Vd.out.kept kk);have Vb:=lH (Vb.out.kept kk);have HY:=lH (HY.out.kept kk);have HP:=lH (HP.out.kept kk);have K:=lH (K.out.trans kk);clear kk hv y0 y1 y2
 cases hfo:jj sd.nodes name with
 | none =>
  have HV:=lH (show Yc s p name=3 by unfold Yc;rw[Mv.out];exact ja8 hfo);clear hfo hat;go_wp2;go_ret;exact⟨jc HV.out.symm,K.out.trans (ja _ _)⟩
 | some n =>
  rw[hfo] at hat;have hat:zp wy (.slice b1 k1 d1) (.slice b2 k2 d2) (.slice b3 k3 d3) n:=hat;have HE:=lH (show Yc s p name=zT sd p n name by unfold Yc;rw[Mv.out];exact jbg hfo);clear hfo;obtain⟨cd,hcd⟩:∃c,n.cordon=c:=⟨_,rfl⟩
  obtain⟨wz,hwz⟩:∃W,wy.alloc (.cells #[.string n.name,.slice b1 k1 d1,.slice b2 k2 d2,.slice b3 k3 d3,.bool cd] 99)=W:=⟨_,rfl⟩
  have kk:Kept wy wz:=by rw[←hwz];exact ja _ _
  have Vg:=lH (jd wy (.string n.name) [.slice b1 k1 d1,.slice b2 k2 d2,.slice b3 k3 d3,.bool cd] 99 wz (by rw[hwz];exact Kept.refl _));have Vu:=lH (hat.kept kk);have TJ:=lH hwz;obtain⟨bn,hbn⟩:∃z,wy.heap.size=z:=⟨_,rfl⟩
  rw[hbn] at Vg;have TK:=lH hbn;have Vd:=lH (Vd.out.kept kk);have Vb:=lH (Vb.out.kept kk);have HY:=lH (HY.out.kept kk);have HP:=lH (HP.out.kept kk);have K:=lH (K.out.trans kk);clear kk hat hwz hbn;try simp only[Option.getD_some]
  rw[hcd];have RF:=lH hcd;clear hcd;go_upto_region 3 with fail
  rw[TJ.out];try rw[TK.out]
  clear TJ TK;obtain⟨mt,hmt⟩:∃t,Jb p.sel n.labels=t:=⟨_,rfl⟩
  have HW:=lH (show JW p n=(!cd&&mt) by unfold JW;rw[hmt,RF.out]);have My:=lH (ji8 HP.out.sel Vu.out.labels hmt);clear hmt;have r0:=Vb.out.at_ 0 _ rfl;have r1:=Vb.out.at_ 1 _ rfl;have r2:=Vb.out.at_ 2 _ rfl;have r3:=Vb.out.at_ 3 _ rfl;have r4:=Vb.out.at_ 4 _ rfl;have r5:=Vb.out.at_ 5 _ rfl;have r6:=Vb.out.at_ 6 _ rfl;have r7:=Vb.out.at_ 7 _ rfl;have r8:=Vb.out.at_ 8 _ rfl;have r9:=Vb.out.at_ 9 _ rfl;have r10:=Vb.out.at_ 10 _ rfl;have z0:=Vg.out.at_ 0 _ rfl;have z1:=Vg.out.at_ 1 _ rfl;have z2:=Vg.out.at_ 2 _ rfl;have z3:=Vg.out.at_ 3 _ rfl;have z4:=Vg.out.at_ 4 _ rfl;have y0:=Vd.out.at_ 0 _ rfl;have y1:=Vd.out.at_ 1 _ rfl;have y2:=Vd.out.at_ 2 _ rfl
  cases cd with
  | true =>
   go_wp2;go_ret;exact⟨jc (HE.out.trans (ql HW.out)).symm,K.out⟩
  | false =>
   go_wp2_with fail
   refine My.out.mono ?_;rintro e w3 ⟨rfl,kk⟩;have Vd:=lH (Vd.out.kept kk);have Vb:=lH (Vb.out.kept kk);have HY:=lH (HY.out.kept kk);have HP:=lH (HP.out.kept kk);have Vg:=lH (Vg.out.kept kk);have Vu:=lH (Vu.out.kept kk);have K:=lH (K.out.trans kk);clear kk My r0 r1 r2 r3 r4 r5 r6 r7 r8 r9 r10 z0 z1 z2 z3 z4 y0 y1 y2
   cases mt with
   | false =>
    go_wp2;go_ret;exact⟨jc (HE.out.trans (ql HW.out)).symm,K.out⟩
   | true =>
    have r0:=Vb.out.at_ 0 _ rfl;have r1:=Vb.out.at_ 1 _ rfl;have r2:=Vb.out.at_ 2 _ rfl;have r3:=Vb.out.at_ 3 _ rfl;have r4:=Vb.out.at_ 4 _ rfl;have r5:=Vb.out.at_ 5 _ rfl;have r6:=Vb.out.at_ 6 _ rfl;have r7:=Vb.out.at_ 7 _ rfl;have r8:=Vb.out.at_ 8 _ rfl;have r9:=Vb.out.at_ 9 _ rfl;have r10:=Vb.out.at_ 10 _ rfl;have z0:=Vg.out.at_ 0 _ rfl;have z1:=Vg.out.at_ 1 _ rfl;have z2:=Vg.out.at_ 2 _ rfl;have z3:=Vg.out.at_ 3 _ rfl;have z4:=Vg.out.at_ 4 _ rfl;have y0:=Vd.out.at_ 0 _ rfl;have y1:=Vd.out.at_ 1 _ rfl;have y2:=Vd.out.at_ 2 _ rfl;obtain⟨t,ht⟩:∃t,(za p.tols n.taints).isSome=t:=⟨_,rfl⟩
    obtain⟨⟨x,y,mm⟩,hx⟩:∃x,wT (za p.tols n.taints)=x:=⟨_,rfl⟩
    have Ty:=lH (show ZH p n=(!t) by unfold ZH;rw[ht]);go_wp2_with fail
    refine(ji4 HP.out.tols Vu.out.taints hx ht).mono ?_;rintro e w4 ⟨rfl,kk⟩;have Vd:=lH (Vd.out.kept kk);have Vb:=lH (Vb.out.kept kk);have HY:=lH (HY.out.kept kk);have HP:=lH (HP.out.kept kk);have Vg:=lH (Vg.out.kept kk);have Vu:=lH (Vu.out.kept kk);have K:=lH (K.out.trans kk);clear kk ht hx r0 r1 r2 r3 r4 r5 r6 r7 r8 r9 r10 z0 z1 z2 z3 z4 y0 y1 y2;obtain⟨w5,hw5⟩:∃W,w4.alloc (.cells #[.string x,.string y,.bool mm] 115)=W:=⟨_,rfl⟩
    have kk:Kept w4 w5:=by rw[←hw5];exact ja _ _
    have Vd:=lH (Vd.out.kept kk);have Vb:=lH (Vb.out.kept kk);have HY:=lH (HY.out.kept kk);have HP:=lH (HP.out.kept kk);have Vg:=lH (Vg.out.kept kk);have Vu:=lH (Vu.out.kept kk);have K:=lH (K.out.trans kk);have Mz:=lH hw5;clear kk hw5;go_upto_region 8 with fail
    try rw[Mz.out]
    clear Mz
    cases t with
    | true =>
     go_wp2;go_ret;exact⟨jc (HE.out.trans (jaj HW.out Ty.out)).symm,K.out⟩
    | false =>
     have r0:=Vb.out.at_ 0 _ rfl;have r1:=Vb.out.at_ 1 _ rfl;have r2:=Vb.out.at_ 2 _ rfl;have r3:=Vb.out.at_ 3 _ rfl;have r4:=Vb.out.at_ 4 _ rfl;have r5:=Vb.out.at_ 5 _ rfl;have r6:=Vb.out.at_ 6 _ rfl;have r7:=Vb.out.at_ 7 _ rfl;have r8:=Vb.out.at_ 8 _ rfl;have r9:=Vb.out.at_ 9 _ rfl;have r10:=Vb.out.at_ 10 _ rfl;have z0:=Vg.out.at_ 0 _ rfl;have z1:=Vg.out.at_ 1 _ rfl;have z2:=Vg.out.at_ 2 _ rfl;have z3:=Vg.out.at_ 3 _ rfl;have z4:=Vg.out.at_ 4 _ rfl;have y0:=Vd.out.at_ 0 _ rfl;have y1:=Vd.out.at_ 1 _ rfl;have y2:=Vd.out.at_ 2 _ rfl;have US:=jjC t1 t2 t3 f1 l1 f2 l2 f3 l3 a1 a2 a3 a4 m1 c1 m2 c2 m3 c3 m4 c4 p sd name w5 HY.out.nAt.1 HY.out.pAt.1 (by have:=HY.out.nAt.2;have:=Mw.out.nodesN;omega) (by have:=HY.out.pAt.2;have:=Mw.out.podsN;omega) (by rw[Vn.out];exact Tn.out) (by rw[Vn.out];exact VT.out);obtain⟨z,hz⟩:∃z,(zN p sd name).1=z:=⟨_,rfl⟩
     obtain⟨b,hb⟩:∃z,(zN p sd name).2=z:=⟨_,rfl⟩
     rw[hz,hb] at US;unfold jr at US;have US:=lH US;have HZ:=lH hz;have HB:=lH hb;clear hz hb;go_wp2_with fail
     refine US.out.mono ?_;rintro e w6 ⟨rfl,kk⟩;clear US;have Vd:=lH (Vd.out.kept kk);have Vb:=lH (Vb.out.kept kk);have HY:=lH (HY.out.kept kk);have HP:=lH (HP.out.kept kk);have Vg:=lH (Vg.out.kept kk);have Vu:=lH (Vu.out.kept kk);have K:=lH (K.out.trans kk);clear kk r0 r1 r2 r3 r4 r5 r6 r7 r8 r9 r10 z0 z1 z2 z3 z4 y0 y1 y2;have r0:=Vb.out.at_ 0 _ rfl;have r1:=Vb.out.at_ 1 _ rfl;have r2:=Vb.out.at_ 2 _ rfl;have r3:=Vb.out.at_ 3 _ rfl;have r4:=Vb.out.at_ 4 _ rfl;have r5:=Vb.out.at_ 5 _ rfl;have r6:=Vb.out.at_ 6 _ rfl;have r7:=Vb.out.at_ 7 _ rfl;have r8:=Vb.out.at_ 8 _ rfl;have r9:=Vb.out.at_ 9 _ rfl;have r10:=Vb.out.at_ 10 _ rfl;have z0:=Vg.out.at_ 0 _ rfl;have z1:=Vg.out.at_ 1 _ rfl;have z2:=Vg.out.at_ 2 _ rfl;have z3:=Vg.out.at_ 3 _ rfl;have z4:=Vg.out.at_ 4 _ rfl;have y0:=Vd.out.at_ 0 _ rfl;have y1:=Vd.out.at_ 1 _ rfl;have y2:=Vd.out.at_ 2 _ rfl;obtain⟨t7,h7⟩:∃t,(p.key.toList==([]:List UInt8))=t:=⟨_,rfl⟩
     have h7b:(p.key.toList != ([]:List UInt8))=!t7:=by rw[←h7];rfl
     have H7:=lH (show zZ p.key=t7 by rw[JA,h7]);have Tt:=jby HY.out name;try unfold zv at Tt
     have Tt:=lH Tt;clear Tt
     cases t7 with
     | true =>
      have Rb:=lH (show JP sd p name=false by unfold JP;rw[if_pos H7.out]);go_wp2_with fail
      refine(jby HY.out name).mono ?_;rintro e w7 ⟨fv,rfl,hfv,kk⟩;have Nb:=lH hfv;have Vd:=lH (Vd.out.kept kk);have Vb:=lH (Vb.out.kept kk);have HY:=lH (HY.out.kept kk);have HP:=lH (HP.out.kept kk);have Vg:=lH (Vg.out.kept kk);have Vu:=lH (Vu.out.kept kk);have K:=lH (K.out.trans kk);clear kk hfv r0 r1 r2 r3 r4 r5 r6 r7 r8 r9 r10 z0 z1 z2 z3 z4 y0 y1 y2;have r0:=Vb.out.at_ 0 _ rfl;have r1:=Vb.out.at_ 1 _ rfl;have r2:=Vb.out.at_ 2 _ rfl;have r3:=Vb.out.at_ 3 _ rfl;have r4:=Vb.out.at_ 4 _ rfl;have r5:=Vb.out.at_ 5 _ rfl;have r6:=Vb.out.at_ 6 _ rfl;have r7:=Vb.out.at_ 7 _ rfl;have r8:=Vb.out.at_ 8 _ rfl;have r9:=Vb.out.at_ 9 _ rfl;have r10:=Vb.out.at_ 10 _ rfl;have z0:=Vg.out.at_ 0 _ rfl;have z1:=Vg.out.at_ 1 _ rfl;have z2:=Vg.out.at_ 2 _ rfl;have z3:=Vg.out.at_ 3 _ rfl;have z4:=Vg.out.at_ 4 _ rfl;have y0:=Vd.out.at_ 0 _ rfl;have y1:=Vd.out.at_ 1 _ rfl;have y2:=Vd.out.at_ 2 _ rfl;obtain⟨c8,hc8⟩:∃c,(J4 sd name).1=c:=⟨_,rfl⟩
      obtain⟨fl,hfl⟩:∃c,(J4 sd name).2=c:=⟨_,rfl⟩
      rw[hfl] at Nb;rw[hc8];obtain⟨qb,hqb⟩:∃q,Vec.jG fl p.need=q:=⟨_,rfl⟩
      have UN:=lH (show ZR sd p name=(decide (c8=0)&&qb) by unfold ZR;rw[hc8,hfl,hqb]);have Va:=lH hqb;clear hc8 hfl hqb;by_cases h8:c8=0
      · subst h8;go_wp2_with fail
        refine(jeo HP.out.need Nb.out Va.out).mono ?_;rintro e w8 ⟨rfl,kk⟩;have K:=lH (K.out.trans kk);clear kk
        cases qb with
        | false =>
         go_wp2;go_ret;exact⟨jc (HE.out.trans (ZN HW.out Ty.out Rb.out UN.out)).symm,K.out⟩
        | true =>
         go_wp2;go_ret;exact⟨jc (HE.out.trans (qF HW.out Ty.out Rb.out UN.out)).symm,K.out⟩
      · have h8b:(c8 != 0)=true:=by simpa using h8
        have UN:=lH (show ZR sd p name=false by rw[UN.out,decide_eq_false h8];rfl);clear h8;go_wp2;go_ret;exact⟨jc (HE.out.trans (ZN HW.out Ty.out Rb.out UN.out)).symm,K.out⟩
     | false =>
      have Rr:=lH (show JP sd p name=(!b||decide (p.most<z)) by unfold JP;rw[if_neg (by rw[H7.out];decide),HZ.out,HB.out])
      cases b with
      | false =>
       go_wp2;go_ret;exact⟨jc (HE.out.trans (XL HW.out Ty.out (by rw[Rr.out];rfl))).symm,K.out⟩
      | true =>
       by_cases hlt:p.most<z
       · have TU:=lH hlt;go_wp2;go_ret;exact⟨jc (HE.out.trans (XL HW.out Ty.out (by rw[Rr.out,decide_eq_true TU.out];rfl))).symm,K.out⟩
       · have TU:=lH hlt;have hle:z≤p.most:=by omega
         clear hlt;have Rb:=lH (show JP sd p name=false by rw[Rr.out,decide_eq_false TU.out];rfl);go_wp2_with fail
         refine(jby HY.out name).mono ?_;rintro e w7 ⟨fv,rfl,hfv,kk⟩;have Nb:=lH hfv;have Vd:=lH (Vd.out.kept kk);have Vb:=lH (Vb.out.kept kk);have HY:=lH (HY.out.kept kk);have HP:=lH (HP.out.kept kk);have Vg:=lH (Vg.out.kept kk);have Vu:=lH (Vu.out.kept kk);have K:=lH (K.out.trans kk);clear kk hfv r0 r1 r2 r3 r4 r5 r6 r7 r8 r9 r10 z0 z1 z2 z3 z4 y0 y1 y2;have r0:=Vb.out.at_ 0 _ rfl;have r1:=Vb.out.at_ 1 _ rfl;have r2:=Vb.out.at_ 2 _ rfl;have r3:=Vb.out.at_ 3 _ rfl;have r4:=Vb.out.at_ 4 _ rfl;have r5:=Vb.out.at_ 5 _ rfl;have r6:=Vb.out.at_ 6 _ rfl;have r7:=Vb.out.at_ 7 _ rfl;have r8:=Vb.out.at_ 8 _ rfl;have r9:=Vb.out.at_ 9 _ rfl;have r10:=Vb.out.at_ 10 _ rfl;have z0:=Vg.out.at_ 0 _ rfl;have z1:=Vg.out.at_ 1 _ rfl;have z2:=Vg.out.at_ 2 _ rfl;have z3:=Vg.out.at_ 3 _ rfl;have z4:=Vg.out.at_ 4 _ rfl;have y0:=Vd.out.at_ 0 _ rfl;have y1:=Vd.out.at_ 1 _ rfl;have y2:=Vd.out.at_ 2 _ rfl;obtain⟨c8,hc8⟩:∃c,(J4 sd name).1=c:=⟨_,rfl⟩
         obtain⟨fl,hfl⟩:∃c,(J4 sd name).2=c:=⟨_,rfl⟩
         rw[hfl] at Nb;rw[hc8];obtain⟨qb,hqb⟩:∃q,Vec.jG fl p.need=q:=⟨_,rfl⟩
         have UN:=lH (show ZR sd p name=(decide (c8=0)&&qb) by unfold ZR;rw[hc8,hfl,hqb]);have Va:=lH hqb;clear hc8 hfl hqb;by_cases h8:c8=0
         · subst h8;go_wp2_with fail
           refine(jeo HP.out.need Nb.out Va.out).mono ?_;rintro e w8 ⟨rfl,kk⟩;have K:=lH (K.out.trans kk);clear kk
           cases qb with
           | false =>
            go_wp2;go_ret;exact⟨jc (HE.out.trans (ZN HW.out Ty.out Rb.out UN.out)).symm,K.out⟩
           | true =>
            go_wp2;go_ret;exact⟨jc (HE.out.trans (qF HW.out Ty.out Rb.out UN.out)).symm,K.out⟩
         · have h8b:(c8 != 0)=true:=by simpa using h8
           have UN:=lH (show ZR sd p name=false by rw[UN.out,decide_eq_false h8];rfl);clear h8;go_wp2;go_ret;exact⟨jc (HE.out.trans (ZN HW.out Ty.out Rb.out UN.out)).symm,K.out⟩
theorem jfW (s1 s2 s3:Option Addr) (n1 e1 n2 e2 n3 e3:Nat) (a1 a2 a3 a4:Option Addr) (m1 c1 m2 c2 m3 c3 m4 c4:Nat) (p:Pd) (s:Clu) (w:World) (hs:jA w (zv (.slice s1 n1 e1) (.slice s2 n2 e2) (.slice s3 n3 e3)) s) (hl:jH s) (hA:Asc s.pods) (ha:YD s.nodes) (hk:∀n ∈ s.nodes,jZ n=0) (hp:js w (.slice a1 m1 c1) (.slice a2 m2 c2) (.slice a3 m3 c3) (.slice a4 m4 c4) p):Calls Tryz.prog 55 #[.agg #[.slice s1 n1 e1,.slice s2 n2 e2,.slice s3 n3 e3],jr p (.slice a1 m1 c1) (.slice a2 m2 c2) (.slice a3 m3 c3) (.slice a4 m4 c4)] w fun e w'=>∃v,e=.returned v∧Own ji 9 w' w.heap.size v (Jd s p s.nodes)∧Kept w w':=by
 obtain⟨i0,hi,hz0,hz1,hz2'⟩:=info_parts jfb;obtain⟨Z,hZ⟩:∃Z,(w.alloc (.cells #[.slice s1 n1 e1,.slice s2 n2 e2,.slice s3 n3 e3] 51)).alloc (.cells #[.string p.name,.string p.owner,.int .i64 p.prio,.slice a1 m1 c1,.slice a2 m2 c2,.slice a3 m3 c3,.slice a4 m4 c4,.string p.key,.int .i64 p.most,.string p.node,.bool p.hold] 45)=Z:=⟨_,rfl⟩
 have hkz:Kept w Z:=by rw[←hZ];exact jm _ _ _
 have Vd:=lH (jd w (.slice s1 n1 e1) [.slice s2 n2 e2,.slice s3 n3 e3] 51 Z (by rw[←hZ];exact ja _ _));have Vb:=lH (show jf (w.heap.size+1) [.string p.name,.string p.owner,.int .i64 p.prio,.slice a1 m1 c1,.slice a2 m2 c2,.slice a3 m3 c3,.slice a4 m4 c4,.string p.key,.int .i64 p.most,.string p.node,.bool p.hold] Z by
  have dd:=jd (w.alloc (.cells #[.slice s1 n1 e1,.slice s2 n2 e2,.slice s3 n3 e3] 51)) (.string p.name) [.string p.owner,.int .i64 p.prio,.slice a1 m1 c1,.slice a2 m2 c2,.slice a3 m3 c3,.slice a4 m4 c4,.string p.key,.int .i64 p.most,.string p.node,.bool p.hold] 45 Z (by rw[hZ];exact Kept.refl _);rw[World.size_alloc] at dd;exact dd)
 have Ve:=lH hkz;have HS:=lH (hs.kept hkz);have HP:=lH (hp.kept hkz);have HL:=lH hl;have HA:=lH hA;have Tn:=lH ha;have VT:=lH hk;have VY:=lH hs.nAt.2;have hb1:n1≤100000:=by have:=hl.nodesN;have:=hs.nAt.2;omega
 clear hs hkz hp hA ha hk hl;have HN:=lH HS.out.nAt.1;unfold jr;go_enter Tryz.func55,Tryz.ntmps55;go_upto_region 2 with fail
 try rw[hZ]
 clear hZ;go_wp2;go_loopw [5,6] (fun v i wr=>∃k:Nat,k≤n1∧i=.int .i64 k∧∃la:List ByteArray,Jd s p (s.nodes.take k)=la∧Own ji 9 wr Z.heap.size v la∧Kept Z wr) (fun _ i _=>n1-(intOf i).toNat)
 case atStart=>exact⟨0,Nat.zero_le _,rfl,[],rfl,Own.nil _ _ _,Kept.refl _⟩
 case round =>
  obtain⟨k,hk,rfl,la,hla,ho,hK⟩:=hrel;have HX:=lH hla;have HO:=lH ho;have HK:=lH hK;obtain⟨m,hm⟩:∃m,la.length=m:=⟨_,rfl⟩
  have hmk:m≤k:=by
   have:=Y8 s p (s.nodes.take k);rw[hla,hm,List.length_take] at this;omega
  have HT:=lH hm;have hbase:Z.heap.size≤wr.heap.size:=hK.size;have y0:=(Vd.out.kept hK).at_ 0 _ rfl;by_cases hlt:k<n1
  · obtain⟨g,off,rfl⟩:=HN.out.form.resolve_left (by omega);obtain⟨n,b1,q1,f1,b2,q2,f2,b3,q3,f3,hn,hd,hb,u0,u1,u2,u3,u4,hat⟩:=(HN.out.kept hK).at_ hlt;have TZ:=lH hat.size;have Ut:=lH (jbZ (s:=s) (p:=p) hn);have hkk:(k:Int)<(n1:Int):=by omega
    have hk0:¬(k:Int)<0:=by omega
    obtain⟨xn,hxn⟩:∃x,n.name=x:=⟨_,rfl⟩
    rw[hxn] at u0 TZ Ut;have HU:=lH u0;clear hd hb hn hat hla ho hm hxn u0 u1 u2 u3 u4;obtain⟨c,hc⟩:∃c,Yc s p xn=c:=⟨_,rfl⟩
    have HF:=lH (show ∀W,Kept wr W→W.cell? ⟨w.heap.size,0,none⟩=some (.slice (some ⟨g,off,none⟩) n1 e1)∧W.cell? ⟨w.heap.size,1,none⟩=some (.slice s2 n2 e2)∧W.cell? ⟨w.heap.size,2,none⟩=some (.slice s3 n3 e3)∧W.cell? ⟨w.heap.size+1,0,none⟩=some (.string p.name)∧W.cell? ⟨w.heap.size+1,1,none⟩=some (.string p.owner)∧W.cell? ⟨w.heap.size+1,2,none⟩=some (.int .i64 p.prio)∧W.cell? ⟨w.heap.size+1,3,none⟩=some (.slice a1 m1 c1)∧W.cell? ⟨w.heap.size+1,4,none⟩=some (.slice a2 m2 c2)∧W.cell? ⟨w.heap.size+1,5,none⟩=some (.slice a3 m3 c3)∧W.cell? ⟨w.heap.size+1,6,none⟩=some (.slice a4 m4 c4)∧W.cell? ⟨w.heap.size+1,7,none⟩=some (.string p.key)∧W.cell? ⟨w.heap.size+1,8,none⟩=some (.int .i64 p.most)∧W.cell? ⟨w.heap.size+1,9,none⟩=some (.string p.node)∧W.cell? ⟨w.heap.size+1,10,none⟩=some (.bool p.hold)∧W.cell? ⟨g,off+k*5,none⟩=some (.string xn) from fun W k=>by
     have h1:=Vd.out.kept (HK.out.trans k);have h2:=Vb.out.kept (HK.out.trans k);exact⟨h1.at_ 0 _ rfl,h1.at_ 1 _ rfl,h1.at_ 2 _ rfl,h2.at_ 0 _ rfl,h2.at_ 1 _ rfl,h2.at_ 2 _ rfl,h2.at_ 3 _ rfl,h2.at_ 4 _ rfl,h2.at_ 5 _ rfl,h2.at_ 6 _ rfl,h2.at_ 7 _ rfl,h2.at_ 8 _ rfl,h2.at_ 9 _ rfl,h2.at_ 10 _ rfl,cell_later k HU.out⟩)
    have RG:=lH (show ∀W,Kept wr W→Calls Tryz.prog 17 #[.agg #[.slice (some ⟨g,off,none⟩) n1 e1,.slice s2 n2 e2,.slice s3 n3 e3],.agg #[.string p.name,.string p.owner,.int .i64 p.prio,.slice a1 m1 c1,.slice a2 m2 c2,.slice a3 m3 c3,.slice a4 m4 c4,.string p.key,.int .i64 p.most,.string p.node,.bool p.hold],.string xn] W (Say (.int .i64 c) W) from fun W k=>by
     have h:=jef (some ⟨g,off,none⟩) s2 s3 n1 e1 n2 e2 n3 e3 a1 a2 a3 a4 m1 c1 m2 c2 m3 c3 m4 c4 p s xn W (HS.out.kept (HK.out.trans k)) HL.out HA.out Tn.out VT.out (HP.out.kept (HK.out.trans k));rw[hc] at h;exact h)
    rw[hc] at Ut;go_upto_region 5 with fail
    clear hc hK y0;have J:=lH (Kept.drew wr);refine wp_region_held_drew (S:=fun W=>W.cell? ⟨w.heap.size,0,none⟩=some (.slice (some ⟨g,off,none⟩) n1 e1)∧W.cell? ⟨w.heap.size,1,none⟩=some (.slice s2 n2 e2)∧W.cell? ⟨w.heap.size,2,none⟩=some (.slice s3 n3 e3)∧W.cell? ⟨w.heap.size+1,0,none⟩=some (.string p.name)∧W.cell? ⟨w.heap.size+1,1,none⟩=some (.string p.owner)∧W.cell? ⟨w.heap.size+1,2,none⟩=some (.int .i64 p.prio)∧W.cell? ⟨w.heap.size+1,3,none⟩=some (.slice a1 m1 c1)∧W.cell? ⟨w.heap.size+1,4,none⟩=some (.slice a2 m2 c2)∧W.cell? ⟨w.heap.size+1,5,none⟩=some (.slice a3 m3 c3)∧W.cell? ⟨w.heap.size+1,6,none⟩=some (.slice a4 m4 c4)∧W.cell? ⟨w.heap.size+1,7,none⟩=some (.string p.key)∧W.cell? ⟨w.heap.size+1,8,none⟩=some (.int .i64 p.most)∧W.cell? ⟨w.heap.size+1,9,none⟩=some (.string p.node)∧W.cell? ⟨w.heap.size+1,10,none⟩=some (.bool p.hold)∧W.cell? ⟨g,off+k*5,none⟩=some (.string xn)) (by kernel_rfl) (HF.out _ J.out) (fun hHeld=>?_);obtain⟨wd,hwd⟩:∃W,wr.drew=W:=⟨_,rfl⟩
    rw[hwd] at J hHeld;try rw[hwd]
    clear hwd;refine tkI 0 ?_;refine tkI 1 ?_;refine tkI 2 ?_;refine tkI 3 ?_;refine tkI 4 ?_;refine tkI 5 ?_;refine tkI 6 ?_;refine tkI 7 ?_;try simp only[nP]
    refine rd1 8 fun K9 Ky=>?_;go_simp;refine(RG.out _ J.out).mono ?_;rintro e wc ⟨rfl,kk⟩;have J:=lH (J.out.trans kk);clear kk RG;refine Ky.out _ _ (HF.out _ J.out) (fun _=>?_);clear Ky K9;try simp only[nP]
    refine tkI 9 ?_;try simp only[nP]
    refine wpAnyH_done (by kernel_rfl) ?_ _;have y0:=(Vd.out.kept (HK.out.trans J.out)).at_ 0 _ rfl;have u0:=cell_later J.out HU.out;by_cases h0:c=0
    · subst h0;have HV:=lH (show Jd s p (s.nodes.take (k+1))=la++[xn] by rw[Ut.out,HX.out,if_pos rfl]);have Vy:=lH (show wc.ownsRow Z.heap.size 9 1 u5 m (jb ji la) by have:=(HO.out.kept J.out).1;rw[HT.out] at this;exact this);have hs1:wr.heap.size≤wc.heap.size:=J.out.size;go_wp2_with (at_builtin;refine wpList_append_lies _ rfl _ _ _ rfl Z.heap.size 9 i0 _ 1 16 Tryz.underlying58 hi hz0 hz1 hz2' rfl (by decide) u5 m (jb ji la) rfl (Vy.out.alloc _) ⟨wc.heap.size,0,none⟩ 1 1 (ji.cs xn) rfl rfl (World.news_of_block (cs:=#[.string xn]) (t:=9) (fr:=(0,0)) (heap_alloc_new wc _)) (Jm xn) (by decide) (by unfold maxLen;omega) (by omega) (by simp;omega) (wc.heap.size+1) (by simp) ?_;intro gg cap1 w4 hown1 hgrow hat hlt1)
      have VU:=lH ((show Below Z.heap.size Z _ from HK.out.trans (J.out.trans (ja wc _))).grown hgrow (by simp;omega) (fun j hj=>(Vy.out.lt j hj).1));go_wp2;go_roundw
      case rel=>exact⟨k+1,by omega,by go_num,la++[xn],HV.out,Own.snoc hown1 (by rw[HT.out]) HO.out.2 TZ.out,VU.out⟩
      case measure=>simp[intOf];omega
    · have h0b:(c==0)=false:=by simpa using h0
      have HV:=lH (show Jd s p (s.nodes.take (k+1))=la by rw[Ut.out,HX.out,if_neg h0,List.append_nil]);clear h0;go_wp2;go_roundw
      case rel=>exact⟨k+1,by omega,by go_num,la,HV.out,HO.out.kept J.out,HK.out.trans J.out⟩
      case measure=>simp[intOf];omega
  · have hge:¬(k:Int)<(n1:Int):=by omega
    have HE:=lH (show Jd s p s.nodes=la by rw[←hla,List.take_of_length_le (by rw[←VY.out];omega)]);clear hla ho hm hK;go_wp2;go_ret;exact⟨_,rfl,by rw[HE.out];exact HO.out.base_le Ve.out.size,Ve.out.trans HK.out⟩
end Go.Proofs.YtmlgobiifebjkabGreat
