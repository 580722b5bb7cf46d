/- C. -/
import Derived.Test.YtmlgobiifebjkabGreatG2
import Derived.Test.YtmlgobiifebjkabGreatG4
import Derived.Test.YtmlgobiifebjkabGreatG8
import Derived.Test.YtmlgobiifebjkabGreatG11
import Derived.Test.YtmlgobiifebjkabGreatG12
import Derived.Test.YtmlgobiifebjkabGreatG14
set_option linter.unusedVariables false
set_option maxRecDepth 100000
set_option maxHeartbeats 25600000
namespace Go.Proofs.YtmlgobiifebjkabGreat
open Go.RowKit
def jcW (s:Clu) (p:Pd) (pack:Bool) (l:List ByteArray):Prop:=l.Pairwise fun a b=>jT s p pack b a=false
theorem jiA {s:Clu} {p:Pd} {pack:Bool} {la:List ByteArray} {q:Nat} {x y:ByteArray} (h:jcW s p pack la) (hy:la[q]?=some y) (hxy:jT s p pack x y=false):∀z ∈ la.take (q+1),jT s p pack x z=false:=by
 intro z hz;rw[List.take_add_one,hy] at hz;rcases List.mem_append.1 hz with hz | hz
 · obtain⟨j,hj,ej⟩:=List.mem_take_iff_getElem.1 hz;obtain⟨hq,ey⟩:=List.getElem?_eq_some_iff.1 hy;have hjq:j<q:=by omega
   have:=List.pairwise_iff_getElem.1 h j q (by omega) hq hjq;rw[ej,ey] at this;exact jaf hxy this
 · obtain rfl:z=y:=by simpa using hz
   exact hxy
theorem jlu {s:Clu} {p:Pd} {pack:Bool} {la:List ByteArray} {q:Nat} {x:ByteArray} (h:jcW s p pack la) (h1:∀z ∈ la.take q,jT s p pack x z=false) (h2:∀z ∈ la.drop q,jT s p pack x z=true):jcW s p pack (la.take q++x::la.drop q):=by
 have h0:=h;unfold jcW at h ⊢;rw[←List.take_append_drop q la,List.pairwise_append] at h;obtain⟨ht,hd,htd⟩:=h;rw[List.pairwise_append];refine⟨ht,List.pairwise_cons.2 ⟨fun z hz=>?_,hd⟩,fun a ha b hb=>?_⟩
 · cases e:jT s p pack z x with
   | false=>rfl
   | true =>
    have:=Xv (h2 z hz) e;have h9:=jae pack (Zo s p x) (JL s p x) x;rw[show zP pack (Zo s p x) (Zo s p x) (JL s p x) (JL s p x) x x=true from this] at h9
    cases h9
 · rcases List.mem_cons.1 hb with rfl | hb
   · exact h1 a ha
   · exact htd a ha b hb
theorem jh.lowG {α:Type} {L:Lay α} {w:World} {a:Option Addr} {len k:Nat} {l:List α} (h:jh L w a len l) (hk:k≤len):jh L w a k (l.take k):=by
 obtain⟨h0,h1,h2,h3⟩:=h;refine⟨by rw[List.length_take];omega,by omega,fun x hx=>h2 x (List.mem_of_mem_take hx),?_⟩;rcases h3 with h3 | ⟨b,off,e,hb,hc⟩
 · exact .inl (by omega)
 · refine .inr ⟨b,off,e,hb,fun i x j u hi hj=>?_⟩;rw[List.getElem?_take] at hi;split at hi
   · exact hc i x j u hi hj
   · cases hi
def qo (s:Clu) (p:Pd) (pack:Bool) (L:List ByteArray) (B k:Nat) (v:Value) (Z wr:World):Prop:=∃la:List ByteArray,la.Perm (L.take k)∧jcW s p pack la∧Own ji 9 wr B v la∧Kept Z wr
theorem qo.more {s:Clu} {p:Pd} {pack:Bool} {L:List ByteArray} {d:ByteArray} {B k q m g c B1:Nat} {W Z:World} {la:List ByteArray} (hn:L[k]?=some d) (hd:d.size≤maxLen) (hp:la.Perm (L.take k)) (ho:jcW s p pack la) (hf:∀x ∈ la,ji.fine x) (h1:∀z ∈ la.take q,jT s p pack d z=false) (h2:∀z ∈ la.drop q,jT s p pack d z=true) (hm:la.length+1=m) (hq:q≤la.length)
 (hB:B≤B1) (hw:Kept Z W) (hr:W.ownsRow B1 9 1 (.slice (some ⟨g,0,none⟩) m c) m (jb ji (la.take q)++[.string d]++jb ji (la.drop q))):qo s p pack L B (k+1) (.slice (some ⟨g,0,none⟩) m c) Z W:=by
 have hlen:(la.take q++d::la.drop q).length=m:=by rw[List.length_append,List.length_cons,List.length_take,List.length_drop];omega
 refine⟨la.take q++d::la.drop q,?_,jlu ho h1 h2,(show Own ji 9 W B1 _ _ from⟨?_,fun x hx=>?_⟩).base_le hB,hw⟩
 · rw[List.take_add_one,hn];have e:(la.take q++d::la.drop q).Perm (d::la):=by
    have:=List.perm_middle (a:=d) (l₁:=la.take q) (l₂:=la.drop q);rwa [List.take_append_drop] at this
   exact e.trans ((hp.cons d).trans (List.perm_append_singleton d (L.take k)).symm)
 · rw[jdb] at hr;rw[hlen];exact hr
 · rcases List.mem_append.1 hx with hx | hx
   · exact hf x (List.mem_of_mem_take hx)
   · rcases List.mem_cons.1 hx with rfl | hx
     · exact hd
     · exact hf x (List.mem_of_mem_drop hx)
theorem jcm (s1 s2 s3:Option Addr) (n1 e1 n2 e2 n3 e3:Nat) (a1 a2 a3 a4:Option Addr) (m1 c1 m2 c2 m3 c3 m4 c4:Nat) (pack:Bool) (p:Pd) (s:Clu) (w:World) (hs:jA w (zv (.slice s1 n1 e1) (.slice s2 n2 e2) (.slice s3 n3 e3)) s) (hl:jH s) (hA:Asc s.pods) (ha:YD s.nodes) (hk:∀n ∈ s.nodes,jZ n=0) (hp:js w (.slice a1 m1 c1) (.slice a2 m2 c2) (.slice a3 m3 c3) (.slice a4 m4 c4) p):Calls Tryz.prog 16 #[.agg #[.slice s1 n1 e1,.slice s2 n2 e2,.slice s3 n3 e3],jr p (.slice a1 m1 c1) (.slice a2 m2 c2) (.slice a3 m3 c3) (.slice a4 m4 c4),.bool pack] w (jcH s p pack w):=by
 obtain⟨Z,hZ⟩:∃Z,(w.alloc (.cells #[.slice s1 n1 e1,.slice s2 n2 e2,.slice s3 n3 e3] 51)).alloc (.cells #[.string p.name,.string p.owner,.int .i64 p.prio,.slice a1 m1 c1,.slice a2 m2 c2,.slice a3 m3 c3,.slice a4 m4 c4,.string p.key,.int .i64 p.most,.string p.node,.bool p.hold] 45)=Z:=⟨_,rfl⟩
 have hkz:Kept w Z:=by rw[←hZ];exact jm _ _ _
 have Vd:=lH (jd w (.slice s1 n1 e1) [.slice s2 n2 e2,.slice s3 n3 e3] 51 Z (by rw[←hZ];exact ja _ _));have Vb:=lH (show jf (w.heap.size+1) [.string p.name,.string p.owner,.int .i64 p.prio,.slice a1 m1 c1,.slice a2 m2 c2,.slice a3 m3 c3,.slice a4 m4 c4,.string p.key,.int .i64 p.most,.string p.node,.bool p.hold] Z by
  have dd:=jd (w.alloc (.cells #[.slice s1 n1 e1,.slice s2 n2 e2,.slice s3 n3 e3] 51)) (.string p.name) [.string p.owner,.int .i64 p.prio,.slice a1 m1 c1,.slice a2 m2 c2,.slice a3 m3 c3,.slice a4 m4 c4,.string p.key,.int .i64 p.most,.string p.node,.bool p.hold] 45 Z (by rw[hZ];exact Kept.refl _);rw[World.size_alloc] at dd;exact dd)
 have K:=lH hkz;have HS:=lH (hs.kept hkz);have HP:=lH (hp.kept hkz);have HL:=lH hl;have HA:=lH hA;have Rc:=lH ha;have VT:=lH hk;clear hs hp hkz hl hA ha hk;have HF:=lH (show ∀W,Kept Z W→W.cell? ⟨w.heap.size,0,none⟩=some (.slice s1 n1 e1)∧W.cell? ⟨w.heap.size,1,none⟩=some (.slice s2 n2 e2)∧W.cell? ⟨w.heap.size,2,none⟩=some (.slice s3 n3 e3)∧W.cell? ⟨w.heap.size+1,0,none⟩=some (.string p.name)∧W.cell? ⟨w.heap.size+1,1,none⟩=some (.string p.owner)∧W.cell? ⟨w.heap.size+1,2,none⟩=some (.int .i64 p.prio)∧W.cell? ⟨w.heap.size+1,3,none⟩=some (.slice a1 m1 c1)∧W.cell? ⟨w.heap.size+1,4,none⟩=some (.slice a2 m2 c2)∧W.cell? ⟨w.heap.size+1,5,none⟩=some (.slice a3 m3 c3)∧W.cell? ⟨w.heap.size+1,6,none⟩=some (.slice a4 m4 c4)∧W.cell? ⟨w.heap.size+1,7,none⟩=some (.string p.key)∧W.cell? ⟨w.heap.size+1,8,none⟩=some (.int .i64 p.most)∧W.cell? ⟨w.heap.size+1,9,none⟩=some (.string p.node)∧W.cell? ⟨w.heap.size+1,10,none⟩=some (.bool p.hold) from fun W kk=>by
  have h:=Vd.out.kept kk;have q:=Vb.out.kept kk;exact⟨h.at_ 0 _ rfl,h.at_ 1 _ rfl,h.at_ 2 _ rfl,q.at_ 0 _ rfl,q.at_ 1 _ rfl,q.at_ 2 _ rfl,q.at_ 3 _ rfl,q.at_ 4 _ rfl,q.at_ 5 _ rfl,q.at_ 6 _ rfl,q.at_ 7 _ rfl,q.at_ 8 _ rfl,q.at_ 9 _ rfl,q.at_ 10 _ rfl⟩)
 have hft:=jfW s1 s2 s3 n1 e1 n2 e2 n3 e3 a1 a2 a3 a4 m1 c1 m2 c2 m3 c3 m4 c4 p s Z HS.out HL.out HA.out Rc.out VT.out HP.out;unfold jr at hft;have TG:=lH hft;clear hft;have hfl:=Y8 s p s.nodes;have VY:=HL.out.nodesN;have y0:=Vd.out.at_ 0 _ rfl;have y1:=Vd.out.at_ 1 _ rfl;have y2:=Vd.out.at_ 2 _ rfl;have r0:=Vb.out.at_ 0 _ rfl;have r1:=Vb.out.at_ 1 _ rfl;have r2:=Vb.out.at_ 2 _ rfl;have r3:=Vb.out.at_ 3 _ rfl;have r4:=Vb.out.at_ 4 _ rfl;have r5:=Vb.out.at_ 5 _ rfl;have r6:=Vb.out.at_ 6 _ rfl;have r7:=Vb.out.at_ 7 _ rfl;have r8:=Vb.out.at_ 8 _ rfl;have r9:=Vb.out.at_ 9 _ rfl;have r10:=Vb.out.at_ 10 _ rfl;unfold jr;go_enter Tryz.func16,Tryz.ntmps16;go_wp2_with fail
 try rw[hZ]
 clear hZ;refine TG.out.mono ?_;rintro e w1 ⟨v9,rfl,hr,kk⟩;obtain⟨names,hnm⟩:∃q,Jd s p s.nodes=q:=⟨_,rfl⟩
 rw[hnm] at hr hfl;have T3:=lH hnm;clear hnm;obtain⟨wa,wc,rfl,-,-,hrow⟩:=hr.reads;obtain⟨n9,hn9⟩:∃q,names.length=q:=⟨_,rfl⟩
 rw[hn9] at hrow hfl ⊢;have UB:=lH hn9;have Tb:=lH hrow;have hn5:n9≤100000:=by omega
 have J1:=lH kk;clear kk hr hrow hn9 hfl VY TG y0 y1 y2 r0 r1 r2 r3 r4 r5 r6 r7 r8 r9 r10;go_wp2;go_loopw [8,9] (fun v i wr=>∃k:Nat,k≤n9∧i=.int .i64 k∧Hid (qo s p pack names w1.heap.size k v w1 wr)) (fun _ i _=>n9-(intOf i).toNat)
 case atStart=>exact⟨0,Nat.zero_le _,rfl,[],List.Perm.refl _,List.Pairwise.nil,Own.nil _ _ _,Kept.refl _⟩
 case round =>
  obtain⟨k,hk,rfl,HI⟩:=hrel;obtain⟨la,hpm,hod,ho,hK⟩:=HI.out;have Tc:=lH hpm;have Tz:=lH hod;have HO:=lH ho;have HK:=lH hK;clear hpm hod ho hK;by_cases hlt:k<n9
  · obtain⟨bn,on,rfl⟩:=Tb.out.form.resolve_left (by omega);obtain⟨xn,hxn,-,-,hxs,cw⟩:=Tb.out.str hlt;have Re:=lH hxn;have UG:=lH hxs;have V8:=lH (fun (W:World) (kk:Kept w1 W)=>cell_later kk cw);have hkk:(k:Int)<(n9:Int):=by omega
    have hk0:¬(k:Int)<0:=by omega
    obtain⟨oa,oc,rfl,hcap,hcm,hrow⟩:=HO.out.at_;obtain⟨m,hm⟩:∃m,la.length=m:=⟨_,rfl⟩
    rw[hm] at hcap hrow;try rw[hm]
    have Vx:=lH hm;have Ul:=lH hrow;have ho2:=HO.out;rw[hm] at ho2;have HO:=lH ho2;have hmk:m≤k:=by have:=Tc.out.length_eq;rw[Vx.out,List.length_take] at this;omega
    have hmx:maxLen=9223372036854775807:=rfl;clear ho2 hm hrow hxn hxs cw;obtain⟨wo,hwo⟩:∃W,W=wr:=⟨_,rfl⟩
    subst hwo;go_wp2;go_loopw [10] (fun iv wr2=>∃q:Nat,q≤m∧iv=.int .i64 q∧Hid ((∀z ∈ la.drop q,jT s p pack xn z=true)∧Kept wo wr2)) (fun iv _=>(intOf iv).toNat)
    case atStart=>exact⟨m,Nat.le_refl _,rfl,(fun z hz=>by rw[List.drop_of_length_le (by rw[Vx.out];exact Nat.le_refl _)] at hz;cases hz),Kept.refl _⟩
    case round =>
     obtain⟨q,hq,rfl,HQ⟩:=hrel;obtain⟨wr2,hw2⟩:∃W,W=wr:=⟨_,rfl⟩
     subst hw2;have HD:=lH HQ.out.1;have KQ:=lH HQ.out.2;have KZ2:=lH (show Kept Z wr2 from J1.out.trans (HK.out.trans KQ.out));have KW2:=lH (show Kept w1 wr2 from HK.out.trans KQ.out);clear HQ;rcases Nat.eq_zero_or_pos q with hq0 | hq0
     · subst hq0;have HB:=lH (show ∀z ∈ la.take 0,jT s p pack xn z=false from fun z hz=>by simp at hz);go_upto_region 7 with fail
       have J:=lH (Kept.drew wr2);refine wp_region_held_drew (S:=fun W=>W.cell? ⟨bn,on+k,none⟩=some (.string xn)) (by kernel_rfl) (V8.out _ (KW2.out.trans J.out)) (fun hHeld=>?_);obtain⟨wd,hwd⟩:∃W,wr2.drew=W:=⟨_,rfl⟩
       rw[hwd] at J hHeld;try rw[hwd]
       clear hwd;refine tkJ 0 ?_;refine tkJ 1 ?_;refine tkJ 2 ?_;refine tkS 3 ?_;refine tkS 4 ?_;refine tkS 5 ?_;refine tkS 6 ?_;refine tkS 7 ?_;refine tkS 8 ?_;refine tkS 9 ?_;refine tkS 10 ?_;refine tkS 11 ?_;refine tkS 12 ?_;refine tkS 13 ?_;refine tkS 14 ?_;refine tkS 15 ?_;refine tkJ 16 ?_;try simp only[nP]
       refine wpAnyH_done (by kernel_rfl) ?_ _;have KQ:=lH (KQ.out.trans J.out);have KZ2:=lH (KZ2.out.trans J.out);have KW2:=lH (KW2.out.trans J.out);clear J hHeld;skip;obtain⟨wr2,hw2⟩:∃W,W=wd:=⟨_,rfl⟩
       subst hw2;obtain⟨q,hq9⟩:∃q:Nat,q=0:=⟨_,rfl⟩
       rw[←hq9] at HB HD hq;try rw[show ((0:Nat):Int)=(q:Int) by rw[hq9]]
       clear hq9;have hqi:(q:Int).toNat=q:=by omega
       have hq0i:(0:Int)≤(q:Int):=by omega
       have hqmI:(q:Int)≤(m:Int):=by omega
       have hqcN:q≤oc:=by omega
       have hqcI:(q:Int)≤(oc:Int):=by omega
       go_upto_region 9 with fail
       go_cut [11] from 42 to 52 (fun s11 wx=>∃g c,s11=.slice (some ⟨g,0,none⟩) (q+1) c∧Hid (wx.ownsRow wr2.heap.size 9 1 (.slice (some ⟨g,0,none⟩) (q+1) c) (q+1) (jb ji (la.take q)++[.string xn])∧Kept wr2 wx))
       case first =>
        have J:=lH (Kept.drew wr2);refine wp_region_held_drew (S:=fun W=>W.cell? ⟨bn,on+k,none⟩=some (.string xn)) (by kernel_rfl) (V8.out _ (KW2.out.trans J.out)) (fun hHeld=>?_);obtain⟨wd,hwd⟩:∃W,wr2.drew=W:=⟨_,rfl⟩
        rw[hwd] at J hHeld;try rw[hwd]
        clear hwd;refine tkJ 1 ?_;refine tkJ 2 ?_;refine tkJ 3 ?_;refine tkJ 5 ?_;refine tkJ 6 ?_;refine tkJ 7 ?_;refine tkJ 8 ?_;try simp only[nP]
        refine rdH (rs:=[0,9]) (h:=coH (fun K9 Ky=>?_) (coH (fun K9 Ky=>?_) AllReadyH.nil))
        · skip;go_simp;refine Ky.out _ _ (V8.out _ (KW2.out.trans (J.out.trans (ja _ _)))) (fun _=>?_);clear Ky K9;try simp only[nP]
          obtain⟨W0,hW0⟩:∃W,wd.alloc (.cells #[] 9)=W:=⟨_,rfl⟩
          have hk0:Kept wd W0:=by rw[←hW0];exact ja _ _
          have VS:=lH (show W0.ownsRow wr2.heap.size 9 1 (.slice (some ⟨wd.heap.size,0,none⟩) 0 0) 0 [] by rw[←hW0];exact zl _ _ 1 _ J.out.size);have Uh:=lH (show wd.heap.size<W0.heap.size by rw[←hW0,World.size_alloc];exact Nat.lt_succ_self _);have J:=lH (J.out.trans hk0);obtain⟨q0,hq0⟩:∃q,wd.heap.size=q:=⟨_,rfl⟩
          rw[hq0] at VS Uh;try rw[hW0]
          try rw[hq0]
          clear hW0 hk0 hq0;refine rdH (rs:=[4,9]) (h:=coH (fun K9 Ky=>?_) (coH (fun K9 Ky=>?_) AllReadyH.nil))
          · skip;refine jz kindStr _ rfl (.tmp 42) (.tmp 45) rfl wr2.heap.size J.out.size q0 0 0 [] rfl VS.out _ q (jb ji (la.take q)) rfl ?_ (jB _ _) (jh.src ((Ul.out.lowG hq).kept (KQ.out.trans J.out))) (by unfold maxLen;omega) (by omega) ?_
            · rw[jt,List.length_take,Vx.out,Nat.min_eq_left hq];rfl
            rintro g5 c5 W1 ho5 hd5 hg5;simp only[Nat.zero_add,List.nil_append] at ho5 ⊢;have VZ:=lH ho5;have JZ:=lH (show Kept wr2 W1 from Below.trans J.out hd5);clear ho5 hd5 hg5;refine Ky.out _ _ (V8.out _ (KW2.out.trans JZ.out)) (fun _=>?_);clear Ky K9;try simp only[nP]
            refine rd1 9 fun K9 Ky=>?_;go_simp;refine Ky.out _ _ (V8.out _ (KW2.out.trans (JZ.out.trans (ja _ _)))) (fun _=>?_);clear Ky K9;try simp only[nP]
            obtain⟨W2,hW2⟩:∃W,W1.alloc (.cells #[.string xn] 9)=W:=⟨_,rfl⟩
            have hk2:Kept W1 W2:=by rw[←hW2];exact ja _ _
            have H7:=lH (show W2.heap[W1.heap.size]?=some (.cells #[.string xn] 9 (0,0)) by rw[←hW2];exact World.alloc_heap_new W1 _);have Vv:=lH (show W1.heap.size<W2.heap.size by rw[←hW2,World.size_alloc];exact Nat.lt_succ_self _);have VZ:=lH (show W2.ownsRow wr2.heap.size 9 1 (.slice (some ⟨g5,0,none⟩) q c5) q (jb ji (la.take q)) by rw[←hW2];exact JH VZ.out _);have JZ:=lH (JZ.out.trans hk2);obtain⟨q7,hq7⟩:∃q,W1.heap.size=q:=⟨_,rfl⟩
            rw[hq7] at H7 Vv;try rw[hW2]
            try rw[hq7]
            clear hW2 hk2 hq7;refine rd1 10 fun K9 Ky=>?_;refine jz kindStr _ rfl (.tmp 46) (.tmp 51) rfl wr2.heap.size JZ.out.size g5 q c5 (jb ji (la.take q)) rfl VZ.out _ 1 [.string xn] rfl rfl (Jm xn) (Jf rfl H7.out) (by unfold maxLen;omega) (by omega) ?_;rintro g8 c8 W3 ho8 hd8 hg8;have Uf:=lH ho8;have JZ:=lH (show Kept wr2 W3 from Below.trans JZ.out hd8);clear ho8 hd8 hg8;refine Ky.out _ _ (V8.out _ (KW2.out.trans JZ.out)) (fun _=>?_);clear Ky K9;try simp only[nP]
            refine tkJ 11 ?_;try simp only[nP]
            refine wpAnyH_done (by kernel_rfl) ?_ _;go_wp2;go_meet
            case rel=>exact⟨g8,c8,rfl,lH ⟨Uf.out,JZ.out⟩⟩
          · skip;go_simp;refine Ky.out _ _ (V8.out _ (KW2.out.trans (J.out.trans (ja _ _)))) (fun _=>?_);clear Ky K9;try simp only[nP]
            obtain⟨W1,hW1⟩:∃W,W0.alloc (.cells #[.string xn] 9)=W:=⟨_,rfl⟩
            have hk1:Kept W0 W1:=by rw[←hW1];exact ja _ _
            have H7:=lH (show W1.heap[W0.heap.size]?=some (.cells #[.string xn] 9 (0,0)) by rw[←hW1];exact World.alloc_heap_new W0 _);have Vv:=lH (show W0.heap.size<W1.heap.size by rw[←hW1,World.size_alloc];exact Nat.lt_succ_self _);have VS:=lH (show W1.ownsRow wr2.heap.size 9 1 (.slice (some ⟨q0,0,none⟩) 0 0) 0 [] by rw[←hW1];exact JH VS.out _);have Ug:=lH (show W0.heap.size≠q0 by have:=Uh.out;omega);have J:=lH (J.out.trans hk1);obtain⟨q7,hq7⟩:∃q,W0.heap.size=q:=⟨_,rfl⟩
            rw[hq7] at H7 Vv Ug;try rw[hW1]
            try rw[hq7]
            clear hW1 hk1 hq7;refine rd1 4 fun K9 Ky=>?_;refine jz kindStr _ rfl (.tmp 42) (.tmp 45) rfl wr2.heap.size J.out.size q0 0 0 [] rfl VS.out _ q (jb ji (la.take q)) rfl ?_ (jB _ _) (jh.src ((Ul.out.lowG hq).kept (KQ.out.trans J.out))) (by unfold maxLen;omega) (by omega) ?_
            · rw[jt,List.length_take,Vx.out,Nat.min_eq_left hq];rfl
            rintro g5 c5 W2 ho5 hd5 hg5;simp only[Nat.zero_add,List.nil_append] at ho5 ⊢;have VZ:=lH ho5;have JZ:=lH (show Kept wr2 W2 from Below.trans J.out hd5);have H7:=lH ((hg5.block q7 Vv.out (by intro e;exact Ug.out (Option.some.inj e))).trans H7.out);have Vv:=lH (Nat.lt_of_lt_of_le Vv.out hg5.size);clear ho5 hd5 hg5;refine Ky.out _ _ (V8.out _ (KW2.out.trans JZ.out)) (fun _=>?_);clear Ky K9;try simp only[nP]
            refine rd1 10 fun K9 Ky=>?_;refine jz kindStr _ rfl (.tmp 46) (.tmp 51) rfl wr2.heap.size JZ.out.size g5 q c5 (jb ji (la.take q)) rfl VZ.out _ 1 [.string xn] rfl rfl (Jm xn) (Jf rfl H7.out) (by unfold maxLen;omega) (by omega) ?_;rintro g8 c8 W3 ho8 hd8 hg8;have Uf:=lH ho8;have JZ:=lH (show Kept wr2 W3 from Below.trans JZ.out hd8);clear ho8 hd8 hg8;refine Ky.out _ _ (V8.out _ (KW2.out.trans JZ.out)) (fun _=>?_);clear Ky K9;try simp only[nP]
            refine tkJ 11 ?_;try simp only[nP]
            refine wpAnyH_done (by kernel_rfl) ?_ _;go_wp2;go_meet
            case rel=>exact⟨g8,c8,rfl,lH ⟨Uf.out,JZ.out⟩⟩
        · skip;go_simp;refine Ky.out _ _ (V8.out _ (KW2.out.trans (J.out.trans (ja _ _)))) (fun _=>?_);clear Ky K9;try simp only[nP]
          obtain⟨W0,hW0⟩:∃W,wd.alloc (.cells #[.string xn] 9)=W:=⟨_,rfl⟩
          have hk0:Kept wd W0:=by rw[←hW0];exact ja _ _
          have H7:=lH (show W0.heap[wd.heap.size]?=some (.cells #[.string xn] 9 (0,0)) by rw[←hW0];exact World.alloc_heap_new wd _);have Vv:=lH (show wd.heap.size<W0.heap.size by rw[←hW0,World.size_alloc];exact Nat.lt_succ_self _);have J:=lH (J.out.trans hk0);obtain⟨q7,hq7⟩:∃q,wd.heap.size=q:=⟨_,rfl⟩
          rw[hq7] at H7 Vv;try rw[hW0]
          try rw[hq7]
          clear hW0 hk0 hq7;refine rd1 0 fun K9 Ky=>?_;go_simp;refine Ky.out _ _ (V8.out _ (KW2.out.trans (J.out.trans (ja _ _)))) (fun _=>?_);clear Ky K9;try simp only[nP]
          obtain⟨W1,hW1⟩:∃W,W0.alloc (.cells #[] 9)=W:=⟨_,rfl⟩
          have hk1:Kept W0 W1:=by rw[←hW1];exact ja _ _
          have VS:=lH (show W1.ownsRow wr2.heap.size 9 1 (.slice (some ⟨W0.heap.size,0,none⟩) 0 0) 0 [] by rw[←hW1];exact zl _ _ 1 _ J.out.size);have Uh:=lH (show W0.heap.size<W1.heap.size by rw[←hW1,World.size_alloc];exact Nat.lt_succ_self _);have H7:=lH ((hk1.block _ Vv.out).trans H7.out);have Ug:=lH (show q7≠W0.heap.size by have:=Vv.out;omega);have Vv:=lH (Nat.lt_of_lt_of_le Vv.out hk1.size);have J:=lH (J.out.trans hk1);obtain⟨q0,hq0⟩:∃q,W0.heap.size=q:=⟨_,rfl⟩
          rw[hq0] at VS Uh Ug;try rw[hW1]
          try rw[hq0]
          clear hW1 hk1 hq0;refine rd1 4 fun K9 Ky=>?_;refine jz kindStr _ rfl (.tmp 42) (.tmp 45) rfl wr2.heap.size J.out.size q0 0 0 [] rfl VS.out _ q (jb ji (la.take q)) rfl ?_ (jB _ _) (jh.src ((Ul.out.lowG hq).kept (KQ.out.trans J.out))) (by unfold maxLen;omega) (by omega) ?_
          · rw[jt,List.length_take,Vx.out,Nat.min_eq_left hq];rfl
          rintro g5 c5 W2 ho5 hd5 hg5;simp only[Nat.zero_add,List.nil_append] at ho5 ⊢;have VZ:=lH ho5;have JZ:=lH (show Kept wr2 W2 from Below.trans J.out hd5);have H7:=lH ((hg5.block q7 Vv.out (by intro e;exact Ug.out (Option.some.inj e))).trans H7.out);have Vv:=lH (Nat.lt_of_lt_of_le Vv.out hg5.size);clear ho5 hd5 hg5;refine Ky.out _ _ (V8.out _ (KW2.out.trans JZ.out)) (fun _=>?_);clear Ky K9;try simp only[nP]
          refine rd1 10 fun K9 Ky=>?_;refine jz kindStr _ rfl (.tmp 46) (.tmp 51) rfl wr2.heap.size JZ.out.size g5 q c5 (jb ji (la.take q)) rfl VZ.out _ 1 [.string xn] rfl rfl (Jm xn) (Jf rfl H7.out) (by unfold maxLen;omega) (by omega) ?_;rintro g8 c8 W3 ho8 hd8 hg8;have Uf:=lH ho8;have JZ:=lH (show Kept wr2 W3 from Below.trans JZ.out hd8);clear ho8 hd8 hg8;refine Ky.out _ _ (V8.out _ (KW2.out.trans JZ.out)) (fun _=>?_);clear Ky K9;try simp only[nP]
          refine tkJ 11 ?_;try simp only[nP]
          refine wpAnyH_done (by kernel_rfl) ?_ _;go_wp2;go_meet
          case rel=>exact⟨g8,c8,rfl,lH ⟨Uf.out,JZ.out⟩⟩
       case rest =>
        obtain⟨g2,c2,rfl,hcut⟩:=hcut;have HX:=lH hcut.out.1;have KC:=lH hcut.out.2;clear hcut;have hB:=(show w1.heap.size≤wr2.heap.size from KW2.out.size)
        go_upto_region 10 with fail
        by_cases hqm:q<m
        · obtain⟨g,gz,rfl⟩:=Ul.out.form.resolve_left (by omega);have hgz:gz=0:=by
           rcases HO.out.1.2 with ⟨e,_⟩ | ⟨_,_,_,e,_⟩
           · cases e
           · cases e;rfl
          subst hgz;have hqc:¬oc=q:=by omega
          have hA3:=(jh.postP ((Ul.out.kept KQ.out).kept KC.out) (k:=q) (by rw[Vx.out];exact hq)).src (cap:=oc-q);rw[Vx.out,show 0+q*ji.m=q from by show 0+q*1=q;omega] at hA3;have Na:=lH hA3;clear hA3;have hc3:=Yi (l:=la.drop q) (n:=m-q) (by rw[List.length_drop,Vx.out]);go_wp2_with (at_builtin;refine jv kindStr _ rfl (.tmp 53) (.tmp 56) rfl wr2.heap.size KC.out.size g2 (q+1) c2 (jb ji (la.take q)++[.string xn]) rfl HX.out _ (m-q) (jb ji (la.drop q)) rfl hc3 (cells_one _) Na.out (by omega) (by omega) ?_;intro g3 c3 w6 ho3 hx3 hg3;have K6:=lH (show Kept wr2 w6 from Below.trans KC.out hx3);have VH:=lH ho3;clear ho3 hx3 hg3)
          have Ub:=lH (qo.more (q:=q) (B1:=wr2.heap.size) Re.out UG.out Tc.out Tz.out HO.out.2 HB.out HD.out (show la.length+1=q+1+(m-q) by have:=Vx.out;omega) (by have:=Vx.out;omega) hB (show Kept w1 w6 from KW2.out.trans K6.out) VH.out);go_roundw
          case rel=>exact⟨k+1,by omega,by go_num,by first | exact Ub | (simpa using Ub)⟩
          case measure=>simp[intOf];omega
        · have hqe:q=m:=by omega
          clear hqm;rcases HO.out.1.2 with ⟨e0,h0⟩ | ⟨g,oc2,cur,e0,-⟩
          · have e1:oa=none:=by injection e0
            have e2:m=0:=by injection e0
            have e3:oc=0:=by injection e0
            subst e1 e3;subst e2;obtain rfl:q=0:=by omega
            clear e0 h0 hqe;go_wp2_with (at_builtin;refine jv kindStr _ rfl (.tmp 53) (.tmp 56) rfl wr2.heap.size KC.out.size g2 (0+1) c2 (jb ji (la.take 0)++[.string xn]) rfl HX.out _ 0 [] rfl rfl (by intro u hu;cases hu) (.inr ⟨_,rfl,rfl⟩) (by decide) (by decide) ?_;intro g3 c3 w6 ho3 hx3 hg3;have K6:=lH (show Kept wr2 w6 from Below.trans KC.out hx3);have VH:=lH ho3;clear ho3 hx3 hg3)
            have VH:=lH (show w6.ownsRow wr2.heap.size 9 1 (.slice (some ⟨g3,0,none⟩) (0+1) c3) (0+1) (jb ji (la.take 0)++[.string xn]++jb ji (la.drop 0)) from by
             rw[List.drop_of_length_le (show la.length≤0 by rw[Vx.out];omega)];have h:=VH.out;simpa [jb] using h)
            have Ub:=lH (qo.more (q:=0) (B1:=wr2.heap.size) Re.out UG.out Tc.out Tz.out HO.out.2 HB.out HD.out (show la.length+1=0+1 by have:=Vx.out;omega) (by have:=Vx.out;omega) hB (show Kept w1 w6 from KW2.out.trans K6.out) VH.out);go_roundw
            case rel=>exact⟨k+1,by omega,by go_num,by first | exact Ub | (simpa using Ub)⟩
            case measure=>simp[intOf];omega
          · have e1:oa=some ⟨g,0,none⟩:=by injection e0
            subst e1;clear e0;subst hqe;by_cases hqc:oc=q
            · have hqe2:q=oc:=hqc.symm;clear hqc;subst hqe2;go_wp2_with (at_builtin;refine jv kindStr _ rfl (.tmp 53) (.tmp 56) rfl wr2.heap.size KC.out.size g2 (q+1) c2 (jb ji (la.take q)++[.string xn]) rfl HX.out _ 0 [] rfl rfl (by intro u hu;cases hu) (.inl ⟨_,_,rfl,by intro j u hu;simp at hu⟩) (by omega) (by omega) ?_;intro g3 c3 w6 ho3 hx3 hg3;have K6:=lH (show Kept wr2 w6 from Below.trans KC.out hx3);have VH:=lH ho3;clear ho3 hx3 hg3)
              have VH:=lH (show w6.ownsRow wr2.heap.size 9 1 (.slice (some ⟨g3,0,none⟩) (q+1) c3) (q+1) (jb ji (la.take q)++[.string xn]++jb ji (la.drop q)) from by
               rw[List.drop_of_length_le (show la.length≤q by rw[Vx.out];omega)];have h:=VH.out;simpa [jb] using h)
              have Ub:=lH (qo.more (q:=q) (B1:=wr2.heap.size) Re.out UG.out Tc.out Tz.out HO.out.2 HB.out HD.out (show la.length+1=q+1 by have:=Vx.out;omega) (by have:=Vx.out;omega) hB (show Kept w1 w6 from KW2.out.trans K6.out) VH.out);go_roundw
              case rel=>exact⟨k+1,by omega,by go_num,by first | exact Ub | (simpa using Ub)⟩
              case measure=>simp[intOf];omega
            · skip;go_wp2_with (at_builtin;refine jv kindStr _ rfl (.tmp 53) (.tmp 56) rfl wr2.heap.size KC.out.size g2 (q+1) c2 (jb ji (la.take q)++[.string xn]) rfl HX.out _ 0 [] rfl rfl (by intro u hu;cases hu) (.inl ⟨_,_,rfl,by intro j u hu;simp at hu⟩) (by omega) (by omega) ?_;intro g3 c3 w6 ho3 hx3 hg3;have K6:=lH (show Kept wr2 w6 from Below.trans KC.out hx3);have VH:=lH ho3;clear ho3 hx3 hg3)
              have VH:=lH (show w6.ownsRow wr2.heap.size 9 1 (.slice (some ⟨g3,0,none⟩) (q+1) c3) (q+1) (jb ji (la.take q)++[.string xn]++jb ji (la.drop q)) from by
               rw[List.drop_of_length_le (show la.length≤q by rw[Vx.out];omega)];have h:=VH.out;simpa [jb] using h)
              have Ub:=lH (qo.more (q:=q) (B1:=wr2.heap.size) Re.out UG.out Tc.out Tz.out HO.out.2 HB.out HD.out (show la.length+1=q+1 by have:=Vx.out;omega) (by have:=Vx.out;omega) hB (show Kept w1 w6 from KW2.out.trans K6.out) VH.out);go_roundw
              case rel=>exact⟨k+1,by omega,by go_num,by first | exact Ub | (simpa using Ub)⟩
              case measure=>simp[intOf];omega
     · obtain⟨z,rfl⟩:∃z,q=z+1:=⟨q-1,by omega⟩
       obtain⟨q9,hq9⟩:∃q9,z+1=q9:=⟨_,rfl⟩
       have hzm:z<m:=by omega
       have Mb:=lH hq9;obtain⟨g,gz,rfl⟩:=Ul.out.form.resolve_left (by omega);obtain⟨y,hy,-,-,hys,cy⟩:=Ul.out.str hzm;have HY:=lH hy;have Rj:=lH hys;have Mc:=lH (fun (W:World) (kk:Kept wo W)=>cell_later kk cy);rw[hq9] at HD hq;have hqi1:(q9:Int)-1=(z:Int):=by omega
       have hqz:((z+1:Nat):Int)=(q9:Int):=by rw[hq9]
       rw[hqz];have hqp:(0:Int)<(q9:Int):=by omega
       have hqd:decide (0<q9)=true:=decide_eq_true (by omega);have hqn:0<q9:=by omega
       have hzl:(z:Int)<(m:Int):=by omega
       have hz0:¬(z:Int)<0:=by omega
       have hzN:z<m:=hzm;have hzW:IntKind.i64.wrap (z:Int)=(z:Int):=by rw[IntKind.wrap_i64];omega
       clear hq9 hqz hq0 hy hys cy;go_upto_region 7 with fail
       have J:=lH (Kept.drew wr2);refine wp_region_held_drew (S:=fun W=>((W.cell? ⟨w.heap.size,0,none⟩=some (.slice s1 n1 e1)∧W.cell? ⟨w.heap.size,1,none⟩=some (.slice s2 n2 e2)∧W.cell? ⟨w.heap.size,2,none⟩=some (.slice s3 n3 e3)∧W.cell? ⟨w.heap.size+1,0,none⟩=some (.string p.name)∧W.cell? ⟨w.heap.size+1,1,none⟩=some (.string p.owner)∧W.cell? ⟨w.heap.size+1,2,none⟩=some (.int .i64 p.prio)∧W.cell? ⟨w.heap.size+1,3,none⟩=some (.slice a1 m1 c1)∧W.cell? ⟨w.heap.size+1,4,none⟩=some (.slice a2 m2 c2)∧W.cell? ⟨w.heap.size+1,5,none⟩=some (.slice a3 m3 c3)∧W.cell? ⟨w.heap.size+1,6,none⟩=some (.slice a4 m4 c4)∧W.cell? ⟨w.heap.size+1,7,none⟩=some (.string p.key)∧W.cell? ⟨w.heap.size+1,8,none⟩=some (.int .i64 p.most)∧W.cell? ⟨w.heap.size+1,9,none⟩=some (.string p.node)∧W.cell? ⟨w.heap.size+1,10,none⟩=some (.bool p.hold))∧W.cell? ⟨bn,on+k,none⟩=some (.string xn))∧W.cell? ⟨g,gz+z,none⟩=some (.string y)) (by kernel_rfl) (⟨⟨HF.out _ (KZ2.out.trans J.out),V8.out _ (KW2.out.trans J.out)⟩,Mc.out _ (KQ.out.trans J.out)⟩) (fun hHeld=>?_);obtain⟨wd,hwd⟩:∃W,wr2.drew=W:=⟨_,rfl⟩
       rw[hwd] at J hHeld;try rw[hwd]
       clear hwd;refine tkH 0 (v:=?_) (y:=Or.inl ⟨by rfl,(by intro W hSw;obtain⟨⟨⟨o0,o1,o2,o3,o4,o5,o6,o7,o8,o9,o10,o11,o12,o13⟩,o14⟩,o15⟩:=hSw;go_simp<;>with_reducible rfl)⟩) (h:=?_);try simp only[nP]
       refine tkH 1 (v:=?_) (y:=Or.inl ⟨by rfl,(by intro W hSw;obtain⟨⟨⟨o0,o1,o2,o3,o4,o5,o6,o7,o8,o9,o10,o11,o12,o13⟩,o14⟩,o15⟩:=hSw;go_simp<;>with_reducible rfl)⟩) (h:=?_);try simp only[nP]
       refine tkH 2 (v:=?_) (y:=Or.inl ⟨by rfl,(by intro W hSw;obtain⟨⟨⟨o0,o1,o2,o3,o4,o5,o6,o7,o8,o9,o10,o11,o12,o13⟩,o14⟩,o15⟩:=hSw;go_simp<;>with_reducible rfl)⟩) (h:=?_);try simp only[nP]
       refine tkH 3 (v:=?_) (y:=Or.inl ⟨by rfl,(by intro W hSw;obtain⟨⟨⟨o0,o1,o2,o3,o4,o5,o6,o7,o8,o9,o10,o11,o12,o13⟩,o14⟩,o15⟩:=hSw;go_simp<;>with_reducible rfl)⟩) (h:=?_);try simp only[nP]
       refine tkH 4 (v:=?_) (y:=Or.inl ⟨by rfl,(by intro W hSw;obtain⟨⟨⟨o0,o1,o2,o3,o4,o5,o6,o7,o8,o9,o10,o11,o12,o13⟩,o14⟩,o15⟩:=hSw;go_simp<;>with_reducible rfl)⟩) (h:=?_);try simp only[nP]
       refine tkH 5 (v:=?_) (y:=Or.inl ⟨by rfl,(by intro W hSw;obtain⟨⟨⟨o0,o1,o2,o3,o4,o5,o6,o7,o8,o9,o10,o11,o12,o13⟩,o14⟩,o15⟩:=hSw;go_simp<;>with_reducible rfl)⟩) (h:=?_);try simp only[nP]
       refine tkH 6 (v:=?_) (y:=Or.inl ⟨by rfl,(by intro W hSw;obtain⟨⟨⟨o0,o1,o2,o3,o4,o5,o6,o7,o8,o9,o10,o11,o12,o13⟩,o14⟩,o15⟩:=hSw;go_simp<;>with_reducible rfl)⟩) (h:=?_);try simp only[nP]
       refine tkH 7 (v:=?_) (y:=Or.inl ⟨by rfl,(by intro W hSw;obtain⟨⟨⟨o0,o1,o2,o3,o4,o5,o6,o7,o8,o9,o10,o11,o12,o13⟩,o14⟩,o15⟩:=hSw;go_simp<;>with_reducible rfl)⟩) (h:=?_);try simp only[nP]
       refine tkH 8 (v:=?_) (y:=Or.inl ⟨by rfl,(by intro W hSw;obtain⟨⟨⟨o0,o1,o2,o3,o4,o5,o6,o7,o8,o9,o10,o11,o12,o13⟩,o14⟩,o15⟩:=hSw;go_simp<;>with_reducible rfl)⟩) (h:=?_);try simp only[nP]
       refine tkH 9 (v:=?_) (y:=Or.inl ⟨by rfl,(by intro W hSw;obtain⟨⟨⟨o0,o1,o2,o3,o4,o5,o6,o7,o8,o9,o10,o11,o12,o13⟩,o14⟩,o15⟩:=hSw;go_simp<;>with_reducible rfl)⟩) (h:=?_);try simp only[nP]
       refine tkH 10 (v:=?_) (y:=Or.inl ⟨by rfl,(by intro W hSw;obtain⟨⟨⟨o0,o1,o2,o3,o4,o5,o6,o7,o8,o9,o10,o11,o12,o13⟩,o14⟩,o15⟩:=hSw;go_simp<;>with_reducible rfl)⟩) (h:=?_);try simp only[nP]
       refine tkH 11 (v:=?_) (y:=Or.inl ⟨by rfl,(by intro W hSw;obtain⟨⟨⟨o0,o1,o2,o3,o4,o5,o6,o7,o8,o9,o10,o11,o12,o13⟩,o14⟩,o15⟩:=hSw;go_simp<;>with_reducible rfl)⟩) (h:=?_);try simp only[nP]
       refine tkH 12 (v:=?_) (y:=Or.inl ⟨by rfl,(by intro W hSw;obtain⟨⟨⟨o0,o1,o2,o3,o4,o5,o6,o7,o8,o9,o10,o11,o12,o13⟩,o14⟩,o15⟩:=hSw;go_simp<;>with_reducible rfl)⟩) (h:=?_);try simp only[nP]
       refine tkH 13 (v:=?_) (y:=Or.inl ⟨by rfl,(by intro W hSw;obtain⟨⟨⟨o0,o1,o2,o3,o4,o5,o6,o7,o8,o9,o10,o11,o12,o13⟩,o14⟩,o15⟩:=hSw;go_simp<;>with_reducible rfl)⟩) (h:=?_);try simp only[nP]
       refine tkH 14 (v:=?_) (y:=Or.inl ⟨by rfl,(by intro W hSw;obtain⟨⟨⟨o0,o1,o2,o3,o4,o5,o6,o7,o8,o9,o10,o11,o12,o13⟩,o14⟩,o15⟩:=hSw;go_simp<;>with_reducible rfl)⟩) (h:=?_);try simp only[nP]
       refine rd1 15 fun K9 Ky=>?_;go_simp;have hah:=jhS s1 s2 s3 n1 e1 n2 e2 n3 e3 a1 a2 a3 a4 m1 c1 m2 c2 m3 c3 m4 c4 pack p s xn y wd (HS.out.kept (KZ2.out.trans J.out)) HL.out HA.out (fun n hn=>jbV (VT.out n hn)) (HP.out.kept (KZ2.out.trans J.out)) UG.out Rj.out;unfold jr at hah;refine hah.mono ?_;clear hah;rintro e w7 ⟨rfl,kk⟩;have J:=lH (J.out.trans kk);clear kk;refine Ky.out _ _ (⟨⟨HF.out _ (KZ2.out.trans J.out),V8.out _ (KW2.out.trans J.out)⟩,Mc.out _ (KQ.out.trans J.out)⟩) (fun hHeldA=>?_);clear Ky K9;try simp only[nP]
       refine tkH 16 (v:=?_) (y:=Or.inl ⟨by rfl,(by intro W hSw;obtain⟨⟨⟨o0,o1,o2,o3,o4,o5,o6,o7,o8,o9,o10,o11,o12,o13⟩,o14⟩,o15⟩:=hSw;go_simp<;>with_reducible rfl)⟩) (h:=?_);try simp only[nP]
       refine wpAnyH_done (by kernel_rfl) ?_ _;have KQ:=lH (KQ.out.trans J.out);have KZ2:=lH (KZ2.out.trans J.out);have KW2:=lH (KW2.out.trans J.out);clear J hHeld hHeldA;obtain⟨wr2,hw2⟩:∃W,W=w7:=⟨_,rfl⟩
       subst hw2;obtain⟨t,ht⟩:∃t,jT s p pack xn y=t:=⟨_,rfl⟩
       rw[ht];have HT:=lH ht;clear ht
       cases t with
       | true =>
        have La:=lH (show ∀x ∈ la.drop z,jT s p pack xn x=true from fun x hx=>by
         obtain⟨hzl9,ey⟩:=List.getElem?_eq_some_iff.1 HY.out;rw[List.drop_eq_getElem_cons hzl9,ey] at hx;rcases List.mem_cons.1 hx with rfl | hx
         · exact HT.out
         · exact HD.out x (by rw[←Mb.out];exact hx))
        go_wp2;go_roundw
        case rel=>exact⟨z,by omega,by go_num,La.out,KQ.out⟩
        case measure=>simp[intOf];omega
       | false =>
        have HB:=lH (show ∀x ∈ la.take q9,jT s p pack xn x=false by rw[←Mb.out];exact jiA Tz.out HY.out HT.out);clear hqi1 hqp hqd hqn hzl hz0 hzN hzW;obtain⟨q,hq9⟩:∃q,q=q9:=⟨_,rfl⟩
        subst hq9;clear Mb HY Rj Mc HT hzm;skip;have hqi:(q:Int).toNat=q:=by omega
        have hq0i:(0:Int)≤(q:Int):=by omega
        have hqmI:(q:Int)≤(m:Int):=by omega
        have hqcN:q≤oc:=by omega
        have hqcI:(q:Int)≤(oc:Int):=by omega
        go_upto_region 9 with fail
        go_cut [11] from 42 to 52 (fun s11 wx=>∃g c,s11=.slice (some ⟨g,0,none⟩) (q+1) c∧Hid (wx.ownsRow wr2.heap.size 9 1 (.slice (some ⟨g,0,none⟩) (q+1) c) (q+1) (jb ji (la.take q)++[.string xn])∧Kept wr2 wx))
        case first =>
         have J:=lH (Kept.drew wr2);refine wp_region_held_drew (S:=fun W=>W.cell? ⟨bn,on+k,none⟩=some (.string xn)) (by kernel_rfl) (V8.out _ (KW2.out.trans J.out)) (fun hHeld=>?_);obtain⟨wd,hwd⟩:∃W,wr2.drew=W:=⟨_,rfl⟩
         rw[hwd] at J hHeld;try rw[hwd]
         clear hwd;refine tkJ 1 ?_;refine tkJ 2 ?_;refine tkJ 3 ?_;refine tkJ 5 ?_;refine tkJ 6 ?_;refine tkJ 7 ?_;refine tkJ 8 ?_;try simp only[nP]
         refine rdH (rs:=[0,9]) (h:=coH (fun K9 Ky=>?_) (coH (fun K9 Ky=>?_) AllReadyH.nil))
         · skip;go_simp;refine Ky.out _ _ (V8.out _ (KW2.out.trans (J.out.trans (ja _ _)))) (fun _=>?_);clear Ky K9;try simp only[nP]
           obtain⟨W0,hW0⟩:∃W,wd.alloc (.cells #[] 9)=W:=⟨_,rfl⟩
           have hk0:Kept wd W0:=by rw[←hW0];exact ja _ _
           have VS:=lH (show W0.ownsRow wr2.heap.size 9 1 (.slice (some ⟨wd.heap.size,0,none⟩) 0 0) 0 [] by rw[←hW0];exact zl _ _ 1 _ J.out.size);have Uh:=lH (show wd.heap.size<W0.heap.size by rw[←hW0,World.size_alloc];exact Nat.lt_succ_self _);have J:=lH (J.out.trans hk0);obtain⟨q0,hq0⟩:∃q,wd.heap.size=q:=⟨_,rfl⟩
           rw[hq0] at VS Uh;try rw[hW0]
           try rw[hq0]
           clear hW0 hk0 hq0;refine rdH (rs:=[4,9]) (h:=coH (fun K9 Ky=>?_) (coH (fun K9 Ky=>?_) AllReadyH.nil))
           · skip;refine jz kindStr _ rfl (.tmp 42) (.tmp 45) rfl wr2.heap.size J.out.size q0 0 0 [] rfl VS.out _ q (jb ji (la.take q)) rfl ?_ (jB _ _) (jh.src ((Ul.out.lowG hq).kept (KQ.out.trans J.out))) (by unfold maxLen;omega) (by omega) ?_
             · rw[jt,List.length_take,Vx.out,Nat.min_eq_left hq];rfl
             rintro g5 c5 W1 ho5 hd5 hg5;simp only[Nat.zero_add,List.nil_append] at ho5 ⊢;have VZ:=lH ho5;have JZ:=lH (show Kept wr2 W1 from Below.trans J.out hd5);clear ho5 hd5 hg5;refine Ky.out _ _ (V8.out _ (KW2.out.trans JZ.out)) (fun _=>?_);clear Ky K9;try simp only[nP]
             refine rd1 9 fun K9 Ky=>?_;go_simp;refine Ky.out _ _ (V8.out _ (KW2.out.trans (JZ.out.trans (ja _ _)))) (fun _=>?_);clear Ky K9;try simp only[nP]
             obtain⟨W2,hW2⟩:∃W,W1.alloc (.cells #[.string xn] 9)=W:=⟨_,rfl⟩
             have hk2:Kept W1 W2:=by rw[←hW2];exact ja _ _
             have H7:=lH (show W2.heap[W1.heap.size]?=some (.cells #[.string xn] 9 (0,0)) by rw[←hW2];exact World.alloc_heap_new W1 _);have Vv:=lH (show W1.heap.size<W2.heap.size by rw[←hW2,World.size_alloc];exact Nat.lt_succ_self _);have VZ:=lH (show W2.ownsRow wr2.heap.size 9 1 (.slice (some ⟨g5,0,none⟩) q c5) q (jb ji (la.take q)) by rw[←hW2];exact JH VZ.out _);have JZ:=lH (JZ.out.trans hk2);obtain⟨q7,hq7⟩:∃q,W1.heap.size=q:=⟨_,rfl⟩
             rw[hq7] at H7 Vv;try rw[hW2]
             try rw[hq7]
             clear hW2 hk2 hq7;refine rd1 10 fun K9 Ky=>?_;refine jz kindStr _ rfl (.tmp 46) (.tmp 51) rfl wr2.heap.size JZ.out.size g5 q c5 (jb ji (la.take q)) rfl VZ.out _ 1 [.string xn] rfl rfl (Jm xn) (Jf rfl H7.out) (by unfold maxLen;omega) (by omega) ?_;rintro g8 c8 W3 ho8 hd8 hg8;have Uf:=lH ho8;have JZ:=lH (show Kept wr2 W3 from Below.trans JZ.out hd8);clear ho8 hd8 hg8;refine Ky.out _ _ (V8.out _ (KW2.out.trans JZ.out)) (fun _=>?_);clear Ky K9;try simp only[nP]
             refine tkJ 11 ?_;try simp only[nP]
             refine wpAnyH_done (by kernel_rfl) ?_ _;go_wp2;go_meet
             case rel=>exact⟨g8,c8,rfl,lH ⟨Uf.out,JZ.out⟩⟩
           · skip;go_simp;refine Ky.out _ _ (V8.out _ (KW2.out.trans (J.out.trans (ja _ _)))) (fun _=>?_);clear Ky K9;try simp only[nP]
             obtain⟨W1,hW1⟩:∃W,W0.alloc (.cells #[.string xn] 9)=W:=⟨_,rfl⟩
             have hk1:Kept W0 W1:=by rw[←hW1];exact ja _ _
             have H7:=lH (show W1.heap[W0.heap.size]?=some (.cells #[.string xn] 9 (0,0)) by rw[←hW1];exact World.alloc_heap_new W0 _);have Vv:=lH (show W0.heap.size<W1.heap.size by rw[←hW1,World.size_alloc];exact Nat.lt_succ_self _);have VS:=lH (show W1.ownsRow wr2.heap.size 9 1 (.slice (some ⟨q0,0,none⟩) 0 0) 0 [] by rw[←hW1];exact JH VS.out _);have Ug:=lH (show W0.heap.size≠q0 by have:=Uh.out;omega);have J:=lH (J.out.trans hk1);obtain⟨q7,hq7⟩:∃q,W0.heap.size=q:=⟨_,rfl⟩
             rw[hq7] at H7 Vv Ug;try rw[hW1]
             try rw[hq7]
             clear hW1 hk1 hq7;refine rd1 4 fun K9 Ky=>?_;refine jz kindStr _ rfl (.tmp 42) (.tmp 45) rfl wr2.heap.size J.out.size q0 0 0 [] rfl VS.out _ q (jb ji (la.take q)) rfl ?_ (jB _ _) (jh.src ((Ul.out.lowG hq).kept (KQ.out.trans J.out))) (by unfold maxLen;omega) (by omega) ?_
             · rw[jt,List.length_take,Vx.out,Nat.min_eq_left hq];rfl
             rintro g5 c5 W2 ho5 hd5 hg5;simp only[Nat.zero_add,List.nil_append] at ho5 ⊢;have VZ:=lH ho5;have JZ:=lH (show Kept wr2 W2 from Below.trans J.out hd5);have H7:=lH ((hg5.block q7 Vv.out (by intro e;exact Ug.out (Option.some.inj e))).trans H7.out);have Vv:=lH (Nat.lt_of_lt_of_le Vv.out hg5.size);clear ho5 hd5 hg5;refine Ky.out _ _ (V8.out _ (KW2.out.trans JZ.out)) (fun _=>?_);clear Ky K9;try simp only[nP]
             refine rd1 10 fun K9 Ky=>?_;refine jz kindStr _ rfl (.tmp 46) (.tmp 51) rfl wr2.heap.size JZ.out.size g5 q c5 (jb ji (la.take q)) rfl VZ.out _ 1 [.string xn] rfl rfl (Jm xn) (Jf rfl H7.out) (by unfold maxLen;omega) (by omega) ?_;rintro g8 c8 W3 ho8 hd8 hg8;have Uf:=lH ho8;have JZ:=lH (show Kept wr2 W3 from Below.trans JZ.out hd8);clear ho8 hd8 hg8;refine Ky.out _ _ (V8.out _ (KW2.out.trans JZ.out)) (fun _=>?_);clear Ky K9;try simp only[nP]
             refine tkJ 11 ?_;try simp only[nP]
             refine wpAnyH_done (by kernel_rfl) ?_ _;go_wp2;go_meet
             case rel=>exact⟨g8,c8,rfl,lH ⟨Uf.out,JZ.out⟩⟩
         · skip;go_simp;refine Ky.out _ _ (V8.out _ (KW2.out.trans (J.out.trans (ja _ _)))) (fun _=>?_);clear Ky K9;try simp only[nP]
           obtain⟨W0,hW0⟩:∃W,wd.alloc (.cells #[.string xn] 9)=W:=⟨_,rfl⟩
           have hk0:Kept wd W0:=by rw[←hW0];exact ja _ _
           have H7:=lH (show W0.heap[wd.heap.size]?=some (.cells #[.string xn] 9 (0,0)) by rw[←hW0];exact World.alloc_heap_new wd _);have Vv:=lH (show wd.heap.size<W0.heap.size by rw[←hW0,World.size_alloc];exact Nat.lt_succ_self _);have J:=lH (J.out.trans hk0);obtain⟨q7,hq7⟩:∃q,wd.heap.size=q:=⟨_,rfl⟩
           rw[hq7] at H7 Vv;try rw[hW0]
           try rw[hq7]
           clear hW0 hk0 hq7;refine rd1 0 fun K9 Ky=>?_;go_simp;refine Ky.out _ _ (V8.out _ (KW2.out.trans (J.out.trans (ja _ _)))) (fun _=>?_);clear Ky K9;try simp only[nP]
           obtain⟨W1,hW1⟩:∃W,W0.alloc (.cells #[] 9)=W:=⟨_,rfl⟩
           have hk1:Kept W0 W1:=by rw[←hW1];exact ja _ _
           have VS:=lH (show W1.ownsRow wr2.heap.size 9 1 (.slice (some ⟨W0.heap.size,0,none⟩) 0 0) 0 [] by rw[←hW1];exact zl _ _ 1 _ J.out.size);have Uh:=lH (show W0.heap.size<W1.heap.size by rw[←hW1,World.size_alloc];exact Nat.lt_succ_self _);have H7:=lH ((hk1.block _ Vv.out).trans H7.out);have Ug:=lH (show q7≠W0.heap.size by have:=Vv.out;omega);have Vv:=lH (Nat.lt_of_lt_of_le Vv.out hk1.size);have J:=lH (J.out.trans hk1);obtain⟨q0,hq0⟩:∃q,W0.heap.size=q:=⟨_,rfl⟩
           rw[hq0] at VS Uh Ug;try rw[hW1]
           try rw[hq0]
           clear hW1 hk1 hq0;refine rd1 4 fun K9 Ky=>?_;refine jz kindStr _ rfl (.tmp 42) (.tmp 45) rfl wr2.heap.size J.out.size q0 0 0 [] rfl VS.out _ q (jb ji (la.take q)) rfl ?_ (jB _ _) (jh.src ((Ul.out.lowG hq).kept (KQ.out.trans J.out))) (by unfold maxLen;omega) (by omega) ?_
           · rw[jt,List.length_take,Vx.out,Nat.min_eq_left hq];rfl
           rintro g5 c5 W2 ho5 hd5 hg5;simp only[Nat.zero_add,List.nil_append] at ho5 ⊢;have VZ:=lH ho5;have JZ:=lH (show Kept wr2 W2 from Below.trans J.out hd5);have H7:=lH ((hg5.block q7 Vv.out (by intro e;exact Ug.out (Option.some.inj e))).trans H7.out);have Vv:=lH (Nat.lt_of_lt_of_le Vv.out hg5.size);clear ho5 hd5 hg5;refine Ky.out _ _ (V8.out _ (KW2.out.trans JZ.out)) (fun _=>?_);clear Ky K9;try simp only[nP]
           refine rd1 10 fun K9 Ky=>?_;refine jz kindStr _ rfl (.tmp 46) (.tmp 51) rfl wr2.heap.size JZ.out.size g5 q c5 (jb ji (la.take q)) rfl VZ.out _ 1 [.string xn] rfl rfl (Jm xn) (Jf rfl H7.out) (by unfold maxLen;omega) (by omega) ?_;rintro g8 c8 W3 ho8 hd8 hg8;have Uf:=lH ho8;have JZ:=lH (show Kept wr2 W3 from Below.trans JZ.out hd8);clear ho8 hd8 hg8;refine Ky.out _ _ (V8.out _ (KW2.out.trans JZ.out)) (fun _=>?_);clear Ky K9;try simp only[nP]
           refine tkJ 11 ?_;try simp only[nP]
           refine wpAnyH_done (by kernel_rfl) ?_ _;go_wp2;go_meet
           case rel=>exact⟨g8,c8,rfl,lH ⟨Uf.out,JZ.out⟩⟩
        case rest =>
         obtain⟨g2,c2,rfl,hcut⟩:=hcut;have HX:=lH hcut.out.1;have KC:=lH hcut.out.2;clear hcut;have hB:=(show w1.heap.size≤wr2.heap.size from KW2.out.size)
         go_upto_region 10 with fail
         by_cases hqm:q<m
         · skip;have hgz:gz=0:=by
            rcases HO.out.1.2 with ⟨e,_⟩ | ⟨_,_,_,e,_⟩
            · cases e
            · cases e;rfl
           subst hgz;have hqc:¬oc=q:=by omega
           have hA3:=(jh.postP ((Ul.out.kept KQ.out).kept KC.out) (k:=q) (by rw[Vx.out];exact hq)).src (cap:=oc-q);rw[Vx.out,show 0+q*ji.m=q from by show 0+q*1=q;omega] at hA3;have Na:=lH hA3;clear hA3;have hc3:=Yi (l:=la.drop q) (n:=m-q) (by rw[List.length_drop,Vx.out]);go_wp2_with (at_builtin;refine jv kindStr _ rfl (.tmp 53) (.tmp 56) rfl wr2.heap.size KC.out.size g2 (q+1) c2 (jb ji (la.take q)++[.string xn]) rfl HX.out _ (m-q) (jb ji (la.drop q)) rfl hc3 (cells_one _) Na.out (by omega) (by omega) ?_;intro g3 c3 w6 ho3 hx3 hg3;have K6:=lH (show Kept wr2 w6 from Below.trans KC.out hx3);have VH:=lH ho3;clear ho3 hx3 hg3)
           have Ub:=lH (qo.more (q:=q) (B1:=wr2.heap.size) Re.out UG.out Tc.out Tz.out HO.out.2 HB.out HD.out (show la.length+1=q+1+(m-q) by have:=Vx.out;omega) (by have:=Vx.out;omega) hB (show Kept w1 w6 from KW2.out.trans K6.out) VH.out);go_roundw
           case rel=>exact⟨k+1,by omega,by go_num,by first | exact Ub | (simpa using Ub)⟩
           case measure=>simp[intOf];omega
         · have hqe:q=m:=by omega
           clear hqm;have hgz:gz=0:=by
            rcases HO.out.1.2 with ⟨e,_⟩ | ⟨_,_,_,e,_⟩
            · cases e
            · cases e;rfl
           subst hgz;subst hqe;by_cases hqc:oc=q
           · have hqe2:q=oc:=hqc.symm;clear hqc;subst hqe2;go_wp2_with (at_builtin;refine jv kindStr _ rfl (.tmp 53) (.tmp 56) rfl wr2.heap.size KC.out.size g2 (q+1) c2 (jb ji (la.take q)++[.string xn]) rfl HX.out _ 0 [] rfl rfl (by intro u hu;cases hu) (.inl ⟨_,_,rfl,by intro j u hu;simp at hu⟩) (by omega) (by omega) ?_;intro g3 c3 w6 ho3 hx3 hg3;have K6:=lH (show Kept wr2 w6 from Below.trans KC.out hx3);have VH:=lH ho3;clear ho3 hx3 hg3)
             have VH:=lH (show w6.ownsRow wr2.heap.size 9 1 (.slice (some ⟨g3,0,none⟩) (q+1) c3) (q+1) (jb ji (la.take q)++[.string xn]++jb ji (la.drop q)) from by
              rw[List.drop_of_length_le (show la.length≤q by rw[Vx.out];omega)];have h:=VH.out;simpa [jb] using h)
             have Ub:=lH (qo.more (q:=q) (B1:=wr2.heap.size) Re.out UG.out Tc.out Tz.out HO.out.2 HB.out HD.out (show la.length+1=q+1 by have:=Vx.out;omega) (by have:=Vx.out;omega) hB (show Kept w1 w6 from KW2.out.trans K6.out) VH.out);go_roundw
             case rel=>exact⟨k+1,by omega,by go_num,by first | exact Ub | (simpa using Ub)⟩
             case measure=>simp[intOf];omega
           · skip;go_wp2_with (at_builtin;refine jv kindStr _ rfl (.tmp 53) (.tmp 56) rfl wr2.heap.size KC.out.size g2 (q+1) c2 (jb ji (la.take q)++[.string xn]) rfl HX.out _ 0 [] rfl rfl (by intro u hu;cases hu) (.inl ⟨_,_,rfl,by intro j u hu;simp at hu⟩) (by omega) (by omega) ?_;intro g3 c3 w6 ho3 hx3 hg3;have K6:=lH (show Kept wr2 w6 from Below.trans KC.out hx3);have VH:=lH ho3;clear ho3 hx3 hg3)
             have VH:=lH (show w6.ownsRow wr2.heap.size 9 1 (.slice (some ⟨g3,0,none⟩) (q+1) c3) (q+1) (jb ji (la.take q)++[.string xn]++jb ji (la.drop q)) from by
              rw[List.drop_of_length_le (show la.length≤q by rw[Vx.out];omega)];have h:=VH.out;simpa [jb] using h)
             have Ub:=lH (qo.more (q:=q) (B1:=wr2.heap.size) Re.out UG.out Tc.out Tz.out HO.out.2 HB.out HD.out (show la.length+1=q+1 by have:=Vx.out;omega) (by have:=Vx.out;omega) hB (show Kept w1 w6 from KW2.out.trans K6.out) VH.out);go_roundw
             case rel=>exact⟨k+1,by omega,by go_num,by first | exact Ub | (simpa using Ub)⟩
             case measure=>simp[intOf];omega
  · have hge:¬(k:Int)<(n9:Int):=by omega
    have HE:=lH (show Zh s p pack la from⟨by have:=Tc.out;rw[List.take_of_length_le (by rw[UB.out];omega)] at this;rw[T3.out];exact this,Tz.out⟩);go_wp2;go_ret;exact⟨_,_,rfl,HE.out,HO.out.base_le (K.out.trans J1.out).size,K.out.trans (J1.out.trans HK.out)⟩
theorem jf7 (s1 s2 s3:Option Addr) (n1 e1 n2 e2 n3 e3:Nat) (a1 a2 a3 a4:Option Addr) (m1 c1 m2 c2 m3 c3 m4 c4:Nat) (pack:Bool) (p:Pd) (s:Clu) (w:World) (hs:jA w (zv (.slice s1 n1 e1) (.slice s2 n2 e2) (.slice s3 n3 e3)) s) (hl:jH s) (hA:Asc s.pods) (ha:YD s.nodes) (hk:∀n ∈ s.nodes,jZ n=0) (hp:js w (.slice a1 m1 c1) (.slice a2 m2 c2) (.slice a3 m3 c3) (.slice a4 m4 c4) p):Calls Tryz.prog 21 #[.agg #[.slice s1 n1 e1,.slice s2 n2 e2,.slice s3 n3 e3],jr p (.slice a1 m1 c1) (.slice a2 m2 c2) (.slice a3 m3 c3) (.slice a4 m4 c4),.bool pack] w (jcA s p pack w):=by
 obtain⟨Z,hZ⟩:∃Z,(w.alloc (.cells #[.slice s1 n1 e1,.slice s2 n2 e2,.slice s3 n3 e3] 51)).alloc (.cells #[.string p.name,.string p.owner,.int .i64 p.prio,.slice a1 m1 c1,.slice a2 m2 c2,.slice a3 m3 c3,.slice a4 m4 c4,.string p.key,.int .i64 p.most,.string p.node,.bool p.hold] 45)=Z:=⟨_,rfl⟩
 have hkz:Kept w Z:=by rw[←hZ];exact jm _ _ _
 have Vd:=lH (jd w (.slice s1 n1 e1) [.slice s2 n2 e2,.slice s3 n3 e3] 51 Z (by rw[←hZ];exact ja _ _));have Vb:=lH (show jf (w.heap.size+1) [.string p.name,.string p.owner,.int .i64 p.prio,.slice a1 m1 c1,.slice a2 m2 c2,.slice a3 m3 c3,.slice a4 m4 c4,.string p.key,.int .i64 p.most,.string p.node,.bool p.hold] Z by
  have dd:=jd (w.alloc (.cells #[.slice s1 n1 e1,.slice s2 n2 e2,.slice s3 n3 e3] 51)) (.string p.name) [.string p.owner,.int .i64 p.prio,.slice a1 m1 c1,.slice a2 m2 c2,.slice a3 m3 c3,.slice a4 m4 c4,.string p.key,.int .i64 p.most,.string p.node,.bool p.hold] 45 Z (by rw[hZ];exact Kept.refl _);rw[World.size_alloc] at dd;exact dd)
 have K:=lH hkz;have HS:=lH (hs.kept hkz);have HP:=lH (hp.kept hkz);have HL:=lH hl;have HA:=lH hA;have Rc:=lH ha;have VT:=lH hk;clear hs hp hkz hl hA ha hk;have Td:=lH (jcm s1 s2 s3 n1 e1 n2 e2 n3 e3 a1 a2 a3 a4 m1 c1 m2 c2 m3 c3 m4 c4 pack p s Z HS.out HL.out HA.out Rc.out VT.out HP.out);unfold jr at Td;have y0:=Vd.out.at_ 0 _ rfl;have y1:=Vd.out.at_ 1 _ rfl;have y2:=Vd.out.at_ 2 _ rfl;have r0:=Vb.out.at_ 0 _ rfl;have r1:=Vb.out.at_ 1 _ rfl;have r2:=Vb.out.at_ 2 _ rfl;have r3:=Vb.out.at_ 3 _ rfl;have r4:=Vb.out.at_ 4 _ rfl;have r5:=Vb.out.at_ 5 _ rfl;have r6:=Vb.out.at_ 6 _ rfl;have r7:=Vb.out.at_ 7 _ rfl;have r8:=Vb.out.at_ 8 _ rfl;have r9:=Vb.out.at_ 9 _ rfl;have r10:=Vb.out.at_ 10 _ rfl;unfold jr;go_enter Tryz.func21,Tryz.ntmps21;go_wp2_with fail
 try rw[hZ]
 clear hZ;refine Td.out.mono ?_;rintro e w1 ⟨v,l,rfl,hd,ho,kk⟩;have HD:=lH hd;have K:=lH (K.out.trans kk);obtain⟨a,cap,rfl,-,-,hrow⟩:=ho.at_;clear kk hd ho Td y0 y1 y2 r0 r1 r2 r3 r4 r5 r6 r7 r8 r9 r10
 cases l with
 | nil =>
  have h0:(((([]:List ByteArray).length:Nat):Int)==0)=true:=rfl;go_wp2;go_ret2
  exact⟨[],HD.out,rfl,K.out⟩
 | cons x t =>
  obtain⟨b,off,rfl⟩:=hrow.form.resolve_left (by simp);obtain⟨x9,hx9,-,-,-,c0⟩:=hrow.str (k:=0) (by simp);obtain rfl:x=x9:=by simpa using hx9
  rw[Nat.add_zero] at c0;obtain⟨n,hn⟩:∃n,(x::t).length=n:=⟨_,rfl⟩
  have hn1:0<n:=by rw[←hn];simp
  have hn0:((n:Int)==0)=false:=by simp;omega
  have hn2:(0:Int)<(n:Int):=by omega
  rw[hn];clear hx9 hrow hn;go_wp2;go_ret2
  exact⟨x::t,HD.out,rfl,K.out⟩
structure Sound (s:Clu):Prop where
 parts:X3 s
 asc:Asc s.pods
 need:∀p ∈ s.pods,jay p.need
 cap:∀n ∈ s.nodes,jay n.cap
theorem jj0 {s:Clu} {w:World} {v:Value} (h:Zt s=true) (hr:jA w v s):Sound s:=by
 have hp:=jkS (qT h);obtain⟨v1,v2,v3,rfl,⟨a,cap,rfl,-,-,h1⟩,⟨b,cp,rfl,-,-,h2⟩,-⟩:=hr;refine⟨hp,jk2 h,fun p hm=>jcR (hp.need0 hm) ?_,fun n hm=>jcR (hp.cap0 hm) ?_⟩
 · obtain⟨k,hk,rfl⟩:=List.mem_iff_getElem.1 hm;rcases h2.2.2 with h0 | ⟨b,off,-,-,hc⟩
   · omega
   · obtain⟨v1,v2,v3,v4,-,-,-,-,-,-,-,-,-,-,-,hat⟩:=hc k _ (List.getElem?_eq_getElem hk);obtain⟨a9,c9,-,-,-,g⟩:=hat.need;exact g.2.2.1
 · obtain⟨k,hk,rfl⟩:=List.mem_iff_getElem.1 hm;rcases h1.2.2 with h0 | ⟨b,off,-,-,hc⟩
   · omega
   · obtain⟨a1,m1,c1,a2,m2,c2,a3,m3,c3,-,-,-,-,-,hat⟩:=hc k _ (List.getElem?_eq_getElem hk);obtain⟨a9,c9,-,-,-,g⟩:=hat.cap;exact g.2.2.1
abbrev PZ:List Value:=[.string ⟨#[]⟩,.string ⟨#[]⟩,.int .i64 0,.slice none 0 0,.slice none 0 0,.slice none 0 0,.slice none 0 0,.string ⟨#[]⟩,.int .i64 0,.string ⟨#[]⟩,.bool false]
def jeQ (q:Nat) (W:World):Prop:=∀i,W.cell? ⟨q,i,none⟩=PZ[i]?
theorem zq {q:Nat} {W:World} {T:TypeId} {fr:Nat×Nat} (h:W.heap[q]?=some (.cells PZ.toArray T fr)):jeQ q W:=fun i=>by
 rw[Lib.cell_of_heap h];simp
theorem jaK:∀{o:Nat} {y:ByteArray},PZ[o]?=some (.string y)→y=⟨#[]⟩
 | 0,y,h=>by cases h;rfl
 | 1,y,h=>by cases h;rfl
 | 2,y,h=>by cases h
 | 3,y,h=>by cases h
 | 4,y,h=>by cases h
 | 5,y,h=>by cases h
 | 6,y,h=>by cases h
 | 7,y,h=>by cases h;rfl
 | 8,y,h=>by cases h
 | 9,y,h=>by cases h;rfl
 | 10,y,h=>by cases h
 | o+11,y,h=>by simp at h
theorem jep:∀{o:Nat} {y:ByteArray} {a:Option Addr} {n c:Nat},PZ[o]?=some (.string y)→PZ[o+1]?=some (.slice a n c)→False
 | 0,_,_,_,_,_,h=>by cases h
 | 1,_,_,_,_,_,h=>by cases h
 | 2,_,_,_,_,h,_=>by cases h
 | 3,_,_,_,_,h,_=>by cases h
 | 4,_,_,_,_,h,_=>by cases h
 | 5,_,_,_,_,h,_=>by cases h
 | 6,_,_,_,_,h,_=>by cases h
 | 7,_,_,_,_,_,h=>by cases h
 | 8,_,_,_,_,h,_=>by cases h
 | 9,_,_,_,_,_,h=>by cases h
 | 10,_,_,_,_,h,_=>by cases h
 | o+11,_,_,_,_,h,_=>by simp at h
theorem jmB:∀{o:Nat} {x y:ByteArray} {b:Bool},PZ[o]?=some (.string x)→PZ[o+1]?=some (.string y)→PZ[o+2]?=some (.bool b)→False
 | 0,_,_,_,_,_,h=>by cases h
 | 1,_,_,_,_,h,_=>by cases h
 | 2,_,_,_,h,_,_=>by cases h
 | 3,_,_,_,h,_,_=>by cases h
 | 4,_,_,_,h,_,_=>by cases h
 | 5,_,_,_,h,_,_=>by cases h
 | 6,_,_,_,h,_,_=>by cases h
 | 7,_,_,_,_,h,_=>by cases h
 | 8,_,_,_,h,_,_=>by cases h
 | 9,_,_,_,_,h,_=>by cases h
 | 10,_,_,_,h,_,_=>by cases h
 | o+11,_,_,_,h,_,_=>by simp at h
theorem jlv:∀{o:Nat} {z:Int} {x y:ByteArray},PZ[o]?=some (.int .i64 z)→PZ[o+1]?=some (.string x)→PZ[o+2]?=some (.string y)→False
 | 0,_,_,_,h,_,_=>by cases h
 | 1,_,_,_,h,_,_=>by cases h
 | 2,_,_,_,_,h,_=>by cases h
 | 3,_,_,_,h,_,_=>by cases h
 | 4,_,_,_,h,_,_=>by cases h
 | 5,_,_,_,h,_,_=>by cases h
 | 6,_,_,_,h,_,_=>by cases h
 | 7,_,_,_,h,_,_=>by cases h
 | 8,_,_,_,_,_,h=>by cases h
 | 9,_,_,_,h,_,_=>by cases h
 | 10,_,_,_,h,_,_=>by cases h
 | o+11,_,_,_,h,_,_=>by simp at h
def NoZ {α:Type} (L:Lay α) (l:List α):Prop:=∀x ∈ l,∀o,(∀(j:Nat) u,(L.cs x)[j]?=some u→PZ[o+j]?=some u)→False
theorem jbT {α:Type} {L:Lay α} {w w':World} {a:Option Addr} {len:Nat} {l:List α} {N:Nat} (hL:NoZ L l) (h:jh L w a len l) (hs:w'.heap.size=w.heap.size) (hb:∀b,b≠N→w'.heap[b]?=w.heap[b]?) (hn:jeQ N w):jh L w' a len l:=by
 obtain⟨h3,h4,h5,h6⟩:=h;refine⟨h3,h4,h5,?_⟩;rcases h6 with h6 | ⟨b,off,rfl,hlt,hc⟩
 · exact .inl h6
 · cases l with
   | nil=>exact .inl h3.symm
   | cons x t =>
    have hne:b≠N:=by
     rintro rfl;refine hL x (by simp) off fun j u hu=>?_;have:=hc 0 x j u rfl hu;rw[Nat.zero_mul,Nat.add_zero,hn] at this;exact this
    exact .inr ⟨b,off,rfl,by rw[hs];exact hlt,fun i x j u hi hj=>(World.cell?_of_block (a:=⟨b,off+i*L.m+j,none⟩) (hb b hne)).trans (hc i x j u hi hj)⟩
theorem YR {α:Type} {L:Lay α} {w w':World} {v:Value} {l:List α} {N:Nat} (hL:NoZ L l) (h:Reads L w v l) (hs:w'.heap.size=w.heap.size) (hb:∀b,b≠N→w'.heap[b]?=w.heap[b]?) (hn:jeQ N w):Reads L w' v l:=by
 obtain⟨a,cap,rfl,h1,h2,h3⟩:=h;exact⟨a,cap,rfl,h1,h2,jbT hL h3 hs hb hn⟩
theorem jd5 {l:PL} (h:∀x ∈ l,x.1≠⟨#[]⟩):NoZ jF l:=fun x hx o hc=>h x hx (jaK (hc 0 _ rfl))
theorem jim (l:NL):NoZ jx l:=fun x hx o hc=>jmB (hc 0 _ rfl) (hc 1 _ rfl) (hc 2 _ rfl)
theorem jes (l:TL):NoZ jP l:=fun x hx o hc=>jlv (hc 0 _ rfl) (hc 1 _ rfl) (hc 2 _ rfl)
theorem jly (l:List NX):NoZ zD l:=fun x hx o hc=>jep (hc 0 _ rfl) (hc 1 _ rfl)
theorem jle (l:List BX):NoZ zt l:=fun x hx o hc=>jep (hc 0 _ rfl) (hc 1 _ rfl)
theorem jlX {l:List PX} (h:∀x ∈ l,x.1.name≠⟨#[]⟩):NoZ jg l:=fun x hx o hc=>h x hx (jaK (hc 0 _ rfl))
theorem jiw {w w':World} {v:Value} {l:Vec.V} {N:Nat} (hL:∀x ∈ l,x.1≠⟨#[]⟩) (h:Vec.Reads w v l) (hs:w'.heap.size=w.heap.size) (hb:∀b,b≠N→w'.heap[b]?=w.heap[b]?) (hn:jeQ N w):Vec.Reads w' v l:=by
 obtain⟨a,cap,rfl,h1,h2,h3⟩:=h;refine⟨a,cap,rfl,h1,h2,?_⟩;obtain⟨g0,g1,g2,g3⟩:=h3;refine⟨g0,g1,g2,?_⟩;rcases g3 with g3 | ⟨b,off,rfl,hlt,hc⟩
 · exact .inl g3
 · cases l with
   | nil=>exact .inl rfl
   | cons x t =>
    have hne:b≠N:=by
     rintro rfl;have h0:=(hc 0 (by simp)).1;rw[hn] at h0;exact hL x (by simp) (jaK h0)
    refine .inr ⟨b,off,rfl,by rw[hs];exact hlt,fun i hi=>?_⟩;have e:∀j,w'.cell? ⟨b,j,none⟩=w.cell? ⟨b,j,none⟩:=fun j=>World.cell?_of_block (a:=⟨b,j,none⟩) (hb b hne);rw[e,e];exact hc i hi
theorem qE {x:ByteArray} (h:isName x=true):x≠⟨#[]⟩:=fun e=>by
 rw[e,show isName ⟨#[]⟩=false by kernel_rfl] at h;cases h
theorem jeB:∀{prev:Option ByteArray} {l:PL},Jg prev l=0→∀x ∈ l,isName x.1=true
 | _,[],_,x,hx=>by cases hx
 | prev,y::t,h,x,hx=>by
  rw[Jg] at h;split at h
  · cases h
  · rename_i h1;split at h
    · cases h
    · rcases List.mem_cons.1 hx with rfl | hx
      · have h1:(isName x.1&&isName x.2)=true:=by simpa using h1
        exact(Bool.and_eq_true_iff.1 h1).1
      · exact jeB h x hx
theorem jdw {l:PL} (h:Yr l=0):∀x ∈ l,x.1≠⟨#[]⟩:=by
 unfold Yr at h;split at h
 · cases h
 · exact fun x hx=>qE (jeB h x hx)
structure jcs (n:Nod):Prop where
 cap:∀x ∈ n.cap,x.1≠⟨#[]⟩
 labels:∀x ∈ n.labels,x.1≠⟨#[]⟩
structure jaT (p:Pd):Prop where
 name:p.name≠⟨#[]⟩
 need:∀x ∈ p.need,x.1≠⟨#[]⟩
 labels:∀x ∈ p.labels,x.1≠⟨#[]⟩
theorem jky {n:Nod} (h:jZ n=0) (hc:jay n.cap):jcs n:=by
 refine⟨fun x hx=>qE (hc.1.1 x hx).1,?_⟩;unfold jZ at h;split at h
 · cases h
 · split at h
   · rename_i h1;exact absurd h h1
   · split at h
     · rename_i h1;exact absurd h h1
     · rename_i h1;exact jdw (Decidable.of_not_not h1)
theorem je5 {p:Pd} (h:JB p=0) (hc:jay p.need):jaT p:=by
 have hz:=qK (l:=Xp p) h;unfold Xp at hz;simp only[List.mem_cons,List.not_mem_nil,or_false] at hz;refine⟨?_,fun x hx=>qE (hc.1.1 x hx).1,jdw (hz _ (.inr (.inr (.inr (.inl rfl)))))⟩;have h0:=hz _ (.inl rfl);unfold XJ at h0;split at h0
 · rename_i h1;exact qE h1.1
 · cases h0
section
variable {w w':World} {N:Nat} (hs:w'.heap.size=w.heap.size) (hb:∀b,b≠N→w'.heap[b]?=w.heap[b]?) (hn:jeQ N w)
include hs hb hn
theorem jkt {v1 v2 v3:Value} {n:Nod} (hf:jcs n) (h:zp w v1 v2 v3 n):zp w' v1 v2 v3 n:=⟨h.size,jiw hf.cap h.cap hs hb hn,YR (jd5 hf.labels) h.labels hs hb hn,YR (jim _) h.taints hs hb hn⟩
theorem Jl {v1 v2 v3 v4:Value} {n:Pd} (hf:jaT n) (h:js w v1 v2 v3 v4 n):js w' v1 v2 v3 v4 n:=⟨h.name,h.owner,h.key,h.node,h.prio,h.most,jiw hf.need h.need hs hb hn,YR (jd5 hf.labels) h.labels hs hb hn,YR (jes _) h.sel hs hb hn,YR (jim _) h.tols hs hb hn⟩
theorem jkd {v:Value} {l:List Nod} (hf:∀n ∈ l,jcs n) (h:zV w v l):zV w' v l:=by
 obtain⟨a,cap,rfl,h1,h2,h3⟩:=h;obtain⟨lx,hm,hr,hat⟩:=jcX h3;exact⟨a,cap,rfl,h1,h2,by
  rw[←hm];exact Y7 (by rw[hm];exact jbT (jly lx) hr hs hb hn) fun z hz=>jkt hs hb hn (hf _ (by rw[←hm];exact List.mem_map_of_mem hz)) (hat z hz)⟩
theorem jlZ {v:Value} {l:List Pd} (hf:∀n ∈ l,jaT n) (h:zr w v l):zr w' v l:=by
 obtain⟨a,cap,rfl,h1,h2,h3⟩:=h;obtain⟨lx,hm,hr,hat⟩:=jcY h3;have hfx:∀z ∈ lx,jaT z.1:=fun z hz=>hf _ (by rw[←hm];exact List.mem_map_of_mem hz);exact⟨a,cap,rfl,h1,h2,by
  rw[←hm];exact jbA (by rw[hm];exact jbT (jlX fun z hz=>(hfx z hz).name) hr hs hb hn) fun z hz=>Jl hs hb hn (hfx z hz) (hat z hz)⟩
theorem jlL {v:Value} {l:List Bd} (h:JG w v l):JG w' v l:=by
 obtain⟨a,cap,rfl,h1,h2,h3⟩:=h;obtain⟨lx,hm,hr,hat⟩:=jcQ h3;exact⟨a,cap,rfl,h1,h2,by
  rw[←hm];exact jfl (by rw[hm];exact jbT (jle lx) hr hs hb hn) fun z hz=>by
   have g:=hat z hz;exact⟨g.name,g.floor,YR (jes _) g.sel hs hb hn⟩⟩
theorem Zu {v:Value} {s:Clu} (hf:∀n ∈ s.nodes,jcs n) (hg:∀n ∈ s.pods,jaT n) (h:jA w v s):jA w' v s:=by
 obtain⟨v1,v2,v3,e,g⟩:=h;exact⟨v1,v2,v3,e,jkd hs hb hn hf g.nodes,jlZ hs hb hn hg g.pods,jlL hs hb hn g.buds⟩
end
theorem zC {v1 v2 v3 v4:Value} {n:Pd} {w w':World} {M:Nat} (hs:w'.heap.size=w.heap.size) (hbM:∀b,b≠M→w'.heap[b]?=w.heap[b]?) (hm:Yy w M) (h:js w v1 v2 v3 v4 n):js w' v1 v2 v3 v4 n:=⟨h.name,h.owner,h.key,h.node,h.prio,h.most,jbw h.need hs hbM hm.noRow,Zc jk4 h.labels hs hbM hm,Zc jhL h.sel hs hbM hm,Zc jk5 h.tols hs hbM hm⟩
theorem jhO {s:Clu} (h:Sound s):∀n ∈ s.nodes,jcs n:=fun n hn=>by
 have hN:=h.parts.nodes;unfold jS at hN;split at hN
 · cases hN
 · exact jky ((Xa hN).2.2 n hn) (h.cap n hn)
theorem jjt {s:Clu} (h:Sound s):∀p ∈ s.pods,jaT p:=fun p hp=>by
 have hP:=h.parts.pods;unfold zi at hP;split at hP
 · cases hP
 · exact je5 (jcJ hP p hp) (h.need p hp)
end Go.Proofs.YtmlgobiifebjkabGreat
