/- C. -/
import Derived.Test.YtmlgobiifebjkabGreatG1
import Derived.Test.YtmlgobiifebjkabGreatG2
import Derived.Test.YtmlgobiifebjkabGreatG6
import Derived.Test.YtmlgobiifebjkabGreatG11
import Derived.Test.YtmlgobiifebjkabGreatG12
set_option linter.unusedVariables false
set_option maxRecDepth 100000
set_option maxHeartbeats 25600000
namespace Go.Proofs.YtmlgobiifebjkabGreat
open Go.RowKit
theorem jkQ {W:World} {X:Option Addr} {c:Nat}:Z4 W (.slice X 0 c) 0 []:=by
 cases X with
 | none=>exact .inr ⟨c,rfl,rfl⟩
 | some ad=>exact .inl ⟨ad,c,rfl,fun j u hu=>by simp at hu⟩
theorem jbt {W:World} {b off m cp k:Nat} {lx:List PX} (h:jh jg W (some ⟨b,off,none⟩) m lx) (hk:k≤m) (hc:m≤cp) :
 Z4 W (.slice (if cp=k then some ⟨b,off,none⟩ else some ⟨b,off+k*11,none⟩) (m-k) (cp-k)) (m-k) (jb jg (lx.drop k)):=by
 have hl:=h.1;by_cases z:cp=k
 · rw[if_pos z];have hd:lx.drop k=[]:=List.eq_nil_of_length_eq_zero (by rw[List.length_drop];omega);rw[hd];exact .inl ⟨_,_,rfl,fun j u hu=>by simp[jb] at hu⟩
 · rw[if_neg z];have:=h.postP (k:=k) (by omega);rw[hl] at this;exact jh.src this
theorem jaR {W:World} {B g n c k:Nat} {T:TypeId} {lx ly:List PX} (h:W.ownsRow B T 11 (.slice (some ⟨g,0,none⟩) n c) n (jb jg ly++jb jg (lx.drop k))) (hn:ly.length+(lx.drop k).length=n):Own jg T W B (.slice (some ⟨g,0,none⟩) n c) (ly++lx.drop k):=by
 refine⟨?_,fun _ _=>trivial⟩;rw[List.length_append,hn,zJ];exact h
theorem jk9 {v u:Value} {s:Clu} {p:Pd} {w:World} (h:jA w v s) (g:YN w u p) (hl:s.pods.length≤100000):Calls Tryz.prog 66 #[v,u] w (qv (jfs s p) w):=by
 have h0:=h;obtain⟨v1,v2,v3,rfl,⟨a,cap,rfl,-,-,-⟩,⟨b,cp,rfl,-,-,-⟩,⟨d,cb,rfl,-,-,-⟩⟩:=h0;obtain⟨len,hl1⟩:∃q,s.nodes.length=q:=⟨_,rfl⟩
 obtain⟨m,hl2⟩:∃q,s.pods.length=q:=⟨_,rfl⟩
 obtain⟨n,hl3⟩:∃q,s.buds.length=q:=⟨_,rfl⟩
 rw[hl1,hl2,hl3] at h ⊢;rw[hl2] at hl;clear hl1 hl2 hl3;obtain⟨_,_,_,_,rfl,hatp⟩:=g;have g0:=hatp;obtain⟨pa1,pm1,pc1,pa2,pm2,pc2,pa3,pm3,pc3,pa4,pm4,pc4,rfl,rfl,rfl,rfl⟩:=g0.spelt;clear g0;unfold jr;obtain⟨Z,hZ⟩:∃Z,((w.alloc (.cells #[.slice a len cap,.slice b m cp,.slice d n cb] 51)).alloc (.cells #[.string p.name,.string p.owner,.int .i64 p.prio,.slice pa1 pm1 pc1,.slice pa2 pm2 pc2,.slice pa3 pm3 pc3,.slice pa4 pm4 pc4,.string p.key,.int .i64 p.most,.string p.node,.bool p.hold] 45)).alloc (.cells #[.slice none 0 0,.slice none 0 0,.slice none 0 0] 51)=Z:=⟨_,rfl⟩
 have hkz:Kept w Z:=by rw[←hZ];exact(jm _ _ _).trans (ja _ _)
 have HQ:=lH (show jf w.heap.size [.slice a len cap,.slice b m cp,.slice d n cb] Z from jd w (.slice a len cap) [.slice b m cp,.slice d n cb] 51 Z (by rw[←hZ];exact(ja _ _).trans (ja _ _)));have Vf:=lH (show jf (w.heap.size+1) [.string p.name,.string p.owner,.int .i64 p.prio,.slice pa1 pm1 pc1,.slice pa2 pm2 pc2,.slice pa3 pm3 pc3,.slice pa4 pm4 pc4,.string p.key,.int .i64 p.most,.string p.node,.bool p.hold] Z by
  have dd:=jd (w.alloc (.cells #[.slice a len cap,.slice b m cp,.slice d n cb] 51)) (.string p.name) [.string p.owner,.int .i64 p.prio,.slice pa1 pm1 pc1,.slice pa2 pm2 pc2,.slice pa3 pm3 pc3,.slice pa4 pm4 pc4,.string p.key,.int .i64 p.most,.string p.node,.bool p.hold] 45 Z (by rw[←hZ];exact ja _ _);rw[World.size_alloc] at dd;exact dd)
 have HH:=lH (show jf (w.heap.size+2) [.slice none 0 0,.slice none 0 0,.slice none 0 0] Z by
  have dd:=jd ((w.alloc (.cells #[.slice a len cap,.slice b m cp,.slice d n cb] 51)).alloc (.cells #[.string p.name,.string p.owner,.int .i64 p.prio,.slice pa1 pm1 pc1,.slice pa2 pm2 pc2,.slice pa3 pm3 pc3,.slice pa4 pm4 pc4,.string p.key,.int .i64 p.most,.string p.node,.bool p.hold] 45)) (.slice none 0 0) [.slice none 0 0,.slice none 0 0] 51 Z (by rw[hZ];exact Kept.refl _);rw[World.size_alloc,World.size_alloc] at dd;exact dd)
 have Tl:=lH (show ∀W,Kept Z W→Yy W (w.heap.size+2) from fun W k=>by
  have hh:Z.heap[w.heap.size+2]?=some (.cells #[.slice none 0 0,.slice none 0 0,.slice none 0 0] 51):=by
   have:=((w.alloc (.cells #[.slice a len cap,.slice b m cp,.slice d n cb] 51)).alloc (.cells #[.string p.name,.string p.owner,.int .i64 p.prio,.slice pa1 pm1 pc1,.slice pa2 pm2 pc2,.slice pa3 pm3 pc3,.slice pa4 pm4 pc4,.string p.key,.int .i64 p.most,.string p.node,.bool p.hold] 45)).alloc_heap_new (.cells #[.slice none 0 0,.slice none 0 0,.slice none 0 0] 51);rw[World.size_alloc,World.size_alloc,hZ] at this;exact this
  exact zk ((k.block _ (Array.getElem?_eq_some_iff.1 hh).1).trans hh))
 have HV:=lH (h.kept hkz);have Nr:=lH (js.kept hatp hkz);have Ve:=lH hkz;clear hatp;have Ue:=lH (show m≤cp by
  have hp:zr w (.slice b m cp) s.pods:=by
   obtain⟨_,_,_,e,g9⟩:=h
   cases e
   exact g9.pods
  obtain⟨_,_,e,h1,-,h3⟩:=hp
  cases e
  exact h1)
 clear h hkz;obtain⟨lx,hlx,hrow,hat4⟩:=jgL HV.out.podsAt;have UH:=lH hrow;have Tw:=lH hlx;have Vu:=lH hat4;have hlen:lx.length=m:=hrow.1;have Vi:=lH hlen;have hmm:=hrow.2.1;unfold maxLen at hmm;clear hrow hlx hat4 hlen;have UY:=lH (show ∀W,Kept Z W→W.cell? ⟨w.heap.size,0,none⟩=some (.slice a len cap)∧W.cell? ⟨w.heap.size,1,none⟩=some (.slice b m cp)∧W.cell? ⟨w.heap.size,2,none⟩=some (.slice d n cb) from fun W k=>⟨(HQ.out.kept k).at_ 0 _ rfl,(HQ.out.kept k).at_ 1 _ rfl,(HQ.out.kept k).at_ 2 _ rfl⟩);have Ui:=lH (show ∀W,Kept Z W→W.cell? ⟨w.heap.size,1,none⟩=some (.slice b m cp)∧W.cell? ⟨w.heap.size+1,0,none⟩=some (.string p.name)∧W.cell? ⟨w.heap.size+1,1,none⟩=some (.string p.owner)∧W.cell? ⟨w.heap.size+1,2,none⟩=some (.int .i64 p.prio)∧W.cell? ⟨w.heap.size+1,3,none⟩=some (.slice pa1 pm1 pc1)∧W.cell? ⟨w.heap.size+1,4,none⟩=some (.slice pa2 pm2 pc2)∧W.cell? ⟨w.heap.size+1,5,none⟩=some (.slice pa3 pm3 pc3)∧W.cell? ⟨w.heap.size+1,6,none⟩=some (.slice pa4 pm4 pc4)∧W.cell? ⟨w.heap.size+1,7,none⟩=some (.string p.key)∧W.cell? ⟨w.heap.size+1,8,none⟩=some (.int .i64 p.most)∧W.cell? ⟨w.heap.size+1,9,none⟩=some (.string p.node)∧W.cell? ⟨w.heap.size+1,10,none⟩=some (.bool p.hold) from fun W k=>⟨(HQ.out.kept k).at_ 1 _ rfl,(Vf.out.kept k).at_ 0 _ rfl,(Vf.out.kept k).at_ 1 _ rfl,(Vf.out.kept k).at_ 2 _ rfl,(Vf.out.kept k).at_ 3 _ rfl,(Vf.out.kept k).at_ 4 _ rfl,(Vf.out.kept k).at_ 5 _ rfl,(Vf.out.kept k).at_ 6 _ rfl,(Vf.out.kept k).at_ 7 _ rfl,(Vf.out.kept k).at_ 8 _ rfl,(Vf.out.kept k).at_ 9 _ rfl,(Vf.out.kept k).at_ 10 _ rfl⟩);have Ns:=lH (show ∀U W:World,(∀b,b≠w.heap.size+2→U.heap[b]?=W.heap[b]?)→Kept Z W→U.cell? ⟨w.heap.size,0,none⟩=some (.slice a len cap)∧U.cell? ⟨w.heap.size,1,none⟩=some (.slice b m cp)∧U.cell? ⟨w.heap.size,2,none⟩=some (.slice d n cb) from fun U W e k=>by
  have c:=(HQ.out.kept k).block (e _ (by omega));exact⟨c.at_ 0 _ rfl,c.at_ 1 _ rfl,c.at_ 2 _ rfl⟩)
 obtain⟨K0,hK0⟩:∃q,JO p.name s.pods=q:=⟨_,rfl⟩
 obtain⟨KH,hKH⟩:∃q,Yd p.name s.pods K0=q:=⟨_,rfl⟩
 have Vh:=lH hK0;have T6:=lH hKH;have hk0m:K0≤m:=by
  have:=jgv p.name s.pods;have e:=congrArg List.length Tw.out;rw[List.length_map,Vi.out] at e;omega
 have UF:=lH (show s.pods.length=m by have e:=congrArg List.length Tw.out;rw[List.length_map,Vi.out] at e;exact e.symm);clear hK0 hKH;go_enter Tryz.func66,Tryz.ntmps66;go_upto_region 1 with fail
 try rw[hZ]
 clear hZ;go_wp2;go_loopw [5] (fun i wr=>∃k:Nat,k≤K0∧i=.int .i64 k∧Kept Z wr) (fun i _=>m-(intOf i).toNat)
 case atStart=>exact⟨0,Nat.zero_le _,rfl,Kept.refl _⟩
 case round =>
  obtain⟨k,hk,rfl,hK⟩:=hrel;have HK:=lH hK;have cq0:=(HQ.out.kept hK).at_ 0 _ rfl;have cq1:=(HQ.out.kept hK).at_ 1 _ rfl;have cq2:=(HQ.out.kept hK).at_ 2 _ rfl;have pq0:=(Vf.out.kept hK).at_ 0 _ rfl;have pq1:=(Vf.out.kept hK).at_ 1 _ rfl;have pq2:=(Vf.out.kept hK).at_ 2 _ rfl;have pq3:=(Vf.out.kept hK).at_ 3 _ rfl;have pq4:=(Vf.out.kept hK).at_ 4 _ rfl;have pq5:=(Vf.out.kept hK).at_ 5 _ rfl;have pq6:=(Vf.out.kept hK).at_ 6 _ rfl;have pq7:=(Vf.out.kept hK).at_ 7 _ rfl;have pq8:=(Vf.out.kept hK).at_ 8 _ rfl;have pq9:=(Vf.out.kept hK).at_ 9 _ rfl;have pq10:=(Vf.out.kept hK).at_ 10 _ rfl;clear cq0 cq2;by_cases hlt:k<m
  · have hkk:(k:Int)<(m:Int):=by omega
    have hk0:¬(k:Int)<0:=by omega
    obtain⟨b9,off,rfl⟩:=UH.out.form.resolve_left (by omega);obtain⟨z,hz,hd,hb,-,hc⟩:=UH.out.cells hlt;obtain⟨n9,⟨a1,m1,c1⟩,⟨a2,m2,c2⟩,⟨a3,m3,c3⟩,⟨a4,m4,c4⟩⟩:=z;have p0:Z.cell? ⟨b9,off+k*11,none⟩=some (.string n9.name):=hc 0 _ rfl;have p1:Z.cell? ⟨b9,off+k*11+1,none⟩=some (.string n9.owner):=hc 1 _ rfl;have p2:Z.cell? ⟨b9,off+k*11+2,none⟩=some (.int .i64 n9.prio):=hc 2 _ rfl;have p3:Z.cell? ⟨b9,off+k*11+3,none⟩=some (.slice a1 m1 c1):=hc 3 _ rfl;have p4:Z.cell? ⟨b9,off+k*11+4,none⟩=some (.slice a2 m2 c2):=hc 4 _ rfl;have p5:Z.cell? ⟨b9,off+k*11+5,none⟩=some (.slice a3 m3 c3):=hc 5 _ rfl;have p6:Z.cell? ⟨b9,off+k*11+6,none⟩=some (.slice a4 m4 c4):=hc 6 _ rfl;have p7:Z.cell? ⟨b9,off+k*11+7,none⟩=some (.string n9.key):=hc 7 _ rfl;have p8:Z.cell? ⟨b9,off+k*11+8,none⟩=some (.int .i64 n9.most):=hc 8 _ rfl;have p9:Z.cell? ⟨b9,off+k*11+9,none⟩=some (.string n9.node):=hc 9 _ rfl;have p10:Z.cell? ⟨b9,off+k*11+10,none⟩=some (.bool n9.hold):=hc 10 _ rfl;have UB:=lH (show s.pods[k]?=some n9 by rw[←Tw.out,List.getElem?_map,hz];rfl);have T8:=lH p0;obtain⟨e1,he1⟩:∃e,ltS n9.name p.name=e:=⟨_,rfl⟩
    have he1':Op.bytesLess n9.name.toList p.name.toList=e1:=he1;obtain⟨e2,he2⟩:∃e,eqS n9.name p.name=e:=⟨_,rfl⟩
    have he2':(n9.name.toList==p.name.toList)=e2:=he2;have UI:=lH he1;have Nt:=lH he2;have Rv:=lH (jdz UB.out (by rw[Vh.out];exact hk));have U0:=lH (show ∀W,Kept wr W→W.cell? ⟨w.heap.size,1,none⟩=some (.slice (some ⟨b9,off,none⟩) m cp)∧W.cell? ⟨w.heap.size+1,0,none⟩=some (.string p.name)∧W.cell? ⟨b9,off+k*11,none⟩=some (.string n9.name) from fun W kk=>⟨(Ui.out W (HK.out.trans kk)).1,(Ui.out W (HK.out.trans kk)).2.1,cell_later (HK.out.trans kk) T8.out⟩);clear hz hd hb hc he1 he2 hK p0 p1 p2 p3 p4 p5 p6 p7 p8 p9 p10 cq1 pq0 pq1 pq2 pq3 pq4 pq5 pq6 pq7 pq8 pq9 pq10;go_upto_region 2 with fail
    refine wp_region_held_drew (S:=fun W=>W.cell? ⟨w.heap.size,1,none⟩=some (.slice (some ⟨b9,off,none⟩) m cp)∧W.cell? ⟨w.heap.size+1,0,none⟩=some (.string p.name)∧W.cell? ⟨b9,off+k*11,none⟩=some (.string n9.name)) (by kernel_rfl) (U0.out _ (Kept.drew _)) (fun hHeld=>?_);refine tkI 0 ?_;refine tkI 1 ?_;refine tkI 2 ?_;refine tkI 3 ?_;refine tkI 4 ?_;refine tkI 5 ?_;refine tkI 6 ?_;refine tkI 7 ?_;refine tkI 8 ?_;refine tkI 9 ?_;refine tkI 10 ?_;refine tkI 11 ?_;refine tkI 12 ?_;refine tkI 13 ?_;refine tkI 14 ?_;refine tkI 15 ?_;try simp only[nP]
    refine wpAnyH_done (by kernel_rfl) ?_ _
    cases e1 with
    | true =>
     go_wp2;go_roundw
     case rel=>exact⟨k+1,by have:=Rv.out.1 UI.out;rw[Vh.out] at this;exact this,by go_num,HK.out.trans (Kept.drew _)⟩
     case measure=>simp[intOf];omega
    | false =>
     obtain rfl:K0=k:=by have:=Rv.out.2 UI.out;rw[Vh.out] at this;exact this
     clear Rv U0;obtain⟨wb,hwb⟩:∃W,wr.drew=W:=⟨_,rfl⟩
     have Tj:=lH (show Kept Z wb by rw[←hwb];exact(HK.out.trans (Kept.drew _)));try rw[hwb]
     clear hwb;go_upto_region 4 with fail
     go_cut [6] from 25 to 33 (fun s6 wx=>∃g c,s6=.slice (some ⟨g,0,none⟩) (K0+1) c∧Hid (Own jg 45 wx Z.heap.size (.slice (some ⟨g,0,none⟩) (K0+1) c) (lx.take K0++[(p,(pa1,pm1,pc1),(pa2,pm2,pc2),(pa3,pm3,pc3),(pa4,pm4,pc4))])∧Kept Z wx))
     case first =>
      have J:=lH (Kept.drew wb);have JK:=lH Tj.out;have HF:=lH (fun W (k:Kept wb W)=>Ui.out W (JK.out.trans k));have hkI:((K0:Int)).toNat=K0:=by omega
      have hk0i:(0:Int)≤(K0:Int):=by omega
      have hkmI:(K0:Int)≤(m:Int):=by omega
      have hkcI:K0≤cp:=by have:=Ue.out;omega
      have hkcI2:(K0:Int)≤(cp:Int):=by omega
      have VD:=lH (show Z.heap.size≤wb.heap.size from JK.out.size);refine wp_region_held_drew (S:=fun W=>W.cell? ⟨w.heap.size,1,none⟩=some (.slice (some ⟨b9,off,none⟩) m cp)∧W.cell? ⟨w.heap.size+1,0,none⟩=some (.string p.name)∧W.cell? ⟨w.heap.size+1,1,none⟩=some (.string p.owner)∧W.cell? ⟨w.heap.size+1,2,none⟩=some (.int .i64 p.prio)∧W.cell? ⟨w.heap.size+1,3,none⟩=some (.slice pa1 pm1 pc1)∧W.cell? ⟨w.heap.size+1,4,none⟩=some (.slice pa2 pm2 pc2)∧W.cell? ⟨w.heap.size+1,5,none⟩=some (.slice pa3 pm3 pc3)∧W.cell? ⟨w.heap.size+1,6,none⟩=some (.slice pa4 pm4 pc4)∧W.cell? ⟨w.heap.size+1,7,none⟩=some (.string p.key)∧W.cell? ⟨w.heap.size+1,8,none⟩=some (.int .i64 p.most)∧W.cell? ⟨w.heap.size+1,9,none⟩=some (.string p.node)∧W.cell? ⟨w.heap.size+1,10,none⟩=some (.bool p.hold)) (by kernel_rfl) (HF.out _ J.out) (fun hHeld=>?_);obtain⟨wd,hwd⟩:∃W,wb.drew=W:=⟨_,rfl⟩
      rw[hwd] at J hHeld;try rw[hwd]
      clear hwd;refine tkI 1 ?_;refine tkI 2 ?_;refine tkI 3 ?_;refine tkI 4 ?_;refine tkI 6 ?_;try simp only[nP]
      refine rdH (rs:=[0,7]) (h:=coH (fun K9 Ky=>?_) (coH (fun K9 Ky=>?_) AllReadyH.nil))
      · skip;go_simp;refine Ky.out _ _ (HF.out _ (J.out.trans (ja _ _))) (fun _=>?_);clear Ky K9;try simp only[nP]
        obtain⟨W0,hW0⟩:∃W,wd.alloc (.cells #[] 45)=W:=⟨_,rfl⟩
        have hk0:Kept wd W0:=by rw[←hW0];exact ja _ _
        have VS:=lH (show W0.ownsRow Z.heap.size 45 11 (.slice (some ⟨wd.heap.size,0,none⟩) 0 0) 0 [] by rw[←hW0];exact zl _ _ 11 _ (Nat.le_trans VD.out J.out.size));have Uh:=lH (show wd.heap.size<W0.heap.size by rw[←hW0,World.size_alloc];exact Nat.lt_succ_self _);have J:=lH (J.out.trans hk0);obtain⟨q0,hq0⟩:∃q,wd.heap.size=q:=⟨_,rfl⟩
        rw[hq0] at VS Uh;try rw[hW0]
        try rw[hq0]
        clear hW0 hk0 hq0;refine rdH (rs:=[5,7]) (h:=coH (fun K9 Ky=>?_) (coH (fun K9 Ky=>?_) AllReadyH.nil))
        · skip;refine jz Jy _ rfl (.tmp 25) (.tmp 29) rfl Z.heap.size (Nat.le_trans VD.out J.out.size) q0 0 0 [] rfl VS.out _ K0 (jb jg (lx.take K0)) rfl ?_ (jB _ _) (jh.src ((UH.out.low hk0m).kept (JK.out.trans J.out))) (by unfold maxLen;omega) (by omega) ?_
          · rw[jt,List.length_take,Vi.out,Nat.min_eq_left hk0m];rfl
          rintro g5 c5 W1 ho5 hd5 hg5;simp only[Nat.zero_add,List.nil_append] at ho5 ⊢;have VZ:=lH (show Own jg 45 W1 Z.heap.size (.slice (some ⟨g5,0,none⟩) K0 c5) (lx.take K0) from⟨by rw[List.length_take,Vi.out,Nat.min_eq_left hk0m];exact ho5,fun _ _=>trivial⟩);have JZ:=lH (show Kept Z W1 from Below.trans (JK.out.trans J.out) hd5);refine Ky.out _ _ (Ui.out _ JZ.out) (fun _=>?_);clear Ky K9 ho5 hd5 hg5;try simp only[nP]
          refine rd1 7 fun K9 Ky=>?_;go_simp;refine Ky.out _ _ (Ui.out _ (JZ.out.trans (ja _ _))) (fun _=>?_);clear Ky K9;try simp only[nP]
          obtain⟨W2,hW2⟩:∃W,W1.alloc (.cells #[.string p.name,.string p.owner,.int .i64 p.prio,.slice pa1 pm1 pc1,.slice pa2 pm2 pc2,.slice pa3 pm3 pc3,.slice pa4 pm4 pc4,.string p.key,.int .i64 p.most,.string p.node,.bool p.hold] 45)=W:=⟨_,rfl⟩
          have hk2:Kept W1 W2:=by rw[←hW2];exact ja _ _
          have H7:=lH (show W2.heap[W1.heap.size]?=some (.cells #[.string p.name,.string p.owner,.int .i64 p.prio,.slice pa1 pm1 pc1,.slice pa2 pm2 pc2,.slice pa3 pm3 pc3,.slice pa4 pm4 pc4,.string p.key,.int .i64 p.most,.string p.node,.bool p.hold] 45 (0,0)) by rw[←hW2];exact World.alloc_heap_new W1 _);have VZ:=lH (show Own jg 45 W2 Z.heap.size (.slice (some ⟨g5,0,none⟩) K0 c5) (lx.take K0) from VZ.out.kept hk2);have JZ:=lH (JZ.out.trans hk2);obtain⟨q7,hq7⟩:∃q,W1.heap.size=q:=⟨_,rfl⟩
          rw[hq7] at H7;try rw[hW2]
          try rw[hq7]
          clear hW2 hk2 hq7;refine rd1 8 fun K9 Ky=>?_;refine jz Jy _ rfl (.tmp 30) (.tmp 32) rfl Z.heap.size JZ.out.size g5 K0 c5 (jb jg (lx.take K0)) rfl (by have:=VZ.out.1;rw[List.length_take,Vi.out,Nat.min_eq_left hk0m] at this;exact this) _ 1 (jg.cs (p,(pa1,pm1,pc1),(pa2,pm2,pc2),(pa3,pm3,pc3),(pa4,pm4,pc4))) rfl rfl (JN _) (Jf rfl H7.out) (by unfold maxLen;omega) (by omega) ?_;rintro g8 c8 W3 ho8 hd8 hg8;have Uf:=lH (show Own jg 45 W3 Z.heap.size (.slice (some ⟨g8,0,none⟩) (K0+1) c8) (lx.take K0++[(p,(pa1,pm1,pc1),(pa2,pm2,pc2),(pa3,pm3,pc3),(pa4,pm4,pc4))]) from Own.snoc ho8 (by rw[List.length_take,Vi.out,Nat.min_eq_left hk0m]) (fun _ _=>trivial) trivial);have JZ:=lH (show Kept Z W3 from Below.trans JZ.out hd8);refine Ky.out _ _ (Ui.out _ JZ.out) (fun _=>?_);clear Ky K9 ho8 hd8 hg8;try simp only[nP]
          refine tkI 9 ?_;try simp only[nP]
          refine wpAnyH_done (by kernel_rfl) ?_ _;go_wp2;go_meet
          case rel=>exact⟨g8,c8,rfl,lH ⟨Uf.out,JZ.out⟩⟩
        · skip;go_simp;refine Ky.out _ _ (HF.out _ (J.out.trans (ja _ _))) (fun _=>?_);clear Ky K9;try simp only[nP]
          obtain⟨W1,hW1⟩:∃W,W0.alloc (.cells #[.string p.name,.string p.owner,.int .i64 p.prio,.slice pa1 pm1 pc1,.slice pa2 pm2 pc2,.slice pa3 pm3 pc3,.slice pa4 pm4 pc4,.string p.key,.int .i64 p.most,.string p.node,.bool p.hold] 45)=W:=⟨_,rfl⟩
          have hk1:Kept W0 W1:=by rw[←hW1];exact ja _ _
          have H7:=lH (show W1.heap[W0.heap.size]?=some (.cells #[.string p.name,.string p.owner,.int .i64 p.prio,.slice pa1 pm1 pc1,.slice pa2 pm2 pc2,.slice pa3 pm3 pc3,.slice pa4 pm4 pc4,.string p.key,.int .i64 p.most,.string p.node,.bool p.hold] 45 (0,0)) by rw[←hW1];exact World.alloc_heap_new W0 _);have Vv:=lH (show W0.heap.size<W1.heap.size by rw[←hW1,World.size_alloc];exact Nat.lt_succ_self _);have VS:=lH (show W1.ownsRow Z.heap.size 45 11 (.slice (some ⟨q0,0,none⟩) 0 0) 0 [] by rw[←hW1];exact JH VS.out _);have Ug:=lH (show W0.heap.size≠q0 by have:=Uh.out;omega);have J:=lH (J.out.trans hk1);obtain⟨q7,hq7⟩:∃q,W0.heap.size=q:=⟨_,rfl⟩
          rw[hq7] at H7 Vv Ug;try rw[hW1]
          try rw[hq7]
          clear hW1 hk1 hq7;refine rd1 5 fun K9 Ky=>?_;refine jz Jy _ rfl (.tmp 25) (.tmp 29) rfl Z.heap.size (Nat.le_trans VD.out J.out.size) q0 0 0 [] rfl VS.out _ K0 (jb jg (lx.take K0)) rfl ?_ (jB _ _) (jh.src ((UH.out.low hk0m).kept (JK.out.trans J.out))) (by unfold maxLen;omega) (by omega) ?_
          · rw[jt,List.length_take,Vi.out,Nat.min_eq_left hk0m];rfl
          rintro g5 c5 W2 ho5 hd5 hg5;simp only[Nat.zero_add,List.nil_append] at ho5 ⊢;have VZ:=lH (show Own jg 45 W2 Z.heap.size (.slice (some ⟨g5,0,none⟩) K0 c5) (lx.take K0) from⟨by rw[List.length_take,Vi.out,Nat.min_eq_left hk0m];exact ho5,fun _ _=>trivial⟩);have JZ:=lH (show Kept Z W2 from Below.trans (JK.out.trans J.out) hd5);have H7:=lH ((hg5.block q7 Vv.out (by intro e;exact Ug.out (Option.some.inj e))).trans H7.out);have Vv:=lH (Nat.lt_of_lt_of_le Vv.out hg5.size);refine Ky.out _ _ (Ui.out _ JZ.out) (fun _=>?_);clear Ky K9 ho5 hd5 hg5;try simp only[nP]
          refine rd1 8 fun K9 Ky=>?_;refine jz Jy _ rfl (.tmp 30) (.tmp 32) rfl Z.heap.size JZ.out.size g5 K0 c5 (jb jg (lx.take K0)) rfl (by have:=VZ.out.1;rw[List.length_take,Vi.out,Nat.min_eq_left hk0m] at this;exact this) _ 1 (jg.cs (p,(pa1,pm1,pc1),(pa2,pm2,pc2),(pa3,pm3,pc3),(pa4,pm4,pc4))) rfl rfl (JN _) (Jf rfl H7.out) (by unfold maxLen;omega) (by omega) ?_;rintro g8 c8 W3 ho8 hd8 hg8;have Uf:=lH (show Own jg 45 W3 Z.heap.size (.slice (some ⟨g8,0,none⟩) (K0+1) c8) (lx.take K0++[(p,(pa1,pm1,pc1),(pa2,pm2,pc2),(pa3,pm3,pc3),(pa4,pm4,pc4))]) from Own.snoc ho8 (by rw[List.length_take,Vi.out,Nat.min_eq_left hk0m]) (fun _ _=>trivial) trivial);have JZ:=lH (show Kept Z W3 from Below.trans JZ.out hd8);refine Ky.out _ _ (Ui.out _ JZ.out) (fun _=>?_);clear Ky K9 ho8 hd8 hg8;try simp only[nP]
          refine tkI 9 ?_;try simp only[nP]
          refine wpAnyH_done (by kernel_rfl) ?_ _;go_wp2;go_meet
          case rel=>exact⟨g8,c8,rfl,lH ⟨Uf.out,JZ.out⟩⟩
      · skip;go_simp;refine Ky.out _ _ (HF.out _ (J.out.trans (ja _ _))) (fun _=>?_);clear Ky K9;try simp only[nP]
        obtain⟨W0,hW0⟩:∃W,wd.alloc (.cells #[.string p.name,.string p.owner,.int .i64 p.prio,.slice pa1 pm1 pc1,.slice pa2 pm2 pc2,.slice pa3 pm3 pc3,.slice pa4 pm4 pc4,.string p.key,.int .i64 p.most,.string p.node,.bool p.hold] 45)=W:=⟨_,rfl⟩
        have hk0:Kept wd W0:=by rw[←hW0];exact ja _ _
        have H7:=lH (show W0.heap[wd.heap.size]?=some (.cells #[.string p.name,.string p.owner,.int .i64 p.prio,.slice pa1 pm1 pc1,.slice pa2 pm2 pc2,.slice pa3 pm3 pc3,.slice pa4 pm4 pc4,.string p.key,.int .i64 p.most,.string p.node,.bool p.hold] 45 (0,0)) by rw[←hW0];exact World.alloc_heap_new wd _);have Vv:=lH (show wd.heap.size<W0.heap.size by rw[←hW0,World.size_alloc];exact Nat.lt_succ_self _);have J:=lH (J.out.trans hk0);obtain⟨q7,hq7⟩:∃q,wd.heap.size=q:=⟨_,rfl⟩
        rw[hq7] at H7 Vv;try rw[hW0]
        try rw[hq7]
        clear hW0 hk0 hq7;refine rd1 0 fun K9 Ky=>?_;go_simp;refine Ky.out _ _ (HF.out _ (J.out.trans (ja _ _))) (fun _=>?_);clear Ky K9;try simp only[nP]
        obtain⟨W1,hW1⟩:∃W,W0.alloc (.cells #[] 45)=W:=⟨_,rfl⟩
        have hk1:Kept W0 W1:=by rw[←hW1];exact ja _ _
        have VS:=lH (show W1.ownsRow Z.heap.size 45 11 (.slice (some ⟨W0.heap.size,0,none⟩) 0 0) 0 [] by rw[←hW1];exact zl _ _ 11 _ (Nat.le_trans VD.out J.out.size));have Uh:=lH (show W0.heap.size<W1.heap.size by rw[←hW1,World.size_alloc];exact Nat.lt_succ_self _);have H7:=lH ((hk1.block _ Vv.out).trans H7.out);have Ug:=lH (show q7≠W0.heap.size by have:=Vv.out;omega);have Vv:=lH (Nat.lt_of_lt_of_le Vv.out hk1.size);have J:=lH (J.out.trans hk1);obtain⟨q0,hq0⟩:∃q,W0.heap.size=q:=⟨_,rfl⟩
        rw[hq0] at VS Uh Ug;try rw[hW1]
        try rw[hq0]
        clear hW1 hk1 hq0;refine rd1 5 fun K9 Ky=>?_;refine jz Jy _ rfl (.tmp 25) (.tmp 29) rfl Z.heap.size (Nat.le_trans VD.out J.out.size) q0 0 0 [] rfl VS.out _ K0 (jb jg (lx.take K0)) rfl ?_ (jB _ _) (jh.src ((UH.out.low hk0m).kept (JK.out.trans J.out))) (by unfold maxLen;omega) (by omega) ?_
        · rw[jt,List.length_take,Vi.out,Nat.min_eq_left hk0m];rfl
        rintro g5 c5 W2 ho5 hd5 hg5;simp only[Nat.zero_add,List.nil_append] at ho5 ⊢;have VZ:=lH (show Own jg 45 W2 Z.heap.size (.slice (some ⟨g5,0,none⟩) K0 c5) (lx.take K0) from⟨by rw[List.length_take,Vi.out,Nat.min_eq_left hk0m];exact ho5,fun _ _=>trivial⟩);have JZ:=lH (show Kept Z W2 from Below.trans (JK.out.trans J.out) hd5);have H7:=lH ((hg5.block q7 Vv.out (by intro e;exact Ug.out (Option.some.inj e))).trans H7.out);have Vv:=lH (Nat.lt_of_lt_of_le Vv.out hg5.size);refine Ky.out _ _ (Ui.out _ JZ.out) (fun _=>?_);clear Ky K9 ho5 hd5 hg5;try simp only[nP]
        refine rd1 8 fun K9 Ky=>?_;refine jz Jy _ rfl (.tmp 30) (.tmp 32) rfl Z.heap.size JZ.out.size g5 K0 c5 (jb jg (lx.take K0)) rfl (by have:=VZ.out.1;rw[List.length_take,Vi.out,Nat.min_eq_left hk0m] at this;exact this) _ 1 (jg.cs (p,(pa1,pm1,pc1),(pa2,pm2,pc2),(pa3,pm3,pc3),(pa4,pm4,pc4))) rfl rfl (JN _) (Jf rfl H7.out) (by unfold maxLen;omega) (by omega) ?_;rintro g8 c8 W3 ho8 hd8 hg8;have Uf:=lH (show Own jg 45 W3 Z.heap.size (.slice (some ⟨g8,0,none⟩) (K0+1) c8) (lx.take K0++[(p,(pa1,pm1,pc1),(pa2,pm2,pc2),(pa3,pm3,pc3),(pa4,pm4,pc4))]) from Own.snoc ho8 (by rw[List.length_take,Vi.out,Nat.min_eq_left hk0m]) (fun _ _=>trivial) trivial);have JZ:=lH (show Kept Z W3 from Below.trans JZ.out hd8);refine Ky.out _ _ (Ui.out _ JZ.out) (fun _=>?_);clear Ky K9 ho8 hd8 hg8;try simp only[nP]
        refine tkI 9 ?_;try simp only[nP]
        refine wpAnyH_done (by kernel_rfl) ?_ _;go_wp2;go_meet
        case rel=>exact⟨g8,c8,rfl,lH ⟨Uf.out,JZ.out⟩⟩
     case rest =>
      obtain⟨g,c6,rfl,hcut⟩:=hcut;have Tf:=lH hcut.out.1;have V9:=lH hcut.out.2;clear hcut;have hkw0:(0:Int)≤(K0:Int):=by omega
      go_upto_region 5 with fail
      have hk0:¬(K0:Int)<0:=by omega
      have HF:=lH (show ∀W,Kept wc W→W.cell? ⟨w.heap.size,1,none⟩=some (.slice (some ⟨b9,off,none⟩) m cp)∧W.cell? ⟨w.heap.size+1,0,none⟩=some (.string p.name)∧W.cell? ⟨b9,off+K0*11,none⟩=some (.string n9.name) from fun W kk=>⟨(Ui.out W (V9.out.trans kk)).1,(Ui.out W (V9.out.trans kk)).2.1,cell_later (V9.out.trans kk) T8.out⟩);refine wp_region_held_drew (S:=fun W=>W.cell? ⟨w.heap.size,1,none⟩=some (.slice (some ⟨b9,off,none⟩) m cp)∧W.cell? ⟨w.heap.size+1,0,none⟩=some (.string p.name)∧W.cell? ⟨b9,off+K0*11,none⟩=some (.string n9.name)) (by kernel_rfl) (HF.out _ (Kept.drew _)) (fun hHeld=>?_);refine tkI 0 ?_;refine tkI 1 ?_;refine tkI 2 ?_;refine tkI 3 ?_;refine tkI 4 ?_;refine tkI 5 ?_;refine tkI 6 ?_;refine tkI 7 ?_;refine tkI 8 ?_;refine tkI 9 ?_;refine tkI 10 ?_;refine tkI 11 ?_;refine tkI 12 ?_;refine tkI 13 ?_;refine tkI 14 ?_;refine tkI 15 ?_;try simp only[nP]
      refine wpAnyH_done (by kernel_rfl) ?_ _
      cases e2 with
      | false =>
       have hkh:KH=0:=by rw[←T6.out,jgA UB.out,Nt.out];rfl
       go_upto_region 7 with fail
       obtain⟨wq,hwq⟩:∃W,wc.drew=W:=⟨_,rfl⟩
       have hkd:Kept wc wq:=by rw[←hwq];exact Kept.drew _
       try rw[hwq]
       clear hwq;have Tf:=lH (Tf.out.kept hkd);have V9:=lH (V9.out.trans hkd);clear hkd;obtain⟨KQ,hKQ⟩:∃q:Nat,q=K0:=⟨_,rfl⟩
       have hcast:(K0:Int)=(KQ:Int):=by rw[hKQ]
       rw[hcast];have Rw:=lH (show K0+KH=KQ by rw[hkh];exact hKQ.symm);have hkqm:KQ≤m:=by omega
       clear hKQ hcast hkh;have hqI:((KQ:Int)).toNat=KQ:=by omega
       have hq0i:(0:Int)≤(KQ:Int):=by omega
       have hqmI:(KQ:Int)≤(m:Int):=by omega
       have hqcI:KQ≤cp:=by have:=Ue.out;omega
       go_upto_region 7 with fail
       have J:=lH (Kept.drew wq);refine wp_region_held_drew (S:=fun W=>W.cell? ⟨w.heap.size,0,none⟩=some (.slice a len cap)∧W.cell? ⟨w.heap.size,1,none⟩=some (.slice (some ⟨b9,off,none⟩) m cp)∧W.cell? ⟨w.heap.size,2,none⟩=some (.slice d n cb)) (by kernel_rfl) (UY.out _ (V9.out.trans J.out)) (fun hHeld=>?_);refine tkI 0 ?_;refine tkI 1 ?_;refine tkI 2 ?_;refine tkI 3 ?_;refine tkI 4 ?_;refine tkI 5 ?_;try simp only[nP]
       refine rd1 6 fun K9 Ky=>?_;refine jz Jy _ rfl (.tmp 53) (.tmp 57) rfl Z.heap.size (V9.out.trans J.out).size g (K0+1) c6 (jb jg (lx.take K0++[(p,(pa1,pm1,pc1),(pa2,pm2,pc2),(pa3,pm3,pc3),(pa4,pm4,pc4))])) rfl (by have:=(Tf.out.kept J.out).1;rw[List.length_append,List.length_take,Vi.out,Nat.min_eq_left hk0m] at this;exact this) _ (m-KQ) (jb jg (lx.drop KQ)) rfl ?_ (jB _ _) ?_ (by unfold maxLen;omega) (by omega) ?_
       · rw[jt,List.length_drop,Vi.out];rfl
       · exact jbt (UH.out.kept (V9.out.trans J.out)) hkqm Ue.out
       rintro g9 c9 W6 ho9 hd9 hg9;have JZ:=lH (show Kept Z W6 from Below.trans (V9.out.trans J.out) hd9);have Vz:=lH (show zr W6 (.slice (some ⟨g9,0,none⟩) (K0+1+(m-KQ)) c9) (Je p s.pods) by
        have h9:=ZO (jaR ho9 (by rw[List.length_append,List.length_take,Vi.out,Nat.min_eq_left hk0m,List.length_drop,Vi.out];rfl)) (fun z hz=>by
         rcases List.mem_append.1 hz with hz | hz
         · rcases List.mem_append.1 hz with hz | hz
           · exact js.kept (Vu.out z (List.mem_of_mem_take hz)) JZ.out
           · obtain rfl:=List.mem_singleton.1 hz;exact js.kept Nr.out JZ.out
         · exact js.kept (Vu.out z (List.mem_of_mem_drop hz)) JZ.out)
        rw[List.map_append,List.map_append,List.map_take,List.map_drop,Tw.out] at h9;unfold Je;rw[Vh.out,T6.out,Rw.out];simpa using h9)
       refine Ky.out _ _ (UY.out _ JZ.out) (fun _=>?_);clear Ky K9 ho9 hd9 hg9;try simp only[nP]
       refine rd1 7 fun K9 Ky=>?_;go_simp;obtain⟨m9,hm9⟩:∃q,K0+1+(m-KQ)=q:=⟨_,rfl⟩
       rw[hm9] at Vz;try rw[hm9]
       clear hm9;refine(jaH (HV.out.kept JZ.out) Vz.out).mono ?_;rintro e w9 ⟨y9,rfl,hy,kk⟩;have hy0:=hy;obtain⟨_,_,_,rfl,⟨g1,r1,rfl,-,-,-⟩,⟨g2,r2,rfl,-,-,-⟩,⟨g3,r3,rfl,-,-,-⟩⟩:=hy0;have JZ:=lH (JZ.out.trans kk);obtain⟨t1,ht1⟩:∃q,({ s with pods:=Je p s.pods }:Clu).nodes.length=q:=⟨_,rfl⟩
       rw[ht1] at hy;try rw[ht1]
       clear ht1;obtain⟨t2,ht2⟩:∃q,({ s with pods:=Je p s.pods }:Clu).pods.length=q:=⟨_,rfl⟩
       rw[ht2] at hy;try rw[ht2]
       clear ht2;obtain⟨t3,ht3⟩:∃q,({ s with pods:=Je p s.pods }:Clu).buds.length=q:=⟨_,rfl⟩
       rw[ht3] at hy;try rw[ht3]
       clear ht3;have HY:=lH hy;clear hy kk;refine Ky.out _ _ (UY.out _ JZ.out) (fun _=>?_);clear Ky K9;try simp only[nP]
       have H9:=lH (HH.out.kept JZ.out);have z0:=H9.out.at_ 0 _ rfl;have z1:=H9.out.at_ 1 _ rfl;have z2:=H9.out.at_ 2 _ rfl;have f0:=H9.out.free 0;have f1:=H9.out.free 1;have f2:=H9.out.free 2;have PP:=lH (jW (vs:=[.slice g1 t1 r1,.slice g2 t2 r2,.slice g3 t3 r3]) H9.out rfl);refine rd1 8 fun K9 Ky=>?_;go_simp;obtain⟨WE,hWE⟩:∃W,w9.setCells (w.heap.size+2) 0 [.slice g1 t1 r1,.slice g2 t2 r2,.slice g3 t3 r3]=W:=⟨_,rfl⟩
       have hWE2:(((w9.setCell ⟨(w.heap.size+2),0,none⟩ (.slice g1 t1 r1)).setCell ⟨(w.heap.size+2),1,none⟩ (.slice g2 t2 r2)).setCell ⟨(w.heap.size+2),2,none⟩ (.slice g3 t3 r3))=WE:=hWE;rw[hWE] at PP;try rw[hWE2]
       clear hWE hWE2;obtain⟨PC,hsz,hbl,hkp⟩:=PP.out;refine Ky.out _ _ (Ns.out _ _ hbl JZ.out) (fun _=>?_);clear Ky K9 z0 z1 z2 f0 f1 f2;try simp only[nP]
       refine wpAnyH_done (by kernel_rfl) ?_ _;obtain⟨A2,hA2⟩:∃A,(if cp=KQ then some (⟨b9,off,none⟩:Addr) else some ⟨b9,off+KQ*11,none⟩)=A:=⟨_,rfl⟩
       try rw[hA2]
       clear hA2;go_wp2;refine bodyPost_ret (by simp[results,Tryz.results66,go_sem,PC.at_ 0 _ rfl,PC.at_ 1 _ rfl,PC.at_ 2 _ rfl];try rfl) rfl ?_;exact⟨_,rfl,zj hsz hbl (Tl.out _ JZ.out) HY.out,hkp _ _ (Nat.le_add_right _ _) (Ve.out.trans JZ.out)⟩
      | true =>
       have hkh:KH=1:=by rw[←T6.out,jgA UB.out,Nt.out];rfl
       go_upto_region 7 with fail
       obtain⟨wq,hwq⟩:∃W,wc.drew=W:=⟨_,rfl⟩
       have hkd:Kept wc wq:=by rw[←hwq];exact Kept.drew _
       try rw[hwq]
       clear hwq;have Tf:=lH (Tf.out.kept hkd);have V9:=lH (V9.out.trans hkd);clear hkd;obtain⟨KQ,hKQ⟩:∃q:Nat,q=K0+1:=⟨_,rfl⟩
       have hcast:(K0:Int)+1=(KQ:Int):=by rw[hKQ];push_cast;rfl
       rw[hcast];have Rw:=lH (show K0+KH=KQ by rw[hkh];exact hKQ.symm);have hkqm:KQ≤m:=by omega
       clear hKQ hcast hkh;have hqI:((KQ:Int)).toNat=KQ:=by omega
       have hq0i:(0:Int)≤(KQ:Int):=by omega
       have hqmI:(KQ:Int)≤(m:Int):=by omega
       have hqcI:KQ≤cp:=by have:=Ue.out;omega
       go_upto_region 7 with fail
       have J:=lH (Kept.drew wq);refine wp_region_held_drew (S:=fun W=>W.cell? ⟨w.heap.size,0,none⟩=some (.slice a len cap)∧W.cell? ⟨w.heap.size,1,none⟩=some (.slice (some ⟨b9,off,none⟩) m cp)∧W.cell? ⟨w.heap.size,2,none⟩=some (.slice d n cb)) (by kernel_rfl) (UY.out _ (V9.out.trans J.out)) (fun hHeld=>?_);refine tkI 0 ?_;refine tkI 1 ?_;refine tkI 2 ?_;refine tkI 3 ?_;refine tkI 4 ?_;refine tkI 5 ?_;try simp only[nP]
       refine rd1 6 fun K9 Ky=>?_;refine jz Jy _ rfl (.tmp 53) (.tmp 57) rfl Z.heap.size (V9.out.trans J.out).size g (K0+1) c6 (jb jg (lx.take K0++[(p,(pa1,pm1,pc1),(pa2,pm2,pc2),(pa3,pm3,pc3),(pa4,pm4,pc4))])) rfl (by have:=(Tf.out.kept J.out).1;rw[List.length_append,List.length_take,Vi.out,Nat.min_eq_left hk0m] at this;exact this) _ (m-KQ) (jb jg (lx.drop KQ)) rfl ?_ (jB _ _) ?_ (by unfold maxLen;omega) (by omega) ?_
       · rw[jt,List.length_drop,Vi.out];rfl
       · exact jbt (UH.out.kept (V9.out.trans J.out)) hkqm Ue.out
       rintro g9 c9 W6 ho9 hd9 hg9;have JZ:=lH (show Kept Z W6 from Below.trans (V9.out.trans J.out) hd9);have Vz:=lH (show zr W6 (.slice (some ⟨g9,0,none⟩) (K0+1+(m-KQ)) c9) (Je p s.pods) by
        have h9:=ZO (jaR ho9 (by rw[List.length_append,List.length_take,Vi.out,Nat.min_eq_left hk0m,List.length_drop,Vi.out];rfl)) (fun z hz=>by
         rcases List.mem_append.1 hz with hz | hz
         · rcases List.mem_append.1 hz with hz | hz
           · exact js.kept (Vu.out z (List.mem_of_mem_take hz)) JZ.out
           · obtain rfl:=List.mem_singleton.1 hz;exact js.kept Nr.out JZ.out
         · exact js.kept (Vu.out z (List.mem_of_mem_drop hz)) JZ.out)
        rw[List.map_append,List.map_append,List.map_take,List.map_drop,Tw.out] at h9;unfold Je;rw[Vh.out,T6.out,Rw.out];simpa using h9)
       refine Ky.out _ _ (UY.out _ JZ.out) (fun _=>?_);clear Ky K9 ho9 hd9 hg9;try simp only[nP]
       refine rd1 7 fun K9 Ky=>?_;go_simp;obtain⟨m9,hm9⟩:∃q,K0+1+(m-KQ)=q:=⟨_,rfl⟩
       rw[hm9] at Vz;try rw[hm9]
       clear hm9;refine(jaH (HV.out.kept JZ.out) Vz.out).mono ?_;rintro e w9 ⟨y9,rfl,hy,kk⟩;have hy0:=hy;obtain⟨_,_,_,rfl,⟨g1,r1,rfl,-,-,-⟩,⟨g2,r2,rfl,-,-,-⟩,⟨g3,r3,rfl,-,-,-⟩⟩:=hy0;have JZ:=lH (JZ.out.trans kk);obtain⟨t1,ht1⟩:∃q,({ s with pods:=Je p s.pods }:Clu).nodes.length=q:=⟨_,rfl⟩
       rw[ht1] at hy;try rw[ht1]
       clear ht1;obtain⟨t2,ht2⟩:∃q,({ s with pods:=Je p s.pods }:Clu).pods.length=q:=⟨_,rfl⟩
       rw[ht2] at hy;try rw[ht2]
       clear ht2;obtain⟨t3,ht3⟩:∃q,({ s with pods:=Je p s.pods }:Clu).buds.length=q:=⟨_,rfl⟩
       rw[ht3] at hy;try rw[ht3]
       clear ht3;have HY:=lH hy;clear hy kk;refine Ky.out _ _ (UY.out _ JZ.out) (fun _=>?_);clear Ky K9;try simp only[nP]
       have H9:=lH (HH.out.kept JZ.out);have z0:=H9.out.at_ 0 _ rfl;have z1:=H9.out.at_ 1 _ rfl;have z2:=H9.out.at_ 2 _ rfl;have f0:=H9.out.free 0;have f1:=H9.out.free 1;have f2:=H9.out.free 2;have PP:=lH (jW (vs:=[.slice g1 t1 r1,.slice g2 t2 r2,.slice g3 t3 r3]) H9.out rfl);refine rd1 8 fun K9 Ky=>?_;go_simp;obtain⟨WE,hWE⟩:∃W,w9.setCells (w.heap.size+2) 0 [.slice g1 t1 r1,.slice g2 t2 r2,.slice g3 t3 r3]=W:=⟨_,rfl⟩
       have hWE2:(((w9.setCell ⟨(w.heap.size+2),0,none⟩ (.slice g1 t1 r1)).setCell ⟨(w.heap.size+2),1,none⟩ (.slice g2 t2 r2)).setCell ⟨(w.heap.size+2),2,none⟩ (.slice g3 t3 r3))=WE:=hWE;rw[hWE] at PP;try rw[hWE2]
       clear hWE hWE2;obtain⟨PC,hsz,hbl,hkp⟩:=PP.out;refine Ky.out _ _ (Ns.out _ _ hbl JZ.out) (fun _=>?_);clear Ky K9 z0 z1 z2 f0 f1 f2;try simp only[nP]
       refine wpAnyH_done (by kernel_rfl) ?_ _;obtain⟨A2,hA2⟩:∃A,(if cp=KQ then some (⟨b9,off,none⟩:Addr) else some ⟨b9,off+KQ*11,none⟩)=A:=⟨_,rfl⟩
       try rw[hA2]
       clear hA2;go_wp2;refine bodyPost_ret (by simp[results,Tryz.results66,go_sem,PC.at_ 0 _ rfl,PC.at_ 1 _ rfl,PC.at_ 2 _ rfl];try rfl) rfl ?_;exact⟨_,rfl,zj hsz hbl (Tl.out _ JZ.out) HY.out,hkp _ _ (Nat.le_add_right _ _) (Ve.out.trans JZ.out)⟩
  · have hkk:¬(k:Int)<(m:Int):=by omega
    obtain rfl:K0=k:=by omega
    clear hK cq1 pq0 pq1 pq2 pq3 pq4 pq5 pq6 pq7 pq8 pq9 pq10;have U0:=lH (fun W (kk:Kept wr W)=>Ui.out W (HK.out.trans kk));go_upto_region 2 with fail
    refine wp_region_held_drew (S:=fun W=>W.cell? ⟨w.heap.size,1,none⟩=some (.slice b m cp)∧W.cell? ⟨w.heap.size+1,0,none⟩=some (.string p.name)∧W.cell? ⟨w.heap.size+1,1,none⟩=some (.string p.owner)∧W.cell? ⟨w.heap.size+1,2,none⟩=some (.int .i64 p.prio)∧W.cell? ⟨w.heap.size+1,3,none⟩=some (.slice pa1 pm1 pc1)∧W.cell? ⟨w.heap.size+1,4,none⟩=some (.slice pa2 pm2 pc2)∧W.cell? ⟨w.heap.size+1,5,none⟩=some (.slice pa3 pm3 pc3)∧W.cell? ⟨w.heap.size+1,6,none⟩=some (.slice pa4 pm4 pc4)∧W.cell? ⟨w.heap.size+1,7,none⟩=some (.string p.key)∧W.cell? ⟨w.heap.size+1,8,none⟩=some (.int .i64 p.most)∧W.cell? ⟨w.heap.size+1,9,none⟩=some (.string p.node)∧W.cell? ⟨w.heap.size+1,10,none⟩=some (.bool p.hold)) (by kernel_rfl) (U0.out _ (Kept.drew _)) (fun hHeld=>?_);refine tkI 0 ?_;refine tkI 1 ?_;refine tkI 2 ?_;refine tkI 3 ?_;refine tkI 4 ?_;refine tkI 5 ?_;refine tkS 6 ?_;refine tkS 7 ?_;refine tkS 8 ?_;refine tkS 9 ?_;refine tkS 10 ?_;refine tkS 11 ?_;refine tkS 12 ?_;refine tkS 13 ?_;refine tkS 14 ?_;refine tkI 15 ?_;try simp only[nP]
    refine wpAnyH_done (by kernel_rfl) ?_ _;clear U0;obtain⟨wb,hwb⟩:∃W,wr.drew=W:=⟨_,rfl⟩
    have Tj:=lH (show Kept Z wb by rw[←hwb];exact(HK.out.trans (Kept.drew _)));try rw[hwb]
    clear hwb;go_upto_region 4 with fail
    go_cut [6] from 25 to 33 (fun s6 wx=>∃g c,s6=.slice (some ⟨g,0,none⟩) (K0+1) c∧Hid (Own jg 45 wx Z.heap.size (.slice (some ⟨g,0,none⟩) (K0+1) c) (lx.take K0++[(p,(pa1,pm1,pc1),(pa2,pm2,pc2),(pa3,pm3,pc3),(pa4,pm4,pc4))])∧Kept Z wx))
    case first =>
     have J:=lH (Kept.drew wb);have JK:=lH Tj.out;have HF:=lH (fun W (k:Kept wb W)=>Ui.out W (JK.out.trans k));have hkI:((K0:Int)).toNat=K0:=by omega
     have hk0i:(0:Int)≤(K0:Int):=by omega
     have hkmI:(K0:Int)≤(m:Int):=by omega
     have hkcI:K0≤cp:=by have:=Ue.out;omega
     have hkcI2:(K0:Int)≤(cp:Int):=by omega
     have VD:=lH (show Z.heap.size≤wb.heap.size from JK.out.size);refine wp_region_held_drew (S:=fun W=>W.cell? ⟨w.heap.size,1,none⟩=some (.slice b m cp)∧W.cell? ⟨w.heap.size+1,0,none⟩=some (.string p.name)∧W.cell? ⟨w.heap.size+1,1,none⟩=some (.string p.owner)∧W.cell? ⟨w.heap.size+1,2,none⟩=some (.int .i64 p.prio)∧W.cell? ⟨w.heap.size+1,3,none⟩=some (.slice pa1 pm1 pc1)∧W.cell? ⟨w.heap.size+1,4,none⟩=some (.slice pa2 pm2 pc2)∧W.cell? ⟨w.heap.size+1,5,none⟩=some (.slice pa3 pm3 pc3)∧W.cell? ⟨w.heap.size+1,6,none⟩=some (.slice pa4 pm4 pc4)∧W.cell? ⟨w.heap.size+1,7,none⟩=some (.string p.key)∧W.cell? ⟨w.heap.size+1,8,none⟩=some (.int .i64 p.most)∧W.cell? ⟨w.heap.size+1,9,none⟩=some (.string p.node)∧W.cell? ⟨w.heap.size+1,10,none⟩=some (.bool p.hold)) (by kernel_rfl) (HF.out _ J.out) (fun hHeld=>?_);obtain⟨wd,hwd⟩:∃W,wb.drew=W:=⟨_,rfl⟩
     rw[hwd] at J hHeld;try rw[hwd]
     clear hwd;refine tkI 1 ?_;refine tkI 2 ?_;refine tkI 3 ?_;refine tkI 4 ?_;refine tkI 6 ?_;try simp only[nP]
     refine rdH (rs:=[0,7]) (h:=coH (fun K9 Ky=>?_) (coH (fun K9 Ky=>?_) AllReadyH.nil))
     · skip;go_simp;refine Ky.out _ _ (HF.out _ (J.out.trans (ja _ _))) (fun _=>?_);clear Ky K9;try simp only[nP]
       obtain⟨W0,hW0⟩:∃W,wd.alloc (.cells #[] 45)=W:=⟨_,rfl⟩
       have hk0:Kept wd W0:=by rw[←hW0];exact ja _ _
       have VS:=lH (show W0.ownsRow Z.heap.size 45 11 (.slice (some ⟨wd.heap.size,0,none⟩) 0 0) 0 [] by rw[←hW0];exact zl _ _ 11 _ (Nat.le_trans VD.out J.out.size));have Uh:=lH (show wd.heap.size<W0.heap.size by rw[←hW0,World.size_alloc];exact Nat.lt_succ_self _);have J:=lH (J.out.trans hk0);obtain⟨q0,hq0⟩:∃q,wd.heap.size=q:=⟨_,rfl⟩
       rw[hq0] at VS Uh;try rw[hW0]
       try rw[hq0]
       clear hW0 hk0 hq0;refine rdH (rs:=[5,7]) (h:=coH (fun K9 Ky=>?_) (coH (fun K9 Ky=>?_) AllReadyH.nil))
       · skip;refine jz Jy _ rfl (.tmp 25) (.tmp 29) rfl Z.heap.size (Nat.le_trans VD.out J.out.size) q0 0 0 [] rfl VS.out _ K0 (jb jg (lx.take K0)) rfl ?_ (jB _ _) (jh.src ((UH.out.low hk0m).kept (JK.out.trans J.out))) (by unfold maxLen;omega) (by omega) ?_
         · rw[jt,List.length_take,Vi.out,Nat.min_eq_left hk0m];rfl
         rintro g5 c5 W1 ho5 hd5 hg5;simp only[Nat.zero_add,List.nil_append] at ho5 ⊢;have VZ:=lH (show Own jg 45 W1 Z.heap.size (.slice (some ⟨g5,0,none⟩) K0 c5) (lx.take K0) from⟨by rw[List.length_take,Vi.out,Nat.min_eq_left hk0m];exact ho5,fun _ _=>trivial⟩);have JZ:=lH (show Kept Z W1 from Below.trans (JK.out.trans J.out) hd5);refine Ky.out _ _ (Ui.out _ JZ.out) (fun _=>?_);clear Ky K9 ho5 hd5 hg5;try simp only[nP]
         refine rd1 7 fun K9 Ky=>?_;go_simp;refine Ky.out _ _ (Ui.out _ (JZ.out.trans (ja _ _))) (fun _=>?_);clear Ky K9;try simp only[nP]
         obtain⟨W2,hW2⟩:∃W,W1.alloc (.cells #[.string p.name,.string p.owner,.int .i64 p.prio,.slice pa1 pm1 pc1,.slice pa2 pm2 pc2,.slice pa3 pm3 pc3,.slice pa4 pm4 pc4,.string p.key,.int .i64 p.most,.string p.node,.bool p.hold] 45)=W:=⟨_,rfl⟩
         have hk2:Kept W1 W2:=by rw[←hW2];exact ja _ _
         have H7:=lH (show W2.heap[W1.heap.size]?=some (.cells #[.string p.name,.string p.owner,.int .i64 p.prio,.slice pa1 pm1 pc1,.slice pa2 pm2 pc2,.slice pa3 pm3 pc3,.slice pa4 pm4 pc4,.string p.key,.int .i64 p.most,.string p.node,.bool p.hold] 45 (0,0)) by rw[←hW2];exact World.alloc_heap_new W1 _);have VZ:=lH (show Own jg 45 W2 Z.heap.size (.slice (some ⟨g5,0,none⟩) K0 c5) (lx.take K0) from VZ.out.kept hk2);have JZ:=lH (JZ.out.trans hk2);obtain⟨q7,hq7⟩:∃q,W1.heap.size=q:=⟨_,rfl⟩
         rw[hq7] at H7;try rw[hW2]
         try rw[hq7]
         clear hW2 hk2 hq7;refine rd1 8 fun K9 Ky=>?_;refine jz Jy _ rfl (.tmp 30) (.tmp 32) rfl Z.heap.size JZ.out.size g5 K0 c5 (jb jg (lx.take K0)) rfl (by have:=VZ.out.1;rw[List.length_take,Vi.out,Nat.min_eq_left hk0m] at this;exact this) _ 1 (jg.cs (p,(pa1,pm1,pc1),(pa2,pm2,pc2),(pa3,pm3,pc3),(pa4,pm4,pc4))) rfl rfl (JN _) (Jf rfl H7.out) (by unfold maxLen;omega) (by omega) ?_;rintro g8 c8 W3 ho8 hd8 hg8;have Uf:=lH (show Own jg 45 W3 Z.heap.size (.slice (some ⟨g8,0,none⟩) (K0+1) c8) (lx.take K0++[(p,(pa1,pm1,pc1),(pa2,pm2,pc2),(pa3,pm3,pc3),(pa4,pm4,pc4))]) from Own.snoc ho8 (by rw[List.length_take,Vi.out,Nat.min_eq_left hk0m]) (fun _ _=>trivial) trivial);have JZ:=lH (show Kept Z W3 from Below.trans JZ.out hd8);refine Ky.out _ _ (Ui.out _ JZ.out) (fun _=>?_);clear Ky K9 ho8 hd8 hg8;try simp only[nP]
         refine tkI 9 ?_;try simp only[nP]
         refine wpAnyH_done (by kernel_rfl) ?_ _;go_wp2;go_meet
         case rel=>exact⟨g8,c8,rfl,lH ⟨Uf.out,JZ.out⟩⟩
       · skip;go_simp;refine Ky.out _ _ (HF.out _ (J.out.trans (ja _ _))) (fun _=>?_);clear Ky K9;try simp only[nP]
         obtain⟨W1,hW1⟩:∃W,W0.alloc (.cells #[.string p.name,.string p.owner,.int .i64 p.prio,.slice pa1 pm1 pc1,.slice pa2 pm2 pc2,.slice pa3 pm3 pc3,.slice pa4 pm4 pc4,.string p.key,.int .i64 p.most,.string p.node,.bool p.hold] 45)=W:=⟨_,rfl⟩
         have hk1:Kept W0 W1:=by rw[←hW1];exact ja _ _
         have H7:=lH (show W1.heap[W0.heap.size]?=some (.cells #[.string p.name,.string p.owner,.int .i64 p.prio,.slice pa1 pm1 pc1,.slice pa2 pm2 pc2,.slice pa3 pm3 pc3,.slice pa4 pm4 pc4,.string p.key,.int .i64 p.most,.string p.node,.bool p.hold] 45 (0,0)) by rw[←hW1];exact World.alloc_heap_new W0 _);have Vv:=lH (show W0.heap.size<W1.heap.size by rw[←hW1,World.size_alloc];exact Nat.lt_succ_self _);have VS:=lH (show W1.ownsRow Z.heap.size 45 11 (.slice (some ⟨q0,0,none⟩) 0 0) 0 [] by rw[←hW1];exact JH VS.out _);have Ug:=lH (show W0.heap.size≠q0 by have:=Uh.out;omega);have J:=lH (J.out.trans hk1);obtain⟨q7,hq7⟩:∃q,W0.heap.size=q:=⟨_,rfl⟩
         rw[hq7] at H7 Vv Ug;try rw[hW1]
         try rw[hq7]
         clear hW1 hk1 hq7;refine rd1 5 fun K9 Ky=>?_;refine jz Jy _ rfl (.tmp 25) (.tmp 29) rfl Z.heap.size (Nat.le_trans VD.out J.out.size) q0 0 0 [] rfl VS.out _ K0 (jb jg (lx.take K0)) rfl ?_ (jB _ _) (jh.src ((UH.out.low hk0m).kept (JK.out.trans J.out))) (by unfold maxLen;omega) (by omega) ?_
         · rw[jt,List.length_take,Vi.out,Nat.min_eq_left hk0m];rfl
         rintro g5 c5 W2 ho5 hd5 hg5;simp only[Nat.zero_add,List.nil_append] at ho5 ⊢;have VZ:=lH (show Own jg 45 W2 Z.heap.size (.slice (some ⟨g5,0,none⟩) K0 c5) (lx.take K0) from⟨by rw[List.length_take,Vi.out,Nat.min_eq_left hk0m];exact ho5,fun _ _=>trivial⟩);have JZ:=lH (show Kept Z W2 from Below.trans (JK.out.trans J.out) hd5);have H7:=lH ((hg5.block q7 Vv.out (by intro e;exact Ug.out (Option.some.inj e))).trans H7.out);have Vv:=lH (Nat.lt_of_lt_of_le Vv.out hg5.size);refine Ky.out _ _ (Ui.out _ JZ.out) (fun _=>?_);clear Ky K9 ho5 hd5 hg5;try simp only[nP]
         refine rd1 8 fun K9 Ky=>?_;refine jz Jy _ rfl (.tmp 30) (.tmp 32) rfl Z.heap.size JZ.out.size g5 K0 c5 (jb jg (lx.take K0)) rfl (by have:=VZ.out.1;rw[List.length_take,Vi.out,Nat.min_eq_left hk0m] at this;exact this) _ 1 (jg.cs (p,(pa1,pm1,pc1),(pa2,pm2,pc2),(pa3,pm3,pc3),(pa4,pm4,pc4))) rfl rfl (JN _) (Jf rfl H7.out) (by unfold maxLen;omega) (by omega) ?_;rintro g8 c8 W3 ho8 hd8 hg8;have Uf:=lH (show Own jg 45 W3 Z.heap.size (.slice (some ⟨g8,0,none⟩) (K0+1) c8) (lx.take K0++[(p,(pa1,pm1,pc1),(pa2,pm2,pc2),(pa3,pm3,pc3),(pa4,pm4,pc4))]) from Own.snoc ho8 (by rw[List.length_take,Vi.out,Nat.min_eq_left hk0m]) (fun _ _=>trivial) trivial);have JZ:=lH (show Kept Z W3 from Below.trans JZ.out hd8);refine Ky.out _ _ (Ui.out _ JZ.out) (fun _=>?_);clear Ky K9 ho8 hd8 hg8;try simp only[nP]
         refine tkI 9 ?_;try simp only[nP]
         refine wpAnyH_done (by kernel_rfl) ?_ _;go_wp2;go_meet
         case rel=>exact⟨g8,c8,rfl,lH ⟨Uf.out,JZ.out⟩⟩
     · skip;go_simp;refine Ky.out _ _ (HF.out _ (J.out.trans (ja _ _))) (fun _=>?_);clear Ky K9;try simp only[nP]
       obtain⟨W0,hW0⟩:∃W,wd.alloc (.cells #[.string p.name,.string p.owner,.int .i64 p.prio,.slice pa1 pm1 pc1,.slice pa2 pm2 pc2,.slice pa3 pm3 pc3,.slice pa4 pm4 pc4,.string p.key,.int .i64 p.most,.string p.node,.bool p.hold] 45)=W:=⟨_,rfl⟩
       have hk0:Kept wd W0:=by rw[←hW0];exact ja _ _
       have H7:=lH (show W0.heap[wd.heap.size]?=some (.cells #[.string p.name,.string p.owner,.int .i64 p.prio,.slice pa1 pm1 pc1,.slice pa2 pm2 pc2,.slice pa3 pm3 pc3,.slice pa4 pm4 pc4,.string p.key,.int .i64 p.most,.string p.node,.bool p.hold] 45 (0,0)) by rw[←hW0];exact World.alloc_heap_new wd _);have Vv:=lH (show wd.heap.size<W0.heap.size by rw[←hW0,World.size_alloc];exact Nat.lt_succ_self _);have J:=lH (J.out.trans hk0);obtain⟨q7,hq7⟩:∃q,wd.heap.size=q:=⟨_,rfl⟩
       rw[hq7] at H7 Vv;try rw[hW0]
       try rw[hq7]
       clear hW0 hk0 hq7;refine rd1 0 fun K9 Ky=>?_;go_simp;refine Ky.out _ _ (HF.out _ (J.out.trans (ja _ _))) (fun _=>?_);clear Ky K9;try simp only[nP]
       obtain⟨W1,hW1⟩:∃W,W0.alloc (.cells #[] 45)=W:=⟨_,rfl⟩
       have hk1:Kept W0 W1:=by rw[←hW1];exact ja _ _
       have VS:=lH (show W1.ownsRow Z.heap.size 45 11 (.slice (some ⟨W0.heap.size,0,none⟩) 0 0) 0 [] by rw[←hW1];exact zl _ _ 11 _ (Nat.le_trans VD.out J.out.size));have Uh:=lH (show W0.heap.size<W1.heap.size by rw[←hW1,World.size_alloc];exact Nat.lt_succ_self _);have H7:=lH ((hk1.block _ Vv.out).trans H7.out);have Ug:=lH (show q7≠W0.heap.size by have:=Vv.out;omega);have Vv:=lH (Nat.lt_of_lt_of_le Vv.out hk1.size);have J:=lH (J.out.trans hk1);obtain⟨q0,hq0⟩:∃q,W0.heap.size=q:=⟨_,rfl⟩
       rw[hq0] at VS Uh Ug;try rw[hW1]
       try rw[hq0]
       clear hW1 hk1 hq0;refine rd1 5 fun K9 Ky=>?_;refine jz Jy _ rfl (.tmp 25) (.tmp 29) rfl Z.heap.size (Nat.le_trans VD.out J.out.size) q0 0 0 [] rfl VS.out _ K0 (jb jg (lx.take K0)) rfl ?_ (jB _ _) (jh.src ((UH.out.low hk0m).kept (JK.out.trans J.out))) (by unfold maxLen;omega) (by omega) ?_
       · rw[jt,List.length_take,Vi.out,Nat.min_eq_left hk0m];rfl
       rintro g5 c5 W2 ho5 hd5 hg5;simp only[Nat.zero_add,List.nil_append] at ho5 ⊢;have VZ:=lH (show Own jg 45 W2 Z.heap.size (.slice (some ⟨g5,0,none⟩) K0 c5) (lx.take K0) from⟨by rw[List.length_take,Vi.out,Nat.min_eq_left hk0m];exact ho5,fun _ _=>trivial⟩);have JZ:=lH (show Kept Z W2 from Below.trans (JK.out.trans J.out) hd5);have H7:=lH ((hg5.block q7 Vv.out (by intro e;exact Ug.out (Option.some.inj e))).trans H7.out);have Vv:=lH (Nat.lt_of_lt_of_le Vv.out hg5.size);refine Ky.out _ _ (Ui.out _ JZ.out) (fun _=>?_);clear Ky K9 ho5 hd5 hg5;try simp only[nP]
       refine rd1 8 fun K9 Ky=>?_;refine jz Jy _ rfl (.tmp 30) (.tmp 32) rfl Z.heap.size JZ.out.size g5 K0 c5 (jb jg (lx.take K0)) rfl (by have:=VZ.out.1;rw[List.length_take,Vi.out,Nat.min_eq_left hk0m] at this;exact this) _ 1 (jg.cs (p,(pa1,pm1,pc1),(pa2,pm2,pc2),(pa3,pm3,pc3),(pa4,pm4,pc4))) rfl rfl (JN _) (Jf rfl H7.out) (by unfold maxLen;omega) (by omega) ?_;rintro g8 c8 W3 ho8 hd8 hg8;have Uf:=lH (show Own jg 45 W3 Z.heap.size (.slice (some ⟨g8,0,none⟩) (K0+1) c8) (lx.take K0++[(p,(pa1,pm1,pc1),(pa2,pm2,pc2),(pa3,pm3,pc3),(pa4,pm4,pc4))]) from Own.snoc ho8 (by rw[List.length_take,Vi.out,Nat.min_eq_left hk0m]) (fun _ _=>trivial) trivial);have JZ:=lH (show Kept Z W3 from Below.trans JZ.out hd8);refine Ky.out _ _ (Ui.out _ JZ.out) (fun _=>?_);clear Ky K9 ho8 hd8 hg8;try simp only[nP]
       refine tkI 9 ?_;try simp only[nP]
       refine wpAnyH_done (by kernel_rfl) ?_ _;go_wp2;go_meet
       case rel=>exact⟨g8,c8,rfl,lH ⟨Uf.out,JZ.out⟩⟩
    case rest =>
     obtain⟨g,c6,rfl,hcut⟩:=hcut;have Tf:=lH hcut.out.1;have V9:=lH hcut.out.2;clear hcut;have hkw0:(0:Int)≤(K0:Int):=by omega
     go_upto_region 5 with fail
     have hkk:¬(K0:Int)<(m:Int):=by omega
     have HF:=lH (fun W (k:Kept wc W)=>Ui.out W (V9.out.trans k));refine wp_region_held_drew (S:=fun W=>W.cell? ⟨w.heap.size,1,none⟩=some (.slice b m cp)∧W.cell? ⟨w.heap.size+1,0,none⟩=some (.string p.name)∧W.cell? ⟨w.heap.size+1,1,none⟩=some (.string p.owner)∧W.cell? ⟨w.heap.size+1,2,none⟩=some (.int .i64 p.prio)∧W.cell? ⟨w.heap.size+1,3,none⟩=some (.slice pa1 pm1 pc1)∧W.cell? ⟨w.heap.size+1,4,none⟩=some (.slice pa2 pm2 pc2)∧W.cell? ⟨w.heap.size+1,5,none⟩=some (.slice pa3 pm3 pc3)∧W.cell? ⟨w.heap.size+1,6,none⟩=some (.slice pa4 pm4 pc4)∧W.cell? ⟨w.heap.size+1,7,none⟩=some (.string p.key)∧W.cell? ⟨w.heap.size+1,8,none⟩=some (.int .i64 p.most)∧W.cell? ⟨w.heap.size+1,9,none⟩=some (.string p.node)∧W.cell? ⟨w.heap.size+1,10,none⟩=some (.bool p.hold)) (by kernel_rfl) (HF.out _ (Kept.drew _)) (fun hHeld=>?_);refine tkI 0 ?_;refine tkI 1 ?_;refine tkI 2 ?_;refine tkI 3 ?_;refine tkI 4 ?_;refine tkI 5 ?_;refine tkS 6 ?_;refine tkS 7 ?_;refine tkS 8 ?_;refine tkS 9 ?_;refine tkS 10 ?_;refine tkS 11 ?_;refine tkS 12 ?_;refine tkS 13 ?_;refine tkS 14 ?_;refine tkI 15 ?_;try simp only[nP]
     refine wpAnyH_done (by kernel_rfl) ?_ _;have hkh:KH=0:=by rw[←T6.out];exact jjR (by rw[UF.out];omega)
     go_upto_region 7 with fail
     obtain⟨wq,hwq⟩:∃W,wc.drew=W:=⟨_,rfl⟩
     have hkd:Kept wc wq:=by rw[←hwq];exact Kept.drew _
     try rw[hwq]
     clear hwq;have Tf:=lH (Tf.out.kept hkd);have V9:=lH (V9.out.trans hkd);clear hkd;obtain⟨KQ,hKQ⟩:∃q:Nat,q=K0:=⟨_,rfl⟩
     have hcast:(K0:Int)=(KQ:Int):=by rw[hKQ]
     rw[hcast];have Rw:=lH (show K0+KH=KQ by rw[hkh];exact hKQ.symm);have hkqm:KQ≤m:=by omega
     clear hKQ hcast hkh;rcases UH.out.form with h0 | ⟨b9,off,rfl⟩
     · have H0:=lH h0;clear h0;have hqI:((KQ:Int)).toNat=KQ:=by omega
       have hq0i:(0:Int)≤(KQ:Int):=by omega
       have hqmI:(KQ:Int)≤(m:Int):=by omega
       have hqcI:KQ≤cp:=by have:=Ue.out;omega
       go_upto_region 7 with fail
       have J:=lH (Kept.drew wq);refine wp_region_held_drew (S:=fun W=>W.cell? ⟨w.heap.size,0,none⟩=some (.slice a len cap)∧W.cell? ⟨w.heap.size,1,none⟩=some (.slice b m cp)∧W.cell? ⟨w.heap.size,2,none⟩=some (.slice d n cb)) (by kernel_rfl) (UY.out _ (V9.out.trans J.out)) (fun hHeld=>?_);refine tkI 0 ?_;refine tkI 1 ?_;refine tkI 2 ?_;refine tkI 3 ?_;refine tkI 4 ?_;refine tkI 5 ?_;try simp only[nP]
       refine rd1 6 fun K9 Ky=>?_;refine jz Jy _ rfl (.tmp 53) (.tmp 57) rfl Z.heap.size (V9.out.trans J.out).size g (K0+1) c6 (jb jg (lx.take K0++[(p,(pa1,pm1,pc1),(pa2,pm2,pc2),(pa3,pm3,pc3),(pa4,pm4,pc4))])) rfl (by have:=(Tf.out.kept J.out).1;rw[List.length_append,List.length_take,Vi.out,Nat.min_eq_left hk0m] at this;exact this) _ (m-KQ) (jb jg (lx.drop KQ)) rfl ?_ (jB _ _) ?_ (by unfold maxLen;omega) (by omega) ?_
       · rw[jt,List.length_drop,Vi.out];rfl
       · have h1:KQ=0:=by have:=H0.out;omega
         have h2:lx.drop KQ=[]:=List.eq_nil_of_length_eq_zero (by have:=H0.out;rw[List.length_drop,Vi.out];omega);rw[h2,show m-KQ=0 by have:=H0.out;omega];exact jkQ
       rintro g9 c9 W6 ho9 hd9 hg9;have JZ:=lH (show Kept Z W6 from Below.trans (V9.out.trans J.out) hd9);have Vz:=lH (show zr W6 (.slice (some ⟨g9,0,none⟩) (K0+1+(m-KQ)) c9) (Je p s.pods) by
        have h9:=ZO (jaR ho9 (by rw[List.length_append,List.length_take,Vi.out,Nat.min_eq_left hk0m,List.length_drop,Vi.out];rfl)) (fun z hz=>by
         rcases List.mem_append.1 hz with hz | hz
         · rcases List.mem_append.1 hz with hz | hz
           · exact js.kept (Vu.out z (List.mem_of_mem_take hz)) JZ.out
           · obtain rfl:=List.mem_singleton.1 hz;exact js.kept Nr.out JZ.out
         · exact js.kept (Vu.out z (List.mem_of_mem_drop hz)) JZ.out)
        rw[List.map_append,List.map_append,List.map_take,List.map_drop,Tw.out] at h9;unfold Je;rw[Vh.out,T6.out,Rw.out];simpa using h9)
       refine Ky.out _ _ (UY.out _ JZ.out) (fun _=>?_);clear Ky K9 ho9 hd9 hg9;try simp only[nP]
       refine rd1 7 fun K9 Ky=>?_;go_simp;obtain⟨m9,hm9⟩:∃q,K0+1+(m-KQ)=q:=⟨_,rfl⟩
       rw[hm9] at Vz;try rw[hm9]
       clear hm9;refine(jaH (HV.out.kept JZ.out) Vz.out).mono ?_;rintro e w9 ⟨y9,rfl,hy,kk⟩;have hy0:=hy;obtain⟨_,_,_,rfl,⟨g1,r1,rfl,-,-,-⟩,⟨g2,r2,rfl,-,-,-⟩,⟨g3,r3,rfl,-,-,-⟩⟩:=hy0;have JZ:=lH (JZ.out.trans kk);obtain⟨t1,ht1⟩:∃q,({ s with pods:=Je p s.pods }:Clu).nodes.length=q:=⟨_,rfl⟩
       rw[ht1] at hy;try rw[ht1]
       clear ht1;obtain⟨t2,ht2⟩:∃q,({ s with pods:=Je p s.pods }:Clu).pods.length=q:=⟨_,rfl⟩
       rw[ht2] at hy;try rw[ht2]
       clear ht2;obtain⟨t3,ht3⟩:∃q,({ s with pods:=Je p s.pods }:Clu).buds.length=q:=⟨_,rfl⟩
       rw[ht3] at hy;try rw[ht3]
       clear ht3;have HY:=lH hy;clear hy kk;refine Ky.out _ _ (UY.out _ JZ.out) (fun _=>?_);clear Ky K9;try simp only[nP]
       have H9:=lH (HH.out.kept JZ.out);have z0:=H9.out.at_ 0 _ rfl;have z1:=H9.out.at_ 1 _ rfl;have z2:=H9.out.at_ 2 _ rfl;have f0:=H9.out.free 0;have f1:=H9.out.free 1;have f2:=H9.out.free 2;have PP:=lH (jW (vs:=[.slice g1 t1 r1,.slice g2 t2 r2,.slice g3 t3 r3]) H9.out rfl);refine rd1 8 fun K9 Ky=>?_;go_simp;obtain⟨WE,hWE⟩:∃W,w9.setCells (w.heap.size+2) 0 [.slice g1 t1 r1,.slice g2 t2 r2,.slice g3 t3 r3]=W:=⟨_,rfl⟩
       have hWE2:(((w9.setCell ⟨(w.heap.size+2),0,none⟩ (.slice g1 t1 r1)).setCell ⟨(w.heap.size+2),1,none⟩ (.slice g2 t2 r2)).setCell ⟨(w.heap.size+2),2,none⟩ (.slice g3 t3 r3))=WE:=hWE;rw[hWE] at PP;try rw[hWE2]
       clear hWE hWE2;obtain⟨PC,hsz,hbl,hkp⟩:=PP.out;refine Ky.out _ _ (Ns.out _ _ hbl JZ.out) (fun _=>?_);clear Ky K9 z0 z1 z2 f0 f1 f2;try simp only[nP]
       refine wpAnyH_done (by kernel_rfl) ?_ _;skip;skip;skip;go_wp2
       all_goals refine bodyPost_ret (by simp[results,Tryz.results66,go_sem,PC.at_ 0 _ rfl,PC.at_ 1 _ rfl,PC.at_ 2 _ rfl];try rfl) rfl ?_
       all_goals exact⟨_,rfl,zj hsz hbl (Tl.out _ JZ.out) HY.out,hkp _ _ (Nat.le_add_right _ _) (Ve.out.trans JZ.out)⟩
     · skip;have hqI:((KQ:Int)).toNat=KQ:=by omega
       have hq0i:(0:Int)≤(KQ:Int):=by omega
       have hqmI:(KQ:Int)≤(m:Int):=by omega
       have hqcI:KQ≤cp:=by have:=Ue.out;omega
       go_upto_region 7 with fail
       have J:=lH (Kept.drew wq);refine wp_region_held_drew (S:=fun W=>W.cell? ⟨w.heap.size,0,none⟩=some (.slice a len cap)∧W.cell? ⟨w.heap.size,1,none⟩=some (.slice (some ⟨b9,off,none⟩) m cp)∧W.cell? ⟨w.heap.size,2,none⟩=some (.slice d n cb)) (by kernel_rfl) (UY.out _ (V9.out.trans J.out)) (fun hHeld=>?_);refine tkI 0 ?_;refine tkI 1 ?_;refine tkI 2 ?_;refine tkI 3 ?_;refine tkI 4 ?_;refine tkI 5 ?_;try simp only[nP]
       refine rd1 6 fun K9 Ky=>?_;refine jz Jy _ rfl (.tmp 53) (.tmp 57) rfl Z.heap.size (V9.out.trans J.out).size g (K0+1) c6 (jb jg (lx.take K0++[(p,(pa1,pm1,pc1),(pa2,pm2,pc2),(pa3,pm3,pc3),(pa4,pm4,pc4))])) rfl (by have:=(Tf.out.kept J.out).1;rw[List.length_append,List.length_take,Vi.out,Nat.min_eq_left hk0m] at this;exact this) _ (m-KQ) (jb jg (lx.drop KQ)) rfl ?_ (jB _ _) ?_ (by unfold maxLen;omega) (by omega) ?_
       · rw[jt,List.length_drop,Vi.out];rfl
       · exact jbt (UH.out.kept (V9.out.trans J.out)) hkqm Ue.out
       rintro g9 c9 W6 ho9 hd9 hg9;have JZ:=lH (show Kept Z W6 from Below.trans (V9.out.trans J.out) hd9);have Vz:=lH (show zr W6 (.slice (some ⟨g9,0,none⟩) (K0+1+(m-KQ)) c9) (Je p s.pods) by
        have h9:=ZO (jaR ho9 (by rw[List.length_append,List.length_take,Vi.out,Nat.min_eq_left hk0m,List.length_drop,Vi.out];rfl)) (fun z hz=>by
         rcases List.mem_append.1 hz with hz | hz
         · rcases List.mem_append.1 hz with hz | hz
           · exact js.kept (Vu.out z (List.mem_of_mem_take hz)) JZ.out
           · obtain rfl:=List.mem_singleton.1 hz;exact js.kept Nr.out JZ.out
         · exact js.kept (Vu.out z (List.mem_of_mem_drop hz)) JZ.out)
        rw[List.map_append,List.map_append,List.map_take,List.map_drop,Tw.out] at h9;unfold Je;rw[Vh.out,T6.out,Rw.out];simpa using h9)
       refine Ky.out _ _ (UY.out _ JZ.out) (fun _=>?_);clear Ky K9 ho9 hd9 hg9;try simp only[nP]
       refine rd1 7 fun K9 Ky=>?_;go_simp;obtain⟨m9,hm9⟩:∃q,K0+1+(m-KQ)=q:=⟨_,rfl⟩
       rw[hm9] at Vz;try rw[hm9]
       clear hm9;refine(jaH (HV.out.kept JZ.out) Vz.out).mono ?_;rintro e w9 ⟨y9,rfl,hy,kk⟩;have hy0:=hy;obtain⟨_,_,_,rfl,⟨g1,r1,rfl,-,-,-⟩,⟨g2,r2,rfl,-,-,-⟩,⟨g3,r3,rfl,-,-,-⟩⟩:=hy0;have JZ:=lH (JZ.out.trans kk);obtain⟨t1,ht1⟩:∃q,({ s with pods:=Je p s.pods }:Clu).nodes.length=q:=⟨_,rfl⟩
       rw[ht1] at hy;try rw[ht1]
       clear ht1;obtain⟨t2,ht2⟩:∃q,({ s with pods:=Je p s.pods }:Clu).pods.length=q:=⟨_,rfl⟩
       rw[ht2] at hy;try rw[ht2]
       clear ht2;obtain⟨t3,ht3⟩:∃q,({ s with pods:=Je p s.pods }:Clu).buds.length=q:=⟨_,rfl⟩
       rw[ht3] at hy;try rw[ht3]
       clear ht3;have HY:=lH hy;clear hy kk;refine Ky.out _ _ (UY.out _ JZ.out) (fun _=>?_);clear Ky K9;try simp only[nP]
       have H9:=lH (HH.out.kept JZ.out);have z0:=H9.out.at_ 0 _ rfl;have z1:=H9.out.at_ 1 _ rfl;have z2:=H9.out.at_ 2 _ rfl;have f0:=H9.out.free 0;have f1:=H9.out.free 1;have f2:=H9.out.free 2;have PP:=lH (jW (vs:=[.slice g1 t1 r1,.slice g2 t2 r2,.slice g3 t3 r3]) H9.out rfl);refine rd1 8 fun K9 Ky=>?_;go_simp;obtain⟨WE,hWE⟩:∃W,w9.setCells (w.heap.size+2) 0 [.slice g1 t1 r1,.slice g2 t2 r2,.slice g3 t3 r3]=W:=⟨_,rfl⟩
       have hWE2:(((w9.setCell ⟨(w.heap.size+2),0,none⟩ (.slice g1 t1 r1)).setCell ⟨(w.heap.size+2),1,none⟩ (.slice g2 t2 r2)).setCell ⟨(w.heap.size+2),2,none⟩ (.slice g3 t3 r3))=WE:=hWE;rw[hWE] at PP;try rw[hWE2]
       clear hWE hWE2;obtain⟨PC,hsz,hbl,hkp⟩:=PP.out;refine Ky.out _ _ (Ns.out _ _ hbl JZ.out) (fun _=>?_);clear Ky K9 z0 z1 z2 f0 f1 f2;try simp only[nP]
       refine wpAnyH_done (by kernel_rfl) ?_ _;obtain⟨A2,hA2⟩:∃A,(if cp=KQ then some (⟨b9,off,none⟩:Addr) else some ⟨b9,off+KQ*11,none⟩)=A:=⟨_,rfl⟩
       try rw[hA2]
       clear hA2;go_wp2;refine bodyPost_ret (by simp[results,Tryz.results66,go_sem,PC.at_ 0 _ rfl,PC.at_ 1 _ rfl,PC.at_ 2 _ rfl];try rfl) rfl ?_;exact⟨_,rfl,zj hsz hbl (Tl.out _ JZ.out) HY.out,hkp _ _ (Nat.le_add_right _ _) (Ve.out.trans JZ.out)⟩
theorem jhY (a:Option Addr) (len cap:Nat) (l:List Nod) (x:ByteArray) (w0 w:World) (hk0:Kept w0 w) (hr:jE w0 a len l) :
 Calls Tryz.prog 48 #[.slice a len cap,.string x] w fun e w'=>∃v,e=.returned (.tuple #[v,.bool (jj l x).isSome])∧qk w0 v ((jj l x).getD Nod.zero)∧Kept w w':=by
 have hl:=hr.1;have Vh:=lH hk0;clear hk0;have hm:=hr.2.1;unfold maxLen at hm;obtain⟨Z,hZ⟩:∃Z,w.alloc (.cells #[.string ⟨#[]⟩,.slice none 0 0,.slice none 0 0,.slice none 0 0,.bool false] 99)=Z:=⟨_,rfl⟩
 have hkz:Kept w Z:=by rw[←hZ];exact ja _ _
 have HQ:=lH (show zA w.heap.size (.string ⟨#[]⟩) (.slice none 0 0) (.slice none 0 0) (.slice none 0 0) (.bool false) Z from Yx w _ _ _ _ _ 99 Z (by rw[hZ];exact Kept.refl _));have HH:=lH (show Z.heap[w.heap.size]?=some (.cells #[.string ⟨#[]⟩,.slice none 0 0,.slice none 0 0,.slice none 0 0,.bool false] 99) by rw[←hZ];exact w.alloc_heap_new _);have Ve:=lH hkz;have HR:=lH hr;have HL:=lH hl;obtain⟨⟨y0,y1,y2,y3,y4⟩,x0,x1,x2,x3,x4⟩:=HQ.out;have P0:=lH (Zi ⟨y0,y1,y2,y3,y4⟩ ⟨#[]⟩ none none none 0 0 0 0 0 0 false);by_cases h0:len=0
 · subst h0;have hl0:l=[]:=List.eq_nil_of_length_eq_zero hl;have HF:=lH (show jj l x=none by rw[hl0];rfl);clear hr hl hkz;go_enter Tryz.func48,Tryz.ntmps48;go_wp2;try rw[hZ]
   clear hZ;refine wp_loop_rounds 1 ?_;rw[rounds_succ];go_wp2;obtain⟨WE,hWE⟩:∃W,(((((Z.setCell ⟨w.heap.size,0,none⟩ (.string ⟨#[]⟩)).setCell ⟨w.heap.size,1,none⟩ (.slice none 0 0)).setCell ⟨w.heap.size,2,none⟩ (.slice none 0 0)).setCell ⟨w.heap.size,3,none⟩ (.slice none 0 0)).setCell ⟨w.heap.size,4,none⟩ (.bool false))=W:=⟨_,rfl⟩
   rw[hWE] at P0 ⊢;clear hWE y0 y1 y2 y3 y4 x0 x1 x2 x3 x4;obtain⟨⟨e0,e1,e2,e3,e4⟩,hsz,hbl,hkp⟩:=P0.out;refine bodyPost_ret (by simp[results,Tryz.results48,go_sem,e0,e1,e2,e3,e4];try rfl) rfl ?_;rw[HF.out];exact⟨_,rfl,(YH 0 _).toR,hkp _ _ (Nat.le_refl _) Ve.out⟩
 · obtain⟨b,off,rfl⟩:=hr.form.resolve_left h0;clear hr hl hkz h0;go_enter Tryz.func48,Tryz.ntmps48;go_wp2;try rw[hZ]
   clear hZ;go_loop [6] (fun i=>∃k:Nat,k≤len∧i=.int .i64 k∧jj (l.drop k) x=jj l x) (fun i=>len-(intOf i).toNat)
   case atStart=>exact⟨0,Nat.zero_le _,rfl,rfl⟩
   case round =>
    obtain⟨k,hk,rfl,hrest⟩:=hrel;have HS:=lH hrest;by_cases hlt:k<len
    · obtain⟨n,a1,m1,c1,a2,m2,c2,a3,m3,c3,hn,hd,hb,p0,p1,p2,p3,p4,hat⟩:=HR.out.at_ hlt;have p0:=cell_later (Vh.out.trans Ve.out) p0;have p1:=cell_later (Vh.out.trans Ve.out) p1;have p2:=cell_later (Vh.out.trans Ve.out) p2;have p3:=cell_later (Vh.out.trans Ve.out) p3;have p4:=cell_later (Vh.out.trans Ve.out) p4;have Vu:=lH hat;have HD:=lH hd;clear hrest hat hd hn;by_cases he:eqS n.name x=true
      · have he':(n.name.toList==x.toList)=true:=he;have HF:=lH (show jj l x=some n by rw[←HS.out,HD.out];unfold jj;rw[List.find?_cons,he]);have P:=lH (Zi ⟨y0,y1,y2,y3,y4⟩ n.name a1 a2 a3 m1 c1 m2 c2 m3 c3 n.cordon);obtain⟨⟨z,l1,l2,l3,cd⟩,hnn⟩:∃m,m=n:=⟨n,rfl⟩
        subst hnn;dsimp only at P he' p0 p4;clear he;go_wp2;obtain⟨WE,hWE⟩:∃W,(((((Z.setCell ⟨w.heap.size,0,none⟩ (.string z)).setCell ⟨w.heap.size,1,none⟩ (.slice a1 m1 c1)).setCell ⟨w.heap.size,2,none⟩ (.slice a2 m2 c2)).setCell ⟨w.heap.size,3,none⟩ (.slice a3 m3 c3)).setCell ⟨w.heap.size,4,none⟩ (.bool cd))=W:=⟨_,rfl⟩
        rw[hWE] at P ⊢;clear hWE y0 y1 y2 y3 y4 x0 x1 x2 x3 x4;obtain⟨⟨e0,e1,e2,e3,e4⟩,hsz,hbl,hkp⟩:=P.out;refine bodyPost_ret (by simp[results,Tryz.results48,go_sem,e0,e1,e2,e3,e4];try rfl) rfl ?_;rw[HF.out];exact⟨_,rfl,⟨_,_,_,rfl,Vu.out⟩,hkp _ _ (Nat.le_refl _) Ve.out⟩
      · have he:eqS n.name x=false:=by simpa using he
        have he':(n.name.toList==x.toList)=false:=he;have HE:=lH (show jj (l.drop k) x=jj (l.drop (k+1)) x by rw[HD.out];unfold jj;rw[List.find?_cons,he]);clear he;go_wp2;go_round
        case rel=>exact⟨k+1,by omega,by go_num,HE.out.symm.trans HS.out⟩
        case measure=>simp[intOf];omega
    · have HF:=lH (show jj l x=none by rw[←hrest,List.drop_of_length_le (by rw[HL.out];omega)];rfl);clear hrest;go_wp2;obtain⟨WE,hWE⟩:∃W,(((((Z.setCell ⟨w.heap.size,0,none⟩ (.string ⟨#[]⟩)).setCell ⟨w.heap.size,1,none⟩ (.slice none 0 0)).setCell ⟨w.heap.size,2,none⟩ (.slice none 0 0)).setCell ⟨w.heap.size,3,none⟩ (.slice none 0 0)).setCell ⟨w.heap.size,4,none⟩ (.bool false))=W:=⟨_,rfl⟩
      rw[hWE] at P0 ⊢;clear hWE y0 y1 y2 y3 y4 x0 x1 x2 x3 x4;obtain⟨⟨e0,e1,e2,e3,e4⟩,hsz,hbl,hkp⟩:=P0.out;refine bodyPost_ret (by simp[results,Tryz.results48,go_sem,e0,e1,e2,e3,e4];try rfl) rfl ?_;rw[HF.out];exact⟨_,rfl,(YH 0 _).toR,hkp _ _ (Nat.le_refl _) Ve.out⟩
theorem jcc (s1:Option Addr) (n1 e1:Nat) (s:Clu) (x:ByteArray) (w0 w:World) (hk0:Kept w0 w) (hn:jE w0 s1 n1 s.nodes):Calls Tryz.prog 48 #[.slice s1 n1 e1,.string x] w fun e w'=>∃b1 k1 d1 b2 k2 d2 b3 k3 d3,e=.returned (.tuple #[zw (zb s x) (.slice b1 k1 d1) (.slice b2 k2 d2) (.slice b3 k3 d3),.bool (jj s.nodes x).isSome])∧zp w0 (.slice b1 k1 d1) (.slice b2 k2 d2) (.slice b3 k3 d3) (zb s x)∧Kept w w':=by
 refine(jhY s1 n1 e1 s.nodes x w0 w hk0 hn).mono ?_;rintro e w' ⟨v,rfl,⟨v1,v2,v3,rfl,hat⟩,kk⟩;obtain⟨b1,d1,rfl,-,-,-⟩:=hat.cap;obtain⟨b2,d2,rfl,-,-,-⟩:=hat.labels;obtain⟨b3,d3,rfl,-,-,-⟩:=hat.taints;exact⟨_,_,_,_,_,_,_,_,_,rfl,hat,kk⟩
theorem jhH {s:Clu} {x:ByteArray} (h:(jj s.nodes x).isSome=false) (what:ByteArray):zu s x what=none:=by
 have hf:jj s.nodes x=none:=by cases e:jj s.nodes x with
  | none=>rfl
  | some n=>rw[e] at h;cases h
 unfold zu;rw[qO hf,show zy s x=(3,[]) by unfold zy;rw[hf]];show jcP 0 0=none;kernel_rfl
theorem jjA {s:Clu} {x:ByteArray} (h:(jj s.nodes x).isSome=false):Y2 s x=none:=by
 have hf:jj s.nodes x=none:=by cases e:jj s.nodes x with
  | none=>rfl
  | some n=>rw[e] at h;cases h
 exact jaI (by rw[qO hf];rfl)
theorem jd4 (w:World):jbm w none 0 []:=⟨rfl,by decide,(fun x h=>by cases h),.inl rfl⟩
theorem jb4 (s1 s2 s3:Option Addr) (n1 e1 n2 e2 n3 e3:Nat) (s:Clu) (name what:ByteArray) (w:World) (hs:jA w (zv (.slice s1 n1 e1) (.slice s2 n2 e2) (.slice s3 n3 e3)) s):Calls Tryz.prog 13 #[.agg #[.slice s1 n1 e1,.slice s2 n2 e2,.slice s3 n3 e3],.string name,.string what] w (Yh (zu s name what) w):=by
 obtain⟨Z,hZ⟩:∃Z,w.alloc (.cells #[.slice s1 n1 e1,.slice s2 n2 e2,.slice s3 n3 e3] 51)=Z:=⟨_,rfl⟩
 have hkz:Kept w Z:=by rw[←hZ];exact ja _ _
 have Vd:=lH (jd w (.slice s1 n1 e1) [.slice s2 n2 e2,.slice s3 n3 e3] 51 Z (by rw[hZ];exact Kept.refl _));have HS:=lH (hs.kept hkz);have K:=lH hkz;have TM:=lH hs;clear hs hkz;have HV:=lH (show zu s name what=jcP (Vec.jy (zy s name).2 what) (Vec.jy (zb s name).cap what) from rfl);have V7:=lH (jcc s1 n1 e1 s name w Z K.out TM.out.nAt.1);have y0:=Vd.out.at_ 0 _ rfl;go_enter Tryz.func13,Tryz.ntmps13;go_wp2_with fail
 try rw[hZ]
 clear hZ;refine V7.out.mono ?_;rintro e w1 ⟨b1,k1,d1,b2,k2,d2,b3,k3,d3,rfl,hat,kk⟩;have Uj:=lH (hat.cap.kept (K.out.trans kk));have HS:=lH (HS.out.kept kk);have Vd:=lH (Vd.out.kept kk);have K:=lH (K.out.trans kk);clear kk hat y0 V7;obtain⟨nz,hnz⟩:∃q,zb s name=q:=⟨_,rfl⟩
 rw[hnz] at Uj HV;rw[hnz];clear hnz;obtain⟨t,ht⟩:∃q,(jj s.nodes name).isSome=q:=⟨_,rfl⟩
 rw[ht];have HT:=lH ht;clear ht;unfold zw;obtain⟨gN,hgN⟩:∃g,w1.heap.size=g:=⟨_,rfl⟩
 obtain⟨w2,hw2⟩:∃W,w1.alloc (.cells #[.string nz.name,.slice b1 k1 d1,.slice b2 k2 d2,.slice b3 k3 d3,.bool nz.cordon] 99)=W:=⟨_,rfl⟩
 have kk:Kept w1 w2:=by rw[←hw2];exact ja _ _
 have CN:=lH (show jf gN [.string nz.name,.slice b1 k1 d1,.slice b2 k2 d2,.slice b3 k3 d3,.bool nz.cordon] w2 from by
  have c:=jd w1 (.string nz.name) [.slice b1 k1 d1,.slice b2 k2 d2,.slice b3 k3 d3,.bool nz.cordon] 99 w2 (by rw[hw2];exact Kept.refl _);rw[hgN] at c;exact c)
 have UO:=lH hgN;have Ux:=lH hw2;clear hgN hw2;have Uj:=lH (Uj.out.kept kk);have HS:=lH (HS.out.kept kk);have Vd:=lH (Vd.out.kept kk);have K:=lH (K.out.trans kk);clear kk;go_upto_region 2 with fail
 rw[Ux.out];try rw[UO.out]
 clear Ux UO
 cases t with
 | false =>
  go_wp2_with fail
  refine(jaw none 0 0 [] w2 (jd4 w2)).mono ?_;rintro e w3 ⟨r,rfl,hr,hrt,kk⟩;have HR:=lH (show nrm r=zu s name what by rw[hr,jhH HT.out];rfl);have K:=lH (K.out.trans kk);clear kk hr;go_wp2;go_ret;exact Y9 HR.out hrt K.out
 | true =>
  have y0:=Vd.out.at_ 0 _ rfl;have y1:=Vd.out.at_ 1 _ rfl;have y2:=Vd.out.at_ 2 _ rfl;have hus:=jbK HS.out name;try unfold zv at hus
  have TI:=lH hus;clear hus;go_wp2_with fail
  refine TI.out.mono ?_;rintro e w3 ⟨y,rfl,hy,kk⟩;have HY:=lH hy;have Uj:=lH (Uj.out.kept kk);have CN:=lH (CN.out.kept kk);have K:=lH (K.out.trans kk);clear kk hy TI y0 y1 y2;have HF:=lH (show ∀W,Kept w3 W→W.cell? ⟨gN,1,none⟩=some (.slice b1 k1 d1) from fun W kk=>(CN.out.kept kk).at_ 1 _ rfl);go_upto_region 5 with fail
  have J:=lH (Kept.drew w3);refine wp_region_held_drew (S:=fun W=>W.cell? ⟨gN,1,none⟩=some (.slice b1 k1 d1)) (by kernel_rfl) (HF.out _ J.out) (fun hHeld=>?_);obtain⟨wd,hwd⟩:∃W,w3.drew=W:=⟨_,rfl⟩
  rw[hwd] at J hHeld;try rw[hwd]
  clear hwd;obtain⟨qa,hqa⟩:∃a,Vec.jy (zy s name).2 what=a:=⟨_,rfl⟩
  obtain⟨qb,hqb⟩:∃a,Vec.jy nz.cap what=a:=⟨_,rfl⟩
  rw[hqa,hqb] at HV;refine tkJ 0 ?_;refine tkJ 1 ?_;refine tkJ 3 ?_;refine tkJ 4 ?_;refine tkJ 5 ?_;try simp only[nP]
  refine rd1 2 fun K9 Ky=>?_;go_simp;refine(Vec.jk3 (HY.out.kept J.out) hqa).mono ?_;rintro e w4 ⟨rfl,kk⟩;have J:=lH (J.out.trans kk);clear kk;refine Ky.out _ _ (HF.out _ J.out) (fun _=>?_);clear Ky K9;try simp only[nP]
  refine rd1 6 fun K9 Ky=>?_;go_simp;refine(Vec.jk3 (Uj.out.kept J.out) hqb).mono ?_;rintro e w5 ⟨rfl,kk⟩;have J:=lH (J.out.trans kk);clear kk;refine Ky.out _ _ (HF.out _ J.out) (fun _=>?_);clear Ky K9;try simp only[nP]
  refine rd1 7 fun K9 Ky=>?_;go_simp;refine(jc3 qa qb _).mono ?_;rintro e w6 ⟨r,n,rfl,rfl,hr,hrt⟩;have HR:=lH (show nrm r=zu s name what by rw[hr,HV.out];rfl);have J:=lH (J.out.trans (Kept.drewN w5 n));clear hr;refine Ky.out _ _ (HF.out _ J.out) (fun _=>?_);clear Ky K9;try simp only[nP]
  refine tkJ 8 ?_;try simp only[nP]
  refine wpAnyH_done (by kernel_rfl) ?_ _;go_wp2;go_ret;exact Y9 HR.out hrt (K.out.trans J.out)
theorem qB (s1 s2 s3:Option Addr) (n1 e1 n2 e2 n3 e3:Nat) (a1 a2 a3 a4:Option Addr) (m1 c1 m2 c2 m3 c3 m4 c4:Nat) (p:Pd) (s:Clu) (name:ByteArray) (w:World) (hs:jA w (zv (.slice s1 n1 e1) (.slice s2 n2 e2) (.slice s3 n3 e3)) s) (hl:jH s) (hA:Asc s.pods) (hp:js w (.slice a1 m1 c1) (.slice a2 m2 c2) (.slice a3 m3 c3) (.slice a4 m4 c4) p) (hx:name.size≤maxLen):Calls Tryz.prog 19 #[.agg #[.slice s1 n1 e1,.slice s2 n2 e2,.slice s3 n3 e3],jr p (.slice a1 m1 c1) (.slice a2 m2 c2) (.slice a3 m3 c3) (.slice a4 m4 c4),.string name] w (Yh (Zk s p name) w):=by
 obtain⟨i0,hi,hz0,hz1,hz2'⟩:=info_parts jjL;obtain⟨Z,hZ⟩:∃Z,(w.alloc (.cells #[.slice s1 n1 e1,.slice s2 n2 e2,.slice s3 n3 e3] 51)).alloc (.cells #[.string p.name,.string p.owner,.int .i64 p.prio,.slice a1 m1 c1,.slice a2 m2 c2,.slice a3 m3 c3,.slice a4 m4 c4,.string p.key,.int .i64 p.most,.string p.node,.bool p.hold] 45)=Z:=⟨_,rfl⟩
 have hkz:Kept w Z:=by rw[←hZ];exact jm _ _ _
 have Vm:=lH (show Z.heap.size=w.heap.size+2 by rw[←hZ];simp);have Vd:=lH (jd w (.slice s1 n1 e1) [.slice s2 n2 e2,.slice s3 n3 e3] 51 Z (by rw[←hZ];exact ja _ _));have Vb:=lH (show jf (w.heap.size+1) [.string p.name,.string p.owner,.int .i64 p.prio,.slice a1 m1 c1,.slice a2 m2 c2,.slice a3 m3 c3,.slice a4 m4 c4,.string p.key,.int .i64 p.most,.string p.node,.bool p.hold] Z by
  have dd:=jd (w.alloc (.cells #[.slice s1 n1 e1,.slice s2 n2 e2,.slice s3 n3 e3] 51)) (.string p.name) [.string p.owner,.int .i64 p.prio,.slice a1 m1 c1,.slice a2 m2 c2,.slice a3 m3 c3,.slice a4 m4 c4,.string p.key,.int .i64 p.most,.string p.node,.bool p.hold] 45 Z (by rw[hZ];exact Kept.refl _);rw[World.size_alloc] at dd;exact dd)
 have K:=lH hkz;have HS:=lH (hs.kept hkz);have HP:=lH (hp.kept hkz);have HL:=lH hl;have HA:=lH hA;have TM:=lH hs;have T8:=lH hp;clear hs hp hkz hl hA ;have HX:=lH hx;clear hx;have V7:=lH (jcc s1 n1 e1 s name w Z K.out TM.out.nAt.1);have y0:=Vd.out.at_ 0 _ rfl;unfold jr;go_enter Tryz.func19,Tryz.ntmps19;go_wp2_with fail
 try rw[hZ]
 clear hZ;refine V7.out.mono ?_;rintro e w1 ⟨b1,k1,d1,b2,k2,d2,b3,k3,d3,rfl,hat,kk⟩;have Uj:=lH (hat.cap.kept (K.out.trans kk));have R6:=lH hat.cap;have HS:=lH (HS.out.kept kk);have HP:=lH (HP.out.kept kk);have Vd:=lH (Vd.out.kept kk);have Vb:=lH (Vb.out.kept kk);have KZ:=lH (show Z.heap.size≤w1.heap.size from kk.size);have K:=lH (K.out.trans kk);clear kk hat y0 V7;have Rt:=(jan HL.out name).cap;obtain⟨nz,hnz⟩:∃q,zb s name=q:=⟨_,rfl⟩
 have No:=lH hnz;rw[hnz] at Uj R6 Rt;rw[hnz];clear hnz;obtain⟨t,ht⟩:∃q,(jj s.nodes name).isSome=q:=⟨_,rfl⟩
 rw[ht];have HT:=lH ht;clear ht;unfold zw;obtain⟨gN,hgN⟩:∃g,w1.heap.size=g:=⟨_,rfl⟩
 obtain⟨w2,hw2⟩:∃W,w1.alloc (.cells #[.string nz.name,.slice b1 k1 d1,.slice b2 k2 d2,.slice b3 k3 d3,.bool nz.cordon] 99)=W:=⟨_,rfl⟩
 have kk:Kept w1 w2:=by rw[←hw2];exact ja _ _
 have CN:=lH (show jf gN [.string nz.name,.slice b1 k1 d1,.slice b2 k2 d2,.slice b3 k3 d3,.bool nz.cordon] w2 from by
  have c:=jd w1 (.string nz.name) [.slice b1 k1 d1,.slice b2 k2 d2,.slice b3 k3 d3,.bool nz.cordon] 99 w2 (by rw[hw2];exact Kept.refl _);rw[hgN] at c;exact c)
 have UO:=lH hgN;have Ux:=lH hw2;clear hgN hw2;have HS:=lH (HS.out.kept kk);have HP:=lH (HP.out.kept kk);have Vd:=lH (Vd.out.kept kk);have Vb:=lH (Vb.out.kept kk);have Uj:=lH (Uj.out.kept kk);have K:=lH (K.out.trans kk);clear kk;go_upto_region 2 with fail
 rw[Ux.out];try rw[UO.out]
 clear Ux;have Rx:=lH (show w.heap.size+1<gN by have:=UO.out;have:=KZ.out;have:=Vm.out;omega);clear UO
 cases t with
 | false =>
  go_wp2_with fail
  refine(jaw none 0 0 [] w2 (jd4 w2)).mono ?_;rintro e w3 ⟨r,rfl,hr,hrt,kk⟩;have HR:=lH (show nrm r=Zk s p name by unfold Zk;rw[hr,jjA (s:=JT s { p with node:=name }) HT.out];rfl);have K:=lH (K.out.trans kk);clear kk hr;go_wp2;go_ret;exact Y9 HR.out hrt K.out
 | true =>
  have u9:=Vb.out.at_ 9 _ rfl;have f9:=Vb.out.free 9;obtain⟨Y,hY⟩:∃W,w2.setCell ⟨w.heap.size+1,9,none⟩ (.string name)=W:=⟨_,rfl⟩
  have Vb:=lH (show jf (w.heap.size+1) [.string p.name,.string p.owner,.int .i64 p.prio,.slice a1 m1 c1,.slice a2 m2 c2,.slice a3 m3 c3,.slice a4 m4 c4,.string p.key,.int .i64 p.most,.string name,.bool p.hold] Y by rw[←hY];exact Vb.out.set (j:=9) (u:=.string name) (by simp));have Vd:=lH (show jf w.heap.size [.slice s1 n1 e1,.slice s2 n2 e2,.slice s3 n3 e3] Y by rw[←hY];exact Vd.out.other (by omega));have CN:=lH (show jf gN [.string nz.name,.slice b1 k1 d1,.slice b2 k2 d2,.slice b3 k3 d3,.bool nz.cordon] Y by rw[←hY];exact CN.out.other (by have:=Rx.out;omega));have K:=lH (show Kept w Y by rw[←hY];exact K.out.setCell (p:=⟨w.heap.size+1,9,none⟩) (by show w.heap.size≤w.heap.size+1;omega) _);have HS:=lH (TM.out.kept K.out);have Uj:=lH (R6.out.kept K.out);have HP:=lH (show js Y (.slice a1 m1 c1) (.slice a2 m2 c2) (.slice a3 m3 c3) (.slice a4 m4 c4) { p with node:=name } from by have h:=T8.out.kept K.out;exact⟨h.name,h.owner,h.key,HX.out,h.prio,h.most,h.need,h.labels,h.sel,h.tols⟩);go_upto_region 4 with fail
  go_upto_region 5 with fail
  try rw[hY]
  clear hY u9 f9;have y0:=Vd.out.at_ 0 _ rfl;have y1:=Vd.out.at_ 1 _ rfl;have y2:=Vd.out.at_ 2 _ rfl;have r0:=Vb.out.at_ 0 _ rfl;have r1:=Vb.out.at_ 1 _ rfl;have r2:=Vb.out.at_ 2 _ rfl;have r3:=Vb.out.at_ 3 _ rfl;have r4:=Vb.out.at_ 4 _ rfl;have r5:=Vb.out.at_ 5 _ rfl;have r6:=Vb.out.at_ 6 _ rfl;have r7:=Vb.out.at_ 7 _ rfl;have r8:=Vb.out.at_ 8 _ rfl;have r9:=Vb.out.at_ 9 _ rfl;have r10:=Vb.out.at_ 10 _ rfl;have hput:=jk9 HS.out (p:={ p with node:=name }) ⟨_,_,_,_,rfl,HP.out⟩ HL.out.podsN;try unfold zv at hput
  try unfold jr at hput
  have Mt:=lH hput;clear hput;go_wp2_with fail
  refine Mt.out.mono ?_;rintro e w3 ⟨y,rfl,hy,kk⟩;rw[jhF HA.out] at hy;obtain⟨t1,k4,d4,t2,k5,d5,t3,k6,d6,rfl⟩:=hy.spelt;have Nu:=lH hy;have Uj:=lH (Uj.out.kept kk);have CN:=lH (CN.out.kept kk);have K:=lH (K.out.trans kk);clear kk hy Mt y0 y1 y2 r0 r1 r2 r3 r4 r5 r6 r7 r8 r9 r10;obtain⟨gT,hgT⟩:∃g,w3.heap.size=g:=⟨_,rfl⟩
  obtain⟨w4,hw4⟩:∃W,w3.alloc (.cells #[.slice t1 k4 d4,.slice t2 k5 d5,.slice t3 k6 d6] 51)=W:=⟨_,rfl⟩
  have kk:Kept w3 w4:=by rw[←hw4];exact ja _ _
  have CT:=lH (show jf gT [.slice t1 k4 d4,.slice t2 k5 d5,.slice t3 k6 d6] w4 from by
   have c:=jd w3 (.slice t1 k4 d4) [.slice t2 k5 d5,.slice t3 k6 d6] 51 w4 (by rw[hw4];exact Kept.refl _);rw[hgT] at c;exact c)
  have R7:=lH hgT;have Tg:=lH hw4;clear hgT hw4;have Nu:=lH (Nu.out.kept kk);have Uj:=lH (Uj.out.kept kk);have CN:=lH (CN.out.kept kk);have K:=lH (K.out.trans kk);clear kk;try unfold zv
  go_upto_region 6 with fail
  rw[Tg.out];try rw[R7.out]
  clear Tg R7;have TI:=lH (show Zk s p name=jaZ (nz.cap.map fun a=>zu (JT s { p with node:=name }) name a.1) by show jaZ ((zb s name).cap.map _)=_;rw[No.out]);obtain⟨T9,hT9⟩:∃q,JT s { p with node:=name }=q:=⟨_,rfl⟩
  rw[hT9] at TI Nu;clear hT9;obtain⟨cap,hcap⟩:∃q,nz.cap=q:=⟨_,rfl⟩
  rw[hcap] at Uj TI Rt;clear hcap;obtain⟨aC,cC,eC,-,-,hCA⟩:=Uj.out;injection eC with e4 e5 e6;obtain rfl:=e4;obtain rfl:=e6;have TX:=lH hCA;obtain⟨n9,hn9⟩:∃q,cap.length=q:=⟨_,rfl⟩
  rw[hn9] at TX Rt e5;obtain rfl:=e5;have UB:=lH hn9;clear hCA hn9;have HF:=lH (show ∀W,Kept w4 W→W.cell? ⟨gN,1,none⟩=some (.slice b1 k1 d1)∧W.cell? ⟨gT,0,none⟩=some (.slice t1 k4 d4)∧W.cell? ⟨gT,1,none⟩=some (.slice t2 k5 d5)∧W.cell? ⟨gT,2,none⟩=some (.slice t3 k6 d6) from fun W kk=>by
   have h:=CT.out.kept kk;exact⟨(CN.out.kept kk).at_ 1 _ rfl,h.at_ 0 _ rfl,h.at_ 1 _ rfl,h.at_ 2 _ rfl⟩)
  go_wp2;go_loopw [10,11] (fun v i wr=>∃k:Nat,k≤k1∧i=.int .i64 k∧∃la:List Nat,la.map nrm=(cap.take k).map (fun a=>zu T9 name a.1)∧Own Z3 54 wr w4.heap.size v la∧Kept w4 wr) (fun _ i _=>k1-(intOf i).toNat)
  case atStart=>exact⟨0,Nat.zero_le _,rfl,[],rfl,Own.nil _ _ _,Kept.refl _⟩
  case round =>
   obtain⟨k,hk,rfl,la,hla,ho,hK⟩:=hrel;have UD:=lH hla;have HO:=lH ho;have HK:=lH hK;obtain⟨m,hm⟩:∃m,la.length=m:=⟨_,rfl⟩
   have hmk:m≤k:=by
    have:=congrArg List.length hla;simp only[List.length_map,List.length_take] at this;omega
   have Mu:=lH hm;have hbase:w4.heap.size≤wr.heap.size:=hK.size;have n1c:=(HF.out _ hK).1;by_cases hlt:k<k1
   · obtain⟨b,off,rfl⟩:=TX.out.form.resolve_left (by omega);obtain⟨-,u0w,-⟩:=TX.out.cells hlt;have u0:=cell_later hK u0w;have Ut:=lH (jcq (s:=T9) (x:=name) (l:=cap) (k:=k) (by have:=UB.out;omega));obtain⟨xn,hxn⟩:∃x,Vec.nm cap k=x:=⟨_,rfl⟩
     rw[hxn] at u0 u0w Ut;have hkk:(k:Int)<(k1:Int):=by omega
     have hk0:¬(k:Int)<0:=by omega
     have Nv:=lH (fun (W:World) (kk:Kept w4 W)=>cell_later kk u0w);have J:=lH (Kept.drew wr);clear hla ho hm hK hxn u0w;go_upto_region 10 with fail
     refine wp_region_held_drew (S:=fun W=>(W.cell? ⟨gN,1,none⟩=some (.slice (some ⟨b,off,none⟩) k1 d1)∧W.cell? ⟨gT,0,none⟩=some (.slice t1 k4 d4)∧W.cell? ⟨gT,1,none⟩=some (.slice t2 k5 d5)∧W.cell? ⟨gT,2,none⟩=some (.slice t3 k6 d6))∧W.cell? ⟨b,off+k*2,none⟩=some (.string xn)) (by kernel_rfl) (⟨HF.out _ (HK.out.trans J.out),Nv.out _ (HK.out.trans J.out)⟩) (fun hHeld=>?_);obtain⟨wd,hwd⟩:∃W,wr.drew=W:=⟨_,rfl⟩
     rw[hwd] at J hHeld;try rw[hwd]
     clear hwd n1c u0;refine tkH 0 (v:=?_) (y:=Or.inl ⟨by rfl,(by intro W hSw;obtain⟨⟨o0,o1,o2,o3⟩,o4⟩:=hSw;go_simp<;>with_reducible rfl)⟩) (h:=?_);try simp only[nP]
     refine tkH 1 (v:=?_) (y:=Or.inl ⟨by rfl,(by intro W hSw;obtain⟨⟨o0,o1,o2,o3⟩,o4⟩:=hSw;go_simp<;>with_reducible rfl)⟩) (h:=?_);try simp only[nP]
     refine tkH 2 (v:=?_) (y:=Or.inl ⟨by rfl,(by intro W hSw;obtain⟨⟨o0,o1,o2,o3⟩,o4⟩:=hSw;go_simp<;>with_reducible rfl)⟩) (h:=?_);try simp only[nP]
     refine tkH 3 (v:=?_) (y:=Or.inl ⟨by rfl,(by intro W hSw;obtain⟨⟨o0,o1,o2,o3⟩,o4⟩:=hSw;go_simp<;>with_reducible rfl)⟩) (h:=?_);try simp only[nP]
     refine tkH 4 (v:=?_) (y:=Or.inl ⟨by rfl,(by intro W hSw;obtain⟨⟨o0,o1,o2,o3⟩,o4⟩:=hSw;go_simp<;>with_reducible rfl)⟩) (h:=?_);try simp only[nP]
     refine tkH 5 (v:=?_) (y:=Or.inl ⟨by rfl,(by intro W hSw;obtain⟨⟨o0,o1,o2,o3⟩,o4⟩:=hSw;go_simp<;>with_reducible rfl)⟩) (h:=?_);try simp only[nP]
     refine tkH 6 (v:=?_) (y:=Or.inl ⟨by rfl,(by intro W hSw;obtain⟨⟨o0,o1,o2,o3⟩,o4⟩:=hSw;go_simp<;>with_reducible rfl)⟩) (h:=?_);try simp only[nP]
     refine tkH 7 (v:=?_) (y:=Or.inl ⟨by rfl,(by intro W hSw;obtain⟨⟨o0,o1,o2,o3⟩,o4⟩:=hSw;go_simp<;>with_reducible rfl)⟩) (h:=?_);try simp only[nP]
     refine tkH 8 (v:=?_) (y:=Or.inl ⟨by rfl,(by intro W hSw;obtain⟨⟨o0,o1,o2,o3⟩,o4⟩:=hSw;go_simp<;>with_reducible rfl)⟩) (h:=?_);try simp only[nP]
     clear hkk hk0;refine rd1 9 fun K9 Ky=>?_;go_simp;have hus:=jb4 t1 t2 t3 k4 d4 k5 d5 k6 d6 T9 name xn wd (Nu.out.kept (HK.out.trans J.out));refine hus.mono ?_;clear hus;rintro e w5 ⟨r,rfl,hr,hrt,kk⟩;have HV:=lH (show (la++[r]).map nrm=(cap.take (k+1)).map (fun a=>zu T9 name a.1) by rw[Ut.out,List.map_append,UD.out];simp[hr]);have RU:=lH hrt;have J:=lH (J.out.trans kk);clear kk hr hrt;refine Ky.out _ _ (⟨HF.out _ (HK.out.trans J.out),Nv.out _ (HK.out.trans J.out)⟩) (fun _=>?_);clear Ky K9;try simp only[nP]
     refine rd1 10 fun K9 Ky=>?_;go_simp;refine Ky.out _ _ (⟨HF.out _ (HK.out.trans (J.out.trans (ja _ _))),Nv.out _ (HK.out.trans (J.out.trans (ja _ _)))⟩) (fun _=>?_);clear Ky K9;try simp only[nP]
     obtain⟨w6,hw6⟩:∃W,w5.alloc (.cells #[.float .f64 r] 54)=W:=⟨_,rfl⟩
     have k6x:Kept w5 w6:=by rw[←hw6];exact ja _ _
     have U9:=lH (show w6.heap[w5.heap.size]?=some (.cells #[.float .f64 r] 54) by rw[←hw6];exact World.alloc_heap_new w5 _);have J:=lH (J.out.trans k6x);try rw[hw6]
     clear hw6 k6x;have Vy:=lH (show w6.ownsRow w4.heap.size 54 1 u10 m (jb Z3 la) by have:=(HO.out.kept J.out).1;rw[Mu.out] at this;exact this);refine rd1 11 fun K9 Ky=>?_;refine step_append_lies _ (by rfl) _ _ _ (by rfl) w4.heap.size 54 i0 _ 1 8 Tryz.underlying125 hi hz0 hz1 hz2' rfl (by decide) u10 m (jb Z3 la) (by rfl) Vy.out ⟨w5.heap.size,0,none⟩ 1 1 (Z3.cs r) (by rfl) (by rfl) (World.news_of_block (cs:=#[.float .f64 r]) (t:=54) (fr:=(0,0)) U9.out) (jcS r) (by decide) (by unfold maxLen;omega) (by omega) (by have:=J.out.size;omega) _ rfl ?_;intro gg cap1 w7 hown1 hgrow hat hlt1;have VU:=lH ((show Below w4.heap.size w4 _ from HK.out.trans J.out).grown hgrow (by have:=J.out.size;omega) (fun j hj=>(Vy.out.lt j hj).1));have V2:=lH hown1;clear hgrow hat hlt1 hown1;refine Ky.out _ _ (⟨HF.out _ VU.out,Nv.out _ VU.out⟩) (fun _=>?_);clear Ky K9;try simp only[nP]
     refine tkH 12 (v:=?_) (y:=Or.inl ⟨by rfl,(by intro W hSw;obtain⟨⟨o0,o1,o2,o3⟩,o4⟩:=hSw;go_simp<;>with_reducible rfl)⟩) (h:=?_);try simp only[nP]
     refine wpAnyH_done (by kernel_rfl) ?_ _;go_wp2;go_roundw
     case rel=>exact⟨k+1,by omega,by go_num,la++[r],HV.out,Own.snoc V2.out (by rw[Mu.out]) HO.out.2 RU.out,VU.out⟩
     case measure=>simp[intOf];omega
   · have hge:¬(k:Int)<(k1:Int):=by omega
     have HE:=lH (show la.map nrm=cap.map (fun a=>zu T9 name a.1) by rw[hla,List.take_of_length_le (by have:=UB.out;omega)]);obtain⟨aL,cL,rfl,-,-,hrow⟩:=ho.at_;have Ta:=lH (jaw aL la.length cL la wr (jec hrow));rw[hm] at Ta;try rw[hm]
     clear hla ho hm hK hrow;go_wp2_with fail
     refine Ta.out.mono ?_;rintro e w5 ⟨r,rfl,hr,hrt,kk⟩;have HR:=lH (show nrm r=Zk s p name by rw[hr,jc1,HE.out,TI.out]);have K:=lH (K.out.trans (HK.out.trans kk));clear kk hr Ta;go_wp2;go_ret;exact Y9 HR.out hrt K.out
open Go.RowKit Go.Sort
theorem jaL (a:Option Addr) (len cap:Nat) (l:NL) (t1 t2:ByteArray) (t3:Bool) (w:World) (hr:jh jx w a len l) :
 Calls Tryz.prog 96 #[.slice a len cap,NV t1 t2 t3] w fun e w'=>e=.returned (.bool (Jw l (t1,t2,t3)))∧Grw w w':=by
 have hl:=hr.1;have hm:=hr.2.1;unfold maxLen at hm;rcases hr.form with h0 | ⟨b,off,rfl⟩
 · subst h0;have HE:=lH (show Jw l (t1,t2,t3)=false by rw[List.eq_nil_of_length_eq_zero hl];rfl);clear hr hl;go_enter Tryz.func96,Tryz.ntmps96;go_wp2;refine wp_loop_rounds 1 ?_;rw[rounds_succ];go_wp2;go_ret;exact⟨je HE.out.symm,Grw.alloc _ _⟩
 · have HR:=lH hr;have HL:=lH hl;clear hr hl;go_enter Tryz.func96,Tryz.ntmps96;go_wp2;go_loopw [5] (fun i wr=>∃k:Nat,k≤len∧i=.int .i64 k∧Jw (l.drop k) (t1,t2,t3)=Jw l (t1,t2,t3)∧Grw (w.alloc (.cells #[.string t1,.string t2,.bool t3] 115)) wr) (fun i _=>len-(intOf i).toNat)
   case atStart=>exact⟨0,Nat.zero_le _,rfl,rfl,Grw.refl _⟩
   case round =>
    obtain⟨k,hk,rfl,hrest,hG⟩:=hrel;have hK:=hG.kept;have N6:=lH hG;have R8:=lH ((Grw.alloc w _).trans hG);have hKw:Kept w wr:=(ja w _).trans hK;have tn:=(ZU.new w t1 t2 t3 115).kept hK;have g1:=tn.1;have g2:=tn.2.1;dsimp only at g1 g2;by_cases hlt:k<len
    · obtain⟨x,y,m,hx,hd,hb,hz,hz2,c1,c2,c3⟩:=(HR.out.kept hKw).tri hlt;have HK:=lH hKw;have Uk:=lH hK;obtain⟨q,hq⟩:∃q,JS (t1,t2,t3) (x,y,m)=q:=⟨_,rfl⟩
      have HS:=lH (hrest.symm.trans ((congrArg (fun z=>Jw z (t1,t2,t3)) hd).trans (show Jw ((x,y,m)::l.drop (k+1)) (t1,t2,t3)=(q||Jw (l.drop (k+1)) (t1,t2,t3)) by rw[←hq];rfl)));obtain⟨q0,hq0⟩:∃q,(x.toList==([]:List UInt8))=q:=⟨_,rfl⟩
      obtain⟨q1,hq1⟩:∃q,(x.toList==t1.toList)=q:=⟨_,rfl⟩
      obtain⟨q2,hq2⟩:∃q,(y.toList==t2.toList)=q:=⟨_,rfl⟩
      have HQ:=lH (show q=((q0||q1)&&(m||q2)) by rw[←hq];unfold JS;rw[JA,hq0];unfold eqS;rw[hq1,hq2]);have hlt':(k:Int)<(len:Int):=by omega
      clear tn hK hKw hrest hx hd hq hG
      cases q0 with
      | true =>
       cases m with
       | true =>
        go_wp2_with fail
        go_quiet (fail)
        go_wp2;go_ret;exact⟨je (HS.out.trans (by rw[HQ.out];rfl)).symm,R8.out.trans (Grw.drewN _ _)⟩
       | false =>
        cases q2 with
        | true =>
         go_wp2_with fail
         go_quiet (fail)
         go_wp2;go_ret;exact⟨je (HS.out.trans (by rw[HQ.out];rfl)).symm,R8.out.trans (Grw.drewN _ _)⟩
        | false =>
         go_wp2_with fail
         go_quiet (fail)
         go_wp2;go_roundw
         case rel=>exact⟨k+1,by omega,by go_num,(HS.out.trans (by rw[HQ.out];rfl)).symm,N6.out.trans (Grw.drewN _ _)⟩
         case measure=>simp[intOf];omega
      | false =>
       cases q1 with
       | true =>
        cases m with
        | true =>
         go_wp2_with fail
         go_quiet (fail)
         go_wp2;go_ret;exact⟨je (HS.out.trans (by rw[HQ.out];rfl)).symm,R8.out.trans (Grw.drewN _ _)⟩
        | false =>
         cases q2 with
         | true =>
          go_wp2_with fail
          go_quiet (fail)
          go_wp2;go_ret;exact⟨je (HS.out.trans (by rw[HQ.out];rfl)).symm,R8.out.trans (Grw.drewN _ _)⟩
         | false =>
          go_wp2_with fail
          go_quiet (fail)
          go_wp2;go_roundw
          case rel=>exact⟨k+1,by omega,by go_num,(HS.out.trans (by rw[HQ.out];rfl)).symm,N6.out.trans (Grw.drewN _ _)⟩
          case measure=>simp[intOf];omega
       | false =>
        go_wp2_with fail
        go_quiet (fail)
        go_wp2;go_roundw
        case rel=>exact⟨k+1,by omega,by go_num,(HS.out.trans (by rw[HQ.out];rfl)).symm,N6.out.trans (Grw.drewN _ _)⟩
        case measure=>simp[intOf];omega
    · have Uk:=lH hKw;have HS:=lH (hrest.symm.trans (congrArg (fun z=>Jw z (t1,t2,t3)) (zH (by rw[HL.out];exact hlt))));clear tn hK hKw hrest hG;go_wp2;go_ret;exact⟨je (HS.out.trans rfl).symm,R8.out⟩
theorem jfa (a a':Option Addr) (len cap len' cap':Nat) (l t:NL) (w:World) (hr:jh jx w a len l) (hr':jh jx w a' len' t) :
 Calls Tryz.prog 59 #[.slice a len cap,.slice a' len' cap'] w fun e w'=>e=.returned (.tuple #[NV (wT (za l t)).1 (wT (za l t)).2.1 (wT (za l t)).2.2,.bool (za l t).isSome])∧Kept w w':=by
 have hl:=hr'.1;have hm:=hr'.2.1;unfold maxLen at hm;rcases hr'.form with h0 | ⟨b,off,rfl⟩
 · subst h0;have HE:=lH (show za l t=none by rw[List.eq_nil_of_length_eq_zero hl];rfl);rw[HE.out];clear hr hr' hl;go_enter Tryz.func59,Tryz.ntmps59;go_wp2;refine wp_loop_rounds 1 ?_;rw[rounds_succ];go_wp2;(try simp only[Exit.inBlock,Exit.then])
   refine bodyPost_ret (v:=.tuple #[NV ⟨#[]⟩ ⟨#[]⟩ false,.bool false]) (by simp[results,Tryz.results59,go_sem]) rfl ?_;exact⟨rfl,ja _ _⟩
 · have HR:=lH hr;have HR':=lH hr';have HL:=lH hl;clear hr hr' hl;go_enter Tryz.func59,Tryz.ntmps59;go_wp2;go_loopw [6] (fun i wr=>∃k:Nat,k≤len'∧i=.int .i64 k∧za l (t.drop k)=za l t∧Kept (w.alloc (.cells #[.string ⟨#[]⟩,.string ⟨#[]⟩,.bool false] 115)) wr) (fun i _=>len'-(intOf i).toNat)
   case atStart=>exact⟨0,Nat.zero_le _,rfl,rfl,Kept.refl _⟩
   case round =>
    obtain⟨k,hk,rfl,hrest,hK⟩:=hrel;have hKw:Kept w wr:=(ja w _).trans hK;have tn:=(ZU.new w ⟨#[]⟩ ⟨#[]⟩ false 115).kept hK;have d1:=tn.1;have d2:=tn.2.1;have d3:=tn.2.2;dsimp only at d1 d2 d3;have hbs:w.heap.size<wr.heap.size:=by have:=hK.size;simp at this;omega
    have fr:=jeG w ⟨#[]⟩ ⟨#[]⟩ false 115;have z1:=zR hK (by simp) fr.1;have z2:=zR hK (by simp) fr.2.1;have z3:=zR hK (by simp) fr.2.2;clear tn fr;by_cases hlt:k<len'
    · obtain⟨x,y,m,hx,hd,hb,hz,hz2,c1,c2,c3⟩:=(HR'.out.kept hKw).tri hlt;have HK:=lH hKw;obtain⟨q,hq⟩:∃q,Jw l (x,y,m)=q:=⟨_,rfl⟩
      have HS:=lH (hrest.symm.trans ((congrArg (za l) hd).trans (jch.trans (by rw[hq]))));have HC:=lH (fun W (h:Kept w W)=>jaL a len cap l x y m W (HR.out.kept h));rw[hq] at HC;have Uk:=lH hK;clear hK hrest hx hd hq hKw
      cases m with
      | false =>
       go_wp2_with fail
       go_roundw
       case rel=>exact⟨k+1,by omega,by go_num,HS.out.symm,Uk.out⟩
       case measure=>simp[intOf];omega
      | true =>
       cases q with
       | true =>
        go_wp2_with (go_at_call 96;refine(HC.out _ HK.out).mono ?_;rintro e w1 ⟨rfl,k1⟩;have K1:=lH k1.kept;clear k1)
        go_roundw
        case rel=>exact⟨k+1,by omega,by go_num,HS.out.symm,Uk.out.trans K1.out⟩
        case measure=>simp[intOf];omega
       | false =>
        have HW:=lH (show za l t=some (x,y,true) from HS.out);go_wp2_with (go_at_call 96;refine(HC.out _ HK.out).mono ?_;rintro e w1 ⟨rfl,k1⟩;have K1:=lH k1.kept;have y1:=zR K1.out hbs z1;have y2:=zR K1.out hbs z2;have y3:=zR K1.out hbs z3;have f1:=cell_later K1.out d1;have f2:=cell_later K1.out d2;have f3:=cell_later K1.out d3;have g1:=cell_later K1.out c1;have g2:=cell_later K1.out c2;have g3:=cell_later K1.out c3;clear k1)
        (try simp only[Exit.inBlock,Exit.then])
        have s3:=XO w1 w.heap.size (.string x) (.string y) (.bool true) f1 f2 f3;refine bodyPost_ret (v:=.tuple #[NV x y true,.bool true]) (by simp[results,Tryz.results59,go_sem,s3.1,s3.2.1,s3.2.2]) rfl ?_;exact⟨by rw[HW.out];rfl,Ji (Ji (Ji (HK.out.trans K1.out) (Nat.le_refl _) _) (Nat.le_refl _) _) (Nat.le_refl _) _⟩
    · have Uk:=lH hKw;have HS:=lH (show za l t=none from(hrest.symm.trans (congrArg (za l) (zH (by rw[HL.out];exact hlt)))));clear hK hrest hKw;go_wp2;(try simp only[Exit.inBlock,Exit.then])
      have s3:=XO wr w.heap.size (.string ⟨#[]⟩) (.string ⟨#[]⟩) (.bool false) d1 d2 d3;refine bodyPost_ret (v:=.tuple #[NV ⟨#[]⟩ ⟨#[]⟩ false,.bool false]) (by simp[results,Tryz.results59,go_sem,s3.1,s3.2.1,s3.2.2]) rfl ?_;exact⟨by rw[HS.out];rfl,Ji (Ji (Ji Uk.out (Nat.le_refl _) _) (Nat.le_refl _) _) (Nat.le_refl _) _⟩
theorem jfI (a a':Option Addr) (len cap len' cap':Nat) (l t:NL) (w:World) (hr:jh jx w a len l) (hr':jh jx w a' len' t) :
 Calls Tryz.prog 93 #[.slice a len cap,.slice a' len' cap'] w fun e w'=>e=.returned (.int .i64 (softN l t))∧Kept w w':=by
 have hl:=hr'.1;have hm:=hr'.2.1;unfold maxLen at hm;rcases hr'.form with h0 | ⟨b,off,rfl⟩
 · subst h0;have HE:=lH (show (softN l t:Int)=0 by rw[List.eq_nil_of_length_eq_zero hl];rfl);rw[HE.out];clear hr hr' hl;go_enter Tryz.func93,Tryz.ntmps93;go_wp2;refine wp_loop_rounds 1 ?_;rw[rounds_succ];go_wp2;go_ret;exact⟨rfl,Kept.refl _⟩
 · have HR:=lH hr;have HR':=lH hr';have HL:=lH hl;clear hr hr' hl;go_enter Tryz.func93,Tryz.ntmps93;go_wp2;go_loopw [5,6] (fun v i wr=>∃k n:Nat,k≤len'∧i=.int .i64 k∧v=.int .i64 n∧n≤k∧n+softN l (t.drop k)=softN l t∧Kept w wr) (fun _ i _=>len'-(intOf i).toNat)
   case atStart=>exact⟨0,0,Nat.zero_le _,rfl,rfl,Nat.le_refl _,by simp,Kept.refl _⟩
   case round =>
    obtain⟨k,n,hk,rfl,rfl,hn,hrest,hK⟩:=hrel;by_cases hlt:k<len'
    · obtain⟨x,y,m,hx,hd,hb,hz,hz2,c1,c2,c3⟩:=(HR'.out.kept hK).tri hlt;have HK:=lH hK;obtain⟨q,hq⟩:∃q,Jw l (x,y,m)=q:=⟨_,rfl⟩
      have HS:=lH (show n+((if (!m&&!q)=true then 1 else 0)+softN l (t.drop (k+1)))=softN l t by rw[←hrest,hd,jc7,hq]);have HC:=lH (fun W (h:Kept w W)=>jaL a len cap l x y m W (HR.out.kept h));rw[hq] at HC;clear hK hrest hx hd hq
      cases m with
      | true =>
       go_wp2_with fail
       go_roundw
       case rel=>exact⟨k+1,n,by omega,by go_num,rfl,by omega,by have:=HS.out;simpa using this,HK.out⟩
       case measure=>simp[intOf];omega
      | false =>
       cases q with
       | true =>
        go_wp2_with (go_at_call 96;refine(HC.out _ HK.out).mono ?_;rintro e w1 ⟨rfl,k1⟩;have K1:=lH k1.kept;clear k1)
        go_roundw
        case rel=>exact⟨k+1,n,by omega,by go_num,rfl,by omega,by have:=HS.out;simpa using this,HK.out.trans K1.out⟩
        case measure=>simp[intOf];omega
       | false =>
        go_wp2_with (go_at_call 96;refine(HC.out _ HK.out).mono ?_;rintro e w1 ⟨rfl,k1⟩;have K1:=lH k1.kept;clear k1)
        go_roundw
        case rel=>exact⟨k+1,n+1,by omega,by go_num,by go_num,by omega,by have:=HS.out;simp at this;omega,HK.out.trans K1.out⟩
        case measure=>simp[intOf];omega
    · have Uk:=lH hK;have HS:=lH (show softN l t=n by rw[←hrest,zH (by rw[HL.out];exact hlt)];rfl);clear hK hrest;go_wp2;go_ret;exact⟨by rw[HS.out];rfl,Uk.out⟩
theorem ji4 {v v':Value} {l t:NL} {x y:ByteArray} {m b:Bool} {w:World} (h:Reads jx w v l) (h':Reads jx w v' t) (hx:wT (za l t)=(x,y,m)) (hb:(za l t).isSome=b) :
 Calls Tryz.prog 59 #[v,v'] w (Say (.tuple #[NV x y m,.bool b]) w):=by
 obtain⟨a,cap,rfl,_,_,hr⟩:=h;obtain⟨a',cap',rfl,_,_,hr'⟩:=h';exact(jfa a a' _ cap _ cap' l t w hr hr').mono fun e w' ⟨he,k⟩=>⟨by rw[he,hx,hb],k⟩
theorem jfB {v v':Value} {l t:NL} {n:Nat} {w:World} (h:Reads jx w v l) (h':Reads jx w v' t) (hn:softN l t=n) :
 Calls Tryz.prog 93 #[v,v'] w (Say (.int .i64 n) w):=by
 obtain⟨a,cap,rfl,_,_,hr⟩:=h;obtain⟨a',cap',rfl,_,_,hr'⟩:=h';exact(jfI a a' _ cap _ cap' l t w hr hr').mono fun e w' ⟨he,k⟩=>⟨by rw[he,hn],k⟩
end Go.Proofs.YtmlgobiifebjkabGreat
