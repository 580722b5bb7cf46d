/- C. -/
import Derived.Test.YtibepooajeakfaaGreatG1
import Derived.Test.YtibepooajeakfaaGreatG2
import Derived.Test.YtibepooajeakfaaGreatG4
import Derived.Test.YtibepooajeakfaaGreatG5
import Derived.Test.YtibepooajeakfaaGreatG6
import Derived.Test.YtibepooajeakfaaGreatG8
import Derived.Test.YtibepooajeakfaaGreatG9
import Derived.Test.YtibepooajeakfaaGreatG10
import Derived.Test.YtibepooajeakfaaGreatG11
import Derived.Test.YtibepooajeakfaaGreatG12
import Derived.Test.YtibepooajeakfaaGreatG13
import Derived.Test.YtibepooajeakfaaGreatG16
set_option linter.unusedVariables false
set_option maxRecDepth 100000
set_option maxHeartbeats 25600000
namespace Go.Proofs.YtibepooajeakfaaGreat
open Go.RowKit
theorem jok {v:Value} {s:Clu} {w:World} (h:jC w v s) (hl:jE s) (e1:s.nodes.length≤1000) (e2:s.pods.length≤1000) (e3:s.buds.length≤1000):Calls Tryz.prog 8 #[v] w fun e w'=>∃v,e=.returned v∧jC w' v s∧Kept w w':=by
 obtain⟨v1,v2,v3,rfl,⟨a,cap,rfl,l1,m1,h1⟩,⟨b,cp,rfl,l2,m2,h2⟩,⟨d,cb,rfl,l3,m3,h3⟩⟩:=h;obtain⟨nl,pl,bl⟩:=s;dsimp only at *;obtain⟨len,hlen⟩:=eX (nl.length)
 obtain⟨m,hm⟩:=eX (pl.length)
 obtain⟨n,hn⟩:=eX (bl.length)
 rw[hlen] at h1 l1;rw[hm] at h2 l2;rw[hn] at h3 l3;try rw[hlen]
 try rw[hm]
 try rw[hn]
 obtain⟨Z,hZ⟩:=eX ((w.alloc (.cells #[.slice a len cap,.slice b m cp,.slice d n cb] 26)).alloc (.cells #[.slice none 0 0,.slice none 0 0,.slice none 0 0] 33))
 have hkz:Kept w Z:=by rw[←hZ];exact jn _ _ _
 have cc:=jc w (.slice a len cap) [.slice b m cp,.slice d n cb] 26 Z (by rw[←hZ];exact ja _ _);have HH:=lH (show jf (w.heap.size+1) [.slice none 0 0,.slice none 0 0,.slice none 0 0] Z by
  have dd:=jc (w.alloc (.cells #[.slice a len cap,.slice b m cp,.slice d n cb] 26)) (.slice none 0 0) [.slice none 0 0,.slice none 0 0] 33 Z (by rw[hZ];exact Kept.refl _);rw[World.size_alloc] at dd;exact dd)
 obtain⟨HN,HP,HB,Vc⟩:=lH4 (fun W (k:Kept Z W)=>jny (qN l1 m1 (h1.kept (hkz.trans k))) hl.nodes e1) (fun W (k:Kept Z W)=>jng (jhF l2 m2 (h2.kept (hkz.trans k))) hl.pods e2) (fun W (k:Kept Z W)=>jmF (jdh l3 m3 (h3.kept (hkz.trans k))) hl.buds e3) hkz;have NH:=lH (show ∀W,Kept Z W→jag W (w.heap.size+1) from fun W k=>by
  have hh:Z.heap[w.heap.size+1]?=some (.cells #[.slice none 0 0,.slice none 0 0,.slice none 0 0] 33):=by
   have:=(w.alloc (.cells #[.slice a len cap,.slice b m cp,.slice d n cb] 26)).alloc_heap_new (.cells #[.slice none 0 0,.slice none 0 0,.slice none 0 0] 33);rw[World.size_alloc,hZ] at this;exact this
  exact JW ((k.block _ (Array.getElem?_eq_some_iff.1 hh).1).trans hh))
 have HS:=lH (show ∀W,Kept Z W→W.cell? ⟨w.heap.size,0,none⟩=some (.slice a len cap)∧W.cell? ⟨w.heap.size,1,none⟩=some (.slice b m cp)∧W.cell? ⟨w.heap.size,2,none⟩=some (.slice d n cb) from fun W k=>⟨(cc.kept k).at_ 0 _ rfl,(cc.kept k).at_ 1 _ rfl,(cc.kept k).at_ 2 _ rfl⟩);have U9:=lH (show ∀U W:World,(∀b,b≠w.heap.size+1→U.heap[b]?=W.heap[b]?)→Kept Z W→U.cell? ⟨w.heap.size,0,none⟩=some (.slice a len cap)∧U.cell? ⟨w.heap.size,1,none⟩=some (.slice b m cp)∧U.cell? ⟨w.heap.size,2,none⟩=some (.slice d n cb) from fun U W e k=>by
  have c:=(cc.kept k).block (e _ (by omega));exact⟨c.at_ 0 _ rfl,c.at_ 1 _ rfl,c.at_ 2 _ rfl⟩)
 clear h1 h2 h3 l1 l2 l3 m1 m2 m3 hkz cc hl e1 e2 e3;go_enter Tryz.func8,Tryz.ntmps8;go_wp2_with fail
 try rw[hZ]
 clear hZ;refine wp_region_held_drew (S:=fun W=>W.cell? ⟨w.heap.size,0,none⟩=some (.slice a len cap)∧W.cell? ⟨w.heap.size,1,none⟩=some (.slice b m cp)∧W.cell? ⟨w.heap.size,2,none⟩=some (.slice d n cb)) (by kernel_rfl) (HS.out _ (Kept.drew _)) (fun hHeld=>?_);refine tkI 0 ?_;refine tkI 1 ?_;refine tkI 3 ?_;refine tkI 4 ?_;refine tkI 6 ?_;refine tkI 7 ?_;try simp only[nP]
 have J:=lH (Kept.drew Z);refine rd1 2 fun K9 Ky=>?_;go_simp;refine(HN.out _ J.out).mono ?_;rintro e1 w1 ⟨u1,rfl,hr,kk⟩;have J:=lH (J.out.trans kk);have hr2:=hr;obtain⟨x1,q1,rfl,-,-,-⟩:=hr2;rw[hlen] at hr;try rw[hlen]
 have RR1:=lH hr;clear hr kk;refine Ky.out _ _ (HS.out _ J.out) (fun _=>?_);clear Ky K9;try simp only[nP]
 refine rd1 5 fun K9 Ky=>?_;go_simp;refine(HP.out _ J.out).mono ?_;rintro e2 w2 ⟨u2,rfl,hr,kk⟩;have J:=lH (J.out.trans kk);have RR1:=lH (RR1.out.kept kk);have hr2:=hr;obtain⟨x2,q2,rfl,-,-,-⟩:=hr2;rw[hm] at hr;try rw[hm]
 have RR2:=lH hr;clear hr kk;refine Ky.out _ _ (HS.out _ J.out) (fun _=>?_);clear Ky K9;try simp only[nP]
 refine rd1 8 fun K9 Ky=>?_;go_simp;refine(HB.out _ J.out).mono ?_;rintro e3 w3 ⟨u3,rfl,hr,kk⟩;obtain⟨J,RR1,RR2⟩:=lH3 (J.out.trans kk) (RR1.out.kept kk) (RR2.out.kept kk);have hr2:=hr;obtain⟨x3,q3,rfl,-,-,-⟩:=hr2;rw[hn] at hr;try rw[hn]
 have RR3:=lH hr;clear hr kk;refine Ky.out _ _ (HS.out _ J.out) (fun _=>?_);clear Ky K9;try simp only[nP]
 refine tkI 9 ?_;try simp only[nP]
 have H9:=lH (HH.out.kept J.out);obtain⟨z0,z1,z2⟩:=H9.out.at3;have f0:=H9.out.free 0;have f1:=H9.out.free 1;have f2:=H9.out.free 2;have PP:=lH (j7 (vs:=[.slice x1 len q1,.slice x2 m q2,.slice x3 n q3]) H9.out rfl);refine rd1 10 fun K9 Ky=>?_;go_simp;obtain⟨WE,hWE⟩:=eX (w3.setCells (w.heap.size+1) 0 [.slice x1 len q1,.slice x2 m q2,.slice x3 n q3])
 have hWE2:(((w3.setCell ⟨(w.heap.size+1),0,none⟩ (.slice x1 len q1)).setCell ⟨(w.heap.size+1),1,none⟩ (.slice x2 m q2)).setCell ⟨(w.heap.size+1),2,none⟩ (.slice x3 n q3))=WE:=hWE;rw[hWE] at PP;try rw[hWE2]
 obtain⟨PC,hsz,hbl,hkp⟩:=PP.out;skip;refine Ky.out _ _ (U9.out _ _ hbl J.out) (fun _=>?_);clear Ky K9 z0 z1 z2 f0 f1 f2;try simp only[nP]
 refine wpAnyH_done (by kernel_rfl) ?_ _;go_wp2;refine bodyPost_ret (by simp[results,Tryz.results8,go_sem,PC.at_ 0 _ rfl,PC.at_ 1 _ rfl,PC.at_ 2 _ rfl];try rfl) rfl ?_;have SL:=NH.out _ J.out;exact⟨_,rfl,⟨_,_,_,rfl,jbY hsz hbl SL RR1.out,jcQ hsz hbl SL RR2.out,jda hsz hbl SL RR3.out⟩,hkp _ _ (Nat.le_succ _) (Vc.out.trans J.out)⟩
theorem jmj {n:Pd} (h:JF n=true):JL n:=by
 obtain⟨-,-,-,-,h1,h2,h3,h4⟩:=jgG h;refine⟨?_,?_,?_,?_⟩
 · unfold Vec.YM at h1;simp only[Bool.and_eq_true,decide_eq_true_eq] at h1;omega
 · have:=(jiu h2).1;omega
 · have:=(jh3 h3).1;omega
 · have:=(jhz h4).1;omega
def ZV (s:Clu):Bool:=X6 s&&decide (zK s=0)
theorem jf3 {s:Clu} (h:X6 s=true):jE s∧s.nodes.length≤34∧s.pods.length≤130∧s.buds.length≤20:=by
 unfold X6 ZL at h;simp only[Bool.and_eq_true,decide_eq_true_eq,List.all_eq_true] at h;obtain⟨h1,h2,⟨h3,h4⟩,h5,h6⟩:=h;refine⟨⟨fun n hn=>jmD (h5 n hn),fun p hp=>jmj (h6 p hp),fun n hn=>?_,by omega,by omega,by omega⟩,by omega,by omega,by omega⟩;have:=h4 n hn;unfold Xw YD at this;simp only[Bool.and_eq_true,decide_eq_true_eq] at this;omega
theorem jlC {s:Clu} (h:ZV s=true):X6 s=true:=by unfold ZV at h;exact(Bool.and_eq_true_iff.1 h).1
theorem XS {s:Clu} (h:ZV s=true):zK s=0:=by unfold ZV at h;exact of_decide_eq_true (Bool.and_eq_true_iff.1 h).2
theorem jm3 {v:Value} {s:Clu} {c:Bool} {w:World} (h:jC w v s) (hc:ZV s=c):Calls Tryz.prog 7 #[v] w (Say (.bool c) w):=by
 subst hc;have h0:=h;obtain⟨v1,v2,v3,rfl,⟨a,cap,rfl,-,-,-⟩,⟨b,cp,rfl,-,-,-⟩,⟨d,cb,rfl,-,-,-⟩⟩:=h0;obtain⟨len,hl1⟩:=eX (s.nodes.length)
 obtain⟨m,hl2⟩:=eX (s.pods.length)
 obtain⟨n,hl3⟩:=eX (s.buds.length)
 rw[hl1,hl2,hl3] at h ⊢;clear hl1 hl2 hl3;obtain⟨Z,hZ⟩:=eX (w.alloc (.cells #[.slice a len cap,.slice b m cp,.slice d n cb] 26))
 have hkz:Kept w Z:=by rw[←hZ];exact ja _ _
 obtain⟨HC,HV,Vc⟩:=lH3 (show jf w.heap.size [.slice a len cap,.slice b m cp,.slice d n cb] Z from jc w (.slice a len cap) [.slice b m cp,.slice d n cb] 26 Z (by rw[hZ];exact Kept.refl _)) (h.kept hkz) hkz;obtain⟨e1,he1⟩:=eX (X6 s)
 have UE:=lH he1;have HG:=lH (show ZV s=(e1&&decide (zK s=0)) by unfold ZV;rw[he1]);rw[HG.out];clear h hkz;have cq0:=(HC.out.kept (Kept.refl _)).at_ 0 _ rfl;have cq1:=(HC.out.kept (Kept.refl _)).at_ 1 _ rfl;have cq2:=(HC.out.kept (Kept.refl _)).at_ 2 _ rfl;go_enter Tryz.func7,Tryz.ntmps7;go_wp2_with fail
 try rw[hZ]
 clear hZ;refine(jnV HV.out he1).mono ?_;rintro e w1 ⟨rfl,kk⟩;have K:=lH kk;clear kk he1 cq0 cq1 cq2;have cq0:=(HC.out.kept K.out).at_ 0 _ rfl;have cq1:=(HC.out.kept K.out).at_ 1 _ rfl;have cq2:=(HC.out.kept K.out).at_ 2 _ rfl
 cases e1 with
 | false =>
  go_wp2;go_ret;exact⟨rfl,Vc.out.trans K.out⟩
 | true =>
  obtain⟨L1,L2,L3,L4⟩:=jf3 UE.out;have HL:=lH L1;clear L1;go_wp2_with fail
  refine(jok (HV.out.kept K.out) HL.out (by omega) (by omega) (by omega)).mono ?_;rintro e w2 ⟨x9,rfl,hx,kk⟩;have K2:=lH (K.out.trans kk);have HX:=lH hx;clear hx kk cq0 cq1 cq2;go_wp2_with fail
  obtain⟨c,hc⟩:=eX (zK s)
  refine(jkS HX.out hc).mono ?_;rintro e w3 ⟨rfl,kk⟩;have K3:=lH (K2.out.trans kk);have Ul:=lH hc;clear kk;rw[hc];clear hc;obtain⟨t,ht⟩:=eX (decide (c=0))
  have ht':(c==0)=t:=ht;go_wp2;go_ret;exact⟨by rw[Ul.out,ht];rfl,Vc.out.trans K3.out⟩
def Asc (l:List Pd):Prop:=l.Pairwise fun x y=>ltS x.name y.name=true
theorem je5:∀{prev:Option ByteArray} {l:List Pd},jW prev l=0→(∀q,prev=some q→∀x ∈ l,ltS q x.name=true)∧Asc l
 | _,[],_=>⟨fun q _ x h=>absurd h (by simp),.nil⟩
 | prev,n::t,h=>by
  by_cases z:zD n=0
  · by_cases y:Vec.jK prev n.name=true
    · rw[XA z y] at h;cases h
    · have y:Vec.jK prev n.name=false:=by simpa using y
      rw[Z4 z y] at h;obtain⟨h2,h3⟩:=je5 h;refine⟨fun q hq x hx=>?_,List.pairwise_cons.2 ⟨fun x hx=>h2 _ rfl x hx,h3⟩⟩;subst hq;have hlt:ltS q n.name=true:=Vec.X0 y;rcases List.mem_cons.1 hx with rfl | hx
      · exact hlt
      · exact Vec.Ja hlt (h2 _ rfl x hx)
  · rw[jan z] at h;exact absurd h z
theorem jgg {s:Clu} (h:ZV s=true):Asc s.pods:=by
 have hc:=XS h;have h0:or3 (jI s.nodes) (jD s.pods) (jH s.buds)=0:=Decidable.byContradiction fun g=>g ((qU (nl:=s.nodes) (pl:=s.pods) (bl:=s.buds) rfl g).symm.trans hc);have ho:jD s.pods=0:=by
  unfold or3 at h0;split at h0
  · rename_i h1;exact absurd h0 h1
  · split at h0
    · exact h0
    · rename_i h1;exact Decidable.of_not_not h1
 unfold jD at ho;split at ho
 · cases ho
 · exact(je5 ho).2
theorem qG:∀{l:List Pd} {p:Pd},Asc l→p ∈ l→JM l p.name=some p
 | [],_,_,h=>by cases h
 | x::t,p,h,hp=>by
  unfold JM;rcases List.mem_cons.1 hp with hp | hp
  · subst hp;exact List.find?_cons_of_pos (p:=fun n:Pd=>eqS n.name p.name) (zh _)
  · have hlt:=(List.pairwise_cons.1 h).1 p hp;exact(List.find?_cons_of_neg (p:=fun n:Pd=>eqS n.name p.name) (fun e=>Vec.Yi hlt (jR.1 e))).trans (qG (List.pairwise_cons.1 h).2 hp)
theorem jjl {l:List Pd} {x:ByteArray}:JM l x=none↔∀q ∈ l,q.name≠x:=by
 unfold JM;rw[List.find?_eq_none];exact⟨fun h q hq e=>h q hq (jR.2 e),fun h q hq e=>h q hq (jR.1 e)⟩
theorem jm7 {l:List Pd} {x:ByteArray} {p:Pd} (h:JM l x=some p):p ∈ l∧p.name=x :=
 ⟨List.mem_of_find?_eq_some h,jR.1 (List.find?_some (p:=fun n:Pd=>eqS n.name x) h)⟩
theorem jfy {x:ByteArray}:∀{l:List Pd},(∀q ∈ l,q.name≠x)→zc x l=l
 | [],_=>rfl
 | p::t,h=>by
  have hp:=h p (List.mem_cons_self ..);rw[zc,if_neg (fun e=>hp (jR.1 e)),jfy fun q hq=>h q (List.mem_cons_of_mem _ hq)]
theorem Zl {x:ByteArray}:∀{l:List Pd} {q:Pd},q ∈ zc x l→q ∈ l
 | p::t,q,h=>by
  rw[zc] at h;split at h
  · exact List.mem_cons_of_mem _ h
  · rcases List.mem_cons.1 h with rfl | h
    · exact List.mem_cons_self ..
    · exact List.mem_cons_of_mem _ (Zl h)
theorem jer {x:ByteArray}:∀{l:List Pd},Asc l→∀q ∈ zc x l,q.name≠x
 | p::t,h,q,hq=>by
  obtain⟨h1,h2⟩:=List.pairwise_cons.1 h;rw[zc] at hq;split at hq
  · rename_i e;have e:=jR.1 e;have:=Vec.Yi (h1 q hq);rw[e] at this;exact fun e=>this e.symm
  · rename_i e;rcases List.mem_cons.1 hq with rfl | hq
    · exact fun e'=>e (jR.2 e')
    · exact jer h2 q hq
theorem jge {x:ByteArray}:∀{l:List Pd},Asc l→Asc (zc x l)
 | [],h=>h
 | p::t,h=>by
  obtain⟨h1,h2⟩:=List.pairwise_cons.1 h;rw[zc];split
  · exact h2
  · exact List.pairwise_cons.2 ⟨fun q hq=>h1 q (Zl hq),jge h2⟩
theorem jc9 {x:ByteArray}:∀{l:List Pd},(zc x l).length+(if (JM l x).isSome=true then 1 else 0)=l.length
 | []=>rfl
 | p::t=>by
  by_cases e:eqS p.name x=true
  · have hf:JM (p::t) x=some p:=by unfold JM;exact List.find?_cons_of_pos (p:=fun n:Pd=>eqS n.name x) e
    rw[zc,if_pos e,hf];simp
  · have hf:JM (p::t) x=JM t x:=by unfold JM;exact List.find?_cons_of_neg (p:=fun n:Pd=>eqS n.name x) e
    rw[zc,if_neg e,hf];have:=jc9 (x:=x) (l:=t);simp only[List.length_cons];omega
theorem ins_mem {p:Pd}:∀{l:List Pd} {q:Pd},q ∈ JX p l→q=p∨q ∈ l
 | [],q,h=>by
  have:=List.mem_singleton.1 (show q ∈ [p] from h);exact .inl this
 | r::t,q,h=>by
  rw[JX] at h;split at h
  · rcases List.mem_cons.1 h with rfl | h
    · exact .inl rfl
    · exact .inr h
  · rcases List.mem_cons.1 h with rfl | h
    · exact .inr (List.mem_cons_self ..)
    · exact(ins_mem h).imp id (List.mem_cons_of_mem _)
theorem jdz (p:Pd):∀l:List Pd,(JX p l).length=l.length+1
 | []=>rfl
 | r::t=>by
  rw[JX];split
  · rfl
  · rw[List.length_cons,jdz p t,List.length_cons]
theorem jhs {p:Pd}:∀{l:List Pd},Asc l→(∀q ∈ l,q.name≠p.name)→Asc (JX p l)
 | [],_,_=>List.pairwise_singleton ..
 | r::t,h,hn=>by
  obtain⟨h1,h2⟩:=List.pairwise_cons.1 h;rw[JX];split
  · rename_i e;refine List.pairwise_cons.2 ⟨fun q hq=>?_,h⟩;rcases List.mem_cons.1 hq with rfl | hq
    · exact e
    · exact Vec.Ja e (h1 q hq)
  · rename_i e;have e:ltS p.name r.name=false:=by simpa using e
    refine List.pairwise_cons.2 ⟨fun q hq=>?_,jhs h2 fun q hq=>hn q (List.mem_cons_of_mem _ hq)⟩;rcases ins_mem hq with rfl | hq
    · cases g:ltS r.name q.name with
      | true=>rfl
      | false=>exact absurd (Vec.Y5 g e) (hn r (List.mem_cons_self ..))
    · exact h1 q hq
theorem jhw {s:Clu} (h:Asc s.pods) (p:Pd):Asc (Jv s p).pods:=jhs (jge h) (jer h)
theorem jdC {s:Clu} (p:Pd):(Jv s p).pods.length=(zG s p.name).pods.length+1:=jdz p _
theorem X5 (s:Clu) (x:ByteArray):(zG s x).pods.length+(if (JM s.pods x).isSome=true then 1 else 0)=s.pods.length:=jc9
def zL (l:Vec.V):Prop:=Vec.Gd l∧l.length≤8
theorem zL.nil:zL []:=⟨Vec.Gd.nil,by decide⟩
theorem jhj {l:Vec.V} (h:Vec.jv l=0) (hf:Vec.Js l):zL l:=⟨Vec.YY h hf,Vec.Z1 h⟩
theorem Xt {f g:ByteArray→Int} {r:Vec.V} (h:∀n,f n=g n):Vec.Made f r↔Vec.Made g r:=by rw[funext h]
theorem add_step {v p:Vec.V} (hv:zL v) (hp:zL p) :
 (∃q,Vec.jj Vec.jG v p=(0,q)∧zL q∧∀n,Vec.jh q n=Vec.jh v n+Vec.jh p n) ∨
 (∃c,c≠0∧Vec.jj Vec.jG v p=(c,[])∧∀(r:Vec.V) (f:ByteArray→Int),(∀n,0≤f n)→Vec.Made (fun n=>Vec.jh v n+Vec.jh p n+f n) r→r.length≤8→False):=by
 rcases Vec.merged_spec Vec.jjJ hv.1 hp.1 hv.2 hp.2 with ⟨⟨n,hn⟩,hb⟩ | ⟨hn,q,hm,⟨h8,hb⟩ | ⟨h8,hb⟩⟩
 · refine .inr ⟨5,by decide,hb,fun r f hf hr _=>hn ((Vec.X7 _ _).2 ?_)⟩;have h1:=(Vec.Jy n hr.1).2;have h2:=hf n;rw[hr.2 n] at h1;dsimp only at h1;omega
 · refine .inr ⟨4,by decide,hb,fun r f hf hr h9=>?_⟩;have hl:q.length≤r.length:=Vec.Gd.len hm.1 hr.1 fun n hne e=>hne (by
    rw[hm.2 n];show (Vec.jG _ _).1=0;rw[Vec.jco ((Vec.X7 _ _).1 (hn n))];have h1:=hf n;have h2:=Vec.Jy n hv.1;have h3:=Vec.Jy n hp.1;rw[hr.2 n] at e;dsimp only at e ⊢;omega)
   omega
 · exact .inl ⟨q,hb,⟨hm.1,h8⟩,fun n=>by rw[hm.2 n];show (Vec.jG _ _).1=_;rw[Vec.jco ((Vec.X7 _ _).1 (hn n))]⟩
def Zn (x:ByteArray) (p:Pd) (n:ByteArray):Int:=if eqS p.node x=true then Vec.jh p.need n else 0
def Jl (x:ByteArray):List Pd→ByteArray→Int
 | [],_=>0
 | p::t,n=>Zn x p n+Jl x t n
theorem jfT {x:ByteArray} {p:Pd} (h:zL p.need) (n:ByteArray):0≤Zn x p n:=by
 unfold Zn;split
 · exact(Vec.Jy n h.1).1
 · exact Int.le_refl _
theorem jcl {x:ByteArray}:∀{l:List Pd},(∀p ∈ l,zL p.need)→∀n,0≤Jl x l n
 | [],_,n=>Int.le_refl _
 | p::t,h,n=>Int.add_nonneg (jfT (h p (List.mem_cons_self ..)) n) (jcl (fun q hq=>h q (List.mem_cons_of_mem _ hq)) n)
theorem jcq {x:ByteArray}:∀{l:List Pd} {v r:Vec.V},(∀p ∈ l,zL p.need)→zL v→(jJ x l v=(0,r)↔Vec.Made (fun n=>Vec.jh v n+Jl x l n) r∧r.length≤8)
 | [],v,r,_,hv=>by
  constructor
  · intro e
    cases e
    exact⟨⟨hv.1,fun n=>by show _=_+(0:Int);rw[Int.add_zero]⟩,hv.2⟩
  · rintro ⟨hm,_⟩;have e:v=r:=Vec.Gd.ext hv.1 hm.1 fun n=>by rw[hm.2 n];show _=_+(0:Int);rw[Int.add_zero]
    rw[e];rfl
 | p::t,v,r,hl,hv=>by
  have ht:∀q ∈ t,zL q.need:=fun q hq=>hl q (List.mem_cons_of_mem _ hq);have hp:=hl p (List.mem_cons_self ..)
  cases e:eqS p.node x with
  | false =>
   rw[ja9 e,jcq ht hv];refine and_congr (Xt fun n=>?_) Iff.rfl;show _=_+(Zn x p n+Jl x t n);rw[Zn,if_neg (by rw[e];decide),Int.zero_add]
  | true =>
   have hone:∀n,Zn x p n=Vec.jh p.need n:=fun n=>by rw[Zn,if_pos e]
   rcases add_step hv hp with ⟨q,hq,fq,gq⟩ | ⟨c,hc,hq,no⟩
   · rw[jcg e hq,jcq ht fq];refine and_congr (Xt fun n=>?_) Iff.rfl;show _=_+(Zn x p n+Jl x t n);rw[hone,gq,Int.add_assoc]
   · rw[jcp e hq hc];constructor
     · intro h;exact absurd (Prod.mk.inj h).1 hc
     · rintro ⟨hm,h8⟩;refine(no r (Jl x t) (jcl ht) ((Xt fun n=>?_).1 hm) h8).elim;show _+(Zn x p n+Jl x t n)=_;rw[hone,Int.add_assoc]
theorem jce {x:ByteArray} {l:List Pd} {r:Vec.V} (hl:∀p ∈ l,zL p.need):jJ x l []=(0,r)↔Vec.Made (Jl x l) r∧r.length≤8:=by
 rw[jcq hl zL.nil];exact and_congr (Xt fun n=>by show (0:Int)+_=_;rw[Int.zero_add]) Iff.rfl
theorem jet {x y:ByteArray}:∀{l:List Pd} {p:Pd},JM l y=some p→∀n,Jl x (zc y l) n+Zn x p n=Jl x l n
 | q::t,p,h,n=>by
  by_cases e:eqS q.name y=true
  · have hq:JM (q::t) y=some q:=by unfold JM;exact List.find?_cons_of_pos (p:=fun n:Pd=>eqS n.name y) e
    rw[hq] at h;obtain rfl:=Option.some.inj h;rw[zc,if_pos e];show _=Zn x q n+Jl x t n;omega
  · have hq:JM (q::t) y=JM t y:=by unfold JM;exact List.find?_cons_of_neg (p:=fun n:Pd=>eqS n.name y) e
    rw[hq] at h;have:=jet (x:=x) h n;rw[zc,if_neg e];show Zn x q n+Jl x (zc y t) n+_=Zn x q n+Jl x t n;omega
structure X3 (s:Clu):Prop where
 nodes:jI s.nodes=0
 pods:jD s.pods=0
 places:jA s.nodes s.pods=0
 rooms:jM s.pods s.nodes=0
 tot:(Jt s.nodes []).1=0
theorem jb8 {s:Clu} (h:zK s=0):X3 s:=by
 have h0:or3 (jI s.nodes) (jD s.pods) (jH s.buds)=0:=Decidable.byContradiction fun g=>g ((qU (nl:=s.nodes) (pl:=s.pods) (bl:=s.buds) rfl g).symm.trans h);have h1:jA s.nodes s.pods=0:=Decidable.byContradiction fun g=>g ((jbr (nl:=s.nodes) (pl:=s.pods) (bl:=s.buds) h0 rfl g).symm.trans h);have h2:jM s.pods s.nodes=0:=Decidable.byContradiction fun g=>g ((XM (nl:=s.nodes) (pl:=s.pods) (bl:=s.buds) h0 h1 rfl g).symm.trans h);have h3:(Jt s.nodes []).1=0:=(jaa (nl:=s.nodes) (pl:=s.pods) (bl:=s.buds) h0 h1 h2).symm.trans h;have ho:jI s.nodes=0∧jD s.pods=0:=by
  unfold or3 at h0;split at h0
  · rename_i h1;exact absurd h0 h1
  · rename_i g1;split at h0
    · rename_i g2;exact absurd h0 g2
    · rename_i g2;exact⟨Decidable.of_not_not g1,Decidable.of_not_not g2⟩
 exact⟨ho.1,ho.2,h1,h2,h3⟩
theorem jc3 {pods:List Pd}:∀{l:List Nod},jM pods l=0→∀n ∈ l,∃u,jJ n.name pods []=(0,u)∧Vec.jB n.cap u=true
 | m::t,h,n,hn=>by
  obtain⟨c,u,hu⟩:∃c u,jJ m.name pods []=(c,u):=⟨_,_,rfl⟩
  by_cases hc:c=0
  · subst hc
    cases hf:Vec.jB m.cap u with
    | false=>rw[jar hu hf] at h;cases h
    | true =>
     rw[Xz hu hf] at h;rcases List.mem_cons.1 hn with rfl | hn
     · exact⟨u,hu,hf⟩
     · exact jc3 h n hn
  · rw[jbb hu hc] at h;exact absurd h hc
def jnt (l:List Nod):Prop:=l.Pairwise fun x y=>ltS x.name y.name=true
theorem Xo:∀{prev:Option ByteArray} {l:List Nod},j5 prev l=0→(∀q,prev=some q→∀x ∈ l,ltS q x.name=true)∧jnt l∧∀n ∈ l,zk n=0
 | _,[],_=>⟨fun q _ x h=>absurd h (by simp),.nil,fun n h=>absurd h (by simp)⟩
 | prev,n::t,h=>by
  by_cases z:zk n=0
  · by_cases y:Vec.jK prev n.name=true
    · rw[jai z y] at h;cases h
    · have y:Vec.jK prev n.name=false:=by simpa using y
      rw[Xn z y] at h;obtain⟨h2,h3,h4⟩:=Xo h;refine⟨fun q hq x hx=>?_,List.pairwise_cons.2 ⟨fun x hx=>h2 _ rfl x hx,h3⟩,fun m hm=>?_⟩
      · subst hq;have hlt:ltS q n.name=true:=Vec.X0 y;rcases List.mem_cons.1 hx with rfl | hx
        · exact hlt
        · exact Vec.Ja hlt (h2 _ rfl x hx)
      · rcases List.mem_cons.1 hm with rfl | hm
        · exact z
        · exact h4 m hm
  · rw[jcn z] at h;exact absurd h z
theorem jep:∀{l:List Nod} {p:Nod},jnt l→p ∈ l→jl l p.name=some p
 | [],_,_,h=>by cases h
 | x::t,p,h,hp=>by
  unfold jl;rcases List.mem_cons.1 hp with hp | hp
  · subst hp;exact List.find?_cons_of_pos (p:=fun n:Nod=>eqS n.name p.name) (zh _)
  · have hlt:=(List.pairwise_cons.1 h).1 p hp;exact(List.find?_cons_of_neg (p:=fun n:Nod=>eqS n.name p.name) (fun e=>Vec.Yi hlt (jR.1 e))).trans (jep (List.pairwise_cons.1 h).2 hp)
theorem X3.jl {s:Clu} (h:X3 s) {n:Nod} (hn:n ∈ s.nodes):jl s.nodes n.name=some n:=by
 have ho:=h.nodes;unfold jI at ho;split at ho
 · cases ho
 · exact jep (Xo ho).2.1 hn
theorem X3.cap0 {s:Clu} (h:X3 s) {n:Nod} (hn:n ∈ s.nodes):Vec.jv n.cap=0:=by
 have ho:=h.nodes;unfold jI at ho;split at ho
 · cases ho
 · have hc:=(Xo ho).2.2 n hn;unfold zk at hc;split at hc
   · cases hc
   · split at hc
     · rename_i g;exact absurd hc g
     · rename_i g;exact Decidable.of_not_not g
theorem jbs:∀{prev:Option ByteArray} {l:List Pd},jW prev l=0→∀n ∈ l,zD n=0
 | prev,m::t,h,n,hn=>by
  by_cases z:zD m=0
  · by_cases y:Vec.jK prev m.name=true
    · rw[XA z y] at h;cases h
    · have y:Vec.jK prev m.name=false:=by simpa using y
      rw[Z4 z y] at h;rcases List.mem_cons.1 hn with rfl | hn
      · exact z
      · exact jbs h n hn
  · rw[jan z] at h;exact absurd h z
theorem jb6:∀{l:List Int},orL l=0→∀c ∈ l,c=0
 | x::t,h,c,hc=>by
  unfold orL at h;split at h
  · rename_i g;exact absurd h g
  · rename_i g;rcases List.mem_cons.1 hc with rfl | hc
    · exact Decidable.of_not_not g
    · exact jb6 h c hc
theorem X3.need0 {s:Clu} (h:X3 s) {n:Pd} (hn:n ∈ s.pods):Vec.jv n.need=0:=by
 have ho:=h.pods;unfold jD at ho;split at ho
 · cases ho
 · exact jb6 (jbs ho n hn) _ (by simp[qt])
structure Sound (s:Clu):Prop where
 parts:X3 s
 asc:Asc s.pods
 need:∀p ∈ s.pods,zL p.need
 cap:∀n ∈ s.nodes,zL n.cap
theorem jf6 {s:Clu} {w:World} {v:Value} (h:ZV s=true) (hr:jC w v s):Sound s:=by
 have hp:=jb8 (XS h);obtain⟨v1,v2,v3,rfl,⟨a,cap,rfl,-,-,h1⟩,⟨b,cp,rfl,-,-,h2⟩,-⟩:=hr;refine⟨hp,jgg h,fun p hm=>jhj (hp.need0 hm) ?_,fun n hm=>jhj (hp.cap0 hm) ?_⟩
 · obtain⟨k,hk,rfl⟩:=List.mem_iff_getElem.1 hm;rcases h2.2.2 with h0 | ⟨b,off,-,-,hc⟩
   · omega
   · obtain⟨v1,v2,v3,v4,-,-,-,-,-,-,-,-,-,-,-,hat⟩:=hc k _ (List.getElem?_eq_getElem hk);obtain⟨a9,c9,-,-,-,g⟩:=hat.need;exact g.2.2.1
 · obtain⟨k,hk,rfl⟩:=List.mem_iff_getElem.1 hm;rcases h1.2.2 with h0 | ⟨b,off,-,-,hc⟩
   · omega
   · obtain⟨a1,m1,c1,a2,m2,c2,a3,m3,c3,-,-,-,-,-,hat⟩:=hc k _ (List.getElem?_eq_getElem hk);obtain⟨a9,c9,-,-,-,g⟩:=hat.cap;exact g.2.2.1
theorem jmA {s:Clu} (h:Sound s) {n:Nod} (hn:n ∈ s.nodes):J7 s n.name=jJ n.name s.pods []:=jbh (h.parts.jl hn)
theorem jno {s:Clu} (h:Sound s) {n:Nod} (hn:n ∈ s.nodes):∃u f,J7 s n.name=(0,u)∧Z3 s n.name=(0,f)∧Vec.jj Vec.jG u f=(0,n.cap)∧zL u∧zL f∧Vec.Made (Jl n.name s.pods) u∧(∀m,Vec.jh f m=Vec.jh n.cap m-Vec.jh u m)∧∀m,Vec.jh u m≤Vec.jh n.cap m:=by
 obtain⟨u,hu,hf⟩:=jc3 h.parts.rooms n hn;obtain⟨hm,hl⟩:=(jce h.need).1 hu;have hc:=h.cap n hn;have hle:=(Vec.Y2 hm.1 hc.1).1 hf;obtain⟨f,hs,hmf,hlf⟩:=Vec.jck hc.1 hm.1 hc.2 hl hle;have hget:∀m,Vec.jh f m=Vec.jh n.cap m-Vec.jh u m:=fun m=>hmf.2 m;refine⟨u,f,(jmA h hn).trans hu,?_,?_,⟨hm.1,hl⟩,⟨hmf.1,hlf⟩,hm,hget,hle⟩
 · unfold Z3;rw[h.parts.jl hn];dsimp only;rw[hu,if_pos rfl];exact hs
 · refine Vec.jlX hm.1 hmf.1 hl hlf (fun m=>?_) ⟨hc.1,fun m=>?_⟩ hc.2
   · have:=(Vec.Jy m hc.1).2;rw[hget];omega
   · show _=Vec.jh u m+Vec.jh f m;rw[hget];omega
def Xr (g:ByteArray→Int):Vec.V→Vec.V
 | []=>[]
 | x::t=>if g x.1=0 then Xr g t else (x.1,g x.1)::Xr g t
theorem XT {g:ByteArray→Int}:∀{l:Vec.V} {y:ByteArray×Int},y ∈ Xr g l→∃x ∈ l,y=(x.1,g x.1)∧g x.1≠0
 | x::t,y,h=>by
  rw[Xr] at h;split at h
  · obtain⟨z,hz,e⟩:=XT h;exact⟨z,by simp[hz],e⟩
  · rename_i hg;rcases List.mem_cons.1 h with rfl | h
    · exact⟨x,by simp,rfl,hg⟩
    · obtain⟨z,hz,e⟩:=XT h;exact⟨z,by simp[hz],e⟩
theorem je2 (g:ByteArray→Int):∀l:Vec.V,(Xr g l).length≤l.length
 | []=>Nat.le_refl _
 | x::t=>by
  have:=je2 g t;rw[Xr];split<;>simp only[List.length_cons]<;>omega
theorem jhO {g:ByteArray→Int}:∀{l:Vec.V},Vec.Gd l→(∀x ∈ l,0≤g x.1∧g x.1≤9223372036854775807)→Vec.Gd (Xr g l)
 | [],_,_=>Vec.Gd.nil
 | x::t,h,hb=>by
  obtain⟨h1,h2,h3⟩:=Vec.Gd.cons.1 h;have ih:=jhO h3 fun y hy=>hb y (by simp[hy]);rw[Xr];split
  · exact ih
  · rename_i hg;have:=hb x (by simp);refine Vec.Gd.cons.2 ⟨⟨h1.1,by dsimp only;omega,this.2⟩,fun y hy=>?_,ih⟩;obtain⟨z,hz,rfl,_⟩:=XT hy;exact h2 z hz
theorem jcc {g:ByteArray→Int} {n:ByteArray}:∀{l:Vec.V},Vec.Gd l→(∃x ∈ l,x.1=n)→Vec.jh (Xr g l) n=g n
 | [],_,h=>by obtain⟨x,hx,_⟩:=h;cases hx
 | y::t,h,he=>by
  obtain⟨h1,h2,h3⟩:=Vec.Gd.cons.1 h;by_cases e:y.1=n
  · rw[Xr];split
    · rename_i hg;rw[←e,hg];refine Vec.XP fun z hz=>?_;obtain⟨q,hq,rfl,_⟩:=XT hz;exact fun e2=>Vec.Yi (h2 q hq) e2.symm
    · rw[←e];exact Vec.Jr _ _
  · have ht:∃x ∈ t,x.1=n:=by
     obtain⟨x,hx,e2⟩:=he;rcases List.mem_cons.1 hx with rfl | hx
     · exact absurd e2 e
     · exact⟨x,hx,e2⟩
    rw[Xr];split
    · exact jcc h3 ht
    · rw[Vec.JB _ (by exact e)];exact jcc h3 ht
theorem jlx {g:ByteArray→Int} {u:Vec.V} (hu:zL u) (h0:∀n,0≤g n) (h1:∀n,g n≤Vec.jh u n):∃r,Vec.Made g r∧r.length≤8:=by
 refine⟨Xr g u,⟨jhO hu.1 fun x hx=>⟨h0 _,Int.le_trans (h1 _) (Vec.Jy _ hu.1).2⟩,fun n=>?_⟩,Nat.le_trans (je2 g u) hu.2⟩;by_cases e:∃x ∈ u,x.1=n
 · exact jcc hu.1 e
 · have hz:Vec.jh u n=0:=Vec.XP fun y hy e2=>e ⟨y,hy,e2⟩;have h2:=h0 n;have h3:=h1 n;rw[show g n=0 by omega];refine Vec.XP fun y hy e2=>?_;obtain⟨x,hx,rfl,_⟩:=XT hy;exact e ⟨x,hx,e2⟩
theorem jj3 {x:ByteArray} {cap:Vec.V} {l:List Pd} (hc:zL cap) (hp:∀p ∈ l,zL p.need) (hs:∀m,Jl x l m≤Vec.jh cap m):∃u,jJ x l []=(0,u)∧zL u∧(∀m,Vec.jh u m=Jl x l m)∧Vec.jB cap u=true:=by
 obtain⟨u,hu,hu8⟩:=jlx hc (jcl hp) hs;exact⟨u,(jce hp).2 ⟨hu,hu8⟩,⟨hu.1,hu8⟩,hu.2,(Vec.Y2 hu.1 hc.1).2 fun m=>by rw[hu.2 m];exact hs m⟩
theorem jhX {s:Clu} {n:Nod} (hf:jl s.nodes n.name=some n) (hc:zL n.cap) (hp:∀p ∈ s.pods,zL p.need) (hs:∀m,Jl n.name s.pods m≤Vec.jh n.cap m):∃b,Z3 s n.name=(0,b)∧zL b∧∀m,Vec.jh b m=Vec.jh n.cap m-Jl n.name s.pods m:=by
 obtain⟨u,h1,h2,h3,h4⟩:=jj3 hc hp hs;obtain⟨b,hb,hmb,hlb⟩:=Vec.jck hc.1 h2.1 hc.2 h2.2 fun m=>by rw[h3 m];exact hs m
 refine⟨b,?_,⟨hmb.1,hlb⟩,fun m=>by
  have h9:Vec.jh b m=Vec.jh n.cap m-Vec.jh u m:=hmb.2 m;rw[h9,h3 m]⟩
 unfold Z3;rw[hf];dsimp only;rw[h1,if_pos rfl];exact hb
theorem jli {s:Clu} {n:Nod} (hf:jl s.nodes n.name=some n) (hc:zL n.cap) (hp:∀p ∈ s.pods,zL p.need) (h:(Z3 s n.name).1=0):∀m,Jl n.name s.pods m≤Vec.jh n.cap m:=by
 unfold Z3 at h;rw[hf] at h;dsimp only at h;obtain⟨c,u,hu⟩:∃c u,jJ n.name s.pods []=(c,u):=⟨_,_,rfl⟩
 rw[hu] at h;by_cases hz:c=0
 · subst hz;rw[if_pos rfl] at h;obtain⟨hm,h8⟩:=(jce hp).1 hu;have:=(Vec.Y2 hm.1 hc.1).1 ((Vec.jlB hc.1 hm.1 hc.2 h8).1 h);intro m;rw[←hm.2 m];exact this m
 · rw[if_neg hz] at h;exact absurd h hz
theorem jlY {s:Clu} {p:Pd} {n:Nod} (hf:jl s.nodes n.name=some n) (hc:zL n.cap) (hp:∀p ∈ s.pods,zL p.need) (hq:zL p.need):YS s p n.name=true↔∀m,Jl n.name s.pods m+Vec.jh p.need m≤Vec.jh n.cap m:=by
 unfold YS;rw[Bool.and_eq_true,decide_eq_true_iff];constructor
 · rintro ⟨h1,h2⟩ m;have hs:=jli hf hc hp h1;obtain⟨b,hb,fb,gb⟩:=jhX hf hc hp hs;rw[hb] at h2;have:=(Vec.Y2 hq.1 fb.1).1 h2 m;rw[gb] at this;omega
 · intro h;obtain⟨b,hb,fb,gb⟩:=jhX hf hc hp fun m=>by have:=h m;have:=(Vec.Jy m hq.1).1;omega
   rw[hb];refine⟨rfl,(Vec.Y2 hq.1 fb.1).2 fun m=>?_⟩;rw[gb];have:=h m;omega
theorem jlu {x y:ByteArray} (l:List Pd) (hl:∀p ∈ l,zL p.need) (m:ByteArray):Jl x (zc y l) m≤Jl x l m:=by
 cases h:JM l y with
 | none=>rw[jfy (jjl.1 h)];exact Int.le_refl _
 | some p =>
  have h1:=jet (x:=x) h m;have h2:=jfT (x:=x) (hl p (jm7 h).1) m;omega
theorem Sound.sum {s:Clu} (h:Sound s) {n:Nod} (hn:n ∈ s.nodes) (m:ByteArray):Jl n.name s.pods m≤Vec.jh n.cap m:=by
 obtain⟨u,f,-,-,-,-,-,hm,-,hle⟩:=jno h hn;rw[←hm.2 m];exact hle m
theorem jkk {s:Clu} (h:∀p ∈ s.pods,zL p.need) (x:ByteArray):∀p ∈ (zG s x).pods,zL p.need:=fun p hp=>h p (Zl hp)
theorem jd4 {nodes:List Nod}:∀{l:List Pd},jA nodes l=0→∀p ∈ l,zo p.node=false→(jl nodes p.node).isSome=true
 | q::t,h,p,hp,hn=>by
  by_cases g:zo q.node=false∧(jl nodes q.node).isSome=false
  · rw[qM g.1 g.2] at h;cases h
  · have h2:jA nodes t=0:=by rw[jA,if_neg g] at h;exact h
    rcases List.mem_cons.1 hp with rfl | hp
    · cases e:(jl nodes p.node).isSome with
      | false=>exact absurd ⟨hn,e⟩ g
      | true=>rfl
    · exact jd4 h2 p hp hn
theorem jgt {x:ByteArray} {p:Pd}:∀(l:List Pd) (m:ByteArray),Jl x (JX p l) m=Zn x p m+Jl x l m
 | [],m=>rfl
 | q::t,m=>by
  rw[JX];split
  · rfl
  · show Zn x q m+Jl x (JX p t) m=Zn x p m+(Zn x q m+Jl x t m);rw[jgt t m];omega
theorem jhJ:∀{prev:Option ByteArray} {l:List Pd},Asc l→(∀p ∈ l,zD p=0)→(∀q,prev=some q→∀x ∈ l,ltS q x.name=true)→jW prev l=0
 | _,[],_,_,_=>rfl
 | prev,n::t,h,hc,hb=>by
  obtain⟨h1,h2⟩:=List.pairwise_cons.1 h;have b:Vec.jK prev n.name=false:=by
   cases prev with
   | none=>rfl
   | some q=>exact Vec.jbk (hb q rfl n (by simp))
  rw[Z4 (hc n (by simp)) b];exact jhJ h2 (fun p hp=>hc p (by simp[hp])) fun q hq x hx=>by cases hq;exact h1 x hx
theorem jd9 {nodes:List Nod}:∀{l:List Pd},(∀p ∈ l,zo p.node=false→(jl nodes p.node).isSome=true)→jA nodes l=0
 | [],_=>rfl
 | q::t,h=>by
  rw[jA,if_neg fun g=>by have:=h q (by simp) g.1;rw[g.2] at this;cases this];exact jd9 fun p hp=>h p (by simp[hp])
theorem jfd {pods:List Pd}:∀{l:List Nod},(∀n ∈ l,∃u,jJ n.name pods []=(0,u)∧Vec.jB n.cap u=true)→jM pods l=0
 | [],_=>rfl
 | n::t,h=>by
  obtain⟨u,h1,h2⟩:=h n (by simp);rw[Xz h1 h2];exact jfd fun m hm=>h m (by simp[hm])
theorem jkb:∀{l:List Int},(∀c ∈ l,c=0)→orL l=0
 | [],_=>rfl
 | x::t,h=>by rw[orL,if_neg (by rw[h x (by simp)];decide)];exact jkb fun c hc=>h c (by simp[hc])
theorem jec {n:Nod} (h:zk n=0):isName n.name=true:=by
 unfold zk at h;split at h
 · cases h
 · rename_i h1;simpa using h1
theorem jkz {p:Pd} {x:ByteArray} (h:zD p=0) (hx:isName x=true):zD { p with node:=x }=0:=by
 have hz:=jb6 (l:=qt p) h;unfold zD;refine jkb fun c hc=>?_;unfold qt at hc hz;simp only[List.mem_cons,List.not_mem_nil,or_false] at hc hz;rcases hc with rfl | rfl | rfl | rfl | rfl | rfl | rfl | rfl
 · exact hz _ (.inl rfl)
 · exact hz _ (.inr (.inl rfl))
 · exact hz _ (.inr (.inr (.inl rfl)))
 · exact hz _ (.inr (.inr (.inr (.inl rfl))))
 · exact hz _ (.inr (.inr (.inr (.inr (.inl rfl)))))
 · exact hz _ (.inr (.inr (.inr (.inr (.inr (.inl rfl))))))
 · exact hz _ (.inr (.inr (.inr (.inr (.inr (.inr (.inl rfl)))))))
 · unfold Ya ZB;rw[hx];simp
theorem jiy {s:Clu} {p:Pd} {x:ByteArray} (hg:zK s=0) (hs:Sound s) (hp:zD p=0) (hq:zL p.need) (hl:(zG s p.name).pods.length<128) (h:qk s p x=0):zK (Jv s { p with node:=x })=0:=by
 obtain⟨n,hf,hz⟩:=jhc h;obtain⟨-,-,-,h4⟩:=jgi hz;obtain⟨hm,rfl⟩:=jen hf;have h5:=(jlY (s:=zG s p.name) hf (hs.cap n hm) (jkk hs.need p.name) hq).1 h4;have h0:or3 (jI s.nodes) (jD s.pods) (jH s.buds)=0:=Decidable.byContradiction fun g=>g ((qU (nl:=s.nodes) (pl:=s.pods) (bl:=s.buds) rfl g).symm.trans hg);have hN:=hs.parts.nodes;have hP:=hs.parts.pods;have hB:jH s.buds=0:=by
  unfold or3 at h0;rw[if_neg (by rw[hN];decide),if_neg (by rw[hP];decide)] at h0;exact h0
 have hnodes:∀m ∈ s.nodes,zk m=0:=by
  unfold jI at hN;split at hN
  · cases hN
  · exact(Xo hN).2.2
 have hpods:∀q ∈ s.pods,zD q=0:=by
  unfold jD at hP;split at hP
  · cases hP
  · exact jbs hP
 have hp':zD { p with node:=n.name }=0:=jkz hp (jec (hnodes n hm));have hP':jD (Jv s { p with node:=n.name }).pods=0:=by
  have e1:=jdC (s:=s) { p with node:=n.name };have e2:=X5 s p.name;unfold jD;rw[if_neg (by
   have e3:(Jv s { p with node:=n.name }).pods.length=(zG s p.name).pods.length+1:=e1;omega)]
  refine jhJ (jhw hs.asc _) (fun q hq=>?_) fun q hq=>by cases hq
  rcases ins_mem hq with rfl | hq
  · exact hp'
  · exact hpods q (Zl hq)
 have hpl:jA s.nodes (Jv s { p with node:=n.name }).pods=0:=jd9 fun q hq hn=>by
  rcases ins_mem hq with rfl | hq
  · show (jl s.nodes n.name).isSome=true;have:jl s.nodes n.name=some n:=hf;rw[this];rfl
  · exact jd4 hs.parts.places q (Zl hq) hn
 have hneed:∀q ∈ (Jv s { p with node:=n.name }).pods,zL q.need:=fun q hq9=>by
  rcases ins_mem hq9 with rfl | hq9
  · exact hq
  · exact hs.need q (Zl hq9)
 have hro:jM (Jv s { p with node:=n.name }).pods s.nodes=0:=jfd fun k hk=>by
  obtain⟨u,h1,-,-,h2⟩:=jj3 (x:=k.name) (l:=(Jv s { p with node:=n.name }).pods) (hs.cap k hk) hneed fun m=>by
   show Jl k.name (JX { p with node:=n.name } (zc p.name s.pods)) m≤_;rw[jgt];by_cases e:k.name=n.name
   · have hkn:k=n:=by
      have e1:=hs.parts.jl hk;rw[e] at e1;have e2:jl s.nodes n.name=some n:=hf;rw[e2] at e1;exact(Option.some.inj e1).symm
     subst hkn;have e3:Zn k.name { p with node:=k.name } m=Vec.jh p.need m:=by unfold Zn;rw[if_pos (zh _)]
     have:=h5 m;have h6:Jl k.name (zc p.name s.pods) m+Vec.jh p.need m≤Vec.jh k.cap m:=this;omega
   · have e3:Zn k.name { p with node:=n.name } m=0:=by unfold Zn;rw[if_neg fun g=>e (jR.1 g).symm]
     have h7:=hs.sum hk m;have h8:=jlu (x:=k.name) (y:=p.name) s.pods hs.need m;omega
  exact⟨u,h1,h2⟩
 have ho:or3 (jI s.nodes) (jD (Jv s { p with node:=n.name }).pods) (jH s.buds)=0:=by rw[hN,hP',hB];rfl
 exact(jaa (nl:=s.nodes) (pl:=(Jv s { p with node:=n.name }).pods) (bl:=s.buds) ho hpl hro).trans hs.parts.tot
def jfk (s:Clu) (w:World) (e:Ending) (w':World):Prop:=∃y,e=.returned y∧jC w' y s∧Kept w w'
theorem jnK {v u:Value} {s:Clu} {p:Pd} {w:World} (h:jC w v s) (g:jbq w u p) (hl:jE s) (hp:JL p):Calls Tryz.prog 264 #[v,u] w (jfk (Jv s p) w):=by
 obtain⟨v1,v2,v3,rfl,⟨a,cap,rfl,l1,m1,h1⟩,⟨b,cp,rfl,l2,m2,h2⟩,⟨d,cb,rfl,l3,m3,h3⟩⟩:=h;obtain⟨u1,u2,u3,u4,rfl,hat⟩:=g;have g1:=hat.need;have g2:=hat.labels;have g3:=hat.sel;have g4:=hat.tols;obtain⟨b1,d1,rfl,-,-,-⟩:=g1;obtain⟨b2,d2,rfl,-,-,-⟩:=g2;obtain⟨b3,d3,rfl,-,-,-⟩:=g3;obtain⟨b4,d4,rfl,-,-,-⟩:=g4;refine(jkt a b d _ cap _ cp _ cb s.nodes s.pods s.buds p b1 b2 b3 b4 _ d1 _ d2 _ d3 _ d4 w h1 h2 h3 l1 m1 l2 m2 l3 m3 hl hat hp).mono ?_;rintro e w' ⟨_,_,_,_,_,_,_,_,_,rfl,ho,kk⟩;exact⟨_,rfl,ho.toR,kk⟩
theorem jmC {v:Value} {s:Clu} {w:World} (h:jC w v s) (x:ByteArray) (hl:jE s):Calls Tryz.prog 56 #[v,.string x] w (jfk (zG s x) w):=by
 obtain⟨v1,v2,v3,rfl,⟨a,cap,rfl,l1,m1,h1⟩,⟨b,cp,rfl,l2,m2,h2⟩,⟨d,cb,rfl,l3,m3,h3⟩⟩:=h;refine(jct a b d _ cap _ cp _ cb s.nodes s.pods s.buds x w h1 h2 h3 l1 m1 l2 m2 l3 m3 hl).mono ?_;rintro e w' ⟨_,_,_,_,_,_,_,_,_,rfl,ho,kk⟩;exact⟨_,rfl,ho.toR,kk⟩
theorem jl1 {a:Option Addr} {n c:Nat} {l:List Pd} {w:World} (h:Jo w (.slice a n c) l):jx w a n l:=by
 obtain⟨a',cap',e,_,_,h⟩:=h
 cases e
 exact h
theorem jmJ {s:Clu} {p:Pd} (h:jE s) (hp:JL p) (hn:s.pods.length≤1000):jE (Jv s p) :=
 ⟨h.nodes,fun q hq=>by rcases ins_mem hq with rfl | hq;exact hp;exact h.pods q (Zl hq),h.buds,h.nodesN,by
  have h1:=jdC (s:=s) p;have h2:=X5 s p.name;omega,h.budsN⟩
theorem jff {s:Clu} (h:jE s) (x:ByteArray):jE (zG s x) :=
 ⟨h.nodes,fun q hq=>h.pods q (Zl hq),h.buds,h.nodesN,by
  have h2:=X5 s x;have:=h.podsN;omega,h.budsN⟩
open Go.RowKit Go.Sort
def jS (p:Pd):Bool:=zo p.node&&!p.hold
def zA (p q:Pd):Bool:=decide (Xi p q<0)
def Xx (l m:List Pd):Prop:=m.Perm (l.filter jS)∧m.Pairwise fun a b=>zA b a=false
theorem jcu {p q:Pd}:zA p q=true↔(q.prio<p.prio∨(q.prio=p.prio∧ltS p.name q.name=true)):=by
 unfold zA;rw[decide_eq_true_iff,jdd]
theorem jad {p q:Pd}:zA p q=false↔¬(q.prio<p.prio∨(q.prio=p.prio∧ltS p.name q.name=true)):=by
 rw[←Bool.not_eq_true,jcu]
theorem jbn {p q:Pd} (h:zA p q=false) (g:zA q p=false):p.name=q.name:=by
 rw[jad] at h g;have e:p.prio=q.prio:=by omega
 refine Vec.Y5 ?_ ?_
 · cases k:ltS p.name q.name with
   | false=>rfl
   | true=>exact absurd (.inr ⟨e.symm,k⟩) h
 · cases k:ltS q.name p.name with
   | false=>rfl
   | true=>exact absurd (.inr ⟨e,k⟩) g
theorem XI {x y z:Pd} (h1:zA x y=true) (h2:zA y z=true):zA x z=true:=by
 unfold zA at *;rw[decide_eq_true_iff] at *;exact je3 h1 h2
theorem jaz {x y z:Pd} (h1:zA x y=false) (h2:zA y z=false):zA x z=false:=by
 cases e:zA x z with
 | false=>rfl
 | true =>
  cases q:zA y x with
  | true=>rw[XI q e] at h2;cases h2
  | false =>
   have hn:=jbn h1 q;rw[jad] at h1 q h2;rw[jcu] at e;rcases e with e | ⟨e1,e2⟩
   · exact absurd (.inl (by omega)) h2
   · exact absurd (.inr ⟨by omega,by rw[←hn];exact e2⟩) h2
theorem jaG (x:Pd):zA x x=false:=by
 rw[jad,Vec.YP];rintro (h | ⟨-,h⟩)
 · omega
 · cases h
theorem jau {l:List Pd} (h:Asc l) {p q:Pd} (hp:p ∈ l) (hq:q ∈ l) (e:p.name=q.name):p=q:=by
 have h1:=qG h hp;have h2:=qG h hq;rw[e,h2] at h1;exact(Option.some.inj h1).symm
theorem Xx.unique {l m k:List Pd} (ha:Asc l) (h:Xx l m) (g:Xx l k):m=k :=
 List.Perm.eq_of_pairwise (fun a b h1 h2 e1 e2=>jau ha (List.mem_filter.1 (h.1.mem_iff.1 h1)).1 (List.mem_filter.1 (g.1.mem_iff.1 h2)).1 (jbn e2 e1)) h.2 g.2 (h.1.trans g.1.symm)
def zF (l:List Pd):List Pd:=(l.filter jS).mergeSort fun a b=>!zA b a
theorem jcf (l:List Pd):Xx l (zF l):=by
 refine⟨List.mergeSort_perm _ _,?_⟩;have h:=List.pairwise_mergeSort (le:=fun a b=>!zA b a) (fun a b c h1 h2=>by
  simp only[Bool.not_eq_true'] at *;exact jaz h2 h1) (fun a b=>by
  cases e:zA b a with
  | false=>rfl
  | true =>
   cases q:zA a b with
   | false=>rfl
   | true=>have:=XI e q;rw[jaG b] at this;cases this) (l.filter jS)
 exact h.imp fun {a b} g=>by simpa using g
theorem qY {l m:List Pd} (ha:Asc l) (h:Xx l m):m=zF l:=h.unique ha (jcf l)
theorem jeh {l:List Pd} {p:Pd}:p ∈ zF l↔p ∈ l∧jS p=true:=by rw[(jcf l).1.mem_iff,List.mem_filter]
theorem ja1 (l:List Pd):(zF l).length=(l.filter jS).length:=(jcf l).1.length_eq
theorem qH (l:List Pd):(zF l).length≤l.length:=by rw[ja1];exact List.length_filter_le _ _
def jaY (s:Clu) (p:Pd) (pack:Bool):Option ByteArray:=((zN s p s.nodes).mergeSort fun a b=>!YN s p pack b a).head?
theorem jbv (s:Clu) (p:Pd) (pack:Bool):qo s p pack ((zN s p s.nodes).mergeSort fun a b=>!YN s p pack b a):=by
 refine⟨List.mergeSort_perm _ _,?_⟩;have h:=List.pairwise_mergeSort (le:=fun a b=>!YN s p pack b a) (fun a b c h1 h2=>by
  simp only[Bool.not_eq_true'] at *;exact jaE h2 h1) (fun a b=>by
  cases e:YN s p pack b a with
  | false=>rfl
  | true =>
   cases q:YN s p pack a b with
   | false=>rfl
   | true=>have:=XG e q;rw[jaF] at this;cases this) (zN s p s.nodes)
 exact h.imp fun {a b} g=>by simpa using g
theorem jjv {s:Clu} {p:Pd} {pack:Bool} {l:List ByteArray} (h:qo s p pack l):l.head?=jaY s p pack:=by
 unfold jaY;rw[h.unique (jbv s p pack)]
theorem jfY {s:Clu} {p:Pd} {pack:Bool}:jaY s p pack=none↔zN s p s.nodes=[]:=by
 unfold jaY;rw[List.head?_eq_none_iff];constructor
 · intro h;have:=(jbv s p pack).1;rw[h] at this;exact List.Perm.eq_nil this.symm
 · intro h;have:=(jbv s p pack).1;rw[h] at this;rw[h];exact List.Perm.eq_nil this
theorem jmZ {s:Clu} {p:Pd} {pack:Bool} {x:ByteArray} (h:jaY s p pack=some x):x ∈ zN s p s.nodes :=
 (jbv s p pack).1.mem_iff.1 (List.mem_of_head? h)
def Yf (s:Clu) (pack:Bool):List Pd→Option (ByteArray×ByteArray)
 | []=>none
 | p::t=>match jaY s p pack with
  | some x=>some (p.name,x)
  | none=>Yf s pack t
def nextS (s:Clu) (pack:Bool):Option (ByteArray×ByteArray):=Yf s pack (zF s.pods)
theorem jfF {s:Clu} {pack:Bool} {x t:ByteArray}:∀{l:List Pd},Yf s pack l=some (x,t)→∃p ∈ l,p.name=x∧jaY s p pack=some t
 | [],h=>by cases h
 | p::l,h=>by
  rw[Yf] at h;split at h
  · rename_i y e;obtain⟨rfl,rfl⟩:=Prod.mk.inj (Option.some.inj h);exact⟨p,by simp,rfl,e⟩
  · obtain⟨q,hq,e⟩:=jfF h;exact⟨q,by simp[hq],e⟩
theorem XR {s:Clu} {pack:Bool} {x t:ByteArray} (h:nextS s pack=some (x,t)):∃p ∈ s.pods,jS p=true∧p.name=x∧t ∈ zN s p s.nodes:=by
 obtain⟨p,hp,e,c⟩:=jfF h;obtain⟨h1,h2⟩:=jeh.1 hp;exact⟨p,h1,h2,e,jmZ c⟩
theorem jfe {p:Pd} {y:ByteArray}:∀{l:List Pd},Asc l→p ∈ l→Jn p.name y l=JX { p with node:=y } (zc p.name l)
 | [],_,h=>by cases h
 | q::r,ha,h=>by
  obtain⟨h1,h2⟩:=List.pairwise_cons.1 ha;rw[Jn,zc];by_cases e:eqS q.name p.name=true
  · rw[if_pos e,if_pos e];have hq:q=p:=jau ha (by simp) h (jR.1 e);subst hq
    cases r with
    | nil=>rfl
    | cons z r=>rw[JX,if_pos (by exact h1 z (by simp))]
  · rw[if_neg e,if_neg e];have hp:p ∈ r:=(List.mem_cons.1 h).resolve_left fun g=>e (by rw[g];exact zh _);have hlt:¬ltS p.name q.name=true:=fun g'=>absurd (Vec.Ja (h1 p hp) g') (by rw[Vec.YP];decide);rw[JX,if_neg (by exact hlt),jfe h2 hp]
theorem ja4 {p:Pd} {y:ByteArray} (hr:jS p=true) (hy:zo y=false):∀{l:List Pd},Asc l→p ∈ l→((Jn p.name y l).filter jS).length+1=(l.filter jS).length
 | [],_,h=>by cases h
 | q::r,ha,h=>by
  obtain⟨h1,h2⟩:=List.pairwise_cons.1 ha;rw[Jn];by_cases e:eqS q.name p.name=true
  · rw[if_pos e];have hq:q=p:=jau ha (by simp) h (jR.1 e);subst hq;rw[List.filter_cons_of_neg (by unfold jS;show ¬((zo y&&!q.hold)=true);rw[hy];simp),List.filter_cons_of_pos hr];rfl
  · rw[if_neg e];have hp:p ∈ r:=(List.mem_cons.1 h).resolve_left fun g=>e (by rw[g];exact zh _);by_cases g:jS q=true
    · rw[List.filter_cons_of_pos g,List.filter_cons_of_pos g,List.length_cons,List.length_cons,ja4 hr hy h2 hp]
    · rw[List.filter_cons_of_neg g,List.filter_cons_of_neg g,ja4 hr hy h2 hp]
theorem X8 (x y:ByteArray):∀l:List Pd,(Jn x y l).length=l.length
 | []=>rfl
 | q::r=>by
  rw[Jn];split
  · rfl
  · rw[List.length_cons,List.length_cons,X8 x y r]
structure Je (s:Clu):Prop where
 chk:zK s=0
 sound:Sound s
 low:jE s
 few:s.pods.length≤128
theorem Je.asc {s:Clu} (h:Je s):Asc s.pods:=h.sound.asc
theorem Je.pods {s:Clu} (h:Je s):∀q ∈ s.pods,zD q=0:=by
 have hP:=h.sound.parts.pods;unfold jD at hP;split at hP
 · cases hP
 · exact jbs hP
theorem Je.nodes {s:Clu} (h:Je s):∀m ∈ s.nodes,zk m=0:=by
 have hN:=h.sound.parts.nodes;unfold jI at hN;split at hN
 · cases hN
 · exact(Xo hN).2.2
theorem jks {x:ByteArray} (h:isName x=true):zo x=false:=by
 cases e:zo x with
 | false=>rfl
 | true =>
  have:=jR.1 (show eqS x ByteArray.empty=true from e);subst this;exact absurd h (by decide)
theorem Je.to {s:Clu} (h:Je s) {pack:Bool} {x t:ByteArray} (hn:nextS s pack=some (x,t)):zo t=false:=by
 obtain⟨p,-,-,-,ht⟩:=XR hn;obtain⟨-,n,hnn,rfl⟩:=ja2 ht;exact jks (jec (h.nodes n hnn))
theorem Je.bind {s:Clu} (h:Je s) {pack:Bool} {x t:ByteArray} (hn:nextS s pack=some (x,t)):Je (zY s x t):=by
 obtain⟨p,hp,-,rfl,ht⟩:=XR hn;obtain⟨hf,-⟩:=ja2 ht;have e:zY s p.name t=Jv s { p with node:=t }:=by unfold zY Jv;rw[jfe h.asc hp]
 have hd:(zG s p.name).pods.length+1=s.pods.length:=by
  have:=X5 s p.name;rw[qG h.asc hp] at this;simpa using this
 have hc:zK (Jv s { p with node:=t })=0:=jiy h.chk h.sound (h.pods p hp) (h.sound.need p hp) (by have:=h.few;omega) hf;rw[e];have hlow:=h.low.pods p hp;refine⟨hc,⟨jb8 hc,jhw h.asc _,fun q hq=>?_,h.sound.cap⟩,jmJ h.low ⟨hlow.need,hlow.labels,hlow.sel,hlow.tols⟩ (by have:=h.few;omega),?_⟩
 · rcases ins_mem hq with rfl | hq
   · exact h.sound.need p hp
   · exact h.sound.need q (Zl hq)
 · have:=jdC (s:=s) { p with node:=t };have e3:(Jv s { p with node:=t }).pods.length=(zG s p.name).pods.length+1:=this;have:=h.few;omega
theorem Je.fewer {s:Clu} (h:Je s) {pack:Bool} {x t:ByteArray} (hn:nextS s pack=some (x,t)):(zF (zY s x t).pods).length+1=(zF s.pods).length:=by
 have ht:=h.to hn;obtain⟨p,hp,hr,rfl,-⟩:=XR hn;rw[ja1,ja1];exact ja4 hr ht h.asc hp
def Jq (pack:Bool):Nat→Clu→List (ByteArray×ByteArray)
 | 0,_=>[]
 | n+1,s=>match nextS s pack with
  | none=>[]
  | some b=>b::Jq pack n (zY s b.1 b.2)
def goS (l:List (ByteArray×ByteArray)) (s:Clu):Clu:=l.foldl (fun s b=>zY s b.1 b.2) s
def JI (s:Clu) (pack:Bool):List (ByteArray×ByteArray):=Jq pack (zF s.pods).length s
theorem jl6 (l:List (ByteArray×ByteArray)) (b:ByteArray×ByteArray) (s:Clu):goS (l++[b]) s=zY (goS l s) b.1 b.2:=by unfold goS;rw[List.foldl_append];rfl
theorem qW (pack:Bool):∀(n:Nat) (s:Clu),(Jq pack n s).length≤n
 | 0,_=>Nat.le_refl _
 | n+1,s=>by
  rw[Jq];split
  · exact Nat.zero_le _
  · rw[List.length_cons];exact Nat.succ_le_succ (qW pack n _)
theorem qF (pack:Bool):∀{n:Nat} {s:Clu} {k:Nat},Je s→k≤(Jq pack n s).length→Je (goS ((Jq pack n s).take k) s)∧(k<n→nextS (goS ((Jq pack n s).take k) s) pack=(Jq pack n s)[k]?)∧(zF (goS ((Jq pack n s).take k) s).pods).length+k=(zF s.pods).length
 | 0,s,k,h,hk=>by
  have e:k=0:=by rw[Jq] at hk;simpa using hk
  subst e;exact⟨by simpa [goS] using h,fun h=>absurd h (by omega),rfl⟩
 | n+1,s,0,h,hk=>by
  refine⟨by simpa [goS] using h,fun _=>?_,rfl⟩;show nextS s pack=_;rw[Jq]
  cases nextS s pack<;>rfl
 | n+1,s,k+1,h,hk=>by
  rw[Jq] at hk ⊢
  cases e:nextS s pack with
  | none=>rw[e] at hk;simp at hk
  | some b =>
   rw[e] at hk;obtain⟨x,t⟩:=b;have ih:=qF pack (n:=n) (k:=k) (h.bind e) (by simpa using hk);have hf:=h.fewer e;simp only[List.take_succ_cons,List.getElem?_cons_succ];have eg:∀l,goS ((x,t)::l) s=goS l (zY s x t):=fun l=>rfl;rw[eg];exact⟨ih.1,fun hk=>ih.2.1 (by omega),by have:=ih.2.2;omega⟩
theorem jkH {s:Clu} {pack:Bool} (h:(zF s.pods).length=0):nextS s pack=none:=by
 unfold nextS;rw[List.length_eq_zero_iff.1 h];rfl
theorem jcs {s:Clu} (h:Je s) (pack:Bool) {k:Nat} (hk:k≤(JI s pack).length):nextS (goS ((JI s pack).take k) s) pack=(JI s pack)[k]?:=by
 have hl:=qW pack (zF s.pods).length s;obtain⟨h1,h2,h3⟩:=qF pack h hk;by_cases e:k<(zF s.pods).length
 · exact h2 e
 · have e2:k=(zF s.pods).length:=by unfold JI at hk;omega
   rw[List.getElem?_eq_none (by unfold JI;omega)];exact jkH (by unfold JI;omega)
theorem XH {s:Clu} (h:Je s) (pack:Bool) {k:Nat} (hk:k≤(JI s pack).length):Je (goS ((JI s pack).take k) s):=(qF pack h hk).1
theorem jl8 {s:Clu} (h:Je s) (pack:Bool):(zF (goS (JI s pack) s).pods).length+(JI s pack).length=(zF s.pods).length:=by
 have:=(qF pack (n:=(zF s.pods).length) h (Nat.le_refl _)).2.2;rwa [List.take_of_length_le (Nat.le_refl _)] at this
theorem jb3 {l:List (ByteArray×ByteArray)} {s:Clu} {k:Nat} {b:ByteArray×ByteArray} (h:l[k]?=some b):goS (l.take (k+1)) s=zY (goS (l.take k) s) b.1 b.2:=by
 rw[List.take_add_one,h];exact jl6 _ _ _
theorem jmO (l:List (ByteArray×ByteArray)) (s:Clu):(goS l s).pods.length=s.pods.length:=by
 unfold goS
 induction l generalizing s with
 | nil=>rfl
 | cons b l ih=>rw[List.foldl_cons,ih];exact X8 _ _ _
def jow (o:Option Nod) (w:World) (e:Ending) (w':World):Prop:=(∀n,o=some n→∃b1 k1 d1 b2 k2 d2 b3 k3 d3,e=.returned (zj n (.slice b1 k1 d1) (.slice b2 k2 d2) (.slice b3 k3 d3))∧zr w' (.slice b1 k1 d1) (.slice b2 k2 d2) (.slice b3 k3 d3) n)∧(o=none→e=.panicked [zw 3])∧Kept w w'
theorem qd (c:Int) (w:World):Calls Tryz.prog 153 #[.bool false,.int .i64 c] w fun e w'=>e=.returned (.tuple #[])∧w=w':=by
 go_enter Tryz.func153,Tryz.ntmps153;go_wp2;refine⟨rfl,.tuple #[],by simp[results,Tryz.results153,go_sem],?_⟩;exact⟨rfl,rfl⟩
theorem XC (c:Int) (w:World):Calls Tryz.prog 153 #[.bool true,.int .i64 c] w fun e w'=>e=.panicked [zw c]∧w=w':=by
 go_enter Tryz.func153,Tryz.ntmps153;go_wp2;exact⟨rfl,rfl,rfl⟩
theorem jgO (s1 s2 s3:Option Addr) (n1 e1 n2 e2 n3 e3:Nat) (nodes:List Nod) (name:ByteArray) (w:World) (hn:jo w s1 n1 nodes) (hb1:n1≤100000) :
 Calls Tryz.prog 152 #[.agg #[.slice s1 n1 e1,.slice s2 n2 e2,.slice s3 n3 e3],.string name] w (jow (jl nodes name) w):=by
 obtain⟨Z,hZ⟩:=eX ((w.alloc (.cells #[.slice s1 n1 e1,.slice s2 n2 e2,.slice s3 n3 e3] 26)).alloc (.cells #[.string ⟨#[]⟩,.slice none 0 0,.slice none 0 0,.slice none 0 0,.bool false] 78))
 have hkz:Kept w Z:=by rw[←hZ];exact jn _ _ _
 have Vw:=lH (jc w (.slice s1 n1 e1) [.slice s2 n2 e2,.slice s3 n3 e3] 26 Z (by rw[←hZ];exact ja _ _));have hyb:jf (w.heap.size+1) [.string ⟨#[]⟩,.slice none 0 0,.slice none 0 0,.slice none 0 0,.bool false] Z:=by
  have dd:=jc (w.alloc (.cells #[.slice s1 n1 e1,.slice s2 n2 e2,.slice s3 n3 e3] 26)) (.string ⟨#[]⟩) [.slice none 0 0,.slice none 0 0,.slice none 0 0,.bool false] 78 Z (by rw[hZ];exact Kept.refl _);rw[World.size_alloc] at dd;exact dd
 obtain⟨T0,HN,VR,Vc⟩:=lH4 hyb hn hn.1 hkz;clear hn hkz hyb;go_enter Tryz.func152,Tryz.ntmps152;have y0:=Vw.out.at_ 0 _ rfl;go_upto_region 1 with fail
 try rw[hZ]
 clear hZ;go_wp2;clear y0;go_loopw [10] (fun i wr=>∃k:Nat,k≤n1∧i=.int .i64 k∧jl (nodes.drop k) name=jl nodes name∧Kept Z wr) (fun i _=>n1-(intOf i).toNat)
 case atStart=>exact⟨0,Nat.zero_le _,rfl,rfl,Kept.refl _⟩
 case round =>
  obtain⟨k,hk,rfl,hR,hK⟩:=hrel;obtain⟨HR,HK,Uo⟩:=lH3 hR (Vc.out.trans hK) hK;by_cases hlt:k<n1
  · obtain⟨g,off,rfl⟩:=HN.out.form.resolve_left (by omega);obtain⟨n,b1,k1,d1,b2,k2,d2,b3,k3,d3,hn,hd,hb,u0,u1,u2,u3,u4,hat⟩:=HN.out.at_ hlt;have VH:=lH hat;have HD:=lH hd;have u0:=cell_later HK.out u0;have u1:=cell_later HK.out u1;have u2:=cell_later HK.out u2;have u3:=cell_later HK.out u3;have u4:=cell_later HK.out u4;have hkk:(k:Int)<(n1:Int):=by omega
    have hk0:¬(k:Int)<0:=by omega
    obtain⟨wx,hwx⟩:=eX (wr.alloc (.cells #[.string n.name,.slice b1 k1 d1,.slice b2 k2 d2,.slice b3 k3 d3,.bool n.cordon] 78))
    have hkx:Kept wr wx:=by rw[←hwx];exact ja _ _
    have Vt:=lH (jc wr (.string n.name) [.slice b1 k1 d1,.slice b2 k2 d2,.slice b3 k3 d3,.bool n.cordon] 78 wx (by rw[hwx];exact Kept.refl _));obtain⟨bq,hbq⟩:=eX (wr.heap.size)
    rw[hbq] at Vt;have KX:=lH hkx;go_upto_region 4 with fail
    try rw[hwx]
    try rw[hbq]
    clear hwx hbq hd hb hn hR hK hkx hk0 hkk hat u0 u1 u2 u3 u4;obtain⟨t0,t1,t2,t3,t4⟩:=Vt.out.at5;obtain⟨t,ht⟩:=eX ((n.name.toList==name.toList))
    have HT:=lH (show eqS n.name name=t from ht)
    cases t with
    | false =>
     have HX:=lH (show jl (nodes.drop (k+1)) name=jl nodes name by rw[←HR.out,HD.out];unfold jl;rw[List.find?_cons,HT.out]);go_wp2;go_roundw
     case rel=>exact⟨k+1,by omega,by go_num,HX.out,Uo.out.trans KX.out⟩
     case measure=>simp[intOf];omega
    | true =>
     have HX:=lH (show jl nodes name=some n by rw[←HR.out,HD.out];unfold jl;rw[List.find?_cons,HT.out]);have VW:=lH (T0.out.kept (Uo.out.trans KX.out));obtain⟨z0,z1,z2,z3,z4⟩:=VW.out.at5;have f0:=VW.out.free 0;have f1:=VW.out.free 1;have f2:=VW.out.free 2;have f3:=VW.out.free 3;have f4:=VW.out.free 4;have P:=lH (ZC ⟨z0,z1,z2,z3,z4⟩ n.name b1 b2 b3 k1 d1 k2 d2 k3 d3 n.cordon);go_wp2;obtain⟨WE,hWE⟩:=eX ((((((wx.setCell ⟨w.heap.size+1,0,none⟩ (.string n.name)).setCell ⟨w.heap.size+1,1,none⟩ (.slice b1 k1 d1)).setCell ⟨w.heap.size+1,2,none⟩ (.slice b2 k2 d2)).setCell ⟨w.heap.size+1,3,none⟩ (.slice b3 k3 d3)).setCell ⟨w.heap.size+1,4,none⟩ (.bool n.cordon)))
     rw[hWE] at P ⊢;clear hWE z0 z1 z2 z3 z4 t0 t1 t2 t3 t4 f0 f1 f2 f3 f4;obtain⟨⟨d0,d1,d2,d3,d4⟩,hsz,hbl,hkp⟩:=P.out;refine bodyPost_ret (by simp[results,Tryz.results152,go_sem,d0,d1,d2,d3,d4];try rfl) rfl ?_;have KE:=hkp _ _ (Nat.le_succ _) (HK.out.trans KX.out);refine⟨fun m e=>?_,fun e=>?_,KE⟩
     · rw[HX.out] at e;cases e;exact⟨_,_,_,_,_,_,_,_,_,rfl,VH.out.kept KE⟩
     · rw[HX.out] at e;cases e
  · have hge:¬(k:Int)<(n1:Int):=by omega
    have HO:=lH (show jl nodes name=none by rw[←HR.out,List.drop_of_length_le (by rw[VR.out];omega)];rfl);clear hR hK;go_wp2;exact⟨rfl,(fun m e=>by rw[HO.out] at e;cases e),(fun _=>rfl),HK.out⟩
theorem jek {r:Int×Vec.V} {w w':World} {e:Ending} (h:Vec.Xb r w e w'):Xc r w e w':=by
 obtain⟨v,e,h,k⟩:=h;exact⟨v,e,h.at_,k⟩
theorem joq {v:Value} {s:Clu} {w:World} (h:jC w v s) (x:ByteArray) (hl:jE s):Calls Tryz.prog 295 #[v,.string x] w (Xc (J7 s x) w):=by
 obtain⟨v1,v2,v3,rfl,⟨a,cap,rfl,l1,m1,h1⟩,⟨b,cp,rfl,l2,m2,h2⟩,⟨d,cb,rfl,l3,m3,h3⟩⟩:=h;exact(jjy a b d _ cap _ cp _ cb s.nodes s.pods x w h1 h2 hl.nodes).mono fun _ _ h=>jek h
theorem joh {v:Value} {s:Clu} {w:World} (h:jC w v s) (x:ByteArray) (hl:jE s):Calls Tryz.prog 195 #[v,.string x] w (Xc (Z3 s x) w):=by
 obtain⟨v1,v2,v3,rfl,⟨a,cap,rfl,l1,m1,h1⟩,⟨b,cp,rfl,l2,m2,h2⟩,⟨d,cb,rfl,l3,m3,h3⟩⟩:=h;exact(jke a b d _ cap _ cp _ cb s.nodes s.pods x w h1 h2 hl.nodes).mono fun _ _ h=>jek h
theorem onR {v:Value} {s:Clu} {w:World} (h:jC w v s) (x:ByteArray) (hl:jE s):Calls Tryz.prog 282 #[v,.string x] w fun e w'=>∃y,e=.returned y∧Jo w' y (onP x s.pods)∧Kept w w':=by
 obtain⟨v1,v2,v3,rfl,⟨a,cap,rfl,l1,m1,h1⟩,⟨b,cp,rfl,l2,m2,h2⟩,⟨d,cb,rfl,l3,m3,h3⟩⟩:=h;exact jle b a d _ cp _ cap _ cb s.pods x w h2 hl.pods hl.podsN
end Go.Proofs.YtibepooajeakfaaGreat
