/- C. -/
import Derived.Test.YtabafpoklpiiiaaGreatG2
import Derived.Test.YtabafpoklpiiiaaGreatG3
import Derived.Test.YtabafpoklpiiiaaGreatG4
import Derived.Shelf.Spec.SlicesInsert
set_option linter.unusedVariables false
set_option maxRecDepth 100000
set_option maxHeartbeats 25600000
namespace Go.Proofs.YtabafpoklpiiiaaGreat
open Go.RowKit
structure ju (S:Nat→Prop) (B:Nat) (w:World) (v1 v2 v3:Value) (s:Clu):Prop where
 pods:∃lx:List PX,(lx.map fun z=>z.1)=s.pods∧Own PodLay0 41 w B v2 lx∧∀z ∈ lx,Off (fun b=>S b∨v2.ownBlock=some b) w fun u=>At4 u z
 nodes:Off (fun b=>S b∨v2.ownBlock=some b) w fun u=>Yc u v1 s.nodes
 buds:Off (fun b=>S b∨v2.ownBlock=some b) w fun u=>YM u v3 s.buds
 sep:∀k,v2.ownBlock=some k→¬S k
theorem ju.toR {S:Nat→Prop} {B:Nat} {w:World} {v1 v2 v3:Value} {s:Clu} (h:ju S B w v1 v2 v3 s):jC w (.agg #[v1,v2,v3]) s:=by
 obtain⟨lx,e,ho,hd⟩:=h.pods;exact⟨v1,v2,v3,rfl,h.nodes.here,by rw[←e];exact ZY ho fun z hz=>(hd z hz).here,h.buds.here⟩
theorem ju.lt {S:Nat→Prop} {B:Nat} {w:World} {v1 v2 v3:Value} {s:Clu} (h:ju S B w v1 v2 v3 s):∀g,v2.ownBlock=some g→B≤g∧g<w.heap.size:=by
 obtain⟨lx,e,ho,hd⟩:=h.pods;exact jR ho
theorem ju.step {S:Nat→Prop} {B:Nat} {w w':World} {v1 v2 v3:Value} {s:Clu} (h:ju S B w v1 v2 v3 s) (g:jb S w w'):ju S B w' v1 v2 v3 s:=by
 obtain⟨lx,e,ho,hd⟩:=h.pods;have g':jb (fun b=>S b∨v2.ownBlock=some b) w w':=g.mono fun b e=>.inl e;exact⟨⟨lx,e,ho.goff g h.sep,fun z hz=>(hd z hz).step g'⟩,h.nodes.step g',h.buds.step g',h.sep⟩
theorem ju.kept {S:Nat→Prop} {B:Nat} {w w':World} {v1 v2 v3:Value} {s:Clu} (h:ju S B w v1 v2 v3 s) (k:Kept w w'):ju S B w' v1 v2 v3 s:=h.step (jb.of k)
theorem ju.less {S S':Nat→Prop} {B B':Nat} {w:World} {v1 v2 v3:Value} {s:Clu} (h:ju S B w v1 v2 v3 s) (hb:B'≤B) (hs:∀k,S' k→S k):ju S' B' w v1 v2 v3 s:=by
 obtain⟨lx,e,ho,hd⟩:=h.pods;have m:∀k,(S' k∨v2.ownBlock=some k)→(S k∨v2.ownBlock=some k):=fun k e=>e.imp (hs k) id;exact⟨⟨lx,e,ho.base_le hb,fun z hz=>(hd z hz).less m⟩,h.nodes.less m,h.buds.less m,fun k hk e=>h.sep k hk (hs k e)⟩
theorem ju.more {S:Nat→Prop} {B q:Nat} {w w':World} {v1 v2 v3:Value} {s:Clu} (h:ju S B w v1 v2 v3 s) (k:Kept w w') (hq:w.heap.size≤q):ju (fun b=>S b∨b=q) B w' v1 v2 v3 s:=by
 obtain⟨lx,e,ho,hd⟩:=h.pods;have m:∀b,((S b∨b=q)∨v2.ownBlock=some b)→((S b∨v2.ownBlock=some b)∨w.heap.size≤b):=fun b e=>by
  rcases e with (e | e) | e
  · exact .inl (.inl e)
  · exact .inr (by omega)
  · exact .inl (.inr e)
 exact⟨⟨lx,e,ho.kept k,fun z hz=>(hd z hz).new (jb.of k) m⟩,h.nodes.new (jb.of k) m,h.buds.new (jb.of k) m,fun b hb e=>by
  rcases e with e | e
  · exact h.sep b hb e
  · have:=(h.lt b hb).2;omega⟩
theorem ju.turn {S:Nat→Prop} {B:Nat} {w w':World} {v1 v2 v3 v2':Value} {s:Clu} {l:List Pd} (h:ju S B w v1 v2 v3 s) (g:jb (fun b=>v2.ownBlock=some b) w w') (hn:∀k,v2'.ownBlock=some k→v2.ownBlock=some k∨w.heap.size≤k)
 (hS:∀k,S k→k<w.heap.size) (hp:∃lx:List PX,(lx.map fun z=>z.1)=l∧Own PodLay0 41 w' B v2' lx∧∀z ∈ lx,Off (fun b=>S b∨v2'.ownBlock=some b) w' fun u=>At4 u z):ju S B w' v1 v2' v3 { s with pods:=l }:=by
 have g':jb (fun b=>S b∨v2.ownBlock=some b) w w':=g.mono fun b e=>.inr e;have m:∀b,(S b∨v2'.ownBlock=some b)→((S b∨v2.ownBlock=some b)∨w.heap.size≤b):=fun b e=>by
  rcases e with e | e
  · exact .inl (.inl e)
  · rcases hn b e with e | e
    · exact .inl (.inr e)
    · exact .inr e
 exact⟨hp,h.nodes.new g' m,h.buds.new g' m,fun k hk e=>by
  rcases hn k hk with h' | h'
  · exact h.sep k h' e
  · have:=hS k e;omega⟩
theorem ju.els {S:Nat→Prop} {B:Nat} {w w':World} {v2 v2':Value} {lx:List PX} (h:∀z ∈ lx,Off (fun b=>S b∨v2.ownBlock=some b) w fun u=>At4 u z) (g:jb (fun b=>v2.ownBlock=some b) w w') (hn:∀k,v2'.ownBlock=some k→v2.ownBlock=some k∨w.heap.size≤k):∀z ∈ lx,Off (fun b=>S b∨v2'.ownBlock=some b) w' fun u=>At4 u z:=fun z hz =>
 (h z hz).new (g.mono fun b e=>.inr e) fun b e=>by
  rcases e with e | e
  · exact .inl (.inl e)
  · rcases hn b e with e | e
    · exact .inl (.inr e)
    · exact .inr e
theorem jbM {T:TypeId} {B:Nat} {w:World} {v:Value} {lx:List NX} (h:Jo zH T At3 B w v lx):Off (fun b=>b<B) w fun u=>Yc u v (lx.map fun z=>z.1):=fun u g =>
 jek (h.2.1.own.goff g fun k hk e=>by have:=(jR h.2.1.own k hk).1;omega) fun z hz=>(h.2.2 z hz) u (g.mono fun b hb=>.inl hb)
theorem jcX {T:TypeId} {B:Nat} {w:World} {v:Value} {lx:List BX} (h:Jo zN T At1 B w v lx):Off (fun b=>b<B) w fun u=>YM u v (lx.map fun z=>z.1):=fun u g =>
 jeR (h.2.1.own.goff g fun k hk e=>by have:=(jR h.2.1.own k hk).1;omega) fun z hz=>(h.2.2 z hz) u (g.mono fun b hb=>.inl hb)
theorem jc2 {q B:Nat} {z w1 w2 w3 WE:World} {v1 v2 v3:Value} {lxn:List NX} {lxp:List PX} {lxb:List BX} (hq:q<z.heap.size) (hB:B≤z.heap.size)
 (fn:Jo zH 29 At3 z.heap.size w1 v1 lxn) (k1:Kept z w1) (fp:Jo PodLay0 41 At4 w1.heap.size w2 v2 lxp) (k2:Kept w1 w2) (fb:Jo zN 178 At1 w2.heap.size w3 v3 lxb) (k3:Kept w2 w3)
 (g:jb (fun b=>b=q) w3 WE):ju (fun b=>b<B) w1.heap.size WE v1 v2 v3 ⟨lxn.map fun z=>z.1,lxp.map fun z=>z.1,lxb.map fun z=>z.1⟩:=by
 have s1:=k1.size;have s2:=k2.size;have hp:∀b,v2.ownBlock=some b→w1.heap.size≤b∧b<w2.heap.size:=fun b hb=>jR fp.2.1.own b hb;have gm:jb (fun b=>(b<B∨v2.ownBlock=some b)∨b=q) w3 WE:=g.mono fun b e=>.inr e;refine⟨⟨lxp,rfl,(fp.2.1.own.kept k3).goff g fun k hk e=>by have:=(hp k hk).1;omega,fun z hz=>(((fp.2.2 z hz).step (jb.of k3)).less (S':=fun b=>(b<B∨v2.ownBlock=some b)∨b=q) fun b e=>by
  rcases e with (e | e) | e
  · exact .inl (by omega)
  · exact .inr e
  · exact .inl (by omega)).step gm |>.less fun b e=>.inl e⟩,?_,?_,fun k hk e=>by have:=(hp k hk).1;omega⟩
 · have h:=(jbM fn).new (S':=fun b=>(b<B∨v2.ownBlock=some b)∨b=q) (jb.of (k2.trans k3)) fun b e=>by
    rcases e with (e | e) | e
    · exact .inl (by omega)
    · exact .inr (hp b e).1
    · exact .inl (by omega)
   exact(h.step gm).less fun b e=>.inl e
 · have h:=(jcX fb).less (S':=fun b=>(b<B∨v2.ownBlock=some b)∨b=q) fun b e=>by
    rcases e with (e | e) | e
    · omega
    · exact(hp b e).2
    · omega
   exact(h.step gm).less fun b e=>.inl e
theorem XF (a b d:Option Addr) (len cap m c n e:Nat) (nl:List Nod) (pl:List Pd) (bl:List Bd) (w:World) (hn:jt w a len nl) (hp:jv w b m pl) (hb:zu w d n bl) (h1:len≤cap) (h2:cap≤maxLen) (h3:m≤c) (h4:c≤maxLen) (h5:n≤e) (h6:e≤maxLen) (hl:jn ⟨nl,pl,bl⟩) :
 Calls Tryz.prog 50 #[.agg #[.slice a len cap,.slice b m c,.slice d n e]] w fun e w'=>∃a1 n1 c1 a2 n2 c2 a3 n3 c3,e=.returned (.agg #[.slice a1 n1 c1,.slice a2 n2 c2,.slice a3 n3 c3])∧ju (fun b=>b<w.heap.size) w.heap.size w' (.slice a1 n1 c1) (.slice a2 n2 c2) (.slice a3 n3 c3) ⟨nl,pl,bl⟩∧Kept w w':=by
 obtain⟨Z,hZ⟩:=eX ((w.alloc (.cells #[.slice a len cap,.slice b m c,.slice d n e] 35)).alloc (.cells #[.slice none 0 0,.slice none 0 0,.slice none 0 0] 35))
 have hkz:Kept w Z:=by rw[←hZ];exact ji _ _ _
 have hzs:Z.heap.size=w.heap.size+2:=by rw[←hZ];simp
 have HS:=lH (show ∀W,Kept Z W→W.cell? ⟨w.heap.size,0,none⟩=some (.slice a len cap)∧W.cell? ⟨w.heap.size,1,none⟩=some (.slice b m c)∧W.cell? ⟨w.heap.size,2,none⟩=some (.slice d n e) from fun W k=>by
  have cc:=jc w (.slice a len cap) [.slice b m c,.slice d n e] 35 W (by have:=ja (w.alloc (.cells #[.slice a len cap,.slice b m c,.slice d n e] 35)) (.cells #[.slice none 0 0,.slice none 0 0,.slice none 0 0] 35);rw[hZ] at this;exact this.trans k);exact⟨cc.at_ 0 _ rfl,cc.at_ 1 _ rfl,cc.at_ 2 _ rfl⟩)
 have HQ:=lH (show ∀W,Kept Z W→je (w.heap.size+1) [.slice none 0 0,.slice none 0 0,.slice none 0 0] W from fun W k=>by
  have dd:=jc (w.alloc (.cells #[.slice a len cap,.slice b m c,.slice d n e] 35)) (.slice none 0 0) [.slice none 0 0,.slice none 0 0] 35 W (by rw[hZ];exact k);rw[World.size_alloc] at dd;exact dd)
 obtain⟨H1,H2,H3,Vd,Vc⟩:=lH5 (fun W (k:Kept Z W)=>jdQ a len cap nl W (hn.kept (hkz.trans k)) h1 h2 (by rw[←hn.1];exact hl.nodesN) hl.nodes) (fun W (k:Kept Z W)=>jdS b m c pl W (hp.kept (hkz.trans k)) h3 h4 (by rw[←hp.1];exact hl.podsN) hl.pods) (fun W (k:Kept Z W)=>jdC d n e bl W (hb.kept (hkz.trans k)) h5 h6 (by rw[←hb.1];exact hl.budsN) hl.buds) hkz hzs;clear hn hp hb h1 h2 h3 h4 h5 h6 hl hkz hzs;go_enter Tryz.func50,Tryz.ntmps50;go_wp2;try rw[hZ]
 clear hZ;refine wp_region_held_drew (S:=fun W=>W.cell? ⟨w.heap.size,0,none⟩=some (.slice a len cap)∧W.cell? ⟨w.heap.size,1,none⟩=some (.slice b m c)∧W.cell? ⟨w.heap.size,2,none⟩=some (.slice d n e)) (by kernel_rfl) (HS.out _ (Kept.drew _)) (fun hHeld=>?_);refine tR 0 rfl (by kernel_rfl) (fun _ _ _=>id) (Or.inl ⟨by rfl,by rintro W ⟨o0,o1,o2⟩;go_simp<;>with_reducible rfl⟩) ‹_› ?_;refine tR 1 rfl (by kernel_rfl) (fun _ _ _=>id) (Or.inl ⟨by rfl,by rintro W ⟨o0,o1,o2⟩;go_simp<;>with_reducible rfl⟩) ‹_› ?_;refine tR 3 rfl (by kernel_rfl) (fun _ _ _=>id) (Or.inl ⟨by rfl,by rintro W ⟨o0,o1,o2⟩;go_simp<;>with_reducible rfl⟩) ‹_› ?_;refine tR 4 rfl (by kernel_rfl) (fun _ _ _=>id) (Or.inl ⟨by rfl,by rintro W ⟨o0,o1,o2⟩;go_simp<;>with_reducible rfl⟩) ‹_› ?_;refine tR 6 rfl (by kernel_rfl) (fun _ _ _=>id) (Or.inl ⟨by rfl,by rintro W ⟨o0,o1,o2⟩;go_simp<;>with_reducible rfl⟩) ‹_› ?_;try simp only[nA,nB,nC,nD,nE]
 refine tR 7 rfl (by kernel_rfl) (fun _ _ _=>id) (Or.inl ⟨by rfl,by rintro W ⟨o0,o1,o2⟩;go_simp<;>with_reducible rfl⟩) ‹_› ?_;try simp only[nA,nB,nC,nD,nE]
 refine rd1 2 fun K9 Ky=>?_;go_simp;refine(H1.out _ (Kept.drew _)).mono ?_;rintro e1 w1 ⟨v1,lx1,rfl,hm1,hf1,kk⟩;obtain⟨J1,K1,M1,F1⟩:=lH4 ((Kept.drew Z).trans kk) kk hm1 hf1;obtain⟨⟨a1,n1,c1,rfl⟩,-⟩:=hf1;clear kk hm1;refine Ky.out _ _ (HS.out _ J1.out) (fun _=>?_);clear Ky K9;try simp only[nA,nB,nC,nD,nE]
 refine rd1 5 fun K9 Ky=>?_;go_simp;refine(H2.out _ J1.out).mono ?_;rintro e2 w2 ⟨v2,lx2,rfl,hm2,hf2,kk⟩;obtain⟨J2,K2,M2,F2⟩:=lH4 (J1.out.trans kk) kk hm2 hf2;obtain⟨⟨a2,n2,c2,rfl⟩,-⟩:=hf2;clear kk hm2;refine Ky.out _ _ (HS.out _ J2.out) (fun _=>?_);clear Ky K9;try simp only[nA,nB,nC,nD,nE]
 refine rd1 8 fun K9 Ky=>?_;go_simp;refine(H3.out _ J2.out).mono ?_;rintro e3 w3 ⟨v3,lx3,rfl,hm3,hf3,kk⟩;obtain⟨J3,K3,M3,F3⟩:=lH4 (J2.out.trans kk) kk hm3 hf3;obtain⟨⟨a3,n3,c3,rfl⟩,-⟩:=hf3;clear kk hm3;refine Ky.out _ _ (HS.out _ J3.out) (fun _=>?_);clear Ky K9;try simp only[nA,nB,nC,nD,nE]
 refine tR 9 rfl (by kernel_rfl) (fun _ _ _=>id) (Or.inl ⟨by rfl,by rintro W ⟨o0,o1,o2⟩;go_simp<;>with_reducible rfl⟩) ‹_› ?_;try simp only[nA,nB,nC,nD,nE]
 have z0:=(HQ.out _ J3.out).at_ 0 _ rfl;have z1:=(HQ.out _ J3.out).at_ 1 _ rfl;have z2:=(HQ.out _ J3.out).at_ 2 _ rfl;have f0:=(HQ.out _ J3.out).free 0;have f1:=(HQ.out _ J3.out).free 1;have f2:=(HQ.out _ J3.out).free 2;refine rd1 10 fun K9 Ky=>?_;go_simp;have P:=lH (jW (vs:=[.slice a1 n1 c1,.slice a2 n2 c2,.slice a3 n3 c3]) (HQ.out _ J3.out) rfl);refine Ky.out _ _ (by obtain⟨PC,hsz,hbl,hkp⟩:=P.out;obtain⟨o0,o1,o2⟩:=HS.out _ J3.out;exact⟨(World.cell?_of_block (a:=⟨w.heap.size,0,none⟩) (hbl w.heap.size (by omega))).trans o0,(World.cell?_of_block (a:=⟨w.heap.size,1,none⟩) (hbl w.heap.size (by omega))).trans o1,(World.cell?_of_block (a:=⟨w.heap.size,2,none⟩) (hbl w.heap.size (by omega))).trans o2⟩) (fun hHeld9=>?_);clear Ky K9 hHeld9 z0 f0 z1 f1 z2 f2;try simp only[nA,nB,nC,nD,nE]
 refine wpAnyH_done (by kernel_rfl) ?_ _;go_wp2;obtain⟨WE,hWE⟩:=eX (w3.setCells (w.heap.size+1) 0 [.slice a1 n1 c1,.slice a2 n2 c2,.slice a3 n3 c3])
 have hWE2:(((w3.setCell ⟨(w.heap.size+1),0,none⟩ (.slice a1 n1 c1)).setCell ⟨(w.heap.size+1),1,none⟩ (.slice a2 n2 c2)).setCell ⟨(w.heap.size+1),2,none⟩ (.slice a3 n3 c3))=WE:=hWE;rw[hWE] at P;try rw[hWE2]
 have GE:=lH (show jb (fun b=>b=w.heap.size+1) w3 WE by rw[←hWE];exact jb.cells (S:=fun b=>b=w.heap.size+1) _ rfl _ _ _);clear hWE hWE2;obtain⟨PC,hsz,hbl,hkp⟩:=P.out;have HO:=lH (jc2 (z:=Z.drew) (q:=w.heap.size+1) (B:=w.heap.size) (by show w.heap.size+1<Z.heap.size;have:=Vc.out;omega) (by show w.heap.size≤Z.heap.size;have:=Vc.out;omega) F1.out K1.out F2.out K2.out F3.out K3.out GE.out);rw[M1.out,M2.out,M3.out] at HO;refine bodyPost_ret (by simp[results,Tryz.results50,go_sem,PC.at_ 0 _ rfl,PC.at_ 1 _ rfl,PC.at_ 2 _ rfl];try rfl) rfl ?_;exact⟨a1,n1,c1,a2,n2,c2,a3,n3,c3,rfl,HO.out.less (Vd.out.trans J1.out).size (fun k e=>e),hkp _ _ (by omega) (Vd.out.trans J3.out)⟩
def idxB (f:Pd→Bool):List Pd→Option Nat
 | []=>none
 | p::t=>if f p=true then some 0 else (idxB f t).map (·+1)
def ZU:Option Nat→Int
 | none=>-1
 | some k=>(k:Int)
theorem Xw {f:Pd→Bool} {l:List Pd} {p:Pd} {k:Nat} (hd:l.drop k=p::l.drop (k+1)) (h:f p=true) (hr:(idxB f (l.drop k)).map (·+k)=idxB f l):idxB f l=some k:=by
 rw[←hr,hd,idxB,if_pos h];simp
theorem YI {f:Pd→Bool} {l:List Pd} {p:Pd} {k:Nat} (hd:l.drop k=p::l.drop (k+1)) (h:f p=false) (hr:(idxB f (l.drop k)).map (·+k)=idxB f l):(idxB f (l.drop (k+1))).map (·+(k+1))=idxB f l:=by
 rw[←hr,hd,idxB,if_neg (by rw[h];decide),Option.map_map];congr 1
 funext x
 show x+(k+1)=x+1+k;omega
theorem ZB {f:Pd→Bool}:∀{l:List Pd} {k:Nat},idxB f l=some k→k<l.length
 | [],k,h=>by cases h
 | p::t,k,h=>by
  rw[idxB] at h;split at h
  · obtain rfl:=Option.some.inj h;simp
  · cases e:idxB f t with
    | none=>rw[e] at h;cases h
    | some j=>rw[e] at h;obtain rfl:=Option.some.inj h;have:=ZB e;simp;omega
theorem XP {x:ByteArray}:∀{l:List Pd},(match idxB (fun p=>eqS p.name x) l with | none=>l | some k=>l.take k++l.drop (k+1))=jL x l
 | []=>rfl
 | p::t=>by
  rw[idxB,jL];by_cases h:eqS p.name x=true
  · rw[if_pos h,if_pos h];simp
  · rw[if_neg h,if_neg h,←XP (l:=t)]
    cases e:idxB (fun p=>eqS p.name x) t with
    | none=>rfl
    | some j=>simp
theorem XX {x y:ByteArray}:∀{l:List Pd},(match idxB (fun p=>eqS p.name x) l with | none=>l | some k=>match l[k]? with | none=>l | some p=>l.set k { p with node:=y })=Zr x y l
 | []=>rfl
 | p::t=>by
  rw[idxB,Zr];by_cases h:eqS p.name x=true
  · rw[if_pos h,if_pos h];simp
  · rw[if_neg h,if_neg h,←XX (l:=t)]
    cases e:idxB (fun p=>eqS p.name x) t with
    | none=>rfl
    | some j =>
     simp only[Option.map_some,List.getElem?_cons_succ,List.set_cons_succ]
     cases t[j]?<;>rfl
def placeN (x:ByteArray) (l:List Pd):Nat:=match idxB (fun p=>!leS p.name x) l with | none=>l.length | some k=>k
theorem ZW (x:ByteArray) (l:List Pd):placeN x l≤l.length:=by
 unfold placeN
 cases e:idxB (fun p=>!leS p.name x) l with
 | none=>exact Nat.le_refl _
 | some k=>exact Nat.le_of_lt (ZB e)
theorem J8 {p:Pd}:∀{l:List Pd},l.take (placeN p.name l)++p::l.drop (placeN p.name l)=zR p l
 | []=>rfl
 | q::t=>by
  have ih:=J8 (p:=p) (l:=t);rw[zR];unfold placeN at ih ⊢;rw[idxB];by_cases h:leS q.name p.name=true
  · have hn:ltS p.name q.name=false:=by
     cases e:ltS p.name q.name with
     | false=>rfl
     | true =>
      have:=Vec.Xa e;rw[h] at this;cases this
    rw[if_neg (by rw[h];decide),if_neg (by rw[hn];decide),←ih]
    cases e:idxB (fun q=>!leS q.name p.name) t with
    | none=>simp
    | some j=>simp
  · have h':leS q.name p.name=false:=by simpa using h
    rw[if_pos (by rw[h'];rfl),if_pos (Vec.jat h')];rfl
theorem jen (n:Pd) (a1 a2 a3 a4:Option Addr) (m1 c1 m2 c2 m3 c3 m4 c4 q:Nat) (x:ByteArray) (w:World) (hq:w.cell? ⟨q,0,none⟩=some (.string x)) :
 Calls Tryz.prog 115 #[.agg #[.string n.name,.string n.owner,.int .i64 n.prio,.slice a1 m1 c1,.slice a2 m2 c2,.slice a3 m3 c3,.slice a4 m4 c4,.string n.key,.int .i64 n.most,.string n.node,.bool n.hold],.pointer (some ⟨q,0,none⟩)] w fun e w'=>e=.returned (.bool (eqS n.name x))∧Kept w w':=by
 have hq2:=cell_later (ja w (.cells #[.string n.name,.string n.owner,.int .i64 n.prio,.slice a1 m1 c1,.slice a2 m2 c2,.slice a3 m3 c3,.slice a4 m4 c4,.string n.key,.int .i64 n.most,.string n.node,.bool n.hold] 41)) hq;obtain⟨t,ht⟩:=eX (eqS n.name x)
 have ht':(n.name.toList==x.toList)=t:=ht;rw[ht];go_enter Tryz.func115,Tryz.ntmps115;go_wp2;go_ret;exact⟨by first | rfl | (rw[←ht];rfl),ja _ _⟩
theorem jdW (n:Pd) (a1 a2 a3 a4:Option Addr) (m1 c1 m2 c2 m3 c3 m4 c4 q:Nat) (x:ByteArray) (w:World) (hq:w.cell? ⟨q,0,none⟩=some (.string x)) :
 Calls Tryz.prog 86 #[.agg #[.string n.name,.string n.owner,.int .i64 n.prio,.slice a1 m1 c1,.slice a2 m2 c2,.slice a3 m3 c3,.slice a4 m4 c4,.string n.key,.int .i64 n.most,.string n.node,.bool n.hold],.pointer (some ⟨q,0,none⟩)] w fun e w'=>e=.returned (.bool (!leS n.name x))∧Kept w w':=by
 have hq2:=cell_later (ja w (.cells #[.string n.name,.string n.owner,.int .i64 n.prio,.slice a1 m1 c1,.slice a2 m2 c2,.slice a3 m3 c3,.slice a4 m4 c4,.string n.key,.int .i64 n.most,.string n.node,.bool n.hold] 41)) hq;obtain⟨t,ht⟩:=eX (leS n.name x)
 have ht':(Op.bytesLess n.name.toList x.toList||n.name.toList==x.toList)=t:=ht;rw[ht];go_enter Tryz.func86,Tryz.ntmps86;go_wp2;go_ret;exact⟨by first | rfl | (rw[←ht];rfl),ja _ _⟩
theorem jff (a:Option Addr) (len cap q:Nat) (l:List Pd) (x:ByteArray) (w:World) (hr:jv w a len l) (hq:w.cell? ⟨q,0,none⟩=some (.string x)) :
 Calls Tryz.prog 85 #[.slice a len cap,.func (.func 115) #[] #[.pointer (some ⟨q,0,none⟩)]] w (Say (.int .i64 (ZU (idxB (fun p=>eqS p.name x) l))) w):=by
 have hl:=hr.1;have hm:=hr.2.1;unfold maxLen at hm;obtain⟨HL,HR,HQ⟩:=lH3 hl hr hq;clear hr hl hq;go_enter Tryz.func85,Tryz.ntmps85;go_wp2;go_loopw [8] (fun i wr=>∃k:Nat,k≤len∧i=.int .i64 k∧(idxB (fun p=>eqS p.name x) (l.drop k)).map (·+k)=idxB (fun p=>eqS p.name x) l∧Kept w wr) (fun i _=>len-(intOf i).toNat)
 case atStart=>exact⟨0,Nat.zero_le _,rfl,by simp,Kept.refl _⟩
 case round =>
  obtain⟨k,hk,rfl,hrest,hK⟩:=hrel;have HS:=lH hrest;have HK:=lH hK;by_cases hlt:k<len
  · obtain⟨b,off,rfl⟩:=HR.out.form.resolve_left (by omega);obtain⟨n,a1,m1,c1,a2,m2,c2,a3,m3,c3,a4,m4,c4,hn,hd,hb,p0,p1,p2,p3,p4,p5,p6,p7,p8,p9,p10,hat⟩:=(HR.out.kept hK).at_ hlt;have HD:=lH hd;have HC:=lH (jen n a1 a2 a3 a4 m1 c1 m2 c2 m3 c3 m4 c4 q x wr (cell_later hK HQ.out));obtain⟨t,ht⟩:=eX ((eqS n.name x))
    have HT:=lH ht;rw[ht] at HC;clear hrest hK hat hd hn ht
    cases t with
    | true =>
     have HF:=lH (Xw (f:=fun p=>eqS p.name x) HD.out HT.out HS.out);go_wp2_with fail
     refine HC.out.mono ?_;rintro e w1 ⟨rfl,k1⟩;have K1:=lH (HK.out.trans k1);clear k1;go_wp2;go_ret;exact⟨by rw[HF.out];rfl,K1.out⟩
    | false =>
     have HE:=lH (YI (f:=fun p=>eqS p.name x) HD.out HT.out HS.out);go_wp2_with fail
     refine HC.out.mono ?_;rintro e w1 ⟨rfl,k1⟩;have K1:=lH (HK.out.trans k1);clear k1;go_wp2;go_roundw
     case rel=>exact⟨k+1,by omega,by go_num,HE.out,K1.out⟩
     case measure=>simp[intOf];omega
  · have HF:=lH (show idxB (fun p=>eqS p.name x) l=none by rw[←hrest,List.drop_of_length_le (by rw[HL.out];omega)];rfl);clear hrest hK;go_wp2;go_ret;exact⟨by rw[HF.out];rfl,HK.out⟩
theorem jfn (a:Option Addr) (len cap q:Nat) (l:List Pd) (x:ByteArray) (w:World) (hr:jv w a len l) (hq:w.cell? ⟨q,0,none⟩=some (.string x)) :
 Calls Tryz.prog 85 #[.slice a len cap,.func (.func 86) #[] #[.pointer (some ⟨q,0,none⟩)]] w (Say (.int .i64 (ZU (idxB (fun p=>!leS p.name x) l))) w):=by
 have hl:=hr.1;have hm:=hr.2.1;unfold maxLen at hm;obtain⟨HL,HR,HQ⟩:=lH3 hl hr hq;clear hr hl hq;go_enter Tryz.func85,Tryz.ntmps85;go_wp2;go_loopw [8] (fun i wr=>∃k:Nat,k≤len∧i=.int .i64 k∧(idxB (fun p=>!leS p.name x) (l.drop k)).map (·+k)=idxB (fun p=>!leS p.name x) l∧Kept w wr) (fun i _=>len-(intOf i).toNat)
 case atStart=>exact⟨0,Nat.zero_le _,rfl,by simp,Kept.refl _⟩
 case round =>
  obtain⟨k,hk,rfl,hrest,hK⟩:=hrel;have HS:=lH hrest;have HK:=lH hK;by_cases hlt:k<len
  · obtain⟨b,off,rfl⟩:=HR.out.form.resolve_left (by omega);obtain⟨n,a1,m1,c1,a2,m2,c2,a3,m3,c3,a4,m4,c4,hn,hd,hb,p0,p1,p2,p3,p4,p5,p6,p7,p8,p9,p10,hat⟩:=(HR.out.kept hK).at_ hlt;have HD:=lH hd;have HC:=lH (jdW n a1 a2 a3 a4 m1 c1 m2 c2 m3 c3 m4 c4 q x wr (cell_later hK HQ.out));obtain⟨t,ht⟩:=eX ((!leS n.name x))
    have HT:=lH ht;rw[ht] at HC;clear hrest hK hat hd hn ht
    cases t with
    | true =>
     have HF:=lH (Xw (f:=fun p=>!leS p.name x) HD.out HT.out HS.out);go_wp2_with fail
     refine HC.out.mono ?_;rintro e w1 ⟨rfl,k1⟩;have K1:=lH (HK.out.trans k1);clear k1;go_wp2;go_ret;exact⟨by rw[HF.out];rfl,K1.out⟩
    | false =>
     have HE:=lH (YI (f:=fun p=>!leS p.name x) HD.out HT.out HS.out);go_wp2_with fail
     refine HC.out.mono ?_;rintro e w1 ⟨rfl,k1⟩;have K1:=lH (HK.out.trans k1);clear k1;go_wp2;go_roundw
     case rel=>exact⟨k+1,by omega,by go_num,HE.out,K1.out⟩
     case measure=>simp[intOf];omega
  · have HF:=lH (show idxB (fun p=>!leS p.name x) l=none by rw[←hrest,List.drop_of_length_le (by rw[HL.out];omega)];rfl);clear hrest hK;go_wp2;go_ret;exact⟨by rw[HF.out];rfl,HK.out⟩
theorem jb7 (a:Option Addr) (len cap:Nat) (l:List Pd) (x:ByteArray) (w:World) (hr:jv w a len l) :
 Calls Tryz.prog 51 #[.slice a len cap,.string x] w (Say (.int .i64 (ZU (idxB (fun p=>eqS p.name x) l))) w):=by
 have hmf:=hmfL (P:=Tryz.prog);have H:=lH (jff a len cap w.heap.size l x (w.alloc (.cells #[.string x] 9)) (hr.kept (ja _ _)) ((jc w (.string x) [] 9 _ (Kept.refl _)).at_ 0 _ rfl));clear hr;go_enter Tryz.func51,Tryz.ntmps51;go_wp2_with fail
 refine H.out.mono ?_;rintro e w1 ⟨rfl,k⟩;have K:=lH ((ja _ _).trans k);clear k;go_wp2;go_ret;exact⟨rfl,K.out⟩
theorem Yq (a:Option Addr) (len cap:Nat) (l:List Pd) (x:ByteArray) (w:World) (hr:jv w a len l) :
 Calls Tryz.prog 35 #[.slice a len cap,.string x] w (Say (.int .i64 (placeN x l:Nat)) w):=by
 have hmf:=hmfL (P:=Tryz.prog);have H:=lH (jfn a len cap w.heap.size l x (w.alloc (.cells #[.string x] 9)) (hr.kept (ja _ _)) ((jc w (.string x) [] 9 _ (Kept.refl _)).at_ 0 _ rfl));have HL:=lH hr.1;clear hr
 cases hi:idxB (fun p=>!leS p.name x) l with
 | none =>
  rw[hi] at H;have HP:=lH (show (placeN x l:Nat)=len by unfold placeN;rw[hi];exact HL.out);clear hi;unfold ZU at H;go_enter Tryz.func35,Tryz.ntmps35;go_wp2_with fail
  refine H.out.mono ?_;rintro e w1 ⟨rfl,k⟩;have K:=lH ((ja _ _).trans k);clear k;go_wp2;go_ret;exact⟨by rw[HP.out];rfl,K.out⟩
 | some j =>
  rw[hi] at H;have HP:=lH (show (placeN x l:Nat)=j by unfold placeN;rw[hi]);clear hi;unfold ZU at H;go_enter Tryz.func35,Tryz.ntmps35;go_wp2_with fail
  refine H.out.mono ?_;rintro e w1 ⟨rfl,k⟩;have K:=lH ((ja _ _).trans k);clear k;go_wp2;go_ret;exact⟨by rw[HP.out];rfl,K.out⟩
theorem Ye {w:World} {B:Nat} {e:TypeId} {s:Nat} {v:Value} {n:Nat} {xs:List Value} (h:w.ownsRow B e s v n xs):w.drew.ownsRow B e s v n xs:=h
theorem Z2:(Tryz.prog.info? 41).map (fun i=>(i.zero,i.size,i.bytes))=some (some (.agg #[.string ByteArray.empty,.string ByteArray.empty,.int .i64 0,.slice none 0 0,.slice none 0 0,.slice none 0 0,.slice none 0 0,.string ByteArray.empty,.int .i64 0,.string ByteArray.empty,.bool false]),11,184):=by kernel_rfl
def jQ:Array Value:=#[.string ByteArray.empty,.string ByteArray.empty,.int .i64 0,.slice none 0 0,.slice none 0 0,.slice none 0 0,.slice none 0 0,.string ByteArray.empty,.int .i64 0,.string ByteArray.empty,.bool false]
theorem Ya:(Value.agg jQ).cells=jQ:=rfl
theorem zz (n:Nat):(Builtin.zeroCells jQ n).size=n*11:=by
 unfold Builtin.zeroCells;rw[Array.size_map,Array.size_range];rfl
theorem Xf (n:Nat):∀v ∈ (Builtin.zeroCells jQ n).toList,v.oneCell'=true:=by
 intro v hv;unfold Builtin.zeroCells at hv;rw[Array.toList_map,List.mem_map] at hv;obtain⟨k,_,rfl⟩:=hv;have hs:jQ.size=11:=rfl;rw[hs];have hk:k % 11<11:=Nat.mod_lt _ (by decide);generalize k % 11=m at hk
 match m,hk with
 | 0,_=>rfl
 | 1,_=>rfl
 | 2,_=>rfl
 | 3,_=>rfl
 | 4,_=>rfl
 | 5,_=>rfl
 | 6,_=>rfl
 | 7,_=>rfl
 | 8,_=>rfl
 | 9,_=>rfl
 | 10,_=>rfl
 | m+11,h=>omega
theorem jcb (g i j len cap B:Nat) (xs:List Value) (w:World) (hown:w.ownsRow B 41 11 (.slice (some ⟨g,0,none⟩) len cap) len xs) (h1c:∀v ∈ xs,v.oneCell'=true) (hij:i<j) (hj:j≤len) :
 Calls Tryz.prog 52 #[.slice (some ⟨g,0,none⟩) len cap,.int .i64 i,.int .i64 j] w fun e w'=>e=.returned (.slice (some ⟨g,0,none⟩) (i+(len-j)) cap)∧w'.ownsRow B 41 11 (.slice (some ⟨g,0,none⟩) (i+(len-j)) cap) (i+(len-j)) (xs.take (i*11)++xs.drop (j*11))∧jb (fun b=>b=g) w w':=by
 obtain⟨cur,hB,hg,hn,hm,hs,ht,hl⟩:=zp hown;obtain⟨i0,hi0,hz0,hz1,hz2⟩:=info_parts Z2;have hcell:∀t,t<len*11→w.cell? ⟨g,t,none⟩=xs[t]?:=fun t h=>hown.cellAt t h;have hfr:∀t,w.frozen? ⟨g,t,none⟩=false:=fun t=>hown.frozenAt t;obtain⟨news,hnews⟩:∃news,news=xs.drop (j*11):=⟨_,rfl⟩
 have hlen:news.length=(len-j)*11:=by rw[hnews,List.length_drop,hl,Nat.sub_mul]
 have hget:∀t u,news[t]?=some u→w.cell? ⟨g,j*11+t,none⟩=some u:=by
  intro t u hu;have ht:=(List.getElem?_eq_some_iff.1 hu).1;rw[hlen] at ht;rw[hnews,List.getElem?_drop] at hu;rw[hcell _ (by omega)];exact hu
 have hsome:∀t,t<len*11→(w.cell? ⟨g,t,none⟩).isSome=true:=fun t h=>by
  rw[hcell t h,List.getElem?_eq_getElem (by rw[hl];exact h)];rfl
 obtain⟨A,hA,hsrc⟩:∃A:Addr,(if cap=j then (some ⟨g,0,none⟩:Option Addr) else some ⟨g,j*11,none⟩)=some A∧Hid (∀t u,news[t]?=some u→w.drew.cell? (A.add t)=some u):=by
  by_cases h:cap=j
  · refine⟨⟨g,0,none⟩,by simp[h],fun t u hu=>?_⟩;have h0:news.length=0:=by rw[hlen];omega
    rw[List.length_eq_zero_iff.1 h0] at hu;simp at hu
  · refine⟨⟨g,j*11,none⟩,by simp[h],fun t u hu=>?_⟩;rw[Addr.add_lit];exact hget t u hu
 have s2:Hid (∀u ∈ news,u.oneCell'=true):=fun u hu=>h1c u (by rw[hnews] at hu;exact List.mem_of_mem_drop hu);have s3:Hid (∀t,t<news.length→(w.drew.cell? ⟨g,0+i*11+t,none⟩).isSome=true∧w.drew.frozen? ⟨g,0+i*11+t,none⟩=false):=fun t h=>by
  rw[hlen] at h;exact⟨hsome _ (by omega),hfr _⟩
 have s1:Hid (news.length=(len-j)*11):=hlen;obtain⟨W1,hW1⟩:∃W1,W1=w.drew.setCells g (0+i*11) news:=⟨_,rfl⟩
 have hW1c:∀t,t<len*11→(W1.cell? ⟨g,t,none⟩).isSome=true:=fun t h=>by
  rw[hW1];exact isSome_setCells g news (0+i*11) w.drew (fun q hq=>(s3 q hq).1) t (hsome t h)
 have hcl:∀ty,(Builtin.clear_ #[32] ty #[.slice (some ⟨g,(i+(len-j))*11,none⟩) (len-(i+(len-j))) (cap-(i+(len-j)))]).run Tryz.prog W1=.ok (.tuple #[]) (W1.setCells g ((i+(len-j))*11) (Builtin.zeroCells jQ (len-(i+(len-j)))).toList) :=
  fun ty=>Zm W1 _ 41 ty i0 (.agg jQ) Tryz.underlying32 hi0 hz0 g _ _ _ (by omega) (Xf _) (fun t h=>hW1c _ (by rw[Ya,zz] at h;omega)) (fun t h=>by rw[hW1,World.frozen?_setCells];exact hfr _)
 have X:=lH (show (W1.setCells g ((i+(len-j))*11) (Builtin.zeroCells jQ (len-(i+(len-j)))).toList).ownsRow B 41 11 (.slice (some ⟨g,0,none⟩) (i+(len-j)) cap) (i+(len-j)) (xs.take (i*11)++xs.drop (j*11)) by
  have h:=XW (w:=w.drew) (zs:=(Builtin.zeroCells jQ (len-(i+(len-j)))).toList) (Ye hown) (Nat.le_of_lt hij) hj (by rw[Array.length_toList,zz,show len-(i+(len-j))=j-i by omega]);rw[hW1,Nat.zero_add,hnews];exact h)
 have GX:=lH (show jb (fun b=>b=g) w (W1.setCells g ((i+(len-j))*11) (Builtin.zeroCells jQ (len-(i+(len-j)))).toList) by
  rw[hW1];exact((jb.drew w).trans (jb.cells (S:=fun b=>b=g) g rfl _ _ _)).trans (jb.cells (S:=fun b=>b=g) g rfl _ _ _))
 have hW:Hid (W1=w.drew.setCells g (0+i*11) news):=hW1;have t23:=Tryz.underlying32;have hic:i≤cap:=by omega
 have hjc:j≤cap:=by omega
 have hil:i<len:=by omega
 have hm':cap≤9223372036854775807:=by unfold maxLen at hm;omega
 clear hown hB hg hs ht hl hcell hfr hnews hlen hget hsome h1c hW1 hW1c hm;go_enter Tryz.func52,Tryz.ntmps52;go_wp2_with fail
 go_region_law (refine step_append_room rfl (.tmp 22) (.tmp 25) 32 rfl 41 i0 11 t23 hi0 hz1 g 0 i cap (by simp[Act.eval,Act.put]) A (len-j) (cap-j) news (by simp[Act.eval,Act.put]) s1.out hsrc.out s2.out (by omega) s3.out ?_;rw[←hW.out])
 go_wp2;go_ret;exact⟨rfl,X.out,GX.out⟩
theorem qB (a:Option Addr) (len cap:Nat) (l:List Pd) (x:ByteArray) (w:World) (hr:jv w a len l):Calls Tryz.prog 51 #[.slice a len cap,.string x] w fun e w'=>∃i:Int,e=.returned (.int .i64 i)∧((i=-1∧idxB (fun p=>eqS p.name x) l=none)∨∃k:Nat,i=(k:Int)∧idxB (fun p=>eqS p.name x) l=some k)∧Kept w w':=by
 refine(jb7 a len cap l x w hr).mono ?_;rintro e w' ⟨rfl,k⟩;refine⟨_,rfl,?_,k⟩
 cases idxB (fun p=>eqS p.name x) l with
 | none=>exact .inl ⟨rfl,rfl⟩
 | some j=>exact .inr ⟨j,rfl,rfl⟩
theorem jer {x:ByteArray} {l:List Pd} (h:idxB (fun p=>eqS p.name x) l=none):jL x l=l:=by have:=XP (x:=x) (l:=l);rw[h] at this;exact this.symm
theorem jdX {x:ByteArray} {l:List Pd} {k:Nat} (h:idxB (fun p=>eqS p.name x) l=some k):jL x l=l.take k++l.drop (k+1):=by have:=XP (x:=x) (l:=l);rw[h] at this;exact this.symm
theorem jdK {x y:ByteArray} {l:List Pd} (h:idxB (fun p=>eqS p.name x) l=none):Zr x y l=l:=by have:=XX (x:=x) (y:=y) (l:=l);rw[h] at this;exact this.symm
theorem jdu {x y:ByteArray} {l:List Pd} {k:Nat} {p:Pd} (h:idxB (fun p=>eqS p.name x) l=some k) (hp:l[k]?=some p):Zr x y l=l.set k { p with node:=y }:=by have:=XX (x:=x) (y:=y) (l:=l);rw[h] at this;dsimp only at this;rw[hp] at this;exact this.symm
theorem ZE {X:Type} (L:Lay X) (l:List X) (k:Nat):jd L (l.take k)=(jd L l).take (k*L.m):=by
 have h:=zI L (l.take k) (l.drop k);rw[List.take_append_drop] at h;by_cases hk:k≤l.length
 · have hlen:(jd L (l.take k)).length=k*L.m:=by rw[jx,List.length_take,Nat.min_eq_left hk]
   have e:=List.take_left' (l₂:=jd L (l.drop k)) hlen;rw[←h] at e;exact e.symm
 · rw[List.take_of_length_le (by omega),List.take_of_length_le (by rw[jx];exact Nat.mul_le_mul_right _ (by omega))]
theorem Y2 {X:Type} (L:Lay X) (l:List X) (k:Nat):jd L (l.drop k)=(jd L l).drop (k*L.m):=by
 have h:=zI L (l.take k) (l.drop k);rw[List.take_append_drop,ZE] at h;have h2:=List.take_append_drop (k*L.m) (jd L l);exact(List.append_cancel_left (h2.trans h)).symm
theorem ju.cut {S:Nat→Prop} {B g i j len cap:Nat} {w w':World} {v1 v3:Value} {s:Clu} (h:ju S B w v1 (.slice (some ⟨g,0,none⟩) len cap) v3 s) (hij:i≤j) (hj:j≤len) (hS:∀k,S k→k<w.heap.size)
 (ho:∀xs,w.ownsRow B 41 11 (.slice (some ⟨g,0,none⟩) len cap) len xs→w'.ownsRow B 41 11 (.slice (some ⟨g,0,none⟩) (i+(len-j)) cap) (i+(len-j)) (xs.take (i*11)++xs.drop (j*11))) (gg:jb (fun b=>b=g) w w') :
 ju S B w' v1 (.slice (some ⟨g,0,none⟩) (i+(len-j)) cap) v3 { s with pods:=s.pods.take i++s.pods.drop j }:=by
 obtain⟨lx,e,hown,hd⟩:=h.pods;obtain⟨a',c',e',_⟩:=hown.at_;have hlen:lx.length=len:=by cases e';rfl
 have g':jb (fun b=>(Value.slice (some ⟨g,0,none⟩) len cap).ownBlock=some b) w w':=gg.mono fun b e=>by rw[e];rfl
 refine h.turn g' (fun k hk=>.inl hk) hS ⟨lx.take i++lx.drop j,by rw[List.map_append,List.map_take,List.map_drop,e],⟨?_,fun x hx=>trivial⟩,ju.els (B:=B) (v2':=.slice (some ⟨g,0,none⟩) (i+(len-j)) cap) (fun z hz=>hd z ?_) g' (fun k hk=>.inl hk)⟩
 · have h1:=ho _ (by have:=hown.1;rw[hlen] at this;exact this);have hll:(lx.take i++lx.drop j).length=i+(len-j):=by rw[List.length_append,List.length_take,List.length_drop,hlen];omega
   rw[hll,zI,ZE,Y2];exact h1
 · rcases List.mem_append.1 hz with hz | hz
   · exact List.mem_of_mem_take hz
   · exact List.mem_of_mem_drop hz
theorem ju.moved {S:Nat→Prop} {B g k len cap:Nat} {w:World} {v1 v3:Value} {s:Clu} {p:Pd} {y:ByteArray} (h:ju S B w v1 (.slice (some ⟨g,0,none⟩) len cap) v3 s) (hk:s.pods[k]?=some p) (hy:y.size≤maxLen) (hS:∀k,S k→k<w.heap.size) :
 ju S B (w.setCell ⟨g,k*11+9,none⟩ (.string y)) v1 (.slice (some ⟨g,0,none⟩) len cap) v3 { s with pods:=s.pods.set k { p with node:=y } }:=by
 obtain⟨lx,e,hown,hd⟩:=h.pods;obtain⟨a',c',e',_⟩:=hown.at_;have hlen:lx.length=len:=by cases e';rfl
 have g':jb (fun b=>(Value.slice (some ⟨g,0,none⟩) len cap).ownBlock=some b) w (w.setCell ⟨g,k*11+9,none⟩ (.string y)):=jb.cell (S:=fun b=>(Value.slice (some ⟨g,0,none⟩) len cap).ownBlock=some b) g _ _ rfl;rw[←e,List.getElem?_map] at hk;obtain⟨⟨n,x1,x2,x3,x4⟩,hz,hpe⟩:=Option.map_eq_some_iff.1 hk;have hpe:n=p:=hpe;subst hpe;have hkl:k<lx.length:=(List.getElem?_eq_some_iff.1 hz).1;have hcs:=Zb PodLay0 lx k ({ n with node:=y },x1,x2,x3,x4) hkl;have hid:=Zb PodLay0 lx k (n,x1,x2,x3,x4) hkl;rw[show lx.set k (n,x1,x2,x3,x4)=lx by
  apply List.ext_getElem?;intro i;by_cases e:k=i
  · subst e;rw[List.getElem?_set_self hkl,hz]
  · rw[List.getElem?_set_ne e]] at hid
 have hrow:(jd PodLay0 lx).set (k*11+9) (.string y)=jd PodLay0 (lx.set k ({ n with node:=y },x1,x2,x3,x4)):=by
  rw[←hcs];have hA:((jd PodLay0 lx).take (k*11)).length=k*11:=by
   rw[List.length_take,jx];exact Nat.min_eq_left (Nat.mul_le_mul_right 11 (Nat.le_of_lt hkl))
  have e1:jd PodLay0 lx=(jd PodLay0 lx).take (k*11)++(PodLay0.cs (n,x1,x2,x3,x4)++(jd PodLay0 lx).drop (k*11+11)):=by rw[←List.append_assoc];exact hid.symm
  have e2:∀(A C D:List Value),A.length=k*11→C.length=11→(A++(C++D)).set (k*11+9) (.string y)=A++(C.set 9 (.string y)++D):=fun A C D ha hc=>by
   rw[List.set_append_right _ _ (by omega),List.set_append_left _ _ (by omega),ha,show k*11+9-k*11=9 by omega]
  have e3:=e2 ((jd PodLay0 lx).take (k*11)) (PodLay0.cs (n,x1,x2,x3,x4)) ((jd PodLay0 lx).drop (k*11+11)) hA rfl;rw[←e1] at e3;rw[e3];show _=(jd PodLay0 lx).take (k*11)++_++(jd PodLay0 lx).drop (k*11+11);rw[List.append_assoc];rfl
 refine h.turn g' (fun q hq=>.inl hq) hS ⟨lx.set k ({ n with node:=y },x1,x2,x3,x4),?_,⟨?_,fun x hx=>trivial⟩,ju.els (B:=B) (v2':=.slice (some ⟨g,0,none⟩) len cap) (fun z hz'=>?_) g' (fun q hq=>.inl hq)⟩
 · rw[←e,List.map_set]
 · have h0:w.ownsRow B 41 11 (.slice (some ⟨g,0,none⟩) len cap) len (jd PodLay0 lx):=by have:=hown.1;rw[hlen] at this;exact this
   have h1:=World.ownsRow.stored h0 (k*11+9) (.string y);rw[hrow] at h1;rw[List.length_set,hlen];exact h1.1
 · rcases List.mem_or_eq_of_mem_set hz' with h' | h'
   · exact hd z h'
   · subst h';exact(hd _ (List.mem_of_getElem? hz)).imp fun u hu=>⟨hu.name,hu.owner,hu.key,hy,hu.prio,hu.most,hu.need,hu.labels,hu.sel,hu.tols⟩
theorem jc5 {S:Nat→Prop} {B g i j len cap:Nat} {w:World} {v1 v3:Value} {s:Clu} (h:ju S B w v1 (.slice (some ⟨g,0,none⟩) len cap) v3 s) (hij:i<j) (hj:j≤len) (hS:∀k,S k→k<w.heap.size) :
 Calls Tryz.prog 52 #[.slice (some ⟨g,0,none⟩) len cap,.int .i64 i,.int .i64 j] w fun e w'=>e=.returned (.slice (some ⟨g,0,none⟩) (i+(len-j)) cap)∧ju S B w' v1 (.slice (some ⟨g,0,none⟩) (i+(len-j)) cap) v3 { s with pods:=s.pods.take i++s.pods.drop j }∧jb (fun b=>b=g) w w':=by
 obtain⟨lx,e,hown,hd⟩:=h.pods;obtain⟨a',c',e',_⟩:=hown.at_;have hlen:lx.length=len:=by cases e';rfl
 refine(jcb g i j len cap B (jd PodLay0 lx) w (by have:=hown.1;rw[hlen] at this;exact this) (zl _ _) hij hj).mono ?_;rintro e w' ⟨rfl,ho,hg⟩;refine⟨rfl,h.cut (Nat.le_of_lt hij) hj hS (fun xs hx=>?_) hg,hg⟩;have:xs=jd PodLay0 lx:=by
  obtain⟨cur,_,h1,_,_,_,h2,_⟩:=zp hx;obtain⟨cur',_,h1',_,_,_,h2',_⟩:=zp (show w.ownsRow B 41 11 (.slice (some ⟨g,0,none⟩) len cap) len (jd PodLay0 lx) by have:=hown.1;rw[hlen] at this;exact this);rw[h1] at h1'
  cases h1'
  rw[←h2,←h2']
 rw[this];exact ho
theorem YR (a b d:Option Addr) (len cap m c n e:Nat) (nl:List Nod) (pl:List Pd) (bl:List Bd) (x:ByteArray) (w:World) (hn:jt w a len nl) (hp:jv w b m pl) (hb:zu w d n bl) (h1:len≤cap) (h2:cap≤maxLen) (h3:m≤c) (h4:c≤maxLen) (h5:n≤e) (h6:e≤maxLen) (hl:jn ⟨nl,pl,bl⟩) :
 Calls Tryz.prog 17 #[.agg #[.slice a len cap,.slice b m c,.slice d n e],.string x] w fun e w'=>∃a1 n1 c1 a2 n2 c2 a3 n3 c3,e=.returned (.agg #[.slice a1 n1 c1,.slice a2 n2 c2,.slice a3 n3 c3])∧ju (fun b=>b<w.heap.size) w.heap.size w' (.slice a1 n1 c1) (.slice a2 n2 c2) (.slice a3 n3 c3) (jw ⟨nl,pl,bl⟩ x)∧Kept w w':=by
 obtain⟨Z,hZ⟩:=eX ((w.alloc (.cells #[.slice a len cap,.slice b m c,.slice d n e] 35)).alloc (.cells #[.slice none 0 0,.slice none 0 0,.slice none 0 0] 35))
 have hkz:Kept w Z:=by rw[←hZ];exact ji _ _ _
 have hzs:Z.heap.size=w.heap.size+2:=by rw[←hZ];simp
 have cc:=jc w (.slice a len cap) [.slice b m c,.slice d n e] 35 Z (by have:=ja (w.alloc (.cells #[.slice a len cap,.slice b m c,.slice d n e] 35)) (.cells #[.slice none 0 0,.slice none 0 0,.slice none 0 0] 35);rw[hZ] at this;exact this);have o0:=cc.at_ 0 _ rfl;have o1:=cc.at_ 1 _ rfl;have o2:=cc.at_ 2 _ rfl;have HQ:=lH (show je (w.heap.size+1) [.slice none 0 0,.slice none 0 0,.slice none 0 0] Z by
  have dd:=jc (w.alloc (.cells #[.slice a len cap,.slice b m c,.slice d n e] 35)) (.slice none 0 0) [.slice none 0 0,.slice none 0 0] 35 Z (by rw[hZ];exact Kept.refl _);rw[World.size_alloc] at dd;exact dd)
 obtain⟨HO,Vd,Vc,VY⟩:=lH4 (XF a b d len cap m c n e nl pl bl Z (hn.kept hkz) (hp.kept hkz) (hb.kept hkz) h1 h2 h3 h4 h5 h6 hl) hkz hzs hl.podsN;clear hn hp hb h1 h2 h3 h4 h5 h6 hl hkz hzs cc;go_enter Tryz.func17,Tryz.ntmps17;go_wp2_with fail
 try rw[hZ]
 go_wp2_with fail
 try rw[hZ]
 clear hZ o0 o1 o2;refine HO.out.mono ?_;rintro e1 w1 ⟨a1,n1,c1,a2,n2,c2,a3,n3,c3,rfl,ho,k1⟩;obtain⟨W1,hW1⟩:=eX (w1.alloc (.cells #[.slice a1 n1 c1,.slice a2 n2 c2,.slice a3 n3 c3] 35))
 have hkw:Kept w1 W1:=by rw[←hW1];exact ja _ _
 obtain⟨HC,HW,HQ,K,Ve⟩:=lH5 (ho.more (q:=w1.heap.size) hkw (Nat.le_refl _)) (show je w1.heap.size [.slice a1 n1 c1,.slice a2 n2 c2,.slice a3 n3 c3] W1 from jc w1 (.slice a1 n1 c1) [.slice a2 n2 c2,.slice a3 n3 c3] 35 W1 (by rw[hW1];exact Kept.refl _)) (HQ.out.kept (k1.trans hkw)) (k1.trans hkw) (show Z.heap.size≤w1.heap.size∧w1.heap.size<W1.heap.size from⟨k1.size,by rw[←hW1,World.size_alloc];exact Nat.lt_succ_self _⟩);clear ho k1 hkw;obtain⟨u1,u2,u3,hu,hat⟩:=HC.out.toR
 cases hu
 obtain⟨ap,cp,ep,l1,l2,hpat⟩:=hat.pods
 cases ep
 have Ul:=lH hpat;have T9:=lH (And.intro l1 l2);clear hat hpat l1 l2;obtain⟨y0,y1,y2⟩:=HW.out.at3;go_wp2_with fail
 try rw[hW1]
 go_wp2_with fail
 try rw[hW1]
 clear hW1 y0 y1 y2;refine(qB a2 _ c2 pl x _ Ul.out).mono ?_;rintro e2 w2 ⟨i9,rfl,hidx,k2⟩;obtain⟨K2,VZ,V0,VT,Tm⟩:=lH5 (K.out.trans k2) (HC.out.kept k2) (HW.out.kept k2) (HQ.out.kept k2) (show w1.heap.size<w2.heap.size from Nat.lt_of_lt_of_le Ve.out.2 k2.size);clear k2;rcases hidx with ⟨rfl,hi⟩ | ⟨k,rfl,hi⟩
 · skip;have Um:=lH (show jw ⟨nl,pl,bl⟩ x=⟨nl,pl,bl⟩ by unfold jw;dsimp only;rw[jer hi]);clear hi;obtain⟨y0,y1,y2⟩:=V0.out.at3;obtain⟨z0,z1,z2⟩:=VT.out.at3;have f0:=VT.out.free 0;have f1:=VT.out.free 1;have f2:=VT.out.free 2;have P:=lH (jW (vs:=[.slice a1 n1 c1,.slice a2 pl.length c2,.slice a3 n3 c3]) VT.out rfl);go_wp2;obtain⟨WE,hWE⟩:=eX (w2.setCells (w.heap.size+1) 0 [.slice a1 n1 c1,.slice a2 pl.length c2,.slice a3 n3 c3])
   have hWE2:(((w2.setCell ⟨(w.heap.size+1),0,none⟩ (.slice a1 n1 c1)).setCell ⟨(w.heap.size+1),1,none⟩ (.slice a2 pl.length c2)).setCell ⟨(w.heap.size+1),2,none⟩ (.slice a3 n3 c3))=WE:=hWE;rw[hWE] at P;try rw[hWE2]
   have GE:=lH (show jb (fun b=>b<Z.heap.size∨b=w1.heap.size) w2 WE by rw[←hWE];exact jb.cells (S:=fun b=>b<Z.heap.size∨b=w1.heap.size) _ (.inl (by have:=Vc.out;omega)) _ _ _);clear hWE hWE2;obtain⟨PC,hsz,hbl,hkp⟩:=P.out;refine bodyPost_ret (by simp[results,Tryz.results17,go_sem,PC.at_ 0 _ rfl,PC.at_ 1 _ rfl,PC.at_ 2 _ rfl];try rfl) rfl ?_;have Vf:=((VZ.out).step GE.out).less (B':=w.heap.size) (S':=fun b=>b<w.heap.size) Vd.out.size (fun b hb=>.inl (Nat.lt_of_lt_of_le hb Vd.out.size));exact⟨_,_,_,_,_,_,_,_,_,rfl,by rw[Um.out];exact Vf,hkp _ _ (by omega) (Vd.out.trans K2.out)⟩
 · skip;have hkl:=ZB hi;have Um:=lH (show jw ⟨nl,pl,bl⟩ x=⟨nl,pl.take k++pl.drop (k+1),bl⟩ by unfold jw;dsimp only;rw[jdX hi]);have Ra:=lH hkl;clear hi;obtain⟨g,rfl⟩:∃g,a2=some ⟨g,0,none⟩:=by
    obtain⟨lx,e,ho,-⟩:=VZ.out.pods;rcases ho.1.2 with ⟨h0,h1⟩ | ⟨g,c9,cur,h0,-⟩
    · injection h0 with e1 e2 e3;omega
    · injection h0 with e1 e2 e3;exact⟨g,e1⟩
   have UG:=lH (show g≠w1.heap.size∧Z.heap.size≤g from by
    have h1:=VZ.out.sep g rfl;have h2:=(VZ.out.lt g rfl).1;exact⟨fun e=>h1 (.inr e),h2⟩)
   obtain⟨k1,hk1⟩:∃q:Nat,(k:Int)+1=(q:Int):=⟨k+1,by omega⟩
   have TK:=lH (show k1=k+1 by omega);have UH:pl.length≤100000:=VY.out;have hw9:IntKind.i64.wrap ((k1:Nat):Int)=(k1:Int):=by have:=Ra.out;have:=TK.out;rw[IntKind.wrap_i64];omega
   have Um:=lH (show jw ⟨nl,pl,bl⟩ x=⟨nl,pl.take k++pl.drop k1,bl⟩ by rw[Um.out,TK.out]);have RM:=lH (jc5 (i:=k) (j:=k1) VZ.out (by have:=TK.out;omega) (by have:=TK.out;have:=Ra.out;omega) (fun b hb=>by have:=Tm.out;have:=Ve.out.1;rcases hb with hb | hb<;>omega));obtain⟨len9,hlen9⟩:=eX (pl.length)
   rw[hlen9] at RM V0 ⊢;have UW:=lH hlen9;clear hkl UH hlen9;have y1:=V0.out.at_ 1 _ rfl;go_wp2_with fail
   clear y1;refine RM.out.mono ?_;rintro e3 w3 ⟨rfl,hc3,hg3⟩;obtain⟨Th,V9,UI,K3⟩:=lH4 hc3 (V0.out.block (hg3.block _ Tm.out (fun e=>UG.out.1 e.symm))) (VT.out.block (hg3.block _ (by have:=Vc.out;have:=Ve.out.1;have:=Tm.out;omega) (fun e=>by have:=UG.out.2;have:=Vc.out;omega))) (show Kept w w3 from Below.trans (Vd.out.trans K2.out) (hg3.at_below (B:=w.heap.size) (fun q e=>by have:=UG.out.2;have:=Vc.out;omega) (Vd.out.trans K2.out).size));clear hc3 hg3;have y1:=V9.out.at_ 1 _ rfl;have x1:=V9.out.free 1;obtain⟨TM,Uv,Rb,K4⟩:=lH4 (show je w1.heap.size [.slice a1 n1 c1,.slice (some ⟨g,0,none⟩) (k+(len9-k1)) c2,.slice a3 n3 c3] (w3.setCell ⟨w1.heap.size,1,none⟩ (.slice (some ⟨g,0,none⟩) (k+(len9-k1)) c2)) from V9.out.set (j:=1) (by simp)) (UI.out.other (p:=w1.heap.size) (j:=1) (u:=.slice (some ⟨g,0,none⟩) (k+(len9-k1)) c2) (by have:=Vc.out;have:=Ve.out.1;omega)) (Th.out.step (jb.cell (S:=fun b=>b<Z.heap.size∨b=w1.heap.size) w1.heap.size 1 (.slice (some ⟨g,0,none⟩) (k+(len9-k1)) c2) (.inr rfl))) (show Kept w (w3.setCell ⟨w1.heap.size,1,none⟩ (.slice (some ⟨g,0,none⟩) (k+(len9-k1)) c2)) from K3.out.setCell (p:=⟨w1.heap.size,1,none⟩) (by have:=Vc.out;have:=Ve.out.1;show w.heap.size≤w1.heap.size;omega) _);obtain⟨y0,y1,y2⟩:=TM.out.at3;obtain⟨z0,z1,z2⟩:=Uv.out.at3;have f0:=Uv.out.free 0;have f1:=Uv.out.free 1;have f2:=Uv.out.free 2;have P:=lH (jW (vs:=[.slice a1 n1 c1,.slice (some ⟨g,0,none⟩) (k+(len9-k1)) c2,.slice a3 n3 c3]) Uv.out rfl);go_wp2;obtain⟨WE,hWE⟩:=eX ((w3.setCell ⟨w1.heap.size,1,none⟩ (.slice (some ⟨g,0,none⟩) (k+(len9-k1)) c2)).setCells (w.heap.size+1) 0 [.slice a1 n1 c1,.slice (some ⟨g,0,none⟩) (k+(len9-k1)) c2,.slice a3 n3 c3])
   have hWE2:((((w3.setCell ⟨w1.heap.size,1,none⟩ (.slice (some ⟨g,0,none⟩) (k+(len9-k1)) c2)).setCell ⟨(w.heap.size+1),0,none⟩ (.slice a1 n1 c1)).setCell ⟨(w.heap.size+1),1,none⟩ (.slice (some ⟨g,0,none⟩) (k+(len9-k1)) c2)).setCell ⟨(w.heap.size+1),2,none⟩ (.slice a3 n3 c3))=WE:=hWE;rw[hWE] at P;try rw[hWE2]
   have GE:=lH (show jb (fun b=>b<Z.heap.size∨b=w1.heap.size) (w3.setCell ⟨w1.heap.size,1,none⟩ (.slice (some ⟨g,0,none⟩) (k+(len9-k1)) c2)) WE by rw[←hWE];exact jb.cells (S:=fun b=>b<Z.heap.size∨b=w1.heap.size) _ (.inl (by have:=Vc.out;omega)) _ _ _);clear hWE hWE2;obtain⟨PC,hsz,hbl,hkp⟩:=P.out;refine bodyPost_ret (by simp[results,Tryz.results17,go_sem,PC.at_ 0 _ rfl,PC.at_ 1 _ rfl,PC.at_ 2 _ rfl];try rfl) rfl ?_;have Vf:=((Rb.out).step GE.out).less (B':=w.heap.size) (S':=fun b=>b<w.heap.size) Vd.out.size (fun b hb=>.inl (Nat.lt_of_lt_of_le hb Vd.out.size));exact⟨_,_,_,_,_,_,_,_,_,rfl,by rw[Um.out];exact Vf,hkp _ _ (by omega) K4.out⟩
theorem YV (a b d:Option Addr) (len cap m c n e:Nat) (nl:List Nod) (pl:List Pd) (bl:List Bd) (x y:ByteArray) (w:World) (hy:y.size≤maxLen) (hn:jt w a len nl) (hp:jv w b m pl) (hb:zu w d n bl) (h1:len≤cap) (h2:cap≤maxLen) (h3:m≤c) (h4:c≤maxLen) (h5:n≤e) (h6:e≤maxLen) (hl:jn ⟨nl,pl,bl⟩) :
 Calls Tryz.prog 66 #[.agg #[.slice a len cap,.slice b m c,.slice d n e],.string x,.string y] w fun e w'=>∃a1 n1 c1 a2 n2 c2 a3 n3 c3,e=.returned (.agg #[.slice a1 n1 c1,.slice a2 n2 c2,.slice a3 n3 c3])∧ju (fun b=>b<w.heap.size) w.heap.size w' (.slice a1 n1 c1) (.slice a2 n2 c2) (.slice a3 n3 c3) (zv ⟨nl,pl,bl⟩ x y)∧Kept w w':=by
 obtain⟨Z,hZ⟩:=eX ((w.alloc (.cells #[.slice a len cap,.slice b m c,.slice d n e] 35)).alloc (.cells #[.slice none 0 0,.slice none 0 0,.slice none 0 0] 35))
 have hkz:Kept w Z:=by rw[←hZ];exact ji _ _ _
 have hzs:Z.heap.size=w.heap.size+2:=by rw[←hZ];simp
 have cc:=jc w (.slice a len cap) [.slice b m c,.slice d n e] 35 Z (by have:=ja (w.alloc (.cells #[.slice a len cap,.slice b m c,.slice d n e] 35)) (.cells #[.slice none 0 0,.slice none 0 0,.slice none 0 0] 35);rw[hZ] at this;exact this);have o0:=cc.at_ 0 _ rfl;have o1:=cc.at_ 1 _ rfl;have o2:=cc.at_ 2 _ rfl;have HQ:=lH (show je (w.heap.size+1) [.slice none 0 0,.slice none 0 0,.slice none 0 0] Z by
  have dd:=jc (w.alloc (.cells #[.slice a len cap,.slice b m c,.slice d n e] 35)) (.slice none 0 0) [.slice none 0 0,.slice none 0 0] 35 Z (by rw[hZ];exact Kept.refl _);rw[World.size_alloc] at dd;exact dd)
 obtain⟨HO,Vd,Vc,VY,HY⟩:=lH5 (XF a b d len cap m c n e nl pl bl Z (hn.kept hkz) (hp.kept hkz) (hb.kept hkz) h1 h2 h3 h4 h5 h6 hl) hkz hzs hl.podsN hy;clear hy hn hp hb h1 h2 h3 h4 h5 h6 hl hkz hzs cc;go_enter Tryz.func66,Tryz.ntmps66;go_wp2_with fail
 try rw[hZ]
 go_wp2_with fail
 try rw[hZ]
 clear hZ o0 o1 o2;refine HO.out.mono ?_;rintro e1 w1 ⟨a1,n1,c1,a2,n2,c2,a3,n3,c3,rfl,ho,k1⟩;obtain⟨W1,hW1⟩:=eX (w1.alloc (.cells #[.slice a1 n1 c1,.slice a2 n2 c2,.slice a3 n3 c3] 35))
 have hkw:Kept w1 W1:=by rw[←hW1];exact ja _ _
 obtain⟨HC,HW,HQ,K,Ve⟩:=lH5 (ho.more (q:=w1.heap.size) hkw (Nat.le_refl _)) (show je w1.heap.size [.slice a1 n1 c1,.slice a2 n2 c2,.slice a3 n3 c3] W1 from jc w1 (.slice a1 n1 c1) [.slice a2 n2 c2,.slice a3 n3 c3] 35 W1 (by rw[hW1];exact Kept.refl _)) (HQ.out.kept (k1.trans hkw)) (k1.trans hkw) (show Z.heap.size≤w1.heap.size∧w1.heap.size<W1.heap.size from⟨k1.size,by rw[←hW1,World.size_alloc];exact Nat.lt_succ_self _⟩);clear ho k1 hkw;obtain⟨u1,u2,u3,hu,hat⟩:=HC.out.toR
 cases hu
 obtain⟨ap,cp,ep,l1,l2,hpat⟩:=hat.pods
 cases ep
 have Ul:=lH hpat;have T9:=lH (And.intro l1 l2);clear hat hpat l1 l2;obtain⟨y0,y1,y2⟩:=HW.out.at3;go_wp2_with fail
 try rw[hW1]
 go_wp2_with fail
 try rw[hW1]
 clear hW1 y0 y1 y2;refine(qB a2 _ c2 pl x _ Ul.out).mono ?_;rintro e2 w2 ⟨i9,rfl,hidx,k2⟩;obtain⟨K2,VZ,V0,VT,Tm⟩:=lH5 (K.out.trans k2) (HC.out.kept k2) (HW.out.kept k2) (HQ.out.kept k2) (show w1.heap.size<w2.heap.size from Nat.lt_of_lt_of_le Ve.out.2 k2.size);clear k2;rcases hidx with ⟨rfl,hi⟩ | ⟨k,rfl,hi⟩
 · skip;have Um:=lH (show zv ⟨nl,pl,bl⟩ x y=⟨nl,pl,bl⟩ by unfold zv;dsimp only;rw[jdK hi]);clear hi;obtain⟨y0,y1,y2⟩:=V0.out.at3;obtain⟨z0,z1,z2⟩:=VT.out.at3;have f0:=VT.out.free 0;have f1:=VT.out.free 1;have f2:=VT.out.free 2;have P:=lH (jW (vs:=[.slice a1 n1 c1,.slice a2 pl.length c2,.slice a3 n3 c3]) VT.out rfl);go_wp2;obtain⟨WE,hWE⟩:=eX (w2.setCells (w.heap.size+1) 0 [.slice a1 n1 c1,.slice a2 pl.length c2,.slice a3 n3 c3])
   have hWE2:(((w2.setCell ⟨(w.heap.size+1),0,none⟩ (.slice a1 n1 c1)).setCell ⟨(w.heap.size+1),1,none⟩ (.slice a2 pl.length c2)).setCell ⟨(w.heap.size+1),2,none⟩ (.slice a3 n3 c3))=WE:=hWE;rw[hWE] at P;try rw[hWE2]
   have GE:=lH (show jb (fun b=>b<Z.heap.size∨b=w1.heap.size) w2 WE by rw[←hWE];exact jb.cells (S:=fun b=>b<Z.heap.size∨b=w1.heap.size) _ (.inl (by have:=Vc.out;omega)) _ _ _);clear hWE hWE2;obtain⟨PC,hsz,hbl,hkp⟩:=P.out;refine bodyPost_ret (by simp[results,Tryz.results66,go_sem,PC.at_ 0 _ rfl,PC.at_ 1 _ rfl,PC.at_ 2 _ rfl];try rfl) rfl ?_;have Vf:=((VZ.out).step GE.out).less (B':=w.heap.size) (S':=fun b=>b<w.heap.size) Vd.out.size (fun b hb=>.inl (Nat.lt_of_lt_of_le hb Vd.out.size));exact⟨_,_,_,_,_,_,_,_,_,rfl,by rw[Um.out];exact Vf,hkp _ _ (by omega) (Vd.out.trans K2.out)⟩
 · skip;obtain⟨p,hp⟩:∃p,pl[k]?=some p:=⟨_,List.getElem?_eq_getElem (ZB hi)⟩
   have hkl:=ZB hi;have Um:=lH (show zv ⟨nl,pl,bl⟩ x y=⟨nl,pl.set k { p with node:=y },bl⟩ by unfold zv;dsimp only;rw[jdu hi hp]);have Ra:=lH hkl;clear hi;obtain⟨g,rfl⟩:∃g,a2=some ⟨g,0,none⟩:=by
    obtain⟨lx,e,ho,-⟩:=VZ.out.pods;rcases ho.1.2 with ⟨h0,h1⟩ | ⟨g,c9,cur,h0,-⟩
    · injection h0 with e1 e2 e3;omega
    · injection h0 with e1 e2 e3;exact⟨g,e1⟩
   have UG:=lH (show g≠w1.heap.size∧Z.heap.size≤g from by
    have h1:=VZ.out.sep g rfl;have h2:=(VZ.out.lt g rfl).1;exact⟨fun e=>h1 (.inr e),h2⟩)
   have UH:pl.length≤100000:=VY.out;have hkk:(k:Int)<(pl.length:Int):=by omega
   have Tj:=lH (VZ.out.moved (k:=k) (p:=p) (y:=y) hp HY.out (fun b hb=>by have:=Tm.out;have:=Ve.out.1;rcases hb with hb | hb<;>omega));obtain⟨lx,hlx,hown,-⟩:=VZ.out.pods;have hp2:=hp;have hlx2:(lx.map fun z=>z.1)=pl:=hlx;rw[←hlx2,List.getElem?_map] at hp2;obtain⟨z,hz,-⟩:=Option.map_eq_some_iff.1 hp2;have p9:w2.cell? ⟨g,k*11+9,none⟩=some (.string z.1.node):=hown.cell_at hz (j:=9) rfl;have x9:w2.frozen? ⟨g,k*11+9,none⟩=false:=hown.frozen_at _;clear hlx hlx2 hown hp hp2 hz;obtain⟨RN,Tn,KM⟩:=lH3 (show je w1.heap.size [.slice a1 n1 c1,.slice (some ⟨g,0,none⟩) pl.length c2,.slice a3 n3 c3] (w2.setCell ⟨g,k*11+9,none⟩ (.string y)) from V0.out.other (p:=g) (j:=k*11+9) (u:=.string y) (fun e=>UG.out.1 e.symm)) (VT.out.other (p:=g) (j:=k*11+9) (u:=.string y) (by have:=UG.out.2;have:=Vc.out;omega)) (show Kept w (w2.setCell ⟨g,k*11+9,none⟩ (.string y)) from(Vd.out.trans K2.out).setCell (p:=⟨g,k*11+9,none⟩) (by have:=UG.out.2;have:=Vc.out;show w.heap.size≤g;omega) _);obtain⟨len9,hlen9⟩:=eX (pl.length)
   rw[hlen9] at Tj V0 RN hkk ⊢;clear UH hlen9 hkl;have yy1:=V0.out.at_ 1 _ rfl;obtain⟨y0,y1,y2⟩:=RN.out.at3;obtain⟨z0,z1,z2⟩:=Tn.out.at3;have f0:=Tn.out.free 0;have f1:=Tn.out.free 1;have f2:=Tn.out.free 2;have P:=lH (jW (vs:=[.slice a1 n1 c1,.slice (some ⟨g,0,none⟩) len9 c2,.slice a3 n3 c3]) Tn.out rfl);go_wp2;obtain⟨WE,hWE⟩:=eX ((w2.setCell ⟨g,k*11+9,none⟩ (.string y)).setCells (w.heap.size+1) 0 [.slice a1 n1 c1,.slice (some ⟨g,0,none⟩) len9 c2,.slice a3 n3 c3])
   have hWE2:((((w2.setCell ⟨g,k*11+9,none⟩ (.string y)).setCell ⟨(w.heap.size+1),0,none⟩ (.slice a1 n1 c1)).setCell ⟨(w.heap.size+1),1,none⟩ (.slice (some ⟨g,0,none⟩) len9 c2)).setCell ⟨(w.heap.size+1),2,none⟩ (.slice a3 n3 c3))=WE:=hWE;rw[hWE] at P;try rw[hWE2]
   have GE:=lH (show jb (fun b=>b<Z.heap.size∨b=w1.heap.size) (w2.setCell ⟨g,k*11+9,none⟩ (.string y)) WE by rw[←hWE];exact jb.cells (S:=fun b=>b<Z.heap.size∨b=w1.heap.size) _ (.inl (by have:=Vc.out;omega)) _ _ _);clear hWE hWE2;obtain⟨PC,hsz,hbl,hkp⟩:=P.out;refine bodyPost_ret (by simp[results,Tryz.results66,go_sem,PC.at_ 0 _ rfl,PC.at_ 1 _ rfl,PC.at_ 2 _ rfl];try rfl) rfl ?_;have Vf:=((Tj.out).step GE.out).less (B':=w.heap.size) (S':=fun b=>b<w.heap.size) Vd.out.size (fun b hb=>.inl (Nat.lt_of_lt_of_le hb Vd.out.size));exact⟨_,_,_,_,_,_,_,_,_,rfl,by rw[Um.out];exact Vf,hkp _ _ (by omega) KM.out⟩
theorem jcQ {w:World} {B e s n G i:Nat} {xs vs:List Value} {ROW:Array Value} (hB:B≤w.heap.size) (hG:n+1≤G) (hm:G≤maxLen) (hi:i≤n) (hx:xs.length=n*s) (hv:vs.length=s) (hR:ROW.size=G*s) (hr:∀t,t<i*s→ROW[t]?=xs[t]?) :
 (((w.alloc (.cells ROW e)).setCells w.heap.size (i*s) vs).setCells w.heap.size ((i+1)*s) (xs.drop (i*s))).ownsRow B e s (.slice (some ⟨w.heap.size,0,none⟩) (n+1) G) (n+1) (xs.take (i*s)++vs++xs.drop (i*s)):=by
 have hns:(n+1)*s≤G*s:=Nat.mul_le_mul_right s hG;have his:i*s≤n*s:=Nat.mul_le_mul_right s hi;have e0:(n+1)*s=n*s+s:=by rw[Nat.add_mul,Nat.one_mul]
 have e1:(i+1)*s=i*s+s:=by rw[Nat.add_mul,Nat.one_mul]
 have hld:(xs.drop (i*s)).length=n*s-i*s:=by rw[List.length_drop,hx]
 refine YB hB (zV _ _ _ _ _ e (zV vs _ _ _ _ e (World.alloc_heap_new w _))) hG hm (by rw[zF,zF];exact hR) (by rw[List.length_append,List.length_append,List.length_take,hld,hx,e0];omega) (fun t htl=>?_);rw[e0] at htl;rw[zZ _ _ _ _ (by rw[zF,hld,e1];omega),hld,e1];by_cases c1:t<i*s
 · rw[if_neg (by omega),zZ _ _ _ _ (by rw[hv];omega),if_neg (by omega),hr t c1,List.append_assoc,List.getElem?_append_left (by rw[List.length_take,hx];omega),List.getElem?_take,if_pos c1]
 · by_cases c2:t<i*s+s
   · rw[if_neg (by omega),zZ _ _ _ _ (by rw[hv];omega),hv,if_pos (by omega),List.append_assoc,List.getElem?_append_right (by rw[List.length_take,hx];omega),List.getElem?_append_left (by rw[List.length_take,hx,hv];omega),List.length_take,hx];congr 1
     omega
   · rw[if_pos (by omega),List.getElem?_append_right (by rw[List.length_append,List.length_take,hx,hv];omega),List.length_append,List.length_take,hx,hv];congr 1
     omega
def jbs (v:Value) (B n i:Nat) (xs vs:List Value) (w:World) (e:Ending) (w':World):Prop:=∃g c,e=.returned (.slice (some ⟨g,0,none⟩) (n+1) c)∧w'.ownsRow B 41 11 (.slice (some ⟨g,0,none⟩) (n+1) c) (n+1) (xs.take (i*11)++vs++xs.drop (i*11))∧jb (fun b=>v.ownBlock=some b) w w'∧(v.ownBlock=some g∨w.heap.size≤g)
theorem jdi (v:Value) (n vb vc B:Nat) (xs vs:List Value) (w:World) (hown:w.ownsRow B 41 11 v n xs) (hbase:B≤w.heap.size) (hvl:vs.length=11) (h1v:∀u ∈ vs,u.oneCell'=true) (hvs:∀j u,vs[j]?=some u→w.cell? ⟨vb,j,none⟩=some u) (hbig:n≤100000) :
 Calls Tryz.prog 34 #[v,.int .i64 n,.slice (some ⟨vb,0,none⟩) 1 vc] w (jbs v B n n xs vs w):=by
 obtain⟨i0,hi0,hz0,hz1,hz2⟩:=info_parts Z2;obtain⟨H,HL,RO,HB,H1,HV⟩:=lH6 hown (show xs.length=n*11 from hown.1) (show ∀j u,vs[j]?=some u→w.cell? ((⟨vb,0,none⟩:Addr).add j)=some u from fun j u h=>by rw[Addr.add_lit,Nat.zero_add];exact hvs j u h) hbase h1v (show vs.length=1*11 by rw[hvl]);have t23:=Tryz.underlying32;have key:∀(gg cap1:Nat) (w2:World),w2.ownsRow B 41 11 (.slice (some ⟨gg,0,none⟩) (n+1) cap1) (n+1) (xs++vs)→w.grownBy w2 v.ownBlock→(v.ownBlock=some gg∨gg=w.heap.size)→jbs v B n n xs vs w (.returned (.slice (some ⟨gg,0,none⟩) (n+1) cap1)) w2:=by
  intro gg cap1 w2 h1 h2 h3;refine⟨gg,cap1,rfl,?_,jb.grown h2 fun k e=>e,h3.imp id fun e=>by omega⟩;rw[←HL.out,List.take_length,List.drop_length,List.append_nil];exact h1
 have HK:=lH key;rcases hown.2 with ⟨rfl,h0⟩ | ⟨g,c,cur,rfl,hb,hg,hnc,hcm,-⟩
 · subst h0;clear hown hvl h1v hvs hbase key;go_enter Tryz.func34,Tryz.ntmps34;go_wp2_with (at_builtin;refine wpList_append_lies _ rfl _ _ _ rfl B 41 i0 _ 11 184 t23 hi0 hz0 hz1 hz2 rfl (by decide) (.slice none 0 0) 0 xs rfl H.out ⟨vb,0,none⟩ 1 vc vs rfl HV.out RO.out H1.out (by decide) (by unfold maxLen;omega) (by omega) HB.out w.heap.size rfl ?_;intro gg cap1 w2 hown1 hgrow hat hlt1)
   have HR:=lH (HK.out gg cap1 w2 hown1 hgrow hat);clear hown1 hgrow hat hlt1;go_wp2;go_ret;exact HR.out
 · have hc':c≤9223372036854775807:=by unfold maxLen at hcm;omega
   clear hown hvl h1v hvs hbase key hb hg;go_enter Tryz.func34,Tryz.ntmps34;go_wp2_with (at_builtin;refine wpList_append_lies _ rfl _ _ _ rfl B 41 i0 _ 11 184 t23 hi0 hz0 hz1 hz2 rfl (by decide) (.slice (some ⟨g,0,none⟩) n c) n xs rfl H.out ⟨vb,0,none⟩ 1 vc vs rfl HV.out RO.out H1.out (by decide) (by unfold maxLen;omega) (by omega) HB.out w.heap.size rfl ?_;intro gg cap1 w2 hown1 hgrow hat hlt1)
   all_goals
    have HR:=lH (HK.out gg cap1 w2 hown1 hgrow hat);clear hown1 hgrow hat hlt1;go_wp2;go_ret;exact HR.out
theorem jbD (g n c i vb m vc B:Nat) (xs vs:List Value) (w:World) (hown:w.ownsRow B 41 11 (.slice (some ⟨g,0,none⟩) n c) n xs) (hi:i<n) (hm1:m=1) (hroom:n+m≤c) (hvb:vb≠g) (h1c:∀u ∈ xs,u.oneCell'=true) (hvl:vs.length=m*11) (h1v:∀u ∈ vs,u.oneCell'=true) (hvs:∀j u,vs[j]?=some u→w.cell? ⟨vb,j,none⟩=some u)
 (tA:TypeId) (kA:Nat) (hsa:w.shape? vb=some (tA,kA)) (hfa:w.frozen? ⟨vb,0,none⟩=false) (hfe:w.frozen? ⟨vb,kA,none⟩=false) :
 Calls Tryz.prog 34 #[.slice (some ⟨g,0,none⟩) n c,.int .i64 i,.slice (some ⟨vb,0,none⟩) m vc] w fun e w'=>e=.returned (.slice (some ⟨g,0,none⟩) (n+m) c)∧w'=(w.drew.setCells g ((i+m)*11) (xs.drop (i*11))).setCells g (i*11) vs:=by
 obtain⟨i0,hi0,hz0,hzs,hzb⟩:=info_parts Z2;obtain⟨cur,hB,hg,hn,hcm,hs,ht,hl⟩:=zp hown;have hm:0<m:=by omega
 have hc63:c≤9223372036854775807:=by unfold maxLen at hcm;omega
 have t23:=Tryz.underlying32;have hfr:∀t,w.frozen? ⟨g,t,none⟩=false:=fun t=>hown.frozenAt t;have hcell:∀t,t<n*11→w.cell? ⟨g,t,none⟩=xs[t]?:=fun t h=>hown.cellAt t h;have hsp:∀t,t<(n+m)*11→(w.cell? ⟨g,t,none⟩).isSome=true:=fun t h=>by
  rw[Lib.cell_of_heap hg,Array.getElem?_eq_getElem (by rw[hs];exact Nat.lt_of_lt_of_le h (Nat.mul_le_mul_right 11 hroom))];rfl
 have hz1:¬((m:Int)=0):=by omega
 have hz2:¬((i:Int)=(n:Int)):=by omega
 have hdl:(xs.drop (i*11)).length=n*11-i*11:=by rw[List.length_drop,hl]
 have hks:cur.size≠0:=by rw[hs];omega
 have hsb:w.shape? g=some (41,cur.size):=by unfold World.shape?;rw[hg]
 have hov:∀lb cb,(callFunc 83 #[.slice (some ⟨vb,0,none⟩) m vc,.slice (some ⟨g,(i+m)*11,none⟩) lb cb]).run Tryz.prog w=.ok (.value (.bool false)) w:=fun lb cb=>by
  rw[run_callFunc_extern Tryz.func83 (by kernel_rfl) (by kernel_rfl) (by kernel_rfl) (e:=Extern.SlicesOverlaps.overlaps #[32,32] #[4]) (by kernel_rfl),
   Lib.run_overlaps_apart w 32 4 41 t23 11 (fun w=>by simp[sizeOf,typeInfo,hi0,hzs]) ⟨vb,0,none⟩ ⟨g,(i+m)*11,none⟩ m vc lb cb hvb tA 41 kA cur.size hsa hsb hks hfa hfe]
  rfl
 have hw1:IntKind.i64.wrap ((i:Int)+(m:Int))=(i:Int)+(m:Int):=by rw[IntKind.wrap_i64];omega
 have hb1:(0:Int)≤(i:Int)+(m:Int):=by omega
 have hin:i≤n:=by omega
 have htn:((i:Int)+(m:Int)).toNat=i+m:=by omega
 have hb2:¬(c=i+m):=by omega
 have hb3:(i:Int)≤(n:Int)+(m:Int):=by omega
 have hb4:¬(c=i):=by omega
 have hcp1:∀ty dc sc,(Builtin.copy_ #[32,32] ty #[.slice (some ⟨g,(i+m)*11,none⟩) (n+m-(i+m)) dc,.slice (some ⟨g,i*11,none⟩) (n+m-i) sc]).run Tryz.prog w.drew=.ok (goInt (Nat.min (n+m-i) (n+m-(i+m)))) (w.drew.setCells g ((i+m)*11) (xs.drop (i*11))):=fun ty dc sc =>
  JW w.drew _ _ ty 41 i0 g ((i+m)*11) (n+m-(i+m)) dc ⟨g,i*11,none⟩ (n+m-i) sc (xs.drop (i*11)) t23 hi0 (by rw[hdl,hzs];simp only[Nat.min_def];split<;>omega)
   (fun j v hj=>by rw[Addr.add_lit];rw[List.getElem?_drop] at hj;have:=(List.getElem?_eq_some_iff.1 hj).1;exact(hcell _ (by omega)).trans hj)
   (fun j hj=>hsp _ (by omega)) (fun j hj=>hfr _) (fun v hv=>h1c v (List.mem_of_mem_drop hv))
 obtain⟨W1,hW1⟩:∃W1,W1=w.drew.setCells g ((i+m)*11) (xs.drop (i*11)):=⟨_,rfl⟩
 have hsp1:∀k,k<(n+m)*11→(W1.cell? ⟨g,k,none⟩).isSome=true:=fun k hk=>by
  rw[hW1];exact isSome_setCells g (xs.drop (i*11)) ((i+m)*11) w.drew (fun j hj=>hsp _ (by rw[hdl] at hj;omega)) k (hsp k hk)
 have hcp2:∀(W:World),(∀x,W.cell? x=W1.cell? x)→(∀x,W.frozen? x=W1.frozen? x)→∀ty dc,(Builtin.copy_ #[32,32] ty #[.slice (some ⟨g,i*11,none⟩) (n+m-i) dc,.slice (some ⟨vb,0,none⟩) m vc]).run Tryz.prog W=.ok (goInt (Nat.min m (n+m-i))) (W.setCells g (i*11) vs):=fun W hWc hWf ty dc =>
  JW W _ _ ty 41 i0 g (i*11) (n+m-i) dc ⟨vb,0,none⟩ m vc vs t23 hi0 (by rw[hvl,hzs];simp only[Nat.min_def];split<;>omega)
   (fun j v hj=>by
     rw[Addr.add_lit,hWc,hW1,World.cell?_setCells_out g _ _ _ _ (fun h _=>absurd h hvb),Nat.zero_add];exact hvs j v hj)
   (fun j hj=>by rw[hWc];exact hsp1 _ (by omega)) (fun j hj=>by rw[hWf,hW1,World.frozen?_setCells];exact hfr _) h1v
 rw[←hW1] at hcp1;clear hown hB hg hcm hs ht hl hm1 hsa hsb hfa hfe hks;go_enter Tryz.func34,Tryz.ntmps34;go_wp2_with (simp only[hov])
 go_region_law (refine step_copy_runI rfl _ _ 32 32 rfl _ _ (by simp[Act.eval,Act.put]) (by simp[Act.eval,Act.put]) (hcp1 _ _ _) ?_)
 go_wp2_with (at_builtin;refine wpList_copy_runI _ rfl _ _ 32 32 rfl _ _ rfl rfl (hcp2 _ (fun _=>rfl) (fun _=>rfl) _ _) ?_)
 go_ret;first | exact⟨rfl,rfl⟩ | exact⟨rfl,by rw[hW1]⟩
theorem jbT (g n c i vb m vc B:Nat) (xs vs:List Value) (w:World) (hown:w.ownsRow B 41 11 (.slice (some ⟨g,0,none⟩) n c) n xs) (hi:i<n) (hm:0<m) (hroom:c<n+m) (hbig:n+m≤100001) (h1c:∀u ∈ xs,u.oneCell'=true) (hvl:vs.length=m*11) (h1v:∀u ∈ vs,u.oneCell'=true) (hvs:∀j u,vs[j]?=some u→w.cell? ⟨vb,j,none⟩=some u) :
 Calls Tryz.prog 34 #[.slice (some ⟨g,0,none⟩) n c,.int .i64 i,.slice (some ⟨vb,0,none⟩) m vc] w fun e w'=>∃G ROW,n+m≤G∧G≤maxLen∧ROW=(xs.take (i*11)).toArray++Builtin.zeroCells jQ (n+m-i)++Builtin.zeroCells jQ (G-(n+m))∧e=.returned (.slice (some ⟨w.heap.size,0,none⟩) (n+m) G) ∧
  w'=(((w.alloc (.cells ROW 41)).drew.setCells w.heap.size (i*11) vs).drew).setCells w.heap.size ((i+m)*11) (xs.drop (i*11)):=by
 obtain⟨i0,hi0,hz0,hzs,hzb⟩:=info_parts Z2;obtain⟨cur,hB,hg,hnc,hcm,hs,ht,hl⟩:=zp hown;have t23:=Tryz.underlying32;have hcell:∀t,t<n*11→w.cell? ⟨g,t,none⟩=xs[t]?:=fun t h=>hown.cellAt t h;have hcs:∀t v,xs[t]?=some v→w.cell? ⟨g,t,none⟩=some v:=fun t v h=>(hcell t (by rw[←hl];exact(List.getElem?_eq_some_iff.1 h).1)).trans h;have hz1:¬((m:Int)=0):=by omega
 have hz2:¬((i:Int)=(n:Int)):=by omega
 have hz3:(c:Int)<(n:Int)+(m:Int):=by omega
 have hbw:g<w.heap.size:=(hown.lt g rfl).2;have hvw:vb<w.heap.size:=World.block_lt_of_cell? _ _ (hvs 0 _ (List.getElem?_eq_getElem (by omega)));have hkk:(n:Int)+(m:Int)-(i:Int)=((n+m-i:Nat):Int):=by omega
 have hik:i+(n+m-i)=n+m:=by omega
 have hold:(Builtin.firstCells i0.size i (.slice (some ⟨g,0,none⟩) i c)).run Tryz.prog w.drew=.ok (xs.take (i*11)).toArray w.drew:=by
  rw[hzs];exact run_firstCells_some w.drew 11 i ⟨g,0,none⟩ i c (xs.take (i*11)) (by rw[List.length_take,hl];omega) (fun j v hj=>by
   rw[Addr.add_lit,Nat.zero_add];rw[List.getElem?_take] at hj;split at hj
   · exact hcs j v hj
   · cases hj)
 have hrz:∀ty,(Builtin.append_ #[32,3] ty #[.slice (some ⟨g,0,none⟩) i c,.int .i64 ((n:Int)+(m:Int)-(i:Int))]).run Tryz.prog w =
  .ok (.slice (some ⟨w.heap.size,0,none⟩) (n+m) (grownCap w (n+m) c 41)) (w.drew.alloc (.cells ((xs.take (i*11)).toArray++Builtin.zeroCells jQ (n+m-i)++Builtin.zeroCells jQ (grownCap w (n+m) c 41-(n+m))) 41)):=fun ty=>by
  have h:=Lib.run_append_grow_zeros w 32 3 ty 41 i0 (.agg jQ) .i64 .i64 t23 Tryz.underlying3 hi0 hz0 (some ⟨g,0,none⟩) i c (xs.take (i*11)) hold (n+m-i) (by omega) (by omega) (by omega) (by omega) (by rw[hzb];omega) (by rw[hzb,hik];exact growslice_fits hroom (by omega));rw[hik] at h;rw[hkk];exact h
 obtain⟨G,hG⟩:∃G,G=grownCap w (n+m) c 41:=⟨_,rfl⟩
 obtain⟨ROW,hROW⟩:∃ROW:Array Value,ROW=(xs.take (i*11)).toArray++Builtin.zeroCells jQ (n+m-i)++Builtin.zeroCells jQ (G-(n+m)):=⟨_,rfl⟩
 rw[←hG] at hrz;rw[←hROW] at hrz;have hGn:n+m≤G:=by rw[hG];exact grownCap_ge w _ _ _
 have hGM:G≤maxLen:=by rw[hG];exact grownCap_le_maxLen w (n+m) c 41 (by unfold maxLen;omega)
 have hG63:G≤9223372036854775807:=by unfold maxLen at hGM;omega
 have hRl:ROW.size=G*11:=by
  rw[hROW,Array.size_append,Array.size_append,zz,zz,List.size_toArray,List.length_take,hl];omega
 obtain⟨W1,hW1⟩:∃W1,W1=w.drew.alloc (.cells ROW 41):=⟨_,rfl⟩
 rw[←hW1] at hrz;have hN:∀j,j<(n+m)*11→(W1.cell? ⟨w.heap.size,j,none⟩).isSome=true:=fun j hj=>by
  rw[hW1,World.cell?_alloc_at (w:=w.drew) ROW _ w.heap.size j rfl,Array.getElem?_eq_getElem (by rw[hRl];exact Nat.lt_of_lt_of_le hj (Nat.mul_le_mul_right 11 hGn))];rfl
 have hNf:∀j,W1.frozen? ⟨w.heap.size,j,none⟩=false:=fun j=>by rw[hW1];exact World.frozen?_alloc_at (w:=w.drew) ROW _ w.heap.size j rfl
 have hOb:∀j v,w.cell? ⟨g,j,none⟩=some v→W1.cell? ⟨g,j,none⟩=some v:=fun j v h=>by rw[hW1,World.cell?_alloc_past (w:=w.drew) _ g j hbw];exact h
 have hOv:∀j v,w.cell? ⟨vb,j,none⟩=some v→W1.cell? ⟨vb,j,none⟩=some v:=fun j v h=>by rw[hW1,World.cell?_alloc_past (w:=w.drew) _ vb j hvw];exact h
 have hcpA:∀(W:World),(∀x,W.cell? x=W1.cell? x)→(∀x,W.frozen? x=W1.frozen? x)→∀ty dc,(Builtin.copy_ #[32,32] ty #[.slice (some ⟨w.heap.size,i*11,none⟩) (n+m-i) dc,.slice (some ⟨vb,0,none⟩) m vc]).run Tryz.prog W=.ok (goInt (Nat.min m (n+m-i))) (W.setCells w.heap.size (i*11) vs):=fun W hWc hWf ty dc =>
  JW W _ _ ty 41 i0 w.heap.size (i*11) (n+m-i) dc ⟨vb,0,none⟩ m vc vs t23 hi0 (by rw[hvl,hzs];simp only[Nat.min_def];split<;>omega)
   (fun j v hj=>by rw[Addr.add_lit,hWc,Nat.zero_add];exact hOv _ v (hvs j v hj))
   (fun j hj=>by rw[hWc];exact hN _ (by omega)) (fun j hj=>by rw[hWf];exact hNf _) h1v
 have hGi:¬(G=i):=by omega
 have hGim:¬(G=i+m):=by omega
 have hci:¬(c=i):=by omega
 have hbN:g≠w.heap.size:=by omega
 have hdl:(xs.drop (i*11)).length=n*11-i*11:=by rw[List.length_drop,hl]
 have hcpB:∀(W:World),(∀x,W.cell? x=(W1.setCells w.heap.size (i*11) vs).cell? x)→(∀x,W.frozen? x=(W1.setCells w.heap.size (i*11) vs).frozen? x)→∀ty dc sc,(Builtin.copy_ #[32,32] ty #[.slice (some ⟨w.heap.size,(i+m)*11,none⟩) (n+m-(i+m)) dc,.slice (some ⟨g,i*11,none⟩) (n-i) sc]).run Tryz.prog W=.ok (goInt (Nat.min (n-i) (n+m-(i+m)))) (W.setCells w.heap.size ((i+m)*11) (xs.drop (i*11))):=fun W hWc hWf ty dc sc =>
  JW W _ _ ty 41 i0 w.heap.size ((i+m)*11) (n+m-(i+m)) dc ⟨g,i*11,none⟩ (n-i) sc (xs.drop (i*11)) t23 hi0 (by rw[hdl,hzs];simp only[Nat.min_def];split<;>omega)
   (fun j v hj=>by
     rw[Addr.add_lit,hWc,World.cell?_setCells_out _ _ _ _ _ (fun h _=>absurd h hbN)];exact hOb _ v (hcs (i*11+j) v (by rwa [List.getElem?_drop] at hj)))
   (fun j hj=>by rw[hWc];exact isSome_setCells _ _ _ _ (fun t ht=>hN _ (by omega)) _ (hN _ (by omega)))
   (fun j hj=>by rw[hWf,World.frozen?_setCells];exact hNf _) (fun v hv=>h1c v (List.mem_of_mem_drop hv))
 subst hW1;have hE1:∀x,((w.alloc (.cells ROW 41)).drew).cell? x=(w.drew.alloc (.cells ROW 41)).cell? x:=fun x=>rfl;have hE2:∀x,((w.alloc (.cells ROW 41)).drew).frozen? x=(w.drew.alloc (.cells ROW 41)).frozen? x:=fun x=>rfl;have hF1:∀x,(((w.alloc (.cells ROW 41)).drew.setCells w.heap.size (i*11) vs).drew).cell? x=((w.drew.alloc (.cells ROW 41)).setCells w.heap.size (i*11) vs).cell? x:=fun x=>rfl;have hF2:∀x,(((w.alloc (.cells ROW 41)).drew.setCells w.heap.size (i*11) vs).drew).frozen? x=((w.drew.alloc (.cells ROW 41)).setCells w.heap.size (i*11) vs).frozen? x:=fun x=>rfl;have hw1:IntKind.i64.wrap ((i:Int)+(m:Int))=(i:Int)+(m:Int):=by rw[IntKind.wrap_i64];omega
 have hb1:(0:Int)≤(i:Int)+(m:Int):=by omega
 have hin:i≤n:=by omega
 have htn:((i:Int)+(m:Int)).toNat=i+m:=by omega
 have hb3:(i:Int)≤(n:Int):=by omega
 have Rc:=lH hROW;have No:=lH hGM;clear hkk hik hold hROW hG hRl hGM hown hB hg hcm hs ht hl;go_enter Tryz.func34,Tryz.ntmps34
 go_wp2_with (first
  | (at_builtin;refine Lib.wpList_append_run _ rfl _ _ _ _ rfl _ _ rfl rfl _ _ (hrz _) ?_)
  | (at_builtin;refine wpList_copy_runI _ rfl _ _ 32 32 rfl _ _ rfl rfl (hcpA _ hE1 hE2 _ _) ?_)
  | (at_builtin;refine wpList_copy_runI _ rfl _ _ 32 32 rfl _ _ rfl rfl (hcpB _ (fun _=>rfl) (fun _=>rfl) _ _ _) ?_))
 go_region_law (refine step_copy_runI rfl _ _ 32 32 rfl (.slice (some ⟨w.heap.size,(i+m)*11,none⟩) (n+m-(i+m)) (G-(i+m))) (.slice (some ⟨g,i*11,none⟩) (n-i) (c-i)) (by simp[Act.eval,Act.put]) (by simp[Act.eval,Act.put]) (hcpB _ hF1 hF2 3 (G-(i+m)) (c-i)) ?_)
 go_wp2;go_ret;exact⟨G,ROW,hGn,No.out,Rc.out,rfl,rfl⟩
theorem jbR (v:Value) (n i vb vc B:Nat) (xs vs:List Value) (w:World) (hown:w.ownsRow B 41 11 v n xs) (hbase:B≤w.heap.size) (hi:i≤n) (h1c:∀u ∈ xs,u.oneCell'=true) (hvl:vs.length=11) (h1v:∀u ∈ vs,u.oneCell'=true) (hvs:w.heap[vb]?=some (.cells vs.toArray 41)) (hvb:v.ownBlock≠some vb) (hbig:n≤100000) :
 Calls Tryz.prog 34 #[v,.int .i64 i,.slice (some ⟨vb,0,none⟩) 1 vc] w (jbs v B n i xs vs w):=by
 have hcv:∀j u,vs[j]?=some u→w.cell? ⟨vb,j,none⟩=some u:=fun j u h=>by rw[Lib.cell_of_heap hvs];simpa using h
 by_cases he:i=n
 · subst he;exact jdi v i vb vc B xs vs w hown hbase hvl h1v hcv hbig
 · have hlt:i<n:=by omega
   rcases hown.2 with ⟨rfl,h0⟩ | ⟨g,c,cur,rfl,hb,hg,hnc,hcm,-⟩
   · omega
   · have hfz:∀t,w.frozen? ⟨vb,t,none⟩=false:=fun t=>by unfold World.frozen?;rw[show w.heap[(⟨vb,t,none⟩:Addr).block]?=some (.cells vs.toArray 41 (0,0)) from hvs];simp
     by_cases hr:n+1≤c
     · refine(jbD g n c i vb 1 vc B xs vs w hown hlt rfl hr (fun e=>hvb (by rw[e];rfl)) h1c (by rw[hvl]) h1v hcv 41 vs.toArray.size (by unfold World.shape?;rw[hvs]) (hfz _) (hfz _)).mono ?_;rintro e w' ⟨rfl,rfl⟩;exact⟨g,c,rfl,jdm (w:=w.drew) (Ye hown) hi hvl hr,(((jb.drew w).trans (jb.cells (S:=fun b=>(Value.slice (some ⟨g,0,none⟩) n c).ownBlock=some b) g rfl _ _ _)).trans (jb.cells (S:=fun b=>(Value.slice (some ⟨g,0,none⟩) n c).ownBlock=some b) g rfl _ _ _)),.inl rfl⟩
     · refine(jbT g n c i vb 1 vc B xs vs w hown hlt (by decide) (by omega) (by omega) h1c (by rw[hvl]) h1v hcv).mono ?_;rintro e w' ⟨G,ROW,h1,h2,hROW,rfl,rfl⟩;have hl:xs.length=n*11:=hown.1;have hRl:ROW.size=G*11:=by
        rw[hROW,Array.size_append,Array.size_append,zz,zz,List.size_toArray,List.length_take,hl];omega
       have hrow:∀t,t<i*11→ROW[t]?=xs[t]?:=fun t ht=>by
        rw[hROW,Array.append_assoc,Array.getElem?_append_left (by rw[List.size_toArray,List.length_take,hl];omega),List.getElem?_toArray,List.getElem?_take,if_pos ht]
       refine⟨w.heap.size,G,rfl,?_,?_,.inr (Nat.le_refl _)⟩
       · simp only[←drew_setCells];exact Ye (Ye (jcQ (w:=w) hbase h1 h2 hi hl hvl hRl hrow))
       · have k:Kept w (((w.alloc (.cells ROW 41)).drew.setCells w.heap.size (i*11) vs).drew.setCells w.heap.size ((i+1)*11) (xs.drop (i*11))) :=
          jm _ _ _ _ _ _ (Nat.le_refl _) (Below.drew (jm _ _ _ _ _ _ (Nat.le_refl _) (Below.drew (ja w _))))
         exact jb.of k
end Go.Proofs.YtabafpoklpiiiaaGreat
