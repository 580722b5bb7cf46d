/- C. -/
import Derived.Test.YtokdjfoalkmhiaaGreatG0
import Derived.Test.YtokdjfoalkmhiaaGreatG1
set_option linter.unusedVariables false
set_option maxRecDepth 100000
set_option maxHeartbeats 25600000
namespace Go.Proofs.YtokdjfoalkmhiaaGreat
open Go.RowKit
structure je (q:Nat) (vs:List Value) (W:World):Prop where
 at_:∀i v,vs[i]?=some v→W.cell? ⟨q,i,none⟩=some v
 free:∀i,W.frozen? ⟨q,i,none⟩=false
theorem je.block {q:Nat} {vs:List Value} {W W':World} (h:je q vs W) (e:W'.heap[q]?=W.heap[q]?):je q vs W' :=
 ⟨fun i v hv=>(World.cell?_of_block (a:=⟨q,i,none⟩) e).trans (h.at_ i v hv),fun i=>(World.frozen?_of_block (a:=⟨q,i,none⟩) e).trans (h.free i)⟩
theorem je.at3 {q:Nat} {a b c:Value} {r9:List Value} {W:World} (h:je q (a::b::c::r9) W):W.cell? ⟨q,0,none⟩=some a∧W.cell? ⟨q,1,none⟩=some b∧W.cell? ⟨q,2,none⟩=some c:=⟨h.at_ 0 _ rfl,h.at_ 1 _ rfl,h.at_ 2 _ rfl⟩
theorem je.at4 {q:Nat} {a b c d:Value} {r9:List Value} {W:World} (h:je q (a::b::c::d::r9) W):W.cell? ⟨q,0,none⟩=some a∧W.cell? ⟨q,1,none⟩=some b∧W.cell? ⟨q,2,none⟩=some c∧W.cell? ⟨q,3,none⟩=some d:=⟨h.at_ 0 _ rfl,h.at_ 1 _ rfl,h.at_ 2 _ rfl,h.at_ 3 _ rfl⟩
theorem je.at5 {q:Nat} {a b c d e:Value} {r9:List Value} {W:World} (h:je q (a::b::c::d::e::r9) W):W.cell? ⟨q,0,none⟩=some a∧W.cell? ⟨q,1,none⟩=some b∧W.cell? ⟨q,2,none⟩=some c∧W.cell? ⟨q,3,none⟩=some d∧W.cell? ⟨q,4,none⟩=some e:=⟨h.at_ 0 _ rfl,h.at_ 1 _ rfl,h.at_ 2 _ rfl,h.at_ 3 _ rfl,h.at_ 4 _ rfl⟩
theorem je.at11 {q:Nat} {a b c d e f g i j k l:Value} {r9:List Value} {W:World} (h:je q (a::b::c::d::e::f::g::i::j::k::l::r9) W):W.cell? ⟨q,0,none⟩=some a∧W.cell? ⟨q,1,none⟩=some b∧W.cell? ⟨q,2,none⟩=some c∧W.cell? ⟨q,3,none⟩=some d∧W.cell? ⟨q,4,none⟩=some e∧W.cell? ⟨q,5,none⟩=some f∧W.cell? ⟨q,6,none⟩=some g∧W.cell? ⟨q,7,none⟩=some i∧W.cell? ⟨q,8,none⟩=some j∧W.cell? ⟨q,9,none⟩=some k∧W.cell? ⟨q,10,none⟩=some l:=⟨h.at_ 0 _ rfl,h.at_ 1 _ rfl,h.at_ 2 _ rfl,h.at_ 3 _ rfl,h.at_ 4 _ rfl,h.at_ 5 _ rfl,h.at_ 6 _ rfl,h.at_ 7 _ rfl,h.at_ 8 _ rfl,h.at_ 9 _ rfl,h.at_ 10 _ rfl⟩
theorem je.lt {q:Nat} {v:Value} {vs:List Value} {W:World} (h:je q (v::vs) W):q<W.heap.size:=World.block_lt_of_cell? _ _ (h.at_ 0 v rfl)
theorem je.kept {q:Nat} {v:Value} {vs:List Value} {W W':World} (h:je q (v::vs) W) (k:Kept W W'):je q (v::vs) W':=h.block (k.block q h.lt)
theorem je.other {q p j:Nat} {u:Value} {vs:List Value} {W:World} (h:je q vs W) (hp:q≠p):je q vs (W.setCell ⟨p,j,none⟩ u):=h.block (Below.heap_setCell W ⟨p,j,none⟩ u q hp)
theorem jc (w:World) (v:Value) (vs:List Value) (T:TypeId) (W:World) (k:Kept (w.alloc (.cells (v::vs).toArray T)) W):je w.heap.size (v::vs) W:=by
 have hh:=w.alloc_heap_new (.cells (v::vs).toArray T);have h:je w.heap.size (v::vs) (w.alloc (.cells (v::vs).toArray T)):=⟨fun i u hu=>by rw[Lib.cell_of_heap hh];simpa using hu,fun i=>by
  unfold World.frozen?;rw[show (w.alloc (.cells (v::vs).toArray T)).heap[(⟨w.heap.size,i,none⟩:Addr).block]?=some (.cells (v::vs).toArray T) from hh];simp⟩
 exact h.kept k
theorem je.set {q j:Nat} {u:Value} {vs:List Value} {W:World} (h:je q vs W) (hj:j<vs.length):je q (vs.set j u) (W.setCell ⟨q,j,none⟩ u):=by
 refine⟨fun i v hv=>?_,fun i=>by rw[World.frozen?_setCell];exact h.free i⟩;by_cases e:j=i
 · subst e;have hv':v=u:=by rw[List.getElem?_set_self hj] at hv;exact(Option.some.inj hv).symm
   subst hv';exact World.cell?_setCell_same _ _ _ (h.at_ j _ (List.getElem?_eq_getElem hj))
 · rw[List.getElem?_set_ne e] at hv;rw[World.cell?_setCell_other _ _ _ _ (by simp)];exact h.at_ i v hv
theorem Yx (q:Nat):∀(vs:List Value) (o:Nat) (W:World),(W.setCells q o vs).heap.size=W.heap.size
 | [],_,_=>rfl
 | v::r,o,W=>by rw[World.setCells,Yx q r];simp[World.setCell]
theorem Z7 (q:Nat):∀(vs:List Value) (o:Nat) (W:World) (b:Nat),b≠q→(W.setCells q o vs).heap[b]?=W.heap[b]?
 | [],_,_,_,_=>rfl
 | v::r,o,W,b,h=>by rw[World.setCells,Z7 q r _ _ b h];exact Below.heap_setCell W ⟨q,o,none⟩ v b h
theorem zh (q:Nat):∀(vs:List Value) (o:Nat) (W:World) (B:Nat) (w:World),B≤q→Below B w W→Below B w (W.setCells q o vs)
 | [],_,_,_,_,_,k=>k
 | v::r,o,W,B,w,h,k=>by rw[World.setCells];exact zh q r _ _ B w h (k.setCell (p:=⟨q,o,none⟩) h _)
structure jgV (q:Nat) (vs:List Value) (W W':World):Prop where
 cells:je q vs W'
 size:W'.heap.size=W.heap.size
 far:∀b,b≠q→W'.heap[b]?=W.heap[b]?
 below:∀B w,B≤q→Below B w W→Below B w W'
theorem zE {q:Nat} {us vs:List Value} {W:World} (h:je q us W) (hl:us.length=vs.length):jgV q vs W (W.setCells q 0 vs):=by
 refine⟨⟨fun i v hv=>?_,fun i=>by rw[World.frozen?_setCells];exact h.free i⟩,Yx q vs 0 W,fun b hb=>Z7 q vs 0 W b hb,fun B w hB k=>zh q vs 0 W B w hB k⟩;have hi:i<vs.length:=(List.getElem?_eq_some_iff.1 hv).1;have:=World.cell?_setCells_in q vs 0 W (fun j hj=>by rw[Nat.zero_add,h.at_ j _ (List.getElem?_eq_getElem (by omega))];rfl) i hi;rw[Nat.zero_add] at this;rw[this];obtain⟨_,e⟩:=List.getElem?_eq_some_iff.1 hv;rw[e]
theorem jbF (n:Nod) (v1 v2 v3:Value) (w:World):Calls Tryz.prog 151 #[zS n v1 v2 v3] w fun e w'=>e=.returned (.string n.name)∧Kept w w':=by
 unfold zS;go_enter Tryz.func151,Tryz.ntmps151;go_wp2;go_ret;exact⟨rfl,ja _ _⟩
theorem jbq (n:Nod) (v1 v2 v3:Value) (p q:Addr) (x:ByteArray) (w:World) (hp:w.cell? p=some (.func (.func 151) #[] #[])) (hq:w.cell? q=some (.string x)) :
 Calls Tryz.prog 239 #[zS n v1 v2 v3,.pointer (some p),.pointer (some q)] w fun e w'=>e=.returned (.bool (eqS n.name x))∧Kept w w':=by
 have HB:=lH (show ∀W,Kept (w.alloc (.cells #[.string n.name,v1,v2,v3,.bool n.cordon] 57)) W→W.cell? p=some (.func (.func 151) #[] #[])∧W.cell? q=some (.string x)∧W.cell? ⟨w.heap.size,0,none⟩=some (.string n.name)∧W.cell? ⟨w.heap.size,1,none⟩=some (v1)∧W.cell? ⟨w.heap.size,2,none⟩=some (v2)∧W.cell? ⟨w.heap.size,3,none⟩=some (v3)∧W.cell? ⟨w.heap.size,4,none⟩=some (.bool n.cordon) from fun W k=>⟨cell_later ((ja _ _).trans k) hp,cell_later ((ja _ _).trans k) hq,(jc w (.string n.name) [v1,v2,v3,.bool n.cordon] 57 W k).at_ 0 _ rfl,(jc w (.string n.name) [v1,v2,v3,.bool n.cordon] 57 W k).at_ 1 _ rfl,(jc w (.string n.name) [v1,v2,v3,.bool n.cordon] 57 W k).at_ 2 _ rfl,(jc w (.string n.name) [v1,v2,v3,.bool n.cordon] 57 W k).at_ 3 _ rfl,(jc w (.string n.name) [v1,v2,v3,.bool n.cordon] 57 W k).at_ 4 _ rfl⟩);have HN:=lH (fun W=>jbF n v1 v2 v3 W);unfold zS at HN ⊢;obtain⟨b,hb⟩:=eX (eqS n.name x)
 have t1:(n.name.toList==x.toList)=b:=hb;rw[hb];clear hp hq hb;go_enter Tryz.func239,Tryz.ntmps239;go_wp2
 go_region_held3 (fun W=>W.cell? p=some (.func (.func 151) #[] #[])∧W.cell? q=some (.string x)∧W.cell? ⟨w.heap.size,0,none⟩=some (.string n.name)∧W.cell? ⟨w.heap.size,1,none⟩=some (v1)∧W.cell? ⟨w.heap.size,2,none⟩=some (v2)∧W.cell? ⟨w.heap.size,3,none⟩=some (v3)∧W.cell? ⟨w.heap.size,4,none⟩=some (.bool n.cordon))
  (first | exact HB.out _ (Kept.drew _) | exact HB.out _ K1.out)
  (first | (go_at_call 151;refine(HN.out _).mono ?_;rintro e1 w1 ⟨rfl,k1⟩;have K1:=lH ((Kept.drew _).trans k1);clear k1))
 go_wp2;go_ret;exact⟨jq rfl,(ja _ _).trans K1.out⟩
def jk (l:List Nod) (x:ByteArray):Option Nod:=l.find? fun n=>eqS n.name x
def jfg (l:List Nod) (x:ByteArray) (i:Int):Prop:=(∃(k:Nat) (n:Nod),i=(k:Int)∧l[k]?=some n∧jk l x=some n)∨(i=-1∧jk l x=none)
theorem jcP (a:Option Addr) (len cap:Nat) (l:List Nod) (x:ByteArray) (p q:Addr) (w:World) (hr:js w a len l) (hp:w.cell? p=some (.func (.func 151) #[] #[])) (hq:w.cell? q=some (.string x)) :
 Calls Tryz.prog 238 #[.slice a len cap,.func (.func 239) #[] #[.pointer (some p),.pointer (some q)]] w fun e w'=>∃i,e=.returned (.int .i64 i)∧jfg l x i∧Kept w w':=by
 have hl:=hr.1;have hm:=hr.2.1;unfold maxLen at hm;have HL:=lH hl;by_cases h0:len=0
 · subst h0;have hl0:l=[]:=List.eq_nil_of_length_eq_zero hl;have HF:=lH (show jk l x=none by rw[hl0];rfl);clear hr hl hp hq;go_enter Tryz.func238,Tryz.ntmps238;go_wp2;refine wp_loop_rounds 1 ?_;rw[rounds_succ];go_wp2;go_ret;exact⟨-1,rfl,.inr ⟨rfl,HF.out⟩,Kept.refl _⟩
 · obtain⟨b,off,rfl⟩:=hr.form.resolve_left h0;obtain⟨HR,HP,HQ⟩:=lH3 hr hp hq;clear hr hl hp hq h0;go_enter Tryz.func238,Tryz.ntmps238;go_wp2;go_loopw [8] (fun i wr=>∃k:Nat,k≤len∧i=.int .i64 k∧jk (l.drop k) x=jk l x∧Kept w wr) (fun i _=>len-(intOf i).toNat)
   case atStart=>exact⟨0,Nat.zero_le _,rfl,rfl,Kept.refl _⟩
   case round =>
    obtain⟨k,hk,rfl,hrest,hK⟩:=hrel;have HS:=lH hrest;have HK:=lH hK;by_cases hlt:k<len
    · obtain⟨n,a1,m1,c1,a2,m2,c2,a3,m3,c3,hn,hd,hb,p0,p1,p2,p3,p4,hat⟩:=(HR.out.kept hK).at_ hlt;obtain⟨HN,HD,HC⟩:=lH3 hn hd (jbq n (.slice a1 m1 c1) (.slice a2 m2 c2) (.slice a3 m3 c3) p q x wr (cell_later hK HP.out) (cell_later hK HQ.out));unfold zS at HC;obtain⟨t,ht⟩:=eX (eqS n.name x)
      have HT:=lH ht;rw[ht] at HC;clear hrest hK hat hd hn ht
      cases t with
      | true =>
       have HF:=lH (show jk l x=some n by rw[←HS.out,HD.out];unfold jk;rw[List.find?_cons,HT.out]);go_wp2_with fail
       refine HC.out.mono ?_;rintro e w1 ⟨rfl,k1⟩;have K1:=lH (HK.out.trans k1);clear k1;go_wp2;go_ret;exact⟨(k:Int),rfl,.inl ⟨k,n,rfl,HN.out,HF.out⟩,K1.out⟩
      | false =>
       have HE:=lH (show jk (l.drop k) x=jk (l.drop (k+1)) x by rw[HD.out];unfold jk;rw[List.find?_cons,HT.out]);go_wp2_with fail
       refine HC.out.mono ?_;rintro e w1 ⟨rfl,k1⟩;have K1:=lH (HK.out.trans k1);clear k1;go_wp2;go_roundw
       case rel=>exact⟨k+1,by omega,by go_num,HE.out.symm.trans HS.out,K1.out⟩
       case measure=>simp[intOf];omega
    · have HF:=lH (show jk l x=none by rw[←hrest,List.drop_of_length_le (by rw[HL.out];omega)];rfl);clear hrest hK;go_wp2;go_ret;exact⟨-1,rfl,.inr ⟨rfl,HF.out⟩,HK.out⟩
theorem qV (a:Option Addr) (len cap:Nat) (l:List Nod) (x:ByteArray) (w:World) (hr:js w a len l) (hlow:∀n ∈ l,zH n) :
 Calls Tryz.prog 209 #[.slice a len cap,.string x,.func (.func 151) #[] #[],.func (.func 210) #[] #[]] w fun e w'=>∃v,e=.returned (.tuple #[v,.bool (jk l x).isSome])∧zv w.heap.size w' v ((jk l x).getD Nod.zero)∧Kept w w':=by
 have hmf:=hmfL (P:=Tryz.prog);have hl:=hr.1;have hm:=hr.2.1;unfold maxLen at hm;obtain⟨Z,hZ⟩:=eX (((w.alloc (.cells #[.string x] 9)).alloc (.cells #[.func (.func 151) #[] #[]] 216)).alloc (.cells #[.string ⟨#[]⟩,.slice none 0 0,.slice none 0 0,.slice none 0 0,.bool false] 57))
 have hkz:Kept w Z:=by rw[←hZ];exact(jj _ _ _).trans (ja _ _)
 have hzs:Z.heap.size=w.heap.size+3:=by rw[←hZ];simp
 have hq:=(jc w (.string x) [] 9 Z (by rw[←hZ];exact jj _ _ _)).at_ 0 _ rfl;have hp:Z.cell? ⟨w.heap.size+1,0,none⟩=some (.func (.func 151) #[] #[]):=by
  have:=(jc (w.alloc (.cells #[.string x] 9)) (.func (.func 151) #[] #[]) [] 216 Z (by rw[←hZ];exact ja _ _)).at_ 0 _ rfl;rw[World.size_alloc] at this;exact this
 have V8:=lH (show je (w.heap.size+2) [.string ⟨#[]⟩,.slice none 0 0,.slice none 0 0,.slice none 0 0,.bool false] Z by
  have:=jc ((w.alloc (.cells #[.string x] 9)).alloc (.cells #[.func (.func 151) #[] #[]] 216)) (.string ⟨#[]⟩) [.slice none 0 0,.slice none 0 0,.slice none 0 0,.bool false] 57 Z (by rw[hZ];exact Kept.refl _);rw[World.size_alloc,World.size_alloc] at this;exact this)
 obtain⟨Rs,Vd,Vc,HR,Vg,HL⟩:=lH6 (jcP a len cap l x ⟨w.heap.size+1,0,none⟩ ⟨w.heap.size,0,none⟩ Z (hr.kept hkz) hp hq) hkz hzs (hr.kept hkz) hlow hl;clear hr hl hlow hkz hq hp hzs;go_enter Tryz.func209,Tryz.ntmps209;go_wp2_with fail
 try rw[hZ]
 clear hZ;refine Rs.out.mono ?_;rintro e w1 ⟨i,rfl,hs,k1⟩;have K1:=lH k1;rcases hs with ⟨k,n9,rfl,hn9,hf⟩ | ⟨rfl,hf⟩
 · have HF:=lH hf;have hkl:k<len:=by have:=(List.getElem?_eq_some_iff.1 hn9).1;rw[HL.out] at this;exact this
   have hk0:decide ((k:Int)<0)=false:=by simp
   have hkk:(k:Int)<(len:Int):=by omega
   obtain⟨b,off,rfl⟩:=HR.out.form.resolve_left (by omega);obtain⟨n,a1,m1,c1,a2,m2,c2,a3,m3,c3,hn,hd,hb,p0,p1,p2,p3,p4,hat⟩:=(HR.out.kept k1).at_ hkl;obtain rfl:n9=n:=by rw[hn9] at hn;exact Option.some.inj hn
   obtain⟨Rt,VP,Vq,UA⟩:=lH4 (Vg.out n9 (List.mem_of_getElem? hn9)) hat (V8.out.kept k1) (show w.heap.size+3≤w1.heap.size by have:=k1.size;rw[Vc.out] at this;exact this);have Vw:=lH (jdu n9 a1 a2 a3 m1 c1 m2 c2 m3 c3 w1 VP.out Rt.out);clear hn9 hn hd hat hf k1;go_wp2_with fail
   refine Vw.out.mono ?_;rintro e w2 ⟨v,rfl,hn,k2⟩;obtain⟨HN,KW,Vq⟩:=lH3 hn (Vd.out.trans (K1.out.trans k2)) (Vq.out.kept k2);obtain⟨b1,n1,d1,b2,n2,d2,b3,n3,d3,rfl,-⟩:=hn;obtain⟨z,hz⟩:=eX (n9.name)
   obtain⟨cd,hcd⟩:=eX (n9.cordon)
   rw[hz,hcd];rw[hz,hcd] at HN;clear k2 p0 p1 p2 p3 p4 hb hkl hk0 hkk;obtain⟨y0,y1,y2,y3,y4⟩:=Vq.out.at5;have x0:=Vq.out.free 0;have x1:=Vq.out.free 1;have x2:=Vq.out.free 2;have x3:=Vq.out.free 3;have x4:=Vq.out.free 4;have P:=lH (zE (vs:=[.string z,.slice b1 n1 d1,.slice b2 n2 d2,.slice b3 n3 d3,.bool cd]) Vq.out rfl);clear Vq;go_wp2;obtain⟨WE,hWE⟩:=eX (w2.setCells (w.heap.size+2) 0 [.string z,.slice b1 n1 d1,.slice b2 n2 d2,.slice b3 n3 d3,.bool cd])
   have hWE2:(((((w2.setCell ⟨(w.heap.size+2),0,none⟩ (.string z)).setCell ⟨(w.heap.size+2),1,none⟩ (.slice b1 n1 d1)).setCell ⟨(w.heap.size+2),2,none⟩ (.slice b2 n2 d2)).setCell ⟨(w.heap.size+2),3,none⟩ (.slice b3 n3 d3)).setCell ⟨(w.heap.size+2),4,none⟩ (.bool cd))=WE:=hWE;rw[hWE] at P;rw[hWE2];clear hWE hWE2;obtain⟨PC,hsz,hbl,hkp⟩:=P.out;refine bodyPost_ret (by simp[results,Tryz.results209,go_sem,PC.at_ 0 _ rfl,PC.at_ 1 _ rfl,PC.at_ 2 _ rfl,PC.at_ 3 _ rfl,PC.at_ 4 _ rfl];try rfl) rfl ?_;rw[HF.out];exact⟨_,rfl,(HN.out.far hsz (fun b hb=>hbl b (by have:=UA.out;omega))).less (by have:=UA.out;omega),hkp _ _ (by omega) KW.out⟩
 · obtain⟨HF,Vq,KW⟩:=lH3 hf (V8.out.kept k1) (Vd.out.trans k1);clear hf k1;obtain⟨y0,y1,y2,y3,y4⟩:=Vq.out.at5;have x0:=Vq.out.free 0;have x1:=Vq.out.free 1;have x2:=Vq.out.free 2;have x3:=Vq.out.free 3;have x4:=Vq.out.free 4;have P:=lH (zE (vs:=[.string ⟨#[]⟩,.slice none 0 0,.slice none 0 0,.slice none 0 0,.bool false]) Vq.out rfl);clear Vq;go_wp2;obtain⟨WE,hWE⟩:=eX (w1.setCells (w.heap.size+2) 0 [.string ⟨#[]⟩,.slice none 0 0,.slice none 0 0,.slice none 0 0,.bool false])
   have hWE2:(((((w1.setCell ⟨(w.heap.size+2),0,none⟩ (.string ⟨#[]⟩)).setCell ⟨(w.heap.size+2),1,none⟩ (.slice none 0 0)).setCell ⟨(w.heap.size+2),2,none⟩ (.slice none 0 0)).setCell ⟨(w.heap.size+2),3,none⟩ (.slice none 0 0)).setCell ⟨(w.heap.size+2),4,none⟩ (.bool false))=WE:=hWE;rw[hWE] at P;rw[hWE2];clear hWE hWE2;obtain⟨PC,hsz,hbl,hkp⟩:=P.out;refine bodyPost_ret (by simp[results,Tryz.results209,go_sem,PC.at_ 0 _ rfl,PC.at_ 1 _ rfl,PC.at_ 2 _ rfl,PC.at_ 3 _ rfl,PC.at_ 4 _ rfl];try rfl) rfl ?_;rw[HF.out];exact⟨_,rfl,jcM _ _,hkp _ _ (by omega) KW.out⟩
theorem jdG (a:Option Addr) (len cap:Nat) (l:List Nod) (x:ByteArray) (w:World) (hr:js w a len l) (hlow:∀n ∈ l,zH n) :
 Calls Tryz.prog 159 #[.slice a len cap,.string x] w fun e w'=>∃v,e=.returned (.tuple #[v,.bool (jk l x).isSome])∧zv w.heap.size w' v ((jk l x).getD Nod.zero)∧Kept w w':=by
 obtain⟨Z,hZ⟩:=eX (w.alloc (.cells #[.string ⟨#[]⟩,.slice none 0 0,.slice none 0 0,.slice none 0 0,.bool false] 57))
 have hkz:Kept w Z:=by rw[←hZ];exact ja _ _
 have hzs:Z.heap.size=w.heap.size+1:=by rw[←hZ];simp
 obtain⟨V8,T4,Vd,Vc⟩:=lH4 (show je w.heap.size [.string ⟨#[]⟩,.slice none 0 0,.slice none 0 0,.slice none 0 0,.bool false] Z from jc w (.string ⟨#[]⟩) [.slice none 0 0,.slice none 0 0,.slice none 0 0,.bool false] 57 Z (by rw[hZ];exact Kept.refl _)) (qV a len cap l x Z (hr.kept hkz) hlow) hkz hzs;obtain⟨n9,hn9⟩:=eX ((jk l x).getD Nod.zero)
 obtain⟨is,his⟩:=eX ((jk l x).isSome)
 rw[hn9,his] at T4;rw[hn9,his];clear hr hlow hkz hzs hn9 his;go_enter Tryz.func159,Tryz.ntmps159;go_wp2_with fail
 try rw[hZ]
 clear hZ;refine T4.out.mono ?_;rintro e w1 ⟨v,rfl,hn,k1⟩;obtain⟨HN,Vq,KW⟩:=lH3 hn (V8.out.kept k1) (Vd.out.trans k1);obtain⟨b1,n1,d1,b2,n2,d2,b3,n3,d3,rfl,-⟩:=hn;obtain⟨z,hz⟩:=eX (n9.name)
 obtain⟨cd,hcd⟩:=eX (n9.cordon)
 rw[hz,hcd];rw[hz,hcd] at HN;clear k1;obtain⟨y0,y1,y2,y3,y4⟩:=Vq.out.at5;have x0:=Vq.out.free 0;have x1:=Vq.out.free 1;have x2:=Vq.out.free 2;have x3:=Vq.out.free 3;have x4:=Vq.out.free 4;have P:=lH (zE (vs:=[.string z,.slice b1 n1 d1,.slice b2 n2 d2,.slice b3 n3 d3,.bool cd]) Vq.out rfl);clear Vq;go_wp2;obtain⟨WE,hWE⟩:=eX (w1.setCells w.heap.size 0 [.string z,.slice b1 n1 d1,.slice b2 n2 d2,.slice b3 n3 d3,.bool cd])
 have hWE2:(((((w1.setCell ⟨w.heap.size,0,none⟩ (.string z)).setCell ⟨w.heap.size,1,none⟩ (.slice b1 n1 d1)).setCell ⟨w.heap.size,2,none⟩ (.slice b2 n2 d2)).setCell ⟨w.heap.size,3,none⟩ (.slice b3 n3 d3)).setCell ⟨w.heap.size,4,none⟩ (.bool cd))=WE:=hWE;rw[hWE] at P;rw[hWE2];clear hWE hWE2;obtain⟨PC,hsz,hbl,hkp⟩:=P.out;refine bodyPost_ret (by simp[results,Tryz.results159,go_sem,PC.at_ 0 _ rfl,PC.at_ 1 _ rfl,PC.at_ 2 _ rfl,PC.at_ 3 _ rfl,PC.at_ 4 _ rfl];try rfl) rfl ?_;exact⟨_,rfl,(HN.out.far hsz (fun b hb=>hbl b (by have:=Vc.out;omega))).less (by have:=Vc.out;omega),hkp _ _ (Nat.le_refl _) KW.out⟩
def zK:Option ByteArray→List Nod→Int
 | _,[]=>0
 | prev,n::t=>if JI n≠0 then JI n else if Vec.j4 prev n.name=true then 13 else zK (some n.name) t
def X9 (l:List Nod):Int:=if 32<l.length then 4 else zK none l
theorem jex {p:Option ByteArray} {n:Nod} {t:List Nod} (h:JI n≠0):zK p (n::t)=JI n:=by rw[zK,if_pos h]
theorem jcC {p:Option ByteArray} {n:Nod} {t:List Nod} (h:JI n=0) (b:Vec.j4 p n.name=true):zK p (n::t)=13:=by rw[zK,if_neg (by rw[h];decide),if_pos b]
theorem jde {p:Option ByteArray} {n:Nod} {t:List Nod} (h:JI n=0) (b:Vec.j4 p n.name=false):zK p (n::t)=zK (some n.name) t:=by rw[zK,if_neg (by rw[h];decide),if_neg (by rw[b];decide)]
structure Pd where
 name:ByteArray
 owner:ByteArray
 prio:Int
 need:Vec.V
 labels:PL
 sel:TL
 tols:NL
 key:ByteArray
 most:Int
 node:ByteArray
 hold:Bool
def Pd.zero:Pd:=⟨ByteArray.empty,ByteArray.empty,0,[],[],[],[],ByteArray.empty,0,ByteArray.empty,false⟩
abbrev jt (n:Pd) (v1 v2 v3 v4:Value):Value:=.agg #[.string n.name,.string n.owner,.int .i64 n.prio,v1,v2,v3,v4,.string n.key,.int .i64 n.most,.string n.node,.bool n.hold]
structure jr (w:World) (v1 v2 v3 v4:Value) (n:Pd):Prop where
 name:n.name.size≤maxLen
 owner:n.owner.size≤maxLen
 key:n.key.size≤maxLen
 node:n.node.size≤maxLen
 prio:-9223372036854775808≤n.prio∧n.prio≤9223372036854775807
 most:-9223372036854775808≤n.most∧n.most≤9223372036854775807
 need:Vec.Reads w v1 n.need
 labels:Reads jO w v2 n.labels
 sel:Reads zz w v3 n.sel
 tols:Reads jM w v4 n.tols
theorem jr.kept {w w':World} {v1 v2 v3 v4:Value} {n:Pd} (h:jr w v1 v2 v3 v4 n) (k:Kept w w'):jr w' v1 v2 v3 v4 n:=⟨h.name,h.owner,h.key,h.node,h.prio,h.most,h.need.kept k,h.labels.kept k,h.sel.kept k,h.tols.kept k⟩
def jbf (w:World) (v:Value) (n:Pd):Prop:=∃v1 v2 v3 v4,v=jt n v1 v2 v3 v4∧jr w v1 v2 v3 v4 n
theorem jbf.kept {w w':World} {v:Value} {n:Pd} (h:jbf w v n) (k:Kept w w'):jbf w' v n:=by
 obtain⟨v1,v2,v3,v4,e,h⟩:=h;exact⟨v1,v2,v3,v4,e,h.kept k⟩
def jan (s:ByteArray):Bool:=Ju s||isName s
def jez (x y:ByteArray):Int:=if isName x=true∧jan y=true then 0 else 3
def je5 (p:Int) (b:Bool):Bool:=decide (p < -1)||(decide (1000000<p)||(decide (p=-1) != b))
def jeM (p:Int) (b:Bool):Int:=if je5 p b=true then 1 else 0
def jdE (k:ByteArray) (m:Int):Bool:=if Ju k=true then decide (m≠0) else decide (m<1)||decide (128<m)
def jdP (k:ByteArray) (m:Int):Int:=if jan k=false then 3 else if jdE k m=true then 1 else 0
def jfk (x:ByteArray):Int:=if jan x=true then 0 else 3
def orL:List Int→Int
 | []=>0
 | x::t=>if x≠0 then x else orL t
def jfj (n:Pd):List Int:=[jez n.name n.owner,jeM n.prio n.hold,Vec.jB n.need,jee n.labels,jgH n.sel,jgB n.tols,jdP n.key n.most,jfk n.node]
def jdx (n:Pd):Int:=orL (jfj n)
theorem je4 (b len:Nat) (l:List Int) (w:World) (hl:l.length=len) (hm:len≤1000) (hc:∀(i:Nat) (x:Int),l[i]?=some x→w.cell? ⟨b,i,none⟩=some (.int .i64 x)) :
 Calls Tryz.prog 53 #[.slice (some ⟨b,0,none⟩) len len] w fun e w'=>e=.returned (.int .i64 (orL l))∧w=w':=by
 have HC:=lH hc;have HL:=lH hl;clear hc hl;go_enter Tryz.func53,Tryz.ntmps53;go_wp2;go_loopw [8] (fun i wr=>∃k:Nat,k≤len∧i=.int .i64 k∧orL (l.drop k)=orL l∧w=wr) (fun i _=>len-(intOf i).toNat)
 case atStart=>exact⟨0,Nat.zero_le _,rfl,rfl,rfl⟩
 case round =>
  obtain⟨k,hk,rfl,hrest,rfl⟩:=hrel;have HS:=lH hrest;by_cases hlt:k<len
  · have hkl:k<l.length:=by rw[HL.out];exact hlt
    obtain⟨x,hx⟩:=eX (l[k])
    have hx':l[k]?=some x:=by rw[List.getElem?_eq_getElem hkl,hx]
    have c0:=HC.out k x hx';have HD:=lH (show l.drop k=x::l.drop (k+1) by rw[List.drop_eq_getElem_cons hkl,hx]);clear hrest hx hx' hkl;by_cases z:x=0
    · subst z;have HE:=lH (show orL (l.drop k)=orL (l.drop (k+1)) by rw[HD.out];rfl);go_wp2;go_roundw
      case rel=>exact⟨k+1,by omega,by go_num,HE.out.symm.trans HS.out,trivial⟩
      case measure=>simp[intOf];omega
    · have HE:=lH (show orL l=x by rw[←HS.out,HD.out];show (if x≠0 then x else _)=x;rw[if_pos z]);have z':(x != 0)=true:=by simpa using z
      clear z;go_wp2;go_ret;exact⟨zp HE.out.symm,rfl⟩
  · have HE:=lH (show orL l=0 by rw[←hrest,List.drop_of_length_le (by rw[HL.out];omega)];rfl);clear hrest;go_wp2;go_ret;exact⟨zp HE.out.symm,rfl⟩
theorem jgi:Kind 42 165 3 40:=by
 obtain⟨i,hi,hz,h1,h2⟩:=info_parts (show (Tryz.prog.info? 165).map (fun i=>(i.zero,i.size,i.bytes))=some (some (.agg #[.string ByteArray.empty,.string ByteArray.empty,.bool false]),3,40) by kernel_rfl);exact⟨i,_,Tryz.underlying42,hi,hz,h1,h2,rfl,by decide⟩
theorem jgs:Kind 41 162 3 40:=by
 obtain⟨i,hi,hz,h1,h2⟩:=info_parts (show (Tryz.prog.info? 162).map (fun i=>(i.zero,i.size,i.bytes))=some (some (.agg #[.int .i64 0,.string ByteArray.empty,.string ByteArray.empty]),3,40) by kernel_rfl);exact⟨i,_,Tryz.underlying41,hi,hz,h1,h2,rfl,by decide⟩
theorem jci (a:Option Addr) (len cap:Nat) (l:NL) (w:World) (hr:ji jM w a len l) (hc:len≤cap) (hm:cap≤maxLen) (hn:len≤1000000) :
 Calls Tryz.prog 148 #[.slice a len cap] w fun e w'=>∃a' m' c',e=.returned (.slice a' m' c')∧Reads jM w' (.slice a' m' c') l∧(∀b off sp,a'=some ⟨b,off,sp⟩→w.heap.size≤b)∧Kept w w':=by
 have hl:=hr.1;have q22:∀(w:World) (a:Option Addr) (n c n' c':Nat),(binOp .eql 42 (.slice a n c) (.slice none n' c')).run Tryz.prog w=.ok (.bool a.isNone) w:=fun w a n c n' c'=>Lib.run_eql_slice_nil w _ _ a n c n' c' Tryz.underlying42
 cases a with
 | none =>
  have h0:len=0:=by
   rcases hr.form with h | ⟨b,off,h⟩
   · exact h
   · cases h
  subst h0;have hl0:l=[]:=List.eq_nil_of_length_eq_zero hl;subst hl0;clear hr hl;go_enter Tryz.func148,Tryz.ntmps148;go_wp2;go_ret;exact⟨none,0,0,rfl,Reads.nil _,(fun b o s e=>by cases e),Kept.refl _⟩
 | some ad =>
  have HR:=lH hr;have HL:=lH hl;have hrl:(jb jM l).length=len*3:=by rw[jF,hl];rfl
  have hb1:0+len≤maxLen:=by unfold maxLen;omega
  have hb2:((0+len)+(0+len) / 4+192)*40≤281474976710656:=by omega
  clear hr hl;go_enter Tryz.func148,Tryz.ntmps148;go_wp2_with (at_builtin;refine jW jgi _ rfl (.tmp 5) (.tmp 6) rfl w.heap.size (by simp) w.heap.size 0 0 [] rfl (zQ w w.heap.size 3 _ (Nat.le_refl _)) _ len (jb jM l) rfl hrl (za _ _) (ji.src (HR.out.kept (ja _ _))) hb1 hb2 ?_;intro g1 k1 W1 ho hd hg;have HO:=lH ho;have HD:=lH hd;clear ho hd hg;refine Hid.out ?_)
  refine lH ?_;simp only[Nat.zero_add,List.nil_append] at HO ⊢;go_wp2;go_ret;exact⟨_,_,_,rfl,Own.reads (⟨by rw[HL.out];exact HO.out,HR.out.2.2.1⟩:Own jM 165 W1 w.heap.size (.slice (some ⟨g1,0,none⟩) len k1) l),(fun b o s e=>by cases e;exact(HO.out.lt g1 rfl).1),Below.trans (ja w _) HD.out⟩
theorem X1 (a:Option Addr) (len cap:Nat) (l:TL) (w:World) (hr:ji zz w a len l) (hc:len≤cap) (hm:cap≤maxLen) (hn:len≤1000000) :
 Calls Tryz.prog 147 #[.slice a len cap] w fun e w'=>∃a' m' c',e=.returned (.slice a' m' c')∧Reads zz w' (.slice a' m' c') l∧(∀b off sp,a'=some ⟨b,off,sp⟩→w.heap.size≤b)∧Kept w w':=by
 have hl:=hr.1;have q22:∀(w:World) (a:Option Addr) (n c n' c':Nat),(binOp .eql 41 (.slice a n c) (.slice none n' c')).run Tryz.prog w=.ok (.bool a.isNone) w:=fun w a n c n' c'=>Lib.run_eql_slice_nil w _ _ a n c n' c' Tryz.underlying41
 cases a with
 | none =>
  have h0:len=0:=by
   rcases hr.form with h | ⟨b,off,h⟩
   · exact h
   · cases h
  subst h0;have hl0:l=[]:=List.eq_nil_of_length_eq_zero hl;subst hl0;clear hr hl;go_enter Tryz.func147,Tryz.ntmps147;go_wp2;go_ret;exact⟨none,0,0,rfl,Reads.nil _,(fun b o s e=>by cases e),Kept.refl _⟩
 | some ad =>
  have HR:=lH hr;have HL:=lH hl;have hrl:(jb zz l).length=len*3:=by rw[jF,hl];rfl
  have hb1:0+len≤maxLen:=by unfold maxLen;omega
  have hb2:((0+len)+(0+len) / 4+192)*40≤281474976710656:=by omega
  clear hr hl;go_enter Tryz.func147,Tryz.ntmps147;go_wp2_with (at_builtin;refine jW jgs _ rfl (.tmp 5) (.tmp 6) rfl w.heap.size (by simp) w.heap.size 0 0 [] rfl (zQ w w.heap.size 3 _ (Nat.le_refl _)) _ len (jb zz l) rfl hrl (za _ _) (ji.src (HR.out.kept (ja _ _))) hb1 hb2 ?_;intro g1 k1 W1 ho hd hg;have HO:=lH ho;have HD:=lH hd;clear ho hd hg;refine Hid.out ?_)
  refine lH ?_;simp only[Nat.zero_add,List.nil_append] at HO ⊢;go_wp2;go_ret;exact⟨_,_,_,rfl,Own.reads (⟨by rw[HL.out];exact HO.out,HR.out.2.2.1⟩:Own zz 162 W1 w.heap.size (.slice (some ⟨g1,0,none⟩) len k1) l),(fun b o s e=>by cases e;exact(HO.out.lt g1 rfl).1),Below.trans (ja w _) HD.out⟩
def jm (B:Nat) (a:Option Addr):Prop:=∀b off sp,a=some ⟨b,off,sp⟩→B≤b
theorem jm.less {B B':Nat} {a:Option Addr} (h:jm B a) (hb:B'≤B):jm B' a:=fun b o s e=>Nat.le_trans hb (h b o s e)
theorem jm.none (B:Nat):jm B none:=fun _ _ _ e=>by cases e
def Jp (B:Nat) (w:World) (v:Value) (n:Pd):Prop:=∃b1 n1 d1 b2 n2 d2 b3 n3 d3 b4 n4 d4,v=jt n (.slice b1 n1 d1) (.slice b2 n2 d2) (.slice b3 n3 d3) (.slice b4 n4 d4)∧jr w (.slice b1 n1 d1) (.slice b2 n2 d2) (.slice b3 n3 d3) (.slice b4 n4 d4) n∧jm B b1∧jm B b2∧jm B b3∧jm B b4
theorem Jp.toR {B:Nat} {w:World} {v:Value} {n:Pd} (h:Jp B w v n):jbf w v n:=by
 obtain⟨b1,n1,d1,b2,n2,d2,b3,n3,d3,b4,n4,d4,e,h,_⟩:=h;exact⟨_,_,_,_,e,h⟩
theorem jr.far {B:Nat} {w w':World} {n:Pd} {b1 b2 b3 b4:Option Addr} {n1 d1 n2 d2 n3 d3 n4 d4:Nat} (h:jr w (.slice b1 n1 d1) (.slice b2 n2 d2) (.slice b3 n3 d3) (.slice b4 n4 d4) n) (hs:w'.heap.size=w.heap.size) (hb:∀b,B≤b→w'.heap[b]?=w.heap[b]?) (g1:jm B b1) (g2:jm B b2) (g3:jm B b3) (g4:jm B b4):jr w' (.slice b1 n1 d1) (.slice b2 n2 d2) (.slice b3 n3 d3) (.slice b4 n4 d4) n :=
 ⟨h.name,h.owner,h.key,h.node,h.prio,h.most,h.need.far hs (fun b o s e=>hb b (g1 b o s e)),h.labels.far hs (fun b o s e=>hb b (g2 b o s e)),h.sel.far hs (fun b o s e=>hb b (g3 b o s e)),h.tols.far hs (fun b o s e=>hb b (g4 b o s e))⟩
theorem Jp.far {B:Nat} {w w':World} {v:Value} {n:Pd} (h:Jp B w v n) (hs:w'.heap.size=w.heap.size) (hb:∀b,B≤b→w'.heap[b]?=w.heap[b]?):Jp B w' v n:=by
 obtain⟨b1,n1,d1,b2,n2,d2,b3,n3,d3,b4,n4,d4,e,h,g1,g2,g3,g4⟩:=h;exact⟨b1,n1,d1,b2,n2,d2,b3,n3,d3,b4,n4,d4,e,h.far hs hb g1 g2 g3 g4,g1,g2,g3,g4⟩
theorem Jp.less {B B':Nat} {w:World} {v:Value} {n:Pd} (h:Jp B w v n) (hb:B'≤B):Jp B' w v n:=by
 obtain⟨b1,n1,d1,b2,n2,d2,b3,n3,d3,b4,n4,d4,e,h,g1,g2,g3,g4⟩:=h;exact⟨b1,n1,d1,b2,n2,d2,b3,n3,d3,b4,n4,d4,e,h,g1.less hb,g2.less hb,g3.less hb,g4.less hb⟩
theorem Jp.kept {B:Nat} {w w':World} {v:Value} {n:Pd} (h:Jp B w v n) (k:Kept w w'):Jp B w' v n:=by
 obtain⟨b1,n1,d1,b2,n2,d2,b3,n3,d3,b4,n4,d4,e,h,g1,g2,g3,g4⟩:=h;exact⟨b1,n1,d1,b2,n2,d2,b3,n3,d3,b4,n4,d4,e,h.kept k,g1,g2,g3,g4⟩
theorem jr.spelt {w:World} {v1 v2 v3 v4:Value} {n:Pd} (h:jr w v1 v2 v3 v4 n):∃b1 n1 d1 b2 n2 d2 b3 n3 d3 b4 n4 d4,v1=.slice b1 n1 d1∧v2=.slice b2 n2 d2∧v3=.slice b3 n3 d3∧v4=.slice b4 n4 d4:=by
 obtain⟨a1,c1,e1,_⟩:=h.need;obtain⟨a2,c2,e2,_⟩:=h.labels;obtain⟨a3,c3,e3,_⟩:=h.sel;obtain⟨a4,c4,e4,_⟩:=h.tols;exact⟨_,_,_,_,_,_,_,_,_,_,_,_,e1,e2,e3,e4⟩
structure zM (n:Pd):Prop where
 need:n.need.length≤1000000
 labels:n.labels.length≤1000000
 sel:n.sel.length≤1000000
 tols:n.tols.length≤1000000
def jy (w:World) (a:Option Addr) (len:Nat) (l:List Pd):Prop :=
 l.length=len∧len≤maxLen∧(len=0∨∃b off,a=some ⟨b,off,none⟩∧b<w.heap.size∧∀i n,l[i]?=some n→∃v1 v2 v3 v4,
  w.cell? ⟨b,off+i*11,none⟩=some (.string n.name)∧w.cell? ⟨b,off+i*11+1,none⟩=some (.string n.owner)∧w.cell? ⟨b,off+i*11+2,none⟩=some (.int .i64 n.prio)∧w.cell? ⟨b,off+i*11+3,none⟩=some (v1)∧w.cell? ⟨b,off+i*11+4,none⟩=some (v2)∧w.cell? ⟨b,off+i*11+5,none⟩=some (v3)∧w.cell? ⟨b,off+i*11+6,none⟩=some (v4)∧w.cell? ⟨b,off+i*11+7,none⟩=some (.string n.key)∧w.cell? ⟨b,off+i*11+8,none⟩=some (.int .i64 n.most)∧w.cell? ⟨b,off+i*11+9,none⟩=some (.string n.node)∧w.cell? ⟨b,off+i*11+10,none⟩=some (.bool n.hold)∧jr w v1 v2 v3 v4 n)
theorem jy.kept {w w':World} {a:Option Addr} {len:Nat} {l:List Pd} (h:jy w a len l) (k:Kept w w'):jy w' a len l:=by
 obtain⟨h0,h1,h2⟩:=h;refine⟨h0,h1,h2.imp id ?_⟩;rintro ⟨b,off,rfl,hb,hc⟩;refine⟨b,off,rfl,Nat.lt_of_lt_of_le hb k.size,fun i n hi=>?_⟩;obtain⟨v1,v2,v3,v4,p0,p1,p2,p3,p4,p5,p6,p7,p8,p9,p10,hn⟩:=hc i n hi;exact⟨v1,v2,v3,v4,cell_later k p0,cell_later k p1,cell_later k p2,cell_later k p3,cell_later k p4,cell_later k p5,cell_later k p6,cell_later k p7,cell_later k p8,cell_later k p9,cell_later k p10,hn.kept k⟩
theorem jy.form {w:World} {a:Option Addr} {len:Nat} {l:List Pd} (h:jy w a len l):len=0∨∃b off,a=some ⟨b,off,none⟩:=by
 obtain⟨_,_,h2⟩:=h;exact h2.imp id fun ⟨b,off,e,_⟩=>⟨b,off,e⟩
theorem jy.at_ {w:World} {b off len:Nat} {l:List Pd} {k:Nat} (h:jy w (some ⟨b,off,none⟩) len l) (hk:k<len):∃n a1 m1 c1 a2 m2 c2 a3 m3 c3 a4 m4 c4,l[k]?=some n∧l.drop k=n::l.drop (k+1)∧b<w.heap.size ∧
 w.cell? ⟨b,off+k*11,none⟩=some (.string n.name)∧w.cell? ⟨b,off+k*11+1,none⟩=some (.string n.owner)∧w.cell? ⟨b,off+k*11+2,none⟩=some (.int .i64 n.prio)∧w.cell? ⟨b,off+k*11+3,none⟩=some (.slice a1 m1 c1)∧w.cell? ⟨b,off+k*11+4,none⟩=some (.slice a2 m2 c2)∧w.cell? ⟨b,off+k*11+5,none⟩=some (.slice a3 m3 c3)∧w.cell? ⟨b,off+k*11+6,none⟩=some (.slice a4 m4 c4)∧w.cell? ⟨b,off+k*11+7,none⟩=some (.string n.key)∧w.cell? ⟨b,off+k*11+8,none⟩=some (.int .i64 n.most)∧w.cell? ⟨b,off+k*11+9,none⟩=some (.string n.node)∧w.cell? ⟨b,off+k*11+10,none⟩=some (.bool n.hold)∧jr w (.slice a1 m1 c1) (.slice a2 m2 c2) (.slice a3 m3 c3) (.slice a4 m4 c4) n:=by
 obtain⟨h0,_,h3⟩:=h;have hkl:k<l.length:=by omega
 rcases h3 with h3 | ⟨b',off',e,hb,hc⟩
 · omega
 · injection e with e;injection e with e1 e2 e3;subst e1;subst e2;have he:l[k]?=some l[k]:=List.getElem?_eq_getElem hkl;obtain⟨v1,v2,v3,v4,r⟩:=hc k _ he;obtain⟨a1,m1,c1,a2,m2,c2,a3,m3,c3,a4,m4,c4,rfl,rfl,rfl,rfl⟩:=jr.spelt r.2.2.2.2.2.2.2.2.2.2.2;exact⟨l[k],a1,m1,c1,a2,m2,c2,a3,m3,c3,a4,m4,c4,he,List.drop_eq_getElem_cons hkl,hb,r⟩
def Jn (w:World) (v:Value) (l:List Pd):Prop:=∃a cap,v=.slice a l.length cap∧l.length≤cap∧cap≤maxLen∧jy w a l.length l
theorem Jn.kept {w w':World} {v:Value} {l:List Pd} (h:Jn w v l) (k:Kept w w'):Jn w' v l:=by
 obtain⟨a,cap,e,h1,h2,h3⟩:=h;exact⟨a,cap,e,h1,h2,h3.kept k⟩
def J5 (l:List Pd) (x:ByteArray):Option Pd:=l.find? fun n=>eqS n.name x
def jaT:Option ByteArray→List Pd→Int
 | _,[]=>0
 | prev,n::t=>if jdx n≠0 then jdx n else if Vec.j4 prev n.name=true then 13 else jaT (some n.name) t
def jeS (l:List Pd):Int:=if 128<l.length then 4 else jaT none l
structure Bd where
 name:ByteArray
 sel:TL
 floor:Int
def Bd.zero:Bd:=⟨ByteArray.empty,[],0⟩
abbrev jaD (n:Bd) (v1:Value):Value:=.agg #[.string n.name,v1,.int .i64 n.floor]
structure zj (w:World) (v1:Value) (n:Bd):Prop where
 name:n.name.size≤maxLen
 floor:-9223372036854775808≤n.floor∧n.floor≤9223372036854775807
 sel:Reads zz w v1 n.sel
theorem zj.kept {w w':World} {v1:Value} {n:Bd} (h:zj w v1 n) (k:Kept w w'):zj w' v1 n:=⟨h.name,h.floor,h.sel.kept k⟩
def jca (w:World) (v:Value) (n:Bd):Prop:=∃v1,v=jaD n v1∧zj w v1 n
theorem jca.kept {w w':World} {v:Value} {n:Bd} (h:jca w v n) (k:Kept w w'):jca w' v n:=by
 obtain⟨v1,e,h⟩:=h;exact⟨v1,e,h.kept k⟩
def Jm (B:Nat) (w:World) (v:Value) (n:Bd):Prop:=∃b1 n1 d1,v=jaD n (.slice b1 n1 d1)∧zj w (.slice b1 n1 d1) n∧jm B b1
theorem Jm.toR {B:Nat} {w:World} {v:Value} {n:Bd} (h:Jm B w v n):jca w v n:=by
 obtain⟨b1,n1,d1,e,h,-⟩:=h;exact⟨_,e,h⟩
theorem zj.far {B:Nat} {w w':World} {n:Bd} {b1:Option Addr} {n1 d1:Nat} (h:zj w (.slice b1 n1 d1) n) (hs:w'.heap.size=w.heap.size) (hb:∀b,B≤b→w'.heap[b]?=w.heap[b]?) (g1:jm B b1):zj w' (.slice b1 n1 d1) n :=
 ⟨h.name,h.floor,h.sel.far hs (fun b o s e=>hb b (g1 b o s e))⟩
theorem Jm.far {B:Nat} {w w':World} {v:Value} {n:Bd} (h:Jm B w v n) (hs:w'.heap.size=w.heap.size) (hb:∀b,B≤b→w'.heap[b]?=w.heap[b]?):Jm B w' v n:=by
 obtain⟨b1,n1,d1,e,h,g1⟩:=h;exact⟨b1,n1,d1,e,h.far hs hb g1,g1⟩
theorem Jm.less {B B':Nat} {w:World} {v:Value} {n:Bd} (h:Jm B w v n) (hb:B'≤B):Jm B' w v n:=by
 obtain⟨b1,n1,d1,e,h,g1⟩:=h;exact⟨b1,n1,d1,e,h,g1.less hb⟩
theorem Jm.kept {B:Nat} {w w':World} {v:Value} {n:Bd} (h:Jm B w v n) (k:Kept w w'):Jm B w' v n:=by
 obtain⟨b1,n1,d1,e,h,g1⟩:=h;exact⟨b1,n1,d1,e,h.kept k,g1⟩
theorem zj.spelt {w:World} {v1:Value} {n:Bd} (h:zj w v1 n):∃b1 n1 d1,v1=.slice b1 n1 d1:=by
 obtain⟨a,c,e,-⟩:=h.sel;exact⟨_,_,_,e⟩
def zC (w:World) (a:Option Addr) (len:Nat) (l:List Bd):Prop :=
 l.length=len∧len≤maxLen∧(len=0∨∃b off,a=some ⟨b,off,none⟩∧b<w.heap.size∧∀i n,l[i]?=some n→∃v1,
  w.cell? ⟨b,off+i*3,none⟩=some (.string n.name)∧w.cell? ⟨b,off+i*3+1,none⟩=some (v1)∧w.cell? ⟨b,off+i*3+2,none⟩=some (.int .i64 n.floor)∧zj w v1 n)
theorem zC.kept {w w':World} {a:Option Addr} {len:Nat} {l:List Bd} (h:zC w a len l) (k:Kept w w'):zC w' a len l:=by
 obtain⟨h0,h1,h2⟩:=h;refine⟨h0,h1,h2.imp id ?_⟩;rintro ⟨b,off,rfl,hb,hc⟩;refine⟨b,off,rfl,Nat.lt_of_lt_of_le hb k.size,fun i n hi=>?_⟩;obtain⟨v1,p0,p1,p2,hn⟩:=hc i n hi;exact⟨v1,cell_later k p0,cell_later k p1,cell_later k p2,hn.kept k⟩
theorem zC.form {w:World} {a:Option Addr} {len:Nat} {l:List Bd} (h:zC w a len l):len=0∨∃b off,a=some ⟨b,off,none⟩:=by
 obtain⟨_,_,h2⟩:=h;exact h2.imp id fun ⟨b,off,e,_⟩=>⟨b,off,e⟩
theorem zC.at_ {w:World} {b off len:Nat} {l:List Bd} {k:Nat} (h:zC w (some ⟨b,off,none⟩) len l) (hk:k<len):∃n a1 m1 c1,l[k]?=some n∧l.drop k=n::l.drop (k+1)∧b<w.heap.size ∧
 w.cell? ⟨b,off+k*3,none⟩=some (.string n.name)∧w.cell? ⟨b,off+k*3+1,none⟩=some (.slice a1 m1 c1)∧w.cell? ⟨b,off+k*3+2,none⟩=some (.int .i64 n.floor)∧zj w (.slice a1 m1 c1) n:=by
 obtain⟨h0,_,h3⟩:=h;have hkl:k<l.length:=by omega
 rcases h3 with h3 | ⟨b',off',e,hb,hc⟩
 · omega
 · injection e with e;injection e with e1 e2 e3;subst e1;subst e2;have he:l[k]?=some l[k]:=List.getElem?_eq_getElem hkl;obtain⟨v1,r⟩:=hc k _ he;obtain⟨a1,m1,c1,rfl⟩:=zj.spelt r.2.2.2;exact⟨l[k],a1,m1,c1,he,List.drop_eq_getElem_cons hkl,hb,r⟩
def Zk (w:World) (v:Value) (l:List Bd):Prop:=∃a cap,v=.slice a l.length cap∧l.length≤cap∧cap≤maxLen∧zC w a l.length l
theorem Zk.kept {w w':World} {v:Value} {l:List Bd} (h:Zk w v l) (k:Kept w w'):Zk w' v l:=by
 obtain⟨a,cap,e,h1,h2,h3⟩:=h;exact⟨a,cap,e,h1,h2,h3.kept k⟩
structure Clu where
 nodes:List Nod
 pods:List Pd
 buds:List Bd
abbrev zx (v1 v2 v3:Value):Value:=.agg #[v1,v2,v3]
structure jad (w:World) (v1 v2 v3:Value) (s:Clu):Prop where
 nodes:JN w v1 s.nodes
 pods:Jn w v2 s.pods
 buds:Zk w v3 s.buds
theorem jad.kept {w w':World} {v1 v2 v3:Value} {s:Clu} (h:jad w v1 v2 v3 s) (k:Kept w w'):jad w' v1 v2 v3 s:=⟨h.nodes.kept k,h.pods.kept k,h.buds.kept k⟩
def jJ (w:World) (v:Value) (s:Clu):Prop:=∃v1 v2 v3,v=zx v1 v2 v3∧jad w v1 v2 v3 s
theorem jJ.kept {w w':World} {v:Value} {s:Clu} (h:jJ w v s) (k:Kept w w'):jJ w' v s:=by
 obtain⟨v1,v2,v3,e,h⟩:=h;exact⟨v1,v2,v3,e,h.kept k⟩
structure jv (s:Clu):Prop where
 nodes:∀n ∈ s.nodes,zH n
 pods:∀n ∈ s.pods,zM n
 buds:∀n ∈ s.buds,n.sel.length≤1000000
 nodesN:s.nodes.length≤100000
 podsN:s.pods.length≤100000
 budsN:s.buds.length≤100000
def ju (x:ByteArray):List Pd→Vec.V→Int×Vec.V
 | [],v=>(0,v)
 | p::t,v=>if eqS p.node x=true then (if (Vec.jf Vec.jE v p.need).1=0 then ju x t (Vec.jf Vec.jE v p.need).2 else ((Vec.jf Vec.jE v p.need).1,[])) else ju x t v
theorem qk {x:ByteArray} {p:Pd} {t:List Pd} {v:Vec.V} (h:eqS p.node x=false):ju x (p::t) v=ju x t v:=by
 rw[ju,if_neg (by rw[h];decide)]
theorem Yw {x:ByteArray} {p:Pd} {t:List Pd} {v m:Vec.V} (h:eqS p.node x=true) (g:Vec.jf Vec.jE v p.need=(0,m)):ju x (p::t) v=ju x t m:=by
 rw[ju,if_pos h,g,if_pos rfl]
theorem jet {x:ByteArray} {p:Pd} {t:List Pd} {v m:Vec.V} {c:Int} (h:eqS p.node x=true) (g:Vec.jf Vec.jE v p.need=(c,m)) (hc:c≠0):ju x (p::t) v=(c,[]):=by
 rw[ju,if_pos h,g,if_neg hc]
theorem YS {x:ByteArray}:∀{l:List Pd} {v:Vec.V},(ju x l v).1≠0→(ju x l v).2=[]
 | [],v,h=>absurd rfl h
 | p::t,v,h=>by
  rw[ju] at h ⊢;split at h
  · rename_i h1;rw[if_pos h1];split at h
    · rename_i h2;rw[if_pos h2];exact YS h
    · rename_i h2;rw[if_neg h2]
  · rename_i h1;rw[if_neg h1];exact YS h
def jf7:List Nod→Vec.V→Int×Vec.V
 | [],v=>(0,v)
 | n::t,v=>if (Vec.jf Vec.jE v n.cap).1=0 then jf7 t (Vec.jf Vec.jE v n.cap).2 else ((Vec.jf Vec.jE v n.cap).1,[])
def Zq (s:Clu) (x:ByteArray):Int×Vec.V:=match jk s.nodes x with | none=>(3,[]) | some n=>ju n.name s.pods []
def ZA (s:Clu) (x:ByteArray):Int×Vec.V:=match jk s.nodes x with | none=>(3,[]) | some n=>if (ju n.name s.pods []).1=0 then Vec.jf Vec.jS n.cap (ju n.name s.pods []).2 else ((ju n.name s.pods []).1,[])
def qv (nodes:List Nod):List Pd→Int
 | []=>0
 | p::t=>if Ju p.node=false∧(jk nodes p.node).isSome=false then 3 else qv nodes t
def ja3 (pods:List Pd):List Nod→Int
 | []=>0
 | n::t=>if (ju n.name pods []).1=0 then (if Vec.jR n.cap (ju n.name pods []).2=true then ja3 pods t else 7) else (ju n.name pods []).1
def onP (x:ByteArray) (l:List Pd):List Pd:=if Ju x=true then [] else l.filter fun p=>eqS p.node x
def jV (x:ByteArray):List Pd→List Pd
 | []=>[]
 | p::t=>if eqS p.name x=true then t else p::jV x t
def zZ (p:Pd):List Pd→List Pd
 | []=>[p]
 | q::t=>if ltS p.name q.name=true then p::q::t else q::zZ p t
def j5 (s:Clu) (x:ByteArray):Clu:={ s with pods:=jV x s.pods }
def Yt (s:Clu) (p:Pd):Clu:={ s with pods:=zZ p (jV p.name s.pods) }
def JW (p q:Pd):Bool:=!Ju p.owner&&(eqS q.owner p.owner&&(!q.hold&&!eqS q.name p.name))
def onN (p:Pd) (x:ByteArray):List Pd→Nat
 | []=>0
 | q::t=>(if JW p q=true∧q.node=x then 1 else 0)+onN p x t
theorem XZ (p:Pd) (x:ByteArray):∀l:List Pd,onN p x l≤l.length
 | []=>Nat.zero_le _
 | q::t=>by
  have:=XZ p x t;unfold onN;simp only[List.length_cons];split<;>omega
def inD (p:Pd) (pods:List Pd) (d:ByteArray):List Nod→Nat
 | []=>0
 | n::t=>(if j6 n.labels p.key=some d then onN p n.name pods else 0)+inD p pods d t
theorem ja6 (p:Pd) (pods:List Pd) (d:ByteArray):∀l:List Nod,inD p pods d l≤l.length*pods.length
 | []=>Nat.zero_le _
 | n::t=>by
  have h1:=ja6 p pods d t;have h2:=XZ p n.name pods;unfold inD;simp only[List.length_cons,Nat.add_mul];split<;>omega
def Jh (k d:ByteArray) (l:List Nod):Bool:=l.any fun n=>decide (j6 n.labels k=some d)
theorem qf (p:Pd) (x:ByteArray):∀(a b:List Pd),onN p x (a++b)=onN p x a+onN p x b
 | [],b=>by simp[onN]
 | q::t,b=>by
  have:=qf p x t b;simp only[List.cons_append,onN,this];omega
theorem qc (p:Pd) (pods:List Pd) (d:ByteArray):∀(a b:List Nod),inD p pods d (a++b)=inD p pods d a+inD p pods d b
 | [],b=>by simp[inD]
 | q::t,b=>by
  have:=qc p pods d t b;simp only[List.cons_append,inD,this];omega
def domV (key name:ByteArray):List Nod→Option ByteArray
 | []=>none
 | n::t=>if eqS n.name name=true then j6 n.labels key else domV key name t
def Zh (p:Pd) (pods:List Pd) (nodes:List Nod) (d:ByteArray):List Nod→Nat→Nat
 | [],m=>m
 | n::t,m=>Zh p pods nodes d t (match j6 n.labels p.key with
  | none=>m
  | some e=>min m (inD p pods e nodes+(if e=d then 1 else 0)))
def J7 (p:Pd) (s:Clu) (d:ByteArray):Int:=((inD p s.pods d s.nodes+1:Nat):Int)-(Zh p s.pods s.nodes d s.nodes (inD p s.pods d s.nodes+1):Int)
def zX (p:Pd) (s:Clu) (name:ByteArray):Int×Bool :=
 if Ju p.key=true then (0,true) else match domV p.key name s.nodes with
  | none=>(0,false)
  | some d=>(J7 p s d,true)
theorem ZW (p:Pd) (pods:List Pd) (nodes:List Nod) (d:ByteArray):∀(l:List Nod) (m:Nat),
 Zh p pods nodes d l m≤m∧(∀n ∈ l,∀e,j6 n.labels p.key=some e→Zh p pods nodes d l m≤inD p pods e nodes+(if e=d then 1 else 0)) ∧
 (Zh p pods nodes d l m=m∨∃n ∈ l,∃e,j6 n.labels p.key=some e∧Zh p pods nodes d l m=inD p pods e nodes+(if e=d then 1 else 0))
 | [],m=>⟨Nat.le_refl _,fun n h=>absurd h (by simp),.inl rfl⟩
 | n::t,m=>by
  rw[Zh]
  cases h:j6 n.labels p.key with
  | none =>
   dsimp only;obtain⟨h1,h2,h3⟩:=ZW p pods nodes d t m;refine⟨h1,fun x hx e he=>?_,h3.imp id fun ⟨x,hx,e,he⟩=>⟨x,by simp[hx],e,he⟩⟩;rcases List.mem_cons.1 hx with rfl | hx
   · rw[h] at he;cases he
   · exact h2 x hx e he
  | some c =>
   dsimp only;obtain⟨h1,h2,h3⟩:=ZW p pods nodes d t (min m (inD p pods c nodes+(if c=d then 1 else 0)));refine⟨Nat.le_trans h1 (Nat.min_le_left _ _),fun x hx e he=>?_,?_⟩
   · rcases List.mem_cons.1 hx with rfl | hx
     · rw[h] at he;cases he;exact Nat.le_trans h1 (Nat.min_le_right _ _)
     · exact h2 x hx e he
   · rcases h3 with h3 | ⟨x,hx,e,he,h3⟩
     · by_cases g:m≤inD p pods c nodes+(if c=d then 1 else 0)
       · exact .inl (by rw[h3,Nat.min_eq_left g])
       · exact .inr ⟨n,by simp,c,h,by rw[h3,Nat.min_eq_right (by omega)]⟩
     · exact .inr ⟨x,by simp[hx],e,he,h3⟩
theorem jdk {p:Pd} {pods:List Pd} {nodes:List Nod} {d:ByteArray} {m z:Nat} (hd:Jh p.key d nodes=true) (hm:m=inD p pods d nodes+1)
 (h1:∀e,Jh p.key e nodes=true→z≤inD p pods e nodes+(if e=d then 1 else 0)) (h2:∃e,Jh p.key e nodes=true∧z=inD p pods e nodes+(if e=d then 1 else 0)):Zh p pods nodes d nodes m=z:=by
 have has:∀{n:Nod} {e:ByteArray},n ∈ nodes→j6 n.labels p.key=some e→Jh p.key e nodes=true:=fun {n e} hn he=>by
  unfold Jh;rw[List.any_eq_true];exact⟨n,hn,by simpa using he⟩
 have un:∀{e:ByteArray},Jh p.key e nodes=true→∃n ∈ nodes,j6 n.labels p.key=some e:=fun {e} h=>by
  unfold Jh at h;rw[List.any_eq_true] at h;obtain⟨n,hn,he⟩:=h;exact⟨n,hn,by simpa using he⟩
 obtain⟨g1,g2,g3⟩:=ZW p pods nodes d nodes m;obtain⟨e,he,hz⟩:=h2;obtain⟨n,hn,hne⟩:=un he;have a:=g2 n hn e hne;rcases g3 with g3 | ⟨x,hx,c,hc,g3⟩
 · have b:=h1 d hd;rw[if_pos rfl] at b;omega
 · have b:=h1 c (has hx hc);omega
theorem Xs {key name d:ByteArray}:∀{l:List Nod},domV key name l=some d→Jh key d l=true
 | n::t,h=>by
  rw[domV] at h;unfold Jh;rw[List.any_cons];split at h
  · rw[h];simp
  · have:=Xs h;unfold Jh at this;rw[this,Bool.or_true]
def Jk (s:Clu) (p:Pd) (x:ByteArray):Bool:=if Ju p.key=true then false else (!(zX p s x).2||decide (p.most<(zX p s x).1))
def zT (p:Pd) (n:Nod):Bool:=!n.cordon&&Jd p.sel n.labels
def JH (p:Pd) (n:Nod):Bool:=!(j8 p.tols n.taints).isSome
def ZO (s:Clu) (p:Pd) (x:ByteArray):Bool:=decide ((ZA s x).1=0)&&Vec.jR (ZA s x).2 p.need
def zc (s:Clu) (p:Pd) (n:Nod) (x:ByteArray):Int:=if zT p n=false then 8 else if JH p n=false then 9 else if Jk s p x=true then 10 else if ZO s p x=false then 7 else 0
def jZ (s:Clu) (p:Pd) (x:ByteArray):Int:=match jk s.nodes x with
 | none=>3
 | some n=>zc s p n x
def Zv (s:Clu) (p:Pd) (x:ByteArray):Int:=jZ (j5 s p.name) p x
def Zt (s:Clu) (p:Pd) (l:List Nod):List Int:=l.map fun n=>Zv s p n.name
def zy (s:Clu) (p:Pd) (l:List Nod):List ByteArray:=(l.filter fun n=>decide (Zv s p n.name=0)).map fun n=>n.name
theorem jbk {s:Clu} {p:Pd} {x:ByteArray} (h:jk s.nodes x=none):jZ s p x=3:=by unfold jZ;rw[h]
theorem Xa {s:Clu} {p:Pd} {x:ByteArray} {n:Nod} (h:jk s.nodes x=some n):jZ s p x=zc s p n x:=by unfold jZ;rw[h]
theorem jbB {s:Clu} {p:Pd} {n:Nod} {x:ByteArray} (h:zT p n=false):zc s p n x=8:=by unfold zc;rw[if_pos h]
theorem jab {s:Clu} {p:Pd} {n:Nod} {x:ByteArray} (h:zT p n=true) (h2:JH p n=false):zc s p n x=9:=by unfold zc;rw[if_neg (by rw[h];decide),if_pos h2]
theorem jaY {s:Clu} {p:Pd} {n:Nod} {x:ByteArray} (h:zT p n=true) (h2:JH p n=true) (h3:Jk s p x=true):zc s p n x=10:=by unfold zc;rw[if_neg (by rw[h];decide),if_neg (by rw[h2];decide),if_pos h3]
theorem jaV {s:Clu} {p:Pd} {n:Nod} {x:ByteArray} (h:zT p n=true) (h2:JH p n=true) (h3:Jk s p x=false) (h4:ZO s p x=false):zc s p n x=7:=by unfold zc;rw[if_neg (by rw[h];decide),if_neg (by rw[h2];decide),if_neg (by rw[h3];decide),if_pos h4]
theorem XF {s:Clu} {p:Pd} {n:Nod} {x:ByteArray} (h:zT p n=true) (h2:JH p n=true) (h3:Jk s p x=false) (h4:ZO s p x=true):zc s p n x=0:=by unfold zc;rw[if_neg (by rw[h];decide),if_neg (by rw[h2];decide),if_neg (by rw[h3];decide),if_neg (by rw[h4];decide)]
theorem jcr (s:Clu) (p:Pd) (n:Nod) (x:ByteArray):0≤zc s p n x∧zc s p n x≤10:=by
 unfold zc;split
 · decide
 · split
   · decide
   · split
     · decide
     · split<;>decide
theorem jdw (s:Clu) (p:Pd) (x:ByteArray):0≤jZ s p x∧jZ s p x≤10:=by
 unfold jZ;split
 · decide
 · exact jcr _ _ _ _
theorem jdI {l:List Nod} {x:ByteArray} {n:Nod} (h:jk l x=some n):n ∈ l∧n.name=x:=by
 unfold jk at h;have h2:eqS n.name x=true:=List.find?_some (p:=fun n:Nod=>eqS n.name x) h;exact⟨List.mem_of_find?_eq_some h,jL.1 h2⟩
theorem jds {s:Clu} {p:Pd} {l:List Nod} {k:Nat} {n:Nod} (h:l[k]?=some n):Zt s p (l.take (k+1))=Zt s p (l.take k)++[Zv s p n.name]:=by
 unfold Zt;rw[List.take_add_one,h,List.map_append];rfl
theorem Xw (s:Clu) (p:Pd) (l:List Nod):(Zt s p l).length=l.length:=by unfold Zt;rw[List.length_map]
theorem jeR {s:Clu} {p:Pd} {l:List Nod} {k:Nat} {n:Nod} (h:l[k]?=some n):(Zt s p l)[k]?=some (Zv s p n.name):=by unfold Zt;rw[List.getElem?_map,h];rfl
theorem jcD {s:Clu} {p:Pd} {l:List Nod} {k:Nat} {n:Nod} (h:l[k]?=some n):zy s p (l.take (k+1))=zy s p (l.take k)++(if Zv s p n.name=0 then [n.name] else []):=by
 unfold zy;rw[List.take_add_one,h,List.filter_append,List.map_append];by_cases hb:Zv s p n.name=0
 · rw[if_pos hb];simp[hb]
 · rw[if_neg hb];simp[hb]
theorem YG (s:Clu) (p:Pd) (l:List Nod):(zy s p l).length≤l.length:=by
 unfold zy;rw[List.length_map];exact List.length_filter_le _ _
open Ieee
abbrev BIN:Nat:=4503599627370496
abbrev INF:Nat:=9218868437227405312
abbrev SGN:Nat:=9223372036854775808
def rung (x:Nat):Nat:=x % SGN
def sgn (x:Nat):Bool:=x / SGN % 2==1
def isNaN (x:Nat):Bool:=decide (INF<rung x)
def fmg (r:Nat):Nat:=if r<BIN then r else BIN+r % BIN
def ex (r:Nat):Nat:=if r<BIN then 0 else r / BIN-1
def val (r:Nat):Nat:=fmg r*2 ^ ex r
def jh (x:Nat):Int:=if sgn x then -(rung x:Int) else rung x
def Yj (x:Nat):Int:=if sgn x then -(val (rung x):Int) else val (rung x)
def Je (a b:Int):Ordering:=if a<b then .lt else if a=b then .eq else .gt
theorem XH {r s:Nat} (h:r<s):val r<val s:=by
 have hB:(0:Nat)<BIN:=by decide
 by_cases h1:s<BIN
 · have h2:r<BIN:=Nat.lt_trans h h1;simp only[val,fmg,ex,h1,h2,if_true];simpa using h
 · have pos:∀k:Nat,0<2 ^ k:=fun k=>Nat.two_pow_pos k;have hs:BIN≤s:=Nat.not_lt.1 h1;by_cases h2:r<BIN
   · simp only[val,fmg,ex,h1,h2,if_true,if_false];have:=Nat.mul_le_mul_left (BIN+s % BIN) (pos (s / BIN-1));simp only[Nat.pow_zero,Nat.mul_one];omega
   · have hr:BIN≤r:=Nat.not_lt.1 h2;simp only[val,fmg,ex,h1,h2,if_false];have e1:r / BIN≤s / BIN:=Nat.div_le_div_right (Nat.le_of_lt h);have r1:1≤r / BIN:=(Nat.one_le_div_iff hB).2 hr;rcases Nat.lt_or_eq_of_le e1 with e2 | e2
     · obtain⟨k,hk⟩:∃k,s / BIN-1=(r / BIN-1)+1+k:=⟨s / BIN-r / BIN-1,by omega⟩
       rw[hk,Nat.pow_add,Nat.pow_succ];have m1:r % BIN<BIN:=Nat.mod_lt _ hB;have p1:=pos (r / BIN-1);have p2:=pos k
       calc (BIN+r % BIN)*2 ^ (r / BIN-1)<(2*BIN)*2 ^ (r / BIN-1):=Nat.mul_lt_mul_of_pos_right (by omega) p1
        _=BIN*(2 ^ (r / BIN-1)*2):=by rw[Nat.mul_comm 2 BIN,Nat.mul_assoc,Nat.mul_comm 2]
        _≤(BIN+s % BIN)*(2 ^ (r / BIN-1)*2):=Nat.mul_le_mul_right _ (by omega)
        _≤(BIN+s % BIN)*(2 ^ (r / BIN-1)*2*2 ^ k):=Nat.mul_le_mul_left _ (Nat.le_mul_of_pos_right _ p2)
     · rw[e2];refine Nat.mul_lt_mul_of_pos_right ?_ (pos _);have d1:=Nat.div_add_mod r BIN;have d2:=Nat.div_add_mod s BIN;rw[e2] at d1;omega
theorem Zn {r s:Nat}:val r<val s↔r<s:=by
 refine⟨fun h=>?_,XH⟩;rcases Nat.lt_trichotomy r s with g | g | g
 · exact g
 · subst g;exact absurd h (Nat.lt_irrefl _)
 · exact absurd (XH g) (Nat.lt_asymm h)
theorem Z8 {r s:Nat}:val r=val s↔r=s:=by
 refine⟨fun h=>?_,fun h=>by rw[h]⟩;rcases Nat.lt_trichotomy r s with g | g | g
 · have:=XH g;omega
 · exact g
 · have:=XH g;omega
theorem val_zero:val 0=0:=by simp[val,fmg,ex]
theorem jeA (x y:Nat):Je (Yj x) (Yj y)=Je (jh x) (jh y):=by
 have key:(Yj x<Yj y↔jh x<jh y)∧(Yj x=Yj y↔jh x=jh y):=by
  unfold Yj jh;have a:=@Zn (rung x) (rung y);have b:=@Zn (rung y) (rung x);have c:=@Z8 (rung x) (rung y);have d:=@Zn 0 (rung x);have e:=@Zn 0 (rung y);have f:=@Z8 0 (rung x);have g:=@Z8 0 (rung y);rw[val_zero] at d e f g
  cases sgn x<;>cases sgn y<;>simp<;>omega
 unfold Je;simp only[key.1,key.2]
theorem jb4:double.binade=BIN:=by decide +kernel
theorem XC:double.infRung=INF:=by decide +kernel
theorem Y4:double.signWeight=SGN:=by decide +kernel
theorem qj:double.leastPlace=-1074:=by decide +kernel
theorem Yp {x:Nat} (h:rung x<INF):double.read x=.number (sgn x) (fmg (rung x)) (-1074+(ex (rung x):Int)):=by
 unfold Format.read;simp only[jb4,XC,Y4,qj];have e:x % SGN=rung x:=rfl;by_cases h1:rung x<BIN
 · simp[e,h1,fmg,ex,sgn]
 · simp[e,h1,h,fmg,ex,sgn]
theorem Yq {x:Nat} (h:rung x=INF):double.read x=.infinity (sgn x):=by
 unfold Format.read;simp only[jb4,XC,Y4,qj];have e:x % SGN=rung x:=rfl;rw[e,h];rw[if_neg (by decide),if_neg (by decide),if_pos rfl];rfl
theorem Yg {x:Nat} (h:INF<rung x):double.read x=.nan (sgn x) (rung x-INF):=by
 unfold Format.read;simp only[jb4,XC,Y4,qj];have e:x % SGN=rung x:=rfl
 have h1:¬rung x<BIN:=by have:BIN<INF:=by decide
                         omega
 have h2:¬rung x<INF:=by omega
 have h3:¬rung x=INF:=by omega
 simp[e,h1,h2,h3,sgn]
theorem jda (s:Bool) (m u:Nat):signed s m u=if s then -((m*2 ^ u:Nat):Int) else ((m*2 ^ u:Nat):Int):=by
 unfold signed;simp only[Nat.shiftLeft_eq]
theorem jd6 (a b:Int) (k:Int) (hk:0<k):Je (a*k) (b*k)=Je a b:=by
 have h1:a*k<b*k↔a<b:=Int.mul_lt_mul_right hk;have h2:a*k=b*k↔a=b:=by
  refine⟨fun h=>Int.eq_of_mul_eq_mul_right (by omega) h,fun h=>by rw[h]⟩
 unfold Je;simp only[h1,h2]
theorem jap (a b:Int):compare a b=Je a b:=rfl
theorem jc0 {x y:Nat} (hx:rung x<INF) (hy:rung y<INF):double.order x y=some (Je (jh x) (jh y)):=by
 unfold Format.order;rw[Yp hx,Yp hy];simp only[Datum.order,Option.some.injEq];rw[jap,←jeA];have e1:(-1074+(ex (rung x):Int)-min (-1074+(ex (rung x):Int)) (-1074+(ex (rung y):Int))).toNat=ex (rung x)-min (ex (rung x)) (ex (rung y)):=by omega
 have e2:(-1074+(ex (rung y):Int)-min (-1074+(ex (rung x):Int)) (-1074+(ex (rung y):Int))).toNat=ex (rung y)-min (ex (rung x)) (ex (rung y)):=by omega
 rw[e1,e2,←jd6 _ _ ((2 ^ min (ex (rung x)) (ex (rung y)):Nat):Int) (by have:=Nat.two_pow_pos (min (ex (rung x)) (ex (rung y)));omega)];have f:∀z:Nat,min (ex (rung x)) (ex (rung y))≤ex (rung z)→signed (sgn z) (fmg (rung z)) (ex (rung z)-min (ex (rung x)) (ex (rung y)))*((2 ^ min (ex (rung x)) (ex (rung y)):Nat):Int)=Yj z:=by
  intro z hz;rw[jda];have:fmg (rung z)*2 ^ (ex (rung z)-min (ex (rung x)) (ex (rung y)))*2 ^ min (ex (rung x)) (ex (rung y))=val (rung z):=by
   rw[Nat.mul_assoc,←Nat.pow_add,Nat.sub_add_cancel hz];rfl
  unfold Yj
  cases sgn z
  · simp only[Bool.false_eq_true,if_false];rw[←Int.natCast_mul,this]
  · simp only[if_true];rw[Int.neg_mul,←Int.natCast_mul,this]
 rw[f x (Nat.min_le_left _ _),f y (Nat.min_le_right _ _)]
theorem jbJ {a b:Int} (h:a<b):Je a b=.lt:=by unfold Je;rw[if_pos h]
theorem jbQ {a b:Int} (h:b<a):Je a b=.gt:=by unfold Je;rw[if_neg (by omega),if_neg (by omega)]
theorem jar {x:Nat} (h:rung x<INF):jh x<(INF:Int)∧-(INF:Int)<jh x:=by
 unfold jh;split<;>omega
theorem jeg (x y:Nat):double.order x y=if isNaN x||isNaN y then none else some (Je (jh x) (jh y)):=by
 unfold isNaN;rcases Nat.lt_trichotomy (rung x) INF with hx | hx | hx
 · rcases Nat.lt_trichotomy (rung y) INF with hy | hy | hy
   · rw[jc0 hx hy,if_neg];simp only[Bool.or_eq_true,decide_eq_true_eq];omega
   · have hs:=jar hx;unfold Format.order;rw[Yp hx,Yq hy,if_neg (by simp only[Bool.or_eq_true,decide_eq_true_eq];omega)];simp only[Datum.order,Option.some.injEq];have:jh y=if sgn y then -(INF:Int) else INF:=by unfold jh;rw[hy]
     rw[this];clear this
     cases sgn y
     · simp only[Bool.false_eq_true,if_false];rw[jbJ (by omega)]
     · simp only[if_true];rw[jbQ (by omega)]
   · unfold Format.order;rw[Yg hy,if_pos (by simp only[Bool.or_eq_true,decide_eq_true_eq];omega)]
     cases double.read x<;>rfl
 · rcases Nat.lt_trichotomy (rung y) INF with hy | hy | hy
   · have hs:=jar hy;unfold Format.order;rw[Yp hy,Yq hx,if_neg (by simp only[Bool.or_eq_true,decide_eq_true_eq];omega)];simp only[Datum.order,Option.some.injEq];have:jh x=if sgn x then -(INF:Int) else INF:=by unfold jh;rw[hx]
     rw[this];clear this
     cases sgn x
     · simp only[Bool.false_eq_true,if_false];rw[jbQ (by omega)]
     · simp only[if_true];rw[jbJ (by omega)]
   · unfold Format.order;rw[Yq hx,Yq hy,if_neg (by simp only[Bool.or_eq_true,decide_eq_true_eq];omega)];simp only[Datum.order,Option.some.injEq];have e1:jh x=if sgn x then -(INF:Int) else INF:=by unfold jh;rw[hx]
     have e2:jh y=if sgn y then -(INF:Int) else INF:=by unfold jh;rw[hy]
     rw[e1,e2]
     cases sgn x<;>cases sgn y<;>decide +kernel
   · unfold Format.order;rw[Yg hy,if_pos (by simp only[Bool.or_eq_true,decide_eq_true_eq];omega)]
     cases double.read x<;>rfl
 · unfold Format.order;rw[Yg hx,if_pos (by simp only[Bool.or_eq_true,decide_eq_true_eq];omega)];rfl
def cls (x:Nat):Int:=if isNaN x then 6 else if jh x=-INF then 0 else if jh x=INF then 5 else if jh x<0 then 1 else if 0<jh x then 4 else if sgn x then 2 else 3
def key (x:Nat):Int:=if isNaN x then SGN else if sgn x then -(rung x:Int)-1 else rung x
def cp (x y:Nat):Int:=if key x<key y then -1 else if key x=key y then 0 else 1
theorem ja5 (x:Nat):rung (x ^^^ 2 ^ 63)=rung x:=by
 have h:=Nat.xor_mod_two_pow (a:=x) (b:=2 ^ 63) (n:=63);rw[Nat.mod_self,Nat.xor_zero] at h;exact h
theorem jfo (x:Nat):sgn (x ^^^ 2 ^ 63)=!sgn x:=by
 have h:=Nat.xor_div_two_pow (a:=x) (b:=2 ^ 63) (n:=63);unfold sgn;rw[show SGN=2 ^ 63 from rfl,h,Nat.div_self (Nat.two_pow_pos 63)];have h2:=Nat.xor_mod_two_pow (a:=x / 2 ^ 63) (b:=1) (n:=1);rw[Nat.pow_one] at h2;rw[h2];rcases Nat.mod_two_eq_zero_or_one (x / 2 ^ 63) with g | g
 · rw[g];rfl
 · rw[g];rfl
theorem jcX (x:Nat):isNaN (x ^^^ 2 ^ 63)=isNaN x:=by unfold isNaN;rw[ja5]
theorem jdJ (x:Nat):jh (x ^^^ 2 ^ 63)=-jh x:=by
 unfold jh;rw[ja5,jfo];cases sgn x<;>simp
theorem jf0:((SGN:Nat):Int)=9223372036854775808:=rfl
theorem jbe:((INF:Nat):Int)=9218868437227405312:=rfl
theorem jbL (x:Nat):isNaN x=true↔INF<rung x:=by unfold isNaN;simp
theorem JT (x:Nat):isNaN x=false↔rung x≤INF:=by unfold isNaN;simp
theorem zU (x:Nat):(sgn x=true∧jh x=-(rung x:Int))∨(sgn x=false∧jh x=rung x):=by
 unfold jh;cases sgn x<;>simp
theorem Y6 (x:Nat):rung x<SGN:=Nat.mod_lt _ (by decide)
theorem jeE {x y:Nat} (h:cls x<cls y):cp x y=-1:=by
 have hx:=zU x;have hy:=zU y;have nx:=JT x;have ny:=JT y;have lx:=Y6 x;have ly:=Y6 y;have eS:=jf0;have eI:=jbe;unfold cp;rw[if_pos];unfold cls at h;unfold key
 cases hn:isNaN x<;>cases hm:isNaN y<;>simp only[hn,hm,Bool.false_eq_true,if_false,if_true,true_iff,false_iff,reduceCtorEq] at*<;>rcases hx with ⟨hx1,hx2⟩ | ⟨hx1,hx2⟩<;>rcases hy with ⟨hy1,hy2⟩ | ⟨hy1,hy2⟩<;>simp only[hx1,hy1,Bool.false_eq_true,if_false,if_true] at*<;>omega
theorem jfd (x y:Nat):cp y x=-cp x y:=by
 unfold cp;omega
theorem jgj {x y:Nat} (h:cls y<cls x):cp x y=1:=by
 have:=jeE h;rw[jfd] at this;omega
theorem jgb {x y:Nat} (h:cls x=cls y) (hn:isNaN x=false):isNaN y=false∧cp x y=if jh x<jh y then -1 else if jh x=jh y then 0 else 1:=by
 have hx:=zU x;have hy:=zU y;have nx:=JT x;have ny:=JT y;have lx:=Y6 x;have ly:=Y6 y;have eS:=jf0;have eI:=jbe;unfold cp;unfold cls at h;unfold key
 cases hm:isNaN y<;>simp only[hn,hm,Bool.false_eq_true,if_false,if_true,true_iff,false_iff,reduceCtorEq] at*<;>rcases hx with ⟨hx1,hx2⟩ | ⟨hx1,hx2⟩<;>rcases hy with ⟨hy1,hy2⟩ | ⟨hy1,hy2⟩<;>simp only[hx1,hy1,Bool.false_eq_true,if_false,if_true] at*<;>first | omega | (refine⟨trivial,?_⟩;omega)
theorem jf8 {x y:Nat} (h:cls x=cls y) (hn:isNaN x=true):isNaN y=true∧cp x y=0:=by
 have hy:isNaN y=true:=by
  unfold cls at h
  cases hm:isNaN y
  · simp only[hn,hm,Bool.false_eq_true,if_false,if_true] at h;omega
  · rfl
 refine⟨hy,?_⟩;unfold cp key;simp[hn,hy]
theorem Kept.oneB (w:World) (c:Array Value) (t:TypeId):Kept w (w.alloc (.cells c t)):=(Below.refl _ _).alloc (Nat.le_refl _) _
theorem YQ (x y:Nat):FloatKind.f64.format.order x y=if isNaN x||isNaN y then none else some (Je (jh x) (jh y)):=jeg x y
theorem jaU (x:Nat):(FloatKind.f64.format.order x x != some .eq)=isNaN x:=by
 rw[YQ];cases isNaN x<;>simp[Je]
theorem ja2 (x y:Nat):(FloatKind.f64.format.order x y==some .lt)=(!isNaN x&&!isNaN y&&decide (jh x<jh y)):=by
 rw[YQ];unfold Je;cases isNaN x<;>cases isNaN y<;>simp<;>split<;>simp_all<;>first | omega | (split<;>simp_all<;>omega)
theorem YB (x y:Nat):(FloatKind.f64.format.order x y==some .gt)=(!isNaN x&&!isNaN y&&decide (jh y<jh x)):=by
 rw[YQ];unfold Je;cases isNaN x<;>cases isNaN y<;>simp<;>split<;>simp_all<;>first | omega | (split<;>simp_all<;>omega)
theorem Zl:jh 0=0∧isNaN 0=false∧sgn 0=false∧rung 0=0:=by decide +kernel
theorem ZE:jh 9218868437227405311=9218868437227405311∧isNaN 9218868437227405311=false:=by decide +kernel
theorem jew {P:Program} (k:FloatKind) (b:Nat) (w:World):(Op.unary .neg (.float k b)).run P w=.ok (.float k (Op.negFloat k b)) w:=rfl
theorem jgU (x:Nat):Op.negFloat .f64 x=x ^^^ 2 ^ 63:=rfl
theorem Jc (x:Nat) (w:World):Calls Tryz.prog 105 #[.float .f64 x] w fun e w'=>e=.returned (.bool (isNaN x))∧w=w':=by
 have h:=jaU x;go_enter Tryz.func105,Tryz.ntmps105;go_wp2;go_ret;exact⟨rfl,rfl⟩
theorem JF (x:Nat) (w:World) (hx:isNaN x=false):Calls Tryz.prog 106 #[.float .f64 x,.int .i64 (-1)] w fun e w'=>e=.returned (.bool (decide (jh x=-9218868437227405312)))∧w=w':=by
 have h:(FloatKind.f64.format.order (Op.negFloat .f64 x) 9218868437227405311==some .gt)=decide (jh x=-9218868437227405312):=by
  rw[YB,jgU,jcX,hx,ZE.2,ZE.1,jdJ];have h1:=zU x;have h2:=(JT x).1 hx;have eI:=jbe;simp only[Bool.not_false,Bool.true_and,decide_eq_decide];omega
 have r:=@jew Tryz.prog .f64 x;generalize Op.negFloat .f64 x=y at h r
 go_enter Tryz.func106,Tryz.ntmps106;go_wp2;go_ret;exact⟨rfl,rfl⟩
theorem JS (x:Nat) (w:World) (hx:isNaN x=false):Calls Tryz.prog 106 #[.float .f64 x,.int .i64 1] w fun e w'=>e=.returned (.bool (decide (jh x=9218868437227405312)))∧w=w':=by
 have h:(FloatKind.f64.format.order x 9218868437227405311==some .gt)=decide (jh x=9218868437227405312):=by
  rw[YB,hx,ZE.2,ZE.1];have h1:=zU x;have h2:=(JT x).1 hx;have eI:=jbe;simp only[Bool.not_false,Bool.true_and,decide_eq_decide];omega
 go_enter Tryz.func106,Tryz.ntmps106;go_wp2;go_ret;exact⟨rfl,rfl⟩
theorem jep (x:Nat) (w:World):(callFunc 167 #[.float .f64 x]).run Tryz.prog w=.ok (.value (.int .u64 x)) w:=by
 rw[run_callFunc_extern Tryz.func167 (by kernel_rfl) (by kernel_rfl) (by kernel_rfl) (e:=Extern.MathFloatBits.float64bits) (by kernel_rfl)];rfl
theorem Xc (x:Nat) (w:World):Calls Tryz.prog 107 #[.float .f64 x] w fun e w'=>e=.returned (.bool (sgn x))∧w=w':=by
 have hb:=jep x;have hs:decide (wrap64 (x:Int)<0)=sgn x:=by
  unfold wrap64 sgn;rw[show SGN=9223372036854775808 from rfl];rcases Nat.mod_two_eq_zero_or_one (x / 9223372036854775808) with h | h
  · rw[h];simp;omega
  · rw[h];simp;omega
 go_enter Tryz.func107,Tryz.ntmps107;go_wp2;go_ret;exact⟨rfl,rfl⟩
theorem ZP (x:Nat) (w:World):Calls Tryz.prog 49 #[.float .f64 x] w fun e w'=>e=.returned (.int .i64 (cls x))∧w=w':=by
 have eI:=jbe
 cases hx:isNaN x with
 | true =>
  have hc:cls x=6:=by unfold cls;rw[hx];rfl
  rw[hc];go_enter Tryz.func49,Tryz.ntmps49;go_wp2_with fail
  refine(Jc _ _).mono ?_;rintro e w' ⟨rfl,rfl⟩;go_wp2_with fail
  go_ret;exact⟨rfl,rfl⟩
 | false =>
  have h1:(FloatKind.f64.format.order x 0==some .lt)=decide (jh x<0):=by rw[ja2,hx,Zl.2.1,Zl.1];simp
  have h2:(FloatKind.f64.format.order x 0==some .gt)=decide (0<jh x):=by rw[YB,hx,Zl.2.1,Zl.1];simp
  have hc:cls x=if jh x=-9218868437227405312 then 0 else if jh x=9218868437227405312 then 5 else if jh x<0 then 1 else if 0<jh x then 4 else if sgn x then 2 else 3:=by unfold cls;rw[hx];rfl
  rw[hc];clear hc eI;by_cases a0:jh x=-9218868437227405312
  · rw[if_pos a0];go_enter Tryz.func49,Tryz.ntmps49;go_wp2_with fail
    refine(Jc _ _).mono ?_;rintro e w' ⟨rfl,rfl⟩;go_wp2_with fail
    refine(JF _ _ hx).mono ?_;rintro e w' ⟨rfl,rfl⟩;go_wp2_with fail
    go_ret;exact⟨rfl,rfl⟩
  · rw[if_neg a0];by_cases a1:jh x=9218868437227405312
    · rw[if_pos a1];go_enter Tryz.func49,Tryz.ntmps49;go_wp2_with fail
      refine(Jc _ _).mono ?_;rintro e w' ⟨rfl,rfl⟩;go_wp2_with fail
      refine(JF _ _ hx).mono ?_;rintro e w' ⟨rfl,rfl⟩;go_wp2_with fail
      refine(JS _ _ hx).mono ?_;rintro e w' ⟨rfl,rfl⟩;go_wp2_with fail
      go_ret;exact⟨rfl,rfl⟩
    · rw[if_neg a1];by_cases a2:jh x<0
      · rw[if_pos a2];go_enter Tryz.func49,Tryz.ntmps49;go_wp2_with fail
        refine(Jc _ _).mono ?_;rintro e w' ⟨rfl,rfl⟩;go_wp2_with fail
        refine(JF _ _ hx).mono ?_;rintro e w' ⟨rfl,rfl⟩;go_wp2_with fail
        refine(JS _ _ hx).mono ?_;rintro e w' ⟨rfl,rfl⟩;go_wp2_with fail
        go_ret;exact⟨rfl,rfl⟩
      · rw[if_neg a2];by_cases a3:0<jh x
        · rw[if_pos a3];go_enter Tryz.func49,Tryz.ntmps49;go_wp2_with fail
          refine(Jc _ _).mono ?_;rintro e w' ⟨rfl,rfl⟩;go_wp2_with fail
          refine(JF _ _ hx).mono ?_;rintro e w' ⟨rfl,rfl⟩;go_wp2_with fail
          refine(JS _ _ hx).mono ?_;rintro e w' ⟨rfl,rfl⟩;go_wp2_with fail
          go_ret;exact⟨rfl,rfl⟩
        · rw[if_neg a3]
          cases hs:sgn x with
          | true =>
           go_enter Tryz.func49,Tryz.ntmps49;go_wp2_with fail
           refine(Jc _ _).mono ?_;rintro e w' ⟨rfl,rfl⟩;go_wp2_with fail
           refine(JF _ _ hx).mono ?_;rintro e w' ⟨rfl,rfl⟩;go_wp2_with fail
           refine(JS _ _ hx).mono ?_;rintro e w' ⟨rfl,rfl⟩;go_wp2_with fail
           refine(Xc _ _).mono ?_;rintro e w' ⟨rfl,rfl⟩;go_wp2_with fail
           go_ret;exact⟨rfl,rfl⟩
          | false =>
           go_enter Tryz.func49,Tryz.ntmps49;go_wp2_with fail
           refine(Jc _ _).mono ?_;rintro e w' ⟨rfl,rfl⟩;go_wp2_with fail
           refine(JF _ _ hx).mono ?_;rintro e w' ⟨rfl,rfl⟩;go_wp2_with fail
           refine(JS _ _ hx).mono ?_;rintro e w' ⟨rfl,rfl⟩;go_wp2_with fail
           refine(Xc _ _).mono ?_;rintro e w' ⟨rfl,rfl⟩;go_wp2_with fail
           go_ret;exact⟨rfl,rfl⟩
theorem YE (x:Int) (w:World):Calls Tryz.prog 113 #[.int .i64 x] w fun e w'=>e=.returned (.bool false)∧w=w':=by
 go_enter Tryz.func113,Tryz.ntmps113;go_wp2;go_ret;exact⟨rfl,rfl⟩
theorem zi (x:Nat) (w:World):Calls Tryz.prog 114 #[.float .f64 x] w fun e w'=>e=.returned (.bool (isNaN x))∧w=w':=by
 have h:=jaU x;go_enter Tryz.func114,Tryz.ntmps114;go_wp2;go_ret;exact⟨rfl,rfl⟩
theorem jfc (x y:Int) (w:World):Calls Tryz.prog 54 #[.int .i64 x,.int .i64 y] w fun e w'=>e=.returned (.int .i64 (if x<y then -1 else if x=y then 0 else 1))∧w=w':=by
 by_cases h1:x<y
 · rw[if_pos h1];go_enter Tryz.func54,Tryz.ntmps54;go_wp2_with (go_at_call 113;refine(YE _ _).mono ?_;rintro e w' ⟨rfl,rfl⟩)
   go_ret;exact⟨rfl,rfl⟩
 · rw[if_neg h1];by_cases h2:x=y
   · rw[if_pos h2];have h3:¬y<x:=by omega
     go_enter Tryz.func54,Tryz.ntmps54;go_wp2_with (go_at_call 113;refine(YE _ _).mono ?_;rintro e w' ⟨rfl,rfl⟩)
     go_ret;exact⟨rfl,rfl⟩
   · rw[if_neg h2];have h3:y<x:=by omega
     go_enter Tryz.func54,Tryz.ntmps54;go_wp2_with (go_at_call 113;refine(YE _ _).mono ?_;rintro e w' ⟨rfl,rfl⟩)
     go_ret;exact⟨rfl,rfl⟩
theorem qL (x y:Nat) (w:World) (h:cls x=cls y):Calls Tryz.prog 55 #[.float .f64 x,.float .f64 y] w fun e w'=>e=.returned (.int .i64 (cp x y))∧w=w':=by
 cases hx:isNaN x with
 | true =>
  obtain⟨hy,hc⟩:=jf8 h hx;rw[hc];clear hc h;go_enter Tryz.func55,Tryz.ntmps55;go_wp2_with (go_at_call 114;refine(zi _ _).mono ?_;rintro e w' ⟨rfl,rfl⟩)
  go_ret;exact⟨rfl,rfl⟩
 | false =>
  obtain⟨hy,hc⟩:=jgb h hx;rw[hc];clear hc h;have o1:(FloatKind.f64.format.order x y==some .lt)=decide (jh x<jh y):=by rw[ja2,hx,hy];simp
  have o2:(FloatKind.f64.format.order x y==some .gt)=decide (jh y<jh x):=by rw[YB,hx,hy];simp
  by_cases h1:jh x<jh y
  · rw[if_pos h1];go_enter Tryz.func55,Tryz.ntmps55;go_wp2_with (go_at_call 114;refine(zi _ _).mono ?_;rintro e w' ⟨rfl,rfl⟩)
    go_ret;exact⟨rfl,rfl⟩
  · rw[if_neg h1];by_cases h2:jh x=jh y
    · rw[if_pos h2];have h3:¬jh y<jh x:=by omega
      go_enter Tryz.func55,Tryz.ntmps55;go_wp2_with (go_at_call 114;refine(zi _ _).mono ?_;rintro e w' ⟨rfl,rfl⟩)
      go_ret;exact⟨rfl,rfl⟩
    · rw[if_neg h2];have h3:jh y<jh x:=by omega
      go_enter Tryz.func55,Tryz.ntmps55;go_wp2_with (go_at_call 114;refine(zi _ _).mono ?_;rintro e w' ⟨rfl,rfl⟩)
      go_ret;exact⟨rfl,rfl⟩
open Go.RowKit Ieee
theorem jbS (x y t:Nat):isNaN ((Question.nanBits .f64 x y).cut t)=true∧(Question.nanBits .f64 x y).cut t<18446744073709551616:=by
 have e:(Question.nanBits .f64 x y).cut t=(t % 2)*9223372036854775808+9218868437227405312+1+(t / 2) % 4503599627370495:=rfl;rw[e,jbL];unfold rung;rw[show SGN=9223372036854775808 from rfl,show INF=9218868437227405312 from rfl];have ha:t % 2<2:=Nat.mod_lt _ (by decide);have hb:(t / 2) % 4503599627370495<4503599627370495:=Nat.mod_lt _ (by decide);generalize t % 2=a at ha ⊢
 generalize (t / 2) % 4503599627370495=b at hb ⊢
 omega
theorem Zu (n:Bool) {r:Nat} (h:r≤INF):isNaN (double.word n r)=false∧double.word n r<18446744073709551616∧rung (double.word n r)=r∧sgn (double.word n r)=n:=by
 have eS:SGN=9223372036854775808:=rfl;have eI:INF=9218868437227405312:=rfl;have hr:rung (double.word n r)=r:=by
  unfold rung Format.word;rw[Y4,eS];split<;>omega
 have hs:sgn (double.word n r)=n:=by
  unfold sgn Format.word;rw[Y4,eS]
  cases n
  · rw[if_neg (by simp),show r / 9223372036854775808=0 from by omega];rfl
  · rw[if_pos rfl,show (9223372036854775808+r) / 9223372036854775808=1 from by omega];rfl
 refine⟨by rw[JT,hr];exact h,?_,hr,hs⟩;unfold Format.word;rw[Y4];split<;>omega
def jb6 (mag:Nat) (place:Int):Nat:=rung (double.nearest false mag place)
theorem Zw (n:Bool) (m:Nat) (p:Int):double.nearest n m p=double.word n (jb6 m p)∧jb6 m p≤INF:=by
 have h:∃r,r≤INF∧∀n',double.nearest n' m p=double.word n' r:=by
  by_cases hm:m=0
  · exact⟨0,by decide,fun n'=>by unfold Format.nearest;rw[if_pos hm]⟩
  · unfold Format.nearest;simp only[hm,if_false,XC];exact⟨min ((max (p+(m.log2:Int)-double.fractionBits) double.leastPlace-double.leastPlace).toNat*double.binade+Toward.even.cut false (m <<< (p-max (p+(m.log2:Int)-double.fractionBits) double.leastPlace).toNat) (max (p+(m.log2:Int)-double.fractionBits) double.leastPlace-p).toNat) INF,Nat.min_le_right _ _,fun n'=>rfl⟩
 obtain⟨r,hr,he⟩:=h;have:jb6 m p=r:=by unfold jb6;rw[he false];exact(Zu false hr).2.2.1
 rw[this];exact⟨he n,hr⟩
theorem Xt {d:Datum} (h:d.isNaN=false):isNaN (double.write d)=false∧double.write d<18446744073709551616:=by
 cases d with
 | number s m p =>
  unfold Format.write;dsimp only;rw[(Zw s m p).1];exact⟨(Zu s (Zw s m p).2).1,(Zu s (Zw s m p).2).2.1⟩
 | infinity s =>
  unfold Format.write;dsimp only;rw[XC];exact⟨(Zu s (Nat.le_refl _)).1,(Zu s (Nat.le_refl _)).2.1⟩
 | nan s t=>cases h
theorem jaL {a b d:Datum} (h:a.sum b=some d):d.isNaN=false:=by
 cases a<;>cases b<;>simp only[Datum.sum] at h<;>first | (cases h;done) | (split at h<;>cases h<;>rfl) | (cases h;rfl)
theorem qX {k:Nat} {a b d:Datum} (h:a.quotient k b=some d):d.isNaN=false:=by
 cases a<;>cases b<;>simp only[Datum.quotient] at h<;>first | (cases h;done) | (cases h;rfl) | (split at h<;>first | (split at h<;>cases h<;>rfl) | (cases h;rfl))
theorem jas {x y r:Nat} (h:double.add x y=some r):isNaN r=false∧r<18446744073709551616:=by
 unfold Format.add at h
 cases hs:(double.read x).sum (double.read y) with
 | none=>rw[hs] at h;cases h
 | some d=>rw[hs] at h;cases h;exact Xt (jaL hs)
theorem jbd {x y r:Nat} (h:double.sub x y=some r):isNaN r=false∧r<18446744073709551616:=by
 unfold Format.sub at h
 cases hs:(double.read x).sum (double.read y).opposite with
 | none=>rw[hs] at h;cases h
 | some d=>rw[hs] at h;cases h;exact Xt (jaL hs)
theorem jaM {x y r:Nat} (h:double.div x y=some r):isNaN r=false∧r<18446744073709551616:=by
 unfold Format.div at h
 cases hs:(double.read x).quotient (double.fractionBits+2) (double.read y) with
 | none=>rw[hs] at h;cases h
 | some d=>rw[hs] at h;cases h;exact Xt (qX hs)
def nrm (x:Nat):Option Nat:=if isNaN x then none else some x
theorem JV {x r:Nat}:nrm x=some r↔isNaN x=false∧x=r:=by unfold nrm;cases isNaN x<;>simp
theorem JB {x:Nat}:nrm x=none↔isNaN x=true:=by unfold nrm;cases isNaN x<;>simp
theorem qz {P:Program} (op:BinOp) (f:Nat→Nat→Option Nat) (hop:(op=.add∧f=double.add)∨(op=.sub∧f=double.sub)∨(op=.quo∧f=double.div)) (x y:Nat) (w:World) :
 ∃r n,(∀t,(binOp op t (.float .f64 x) (.float .f64 y)).run P w=.ok (.float .f64 r) (w.drewN n))∧nrm r=f x y∧r<18446744073709551616:=by
 cases h:f x y with
 | some r =>
  refine⟨r,0,fun t=>?_,?_⟩
  · rw[World.drewN_zero];refine run_float_arith w op t .f64 x y r ?_;rcases hop with ⟨rfl,rfl⟩ | ⟨rfl,rfl⟩ | ⟨rfl,rfl⟩<;>exact h
  · rw[JV];rcases hop with ⟨rfl,rfl⟩ | ⟨rfl,rfl⟩ | ⟨rfl,rfl⟩
    · exact⟨⟨(jas h).1,rfl⟩,(jas h).2⟩
    · exact⟨⟨(jbd h).1,rfl⟩,(jbd h).2⟩
    · exact⟨⟨(jaM h).1,rfl⟩,(jaM h).2⟩
 | none =>
  refine⟨(Question.nanBits .f64 x y).cut (w.tape w.drawn (.nanBits .f64 x y)),1,fun t=>?_,JB.2 (jbS _ _ _).1,(jbS _ _ _).2⟩;have hd:w.drew=w.drewN 1:=rfl;rw[←hd];rcases hop with ⟨rfl,rfl⟩ | ⟨rfl,rfl⟩ | ⟨rfl,rfl⟩
  · have h':FloatKind.f64.format.add x y=none:=h;simp[binOp,Op.floatArith,h',Question.forced]
  · have h':FloatKind.f64.format.sub x y=none:=h;simp[binOp,Op.floatArith,h',Question.forced]
  · have h':FloatKind.f64.format.div x y=none:=h;simp[binOp,Op.floatArith,h',Question.forced]
theorem je0 {P:Program} (x y:Nat) (w:World):∃r n,(∀t,(binOp .add t (.float .f64 x) (.float .f64 y)).run P w=.ok (.float .f64 r) (w.drewN n))∧nrm r=double.add x y∧r<18446744073709551616:=qz .add _ (.inl ⟨rfl,rfl⟩) x y w
theorem jbR {P:Program} (x y:Nat) (w:World):∃r n,(∀t,(binOp .quo t (.float .f64 x) (.float .f64 y)).run P w=.ok (.float .f64 r) (w.drewN n))∧nrm r=double.div x y∧r<18446744073709551616:=qz .quo _ (.inr (.inr ⟨rfl,rfl⟩)) x y w
def RC (x:Nat) (w:World) (e:Ending) (w':World):Prop:=e=.returned (.int .i64 (cls x))∧∃n,w'=w.drewN n
theorem jfu (x y:Int) (w:World) (t:TypeId):Calls Tryz.prog 53 #[.slice (some ⟨w.heap.size,0,none⟩) 2 2] (w.alloc (.cells #[.int .i64 x,.int .i64 y] t))
 fun e w'=>e=.returned (.int .i64 (if x=0 then y else x))∧w.alloc (.cells #[.int .i64 x,.int .i64 y] t)=w':=by
 have c0:(w.alloc (.cells #[.int .i64 x,.int .i64 y] t)).cell? ⟨w.heap.size,0,none⟩=some (.int .i64 x):=by simp
 have c1:(w.alloc (.cells #[.int .i64 x,.int .i64 y] t)).cell? ⟨w.heap.size,1,none⟩=some (.int .i64 y):=by simp
 generalize w.alloc (.cells #[.int .i64 x,.int .i64 y] t)=w1 at c0 c1 ⊢
 generalize w.heap.size=b at c0 c1 ⊢
 by_cases hx:x=0
 · subst hx;rw[if_pos rfl];by_cases hy:y=0
   · subst hy;go_enter Tryz.func53,Tryz.ntmps53;go_wp2;refine wp_loop_rounds 3 ?_;rw[rounds_succ];go_wp2;rw[rounds_succ];go_wp2;rw[rounds_succ];go_wp2;go_ret;exact⟨rfl,rfl⟩
   · go_enter Tryz.func53,Tryz.ntmps53;go_wp2;refine wp_loop_rounds 3 ?_;rw[rounds_succ];go_wp2;rw[rounds_succ];go_wp2;go_ret;exact⟨rfl,rfl⟩
 · rw[if_neg hx];go_enter Tryz.func53,Tryz.ntmps53;go_wp2;refine wp_loop_rounds 3 ?_;rw[rounds_succ];go_wp2;go_ret;exact⟨rfl,rfl⟩
def CP (x y:Nat) (w:World) (e:Ending) (w':World):Prop:=e=.returned (.int .i64 (cp x y))∧∃c t,w'=w.alloc (.cells c t)
theorem CP.kept {x y:Nat} {w:World} {e:Ending} {w':World} (h:CP x y w e w'):e=.returned (.int .i64 (cp x y))∧Kept w w':=by
 obtain⟨rfl,c,t,rfl⟩:=h;exact⟨rfl,Kept.oneB _ _ _⟩
theorem qT (x y:Nat) (w:World):∃c:Int,Calls Tryz.prog 55 #[.float .f64 x,.float .f64 y] w fun e w'=>e=.returned (.int .i64 c)∧w=w':=by
 cases hx:isNaN x with
 | true =>
  cases hy:isNaN y with
  | true=>exact⟨_,qL x y w (by unfold cls;rw[hx,hy];rfl)⟩
  | false =>
   refine⟨-1,?_⟩;go_enter Tryz.func55,Tryz.ntmps55;go_wp2_with (go_at_call 114;refine(zi _ _).mono ?_;rintro e w' ⟨rfl,rfl⟩)
   go_ret;exact⟨rfl,rfl⟩
 | false =>
  cases hy:isNaN y with
  | true =>
   refine⟨1,?_⟩;go_enter Tryz.func55,Tryz.ntmps55;go_wp2_with (go_at_call 114;refine(zi _ _).mono ?_;rintro e w' ⟨rfl,rfl⟩)
   go_ret;exact⟨rfl,rfl⟩
  | false =>
   have o1:(FloatKind.f64.format.order x y==some .lt)=decide (jh x<jh y):=by rw[ja2,hx,hy];simp
   have o2:(FloatKind.f64.format.order x y==some .gt)=decide (jh y<jh x):=by rw[YB,hx,hy];simp
   by_cases h1:jh x<jh y
   · refine⟨-1,?_⟩;go_enter Tryz.func55,Tryz.ntmps55;go_wp2_with (go_at_call 114;refine(zi _ _).mono ?_;rintro e w' ⟨rfl,rfl⟩)
     go_ret;exact⟨rfl,rfl⟩
   · by_cases h2:jh y<jh x
     · refine⟨1,?_⟩;go_enter Tryz.func55,Tryz.ntmps55;go_wp2_with (go_at_call 114;refine(zi _ _).mono ?_;rintro e w' ⟨rfl,rfl⟩)
       go_ret;exact⟨rfl,rfl⟩
     · refine⟨0,?_⟩;go_enter Tryz.func55,Tryz.ntmps55;go_wp2_with (go_at_call 114;refine(zi _ _).mono ?_;rintro e w' ⟨rfl,rfl⟩)
       go_ret;exact⟨rfl,rfl⟩
theorem Z2 (x y:Nat) (w:World):Calls Tryz.prog 20 #[.float .f64 x,.float .f64 y] w (CP x y w):=by
 obtain⟨c2,hc2,he⟩:∃c2:Int,(Calls Tryz.prog 55 #[.float .f64 x,.float .f64 y] w fun e w'=>e=.returned (.int .i64 c2)∧w=w') ∧
  cp x y=if (if cls x<cls y then -1 else if cls x=cls y then 0 else 1:Int)=0 then c2 else (if cls x<cls y then -1 else if cls x=cls y then 0 else 1):=by
  by_cases h2:cls x=cls y
  · refine⟨cp x y,qL x y w h2,?_⟩;simp only[h2,Int.lt_irrefl,if_false,if_true]
  · obtain⟨c,hc⟩:=qT x y w;refine⟨c,hc,?_⟩;by_cases h1:cls x<cls y
    · rw[if_pos h1,jeE h1];rfl
    · rw[if_neg h1,if_neg h2,jgj (by omega)];rfl
 unfold CP;rw[he];clear he;have hcx:=ZP x w;have hcy:=ZP y w;have hci:=jfc (cls x) (cls y) w;generalize (if cls x<cls y then -1 else if cls x=cls y then 0 else 1:Int)=c1 at hci ⊢
 generalize cls x=kx at hcx hci
 generalize cls y=ky at hcy hci
 have ho:=jfu c1 c2;generalize (if c1=0 then c2 else c1)=r at ho ⊢
 have HO:=lH ho;clear ho;go_enter Tryz.func20,Tryz.ntmps20;go_wp2_with fail
 refine hcx.mono ?_;rintro e1 w1 ⟨rfl,rfl⟩;go_wp2_with fail
 refine hcy.mono ?_;rintro e1 w1 ⟨rfl,rfl⟩;go_wp2_with fail
 refine hci.mono ?_;rintro e1 w1 ⟨rfl,rfl⟩;go_wp2_with fail
 refine hc2.mono ?_;rintro e1 w1 ⟨rfl,rfl⟩;go_wp2_with fail
 refine(HO.out _ _).mono ?_;rintro e1 w1 ⟨rfl,rfl⟩;go_wp2_with fail
 go_ret;exact⟨rfl,_,_,rfl⟩
def RCP (x y:Nat) (w:World) (e:Ending) (w':World):Prop:=e=.returned (.int .i64 (cp x y))∧∃n,w'=w.drewN n
theorem RCP.kept {x y:Nat} {w:World} {e:Ending} {w':World} (h:RCP x y w e w'):e=.returned (.int .i64 (cp x y))∧Kept w w':=by
 obtain⟨rfl,n,rfl⟩:=h;exact⟨rfl,Kept.drewN _ _⟩
def AL (x y:Nat) (w:World) (e:Ending) (w':World):Prop:=e=.returned (.bool (decide (cp x y=0)))∧∃n,w'=w.drewN n
theorem AL.kept {x y:Nat} {w:World} {e:Ending} {w':World} (h:AL x y w e w'):e=.returned (.bool (decide (cp x y=0)))∧Kept w w':=by
 obtain⟨rfl,n,rfl⟩:=h;exact⟨rfl,Kept.drewN _ _⟩
abbrev TOP:Nat:=18446744073709551616
def jbb (w:World) (a:Option Addr) (len:Nat) (l:List Nat):Prop :=
 l.length=len∧len≤maxLen∧(∀x ∈ l,x<TOP) ∧
  (len=0∨∃b off,a=some ⟨b,off,none⟩∧b<w.heap.size∧∀i,i<len→w.cell? ⟨b,off+i,none⟩=some (.float .f64 (l.getD i 0)))
theorem jbb.kept {w w':World} {a:Option Addr} {len:Nat} {l:List Nat} (h:jbb w a len l) (k:Kept w w'):jbb w' a len l:=by
 obtain⟨h0,h1,h2,h3⟩:=h;refine⟨h0,h1,h2,h3.imp id ?_⟩;rintro ⟨b,off,ha,hb,hc⟩;exact⟨b,off,ha,Nat.lt_of_lt_of_le hb k.size,fun i hi=>(Below.cell k (p:=⟨b,off+i,none⟩) hb).trans (hc i hi)⟩
theorem Kept.alloc {a b:World} (h:Kept a b) (o:Obj):Kept a (b.alloc o):=h.trans ((Below.refl _ _).alloc (Nat.le_refl _) _)
def OF (a b:Int) (w:World) (e:Ending) (w':World):Prop:=∃r n,e=.returned (.float .f64 r)∧w'=w.drewN n∧nrm r=Ieee.double.div (floatOfInt .f64 a) (floatOfInt .f64 b)∧r<TOP
theorem jdY (a b:Int) (w:World):Calls Tryz.prog 164 #[.int .i64 a,.int .i64 b] w (OF a b w):=by
 unfold OF;obtain⟨r,n,hq,hn,hr⟩:=jbR (P:=Tryz.prog) (floatOfInt .f64 a) (floatOfInt .f64 b) w;have HN:=lH hn;clear hn;go_enter Tryz.func164,Tryz.ntmps164;go_wp2;go_ret;exact⟨r,n,rfl,rfl,HN.out,hr⟩
def NN (w:World) (e:Ending) (w':World):Prop:=∃r n,e=.returned (.float .f64 r)∧w'=w.drewN n∧isNaN r=true∧r<TOP
theorem jam (n:Int) (w:World):(callFunc 216 #[.int .u64 n]).run Tryz.prog w=.ok (.value (.float .f64 n.toNat)) w:=by
 rw[run_callFunc_extern Tryz.func216 (by kernel_rfl) (by kernel_rfl) (by kernel_rfl) (e:=Extern.MathFloatBits.float64frombits) (by kernel_rfl)];rfl
theorem jeN (w:World):Calls Tryz.prog 173 #[] w (NN w):=by
 unfold NN;have h:=jam 9221120237041090561;go_enter Tryz.func173,Tryz.ntmps173;go_wp2;go_ret;exact⟨_,0,rfl,rfl,by decide +kernel,by decide +kernel⟩
def jfZ (x lo hi:Nat):Nat:=if 0<cp lo hi∨isNaN x=true∨cp x lo<0 then lo else if 0<cp x hi then hi else x
def CL (x lo hi:Nat) (w:World) (e:Ending) (w':World):Prop:=e=.returned (.float .f64 (jfZ x lo hi))∧Kept w w'
def jaS (s:Option Nat) (x:Nat):Option Nat:=s.bind fun s=>Ieee.double.add s x
def Ym (l:List Nat):Nat→Option Nat
 | 0=>some 0
 | k+1=>jaS (Ym l k) (l.getD k 0)
def Yd (l:List Nat):Option Nat:=if l.length=0 then none else (Ym l l.length).bind fun s=>Ieee.double.div s (floatOfInt .f64 l.length)
theorem Z9 {x:Nat} (h:isNaN x=true):∃s t,Ieee.double.read x=.nan s t:=⟨_,_,Yg ((jbL x).1 h)⟩
theorem jfe {s:Nat} (x:Nat) (h:isNaN s=true):Ieee.double.add s x=none:=by
 obtain⟨a,b,e⟩:=Z9 h;unfold Ieee.Format.add;rw[e]
 cases Ieee.double.read x<;>rfl
theorem je1 {s:Nat} (x:Nat) (h:isNaN s=true):Ieee.double.div s x=none:=by
 obtain⟨a,b,e⟩:=Z9 h;unfold Ieee.Format.div;rw[e]
 cases Ieee.double.read x<;>rfl
theorem jfX {s x r:Nat} {acc:Option Nat} (hs:nrm s=acc) (hr:nrm r=Ieee.double.add s x):nrm r=jaS acc x:=by
 subst hs;unfold jaS
 cases hn:nrm s with
 | none=>rw[hr,jfe x (JB.1 hn)];rfl
 | some s'=>obtain⟨_,rfl⟩:=JV.1 hn;exact hr
theorem jfQ {s x r:Nat} {acc:Option Nat} (hs:nrm s=acc) (hr:nrm r=Ieee.double.div s x):nrm r=acc.bind fun s=>Ieee.double.div s x:=by
 subst hs
 cases hn:nrm s with
 | none=>rw[hr,je1 x (JB.1 hn)];rfl
 | some s'=>obtain⟨_,rfl⟩:=JV.1 hn;exact hr
def MEA (l:List Nat) (w:World) (e:Ending) (w':World):Prop:=∃r,e=.returned (.float .f64 r)∧nrm r=Yd l∧r<TOP∧Kept w w'
theorem jev (a:Option Addr) (len cap:Nat) (l:List Nat) (w:World) (hr:jbb w a len l) :
 Calls Tryz.prog 115 #[.slice a len cap] w (MEA l w):=by
 unfold MEA;obtain⟨hl,hm,hx,hc⟩:=hr;unfold maxLen at hm;by_cases h0:len=0
 · subst h0;have hd:Yd l=none:=by unfold Yd;rw[if_pos hl]
   have HD:=lH hd;have HN:=lH (jeN);clear hd hl hc hx;go_enter Tryz.func115,Tryz.ntmps115;go_wp2_with fail
   refine(HN.out _).mono ?_;rintro e w1 ⟨r,n,rfl,rfl,hn,ht⟩;have H2:=lH hn;clear hn;go_wp2_with fail
   go_ret;exact⟨r,rfl,by rw[HD.out];exact JB.2 H2.out,ht,Kept.drewN _ _⟩
 rcases hc with rfl | ⟨b,off,rfl,hb,hc⟩
 · omega
 · have hd:Yd l=(Ym l len).bind fun s=>Ieee.double.div s (floatOfInt .f64 len):=by unfold Yd;rw[if_neg (by omega),hl]
   obtain⟨HE,HC,HB⟩:=lH3 hd hc hb;have hb0:((len:Int)==0)=false:=by simp;omega
   clear hc hb hx hl hd;go_enter Tryz.func115,Tryz.ntmps115;go_wp2;go_loopw [3,12] (fun m i wr=>∃k s:Nat,k≤len∧i=.int .i64 k∧m=.float .f64 s∧nrm s=Ym l k∧Kept w wr) (fun _ i _=>len-(intOf i).toNat)
   case atStart=>exact⟨0,0,by omega,rfl,rfl,(show nrm 0=some 0 from by decide +kernel),Kept.refl _⟩
   case round =>
    obtain⟨k,s,hk,rfl,rfl,hd,hkw⟩:=hrel;have HD:=lH hd;have HK:=lH hkw;clear hd hkw;by_cases hlt:k<len
    · have c:=(Below.cell HK.out (p:=⟨b,off+k,none⟩) HB.out).trans (HC.out k hlt);obtain⟨x,ex⟩:=eX (l.getD k 0)
      rw[ex] at c;have EX:=lH ex;clear ex;obtain⟨r,n,hq,hn,_⟩:=je0 (P:=Tryz.prog) s x wr;have HN:=lH hn;clear hn;go_wp2;go_roundw
      case rel=>exact⟨k+1,r,by omega,by go_num,rfl,by rw[Ym,EX.out];exact jfX HD.out HN.out,HK.out.trans (Kept.drewN _ _)⟩
      case measure=>simp[intOf];omega
    · have ek:k=len:=by omega
      subst ek;obtain⟨r,n,hq,hn,ht⟩:=jbR (P:=Tryz.prog) s (floatOfInt .f64 k) wr;have HN:=lH hn;clear hn;go_wp2;go_ret;exact⟨r,rfl,by rw[HE.out];exact jfQ HD.out HN.out,ht,HK.out.trans (Kept.drewN _ _)⟩
end Go.Proofs.YtokdjfoalkmhiaaGreat
