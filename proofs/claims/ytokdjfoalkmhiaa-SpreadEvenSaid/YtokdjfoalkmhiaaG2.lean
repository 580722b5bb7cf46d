/- What serves all packages,and package by package the contracts of the functions that the law calls. -/
import Derived.Test.YtokdjfoalkmhiaaG0
import Derived.Test.YtokdjfoalkmhiaaG1
set_option linter.unusedVariables false
set_option maxRecDepth 100000
set_option maxHeartbeats 25600000
namespace Go.Proofs.Ytokdjfoalkmhiaa
open Go.RowKit
theorem Own3.snocN {S:Nat→Prop} {B g cap:Nat} {w w':World} {v1 v2 v3:Value} {s:Clu} {lx:List NX} {z:NX} (h:Own3 S B w v1 v2 v3 s) (e:(lx.map fun z=>z.1)=s.nodes) (ho:Own NodLay0 34 w B v1 lx) (hd:∀z ∈ lx,Off (Tri S v1 v2 v3) w fun u=>At3 u z) (hz:Off (Tri S v1 v2 v3) w fun u=>At3 u z) (hS:∀k,S k→k<w.heap.size)
 (hown:w'.ownsRow B 34 5 (.slice (some ⟨g,0,Option.none⟩) (lx.length+1) cap) (lx.length+1) (rowCells NodLay0 lx++NodLay0.cs z)) (hg:w.grownBy w' v1.ownBlock) (hat:v1.ownBlock=some g∨g=w.heap.size):Own3 S B w' (.slice (some ⟨g,0,Option.none⟩) (lx.length+1) cap) v2 v3 { s with nodes:=s.nodes++[z.1] }:=by
 have g':GOff (fun b=>v1.ownBlock=some b) w w':=GOff.grown hg fun k e=>e;have hn:∀k,(Value.slice (some ⟨g,0,Option.none⟩) (lx.length+1) cap).ownBlock=some k→v1.ownBlock=some k∨w.heap.size≤k:=fun k e=>by
  have e2:g=k:=Option.some.inj e;subst e2;exact hat.imp id fun q=>Nat.le_of_eq q.symm
 exact h.turnN g' hn hS ⟨lx++[z],by rw[List.map_append,e];rfl,Own.snoc hown rfl ho.2 trivial,fun y hy=>by
  rcases List.mem_append.1 hy with hy | hy
  · exact Own3.elsN (hd y hy) g' hn
  · obtain rfl:=List.mem_singleton.1 hy;exact Own3.elsN hz g' hn⟩
theorem Own3.snocP {S:Nat→Prop} {B g cap:Nat} {w w':World} {v1 v2 v3:Value} {s:Clu} {lx:List PX} {z:PX} (h:Own3 S B w v1 v2 v3 s) (e:(lx.map fun z=>z.1)=s.pods) (ho:Own PodLay0 41 w B v2 lx) (hd:∀z ∈ lx,Off (Tri S v1 v2 v3) w fun u=>At4 u z) (hz:Off (Tri S v1 v2 v3) w fun u=>At4 u z) (hS:∀k,S k→k<w.heap.size)
 (hown:w'.ownsRow B 41 11 (.slice (some ⟨g,0,Option.none⟩) (lx.length+1) cap) (lx.length+1) (rowCells PodLay0 lx++PodLay0.cs z)) (hg:w.grownBy w' v2.ownBlock) (hat:v2.ownBlock=some g∨g=w.heap.size):Own3 S B w' v1 (.slice (some ⟨g,0,Option.none⟩) (lx.length+1) cap) v3 { s with pods:=s.pods++[z.1] }:=by
 have g':GOff (fun b=>v2.ownBlock=some b) w w':=GOff.grown hg fun k e=>e;have hn:∀k,(Value.slice (some ⟨g,0,Option.none⟩) (lx.length+1) cap).ownBlock=some k→v2.ownBlock=some k∨w.heap.size≤k:=fun k e=>by
  have e2:g=k:=Option.some.inj e;subst e2;exact hat.imp id fun q=>Nat.le_of_eq q.symm
 exact h.turnP g' hn hS ⟨lx++[z],by rw[List.map_append,e];rfl,Own.snoc hown rfl ho.2 trivial,fun y hy=>by
  rcases List.mem_append.1 hy with hy | hy
  · exact Own3.elsP (hd y hy) g' hn
  · obtain rfl:=List.mem_singleton.1 hy;exact Own3.elsP hz g' hn⟩
def TInv (q:Nat) (s:Clu) (w wr:World):Prop:=∃a1 n1 c1 a2 n2 c2,CellsN q [.slice a1 n1 c1,.slice a2 n2 c2,.slice none 0 0] wr∧Own3 (fun b=>b=q) (q+1) wr (.slice a1 n1 c1) (.slice a2 n2 c2) (.slice none 0 0) s∧Kept w wr
theorem TInv.start {q:Nat} {w wr:World} (hq:CellsN q [.slice none 0 0,.slice none 0 0,.slice none 0 0] wr) (k:Kept w wr):TInv q ⟨[],[],[]⟩ w wr:=⟨_,_,_,_,_,_,hq,Own3.none _ _ _,k⟩
theorem Own3.triLt {q:Nat} {w:World} {v1 v2 v3:Value} {s:Clu} (h:Own3 (fun b=>b=q) (q+1) w v1 v2 v3 s) (hq:q<w.heap.size):∀k,Tri (fun b=>b=q) v1 v2 v3 k→k<w.heap.size:=fun k e=>by
 rcases e with e | e | e | e
 · subst e;exact hq
 · exact(h.lt (.inl e)).2
 · exact(h.lt (.inr (.inl e))).2
 · exact(h.lt (.inr (.inr e))).2
theorem TInv.putN {q g cap n1 c1 n2 c2:Nat} {a1 a2:Option Addr} {w w5 w6:World} {s:Clu} {lx:List NX} {z:NX} (hq:CellsN q [.slice a1 n1 c1,.slice a2 n2 c2,.slice none 0 0] w5) (h:Own3 (fun b=>b=q) (q+1) w5 (.slice a1 n1 c1) (.slice a2 n2 c2) (.slice none 0 0) s) (k:Kept w w5) (hB:w.heap.size≤q)
 (e:(lx.map fun z=>z.1)=s.nodes) (ho:Own NodLay0 34 w5 (q+1) (.slice a1 n1 c1) lx) (hd:∀z ∈ lx,Off (Tri (fun b=>b=q) (.slice a1 n1 c1) (.slice a2 n2 c2) (.slice none 0 0)) w5 fun u=>At3 u z) (hz:Off (Tri (fun b=>b=q) (.slice a1 n1 c1) (.slice a2 n2 c2) (.slice none 0 0)) w5 fun u=>At3 u z)
 (hown:w6.ownsRow (q+1) 34 5 (.slice (some ⟨g,0,none⟩) (lx.length+1) cap) (lx.length+1) (rowCells NodLay0 lx++NodLay0.cs z)) (hg:w5.grownBy w6 (Value.ownBlock (.slice a1 n1 c1))) (hat:Value.ownBlock (.slice a1 n1 c1)=some g∨g=w5.heap.size) :
 CellsN q [.slice a1 n1 c1,.slice a2 n2 c2,.slice none 0 0] w6∧TInv q { s with nodes:=s.nodes++[z.1] } w (w6.setCell ⟨q,0,none⟩ (.slice (some ⟨g,0,none⟩) (lx.length+1) cap)):=by
 have h6:=h.snocN e ho hd hz (fun k e=>by subst e;exact hq.lt) hown hg hat;have g6:GOff (fun b=>Value.ownBlock (.slice a1 n1 c1)=some b) w5 w6:=GOff.grown hg fun k e=>e;have hq6:=hq.block (g6.block q hq.lt fun e=>by have:=(own_lt ho q e).1;omega);have k6:Kept w w6:=GOff.below k g6 fun i e=>by have:=(own_lt ho i e).1;omega
 exact⟨hq6,_,_,_,_,_,_,hq6.set (j:=0) (by simp),h6.step (GOff.cell (S:=fun b=>b=q) q 0 _ rfl),kept_cell k6 hB _⟩
theorem TInv.putP {q g cap n1 c1 n2 c2:Nat} {a1 a2:Option Addr} {w w5 w6:World} {s:Clu} {lx:List PX} {z:PX} (hq:CellsN q [.slice a1 n1 c1,.slice a2 n2 c2,.slice none 0 0] w5) (h:Own3 (fun b=>b=q) (q+1) w5 (.slice a1 n1 c1) (.slice a2 n2 c2) (.slice none 0 0) s) (k:Kept w w5) (hB:w.heap.size≤q)
 (e:(lx.map fun z=>z.1)=s.pods) (ho:Own PodLay0 41 w5 (q+1) (.slice a2 n2 c2) lx) (hd:∀z ∈ lx,Off (Tri (fun b=>b=q) (.slice a1 n1 c1) (.slice a2 n2 c2) (.slice none 0 0)) w5 fun u=>At4 u z) (hz:Off (Tri (fun b=>b=q) (.slice a1 n1 c1) (.slice a2 n2 c2) (.slice none 0 0)) w5 fun u=>At4 u z)
 (hown:w6.ownsRow (q+1) 41 11 (.slice (some ⟨g,0,none⟩) (lx.length+1) cap) (lx.length+1) (rowCells PodLay0 lx++PodLay0.cs z)) (hg:w5.grownBy w6 (Value.ownBlock (.slice a2 n2 c2))) (hat:Value.ownBlock (.slice a2 n2 c2)=some g∨g=w5.heap.size) :
 CellsN q [.slice a1 n1 c1,.slice a2 n2 c2,.slice none 0 0] w6∧TInv q { s with pods:=s.pods++[z.1] } w (w6.setCell ⟨q,1,none⟩ (.slice (some ⟨g,0,none⟩) (lx.length+1) cap)):=by
 have h6:=h.snocP e ho hd hz (fun k e=>by subst e;exact hq.lt) hown hg hat;have g6:GOff (fun b=>Value.ownBlock (.slice a2 n2 c2)=some b) w5 w6:=GOff.grown hg fun k e=>e;have hq6:=hq.block (g6.block q hq.lt fun e=>by have:=(own_lt ho q e).1;omega);have k6:Kept w w6:=GOff.below k g6 fun i e=>by have:=(own_lt ho i e).1;omega
 exact⟨hq6,_,_,_,_,_,_,hq6.set (j:=1) (by simp),h6.step (GOff.cell (S:=fun b=>b=q) q 1 _ rfl),kept_cell k6 hB _⟩
def rawB (key:ByteArray) (nodes:List Nod):List ByteArray:=nodes.filterMap fun n=>getS n.labels key
def rawD (key:ByteArray) (nodes:List Nod):List (List UInt8):=(rawB key nodes).map fun x=>x.data.toList
def sortD (l:List (List UInt8)):List (List UInt8):=l.mergeSort fun x y=>decide (x≤y)
def domL (key:ByteArray) (nodes:List Nod):List (List UInt8):=Lib.compact (sortD (rawD key nodes))
def domB (key:ByteArray) (nodes:List Nod):List ByteArray:=(domL key nodes).map bytes
theorem compact_rising (d:Array (List UInt8)) (hs:∀i j,i<j→j<d.size→d[i]!≤d[j]!):∀m,m≤d.size→(Lib.compactUpTo d m).Pairwise (·<·)∧(∀x,x ∈ Lib.compactUpTo d m↔∃j,j<m∧d[j]! = x)∧(0<m→∀x ∈ Lib.compactUpTo d m,x≤d[m-1]!)
 | 0,_=>⟨List.Pairwise.nil,fun x=>⟨(fun h=>by cases h),(fun ⟨j,hj,_⟩=>absurd hj (Nat.not_lt_zero _))⟩,(fun h=>absurd h (by decide))⟩
 | m+1,hm=>by
  obtain⟨h1,h2,h3⟩:=compact_rising d hs m (by omega);rw[Lib.compactUpTo_succ];by_cases hk:Lib.keeps d m=true
  · rw[if_pos hk];have hlt:∀x ∈ Lib.compactUpTo d m,x<d[m]!:=fun x hx=>by
     obtain⟨j,hj,e⟩:=(h2 x).1 hx;have h5:=h3 (by omega) x hx;have h6:=hs (m-1) m (by omega) (by omega);unfold Lib.keeps at hk;have h7:d[m]!≠d[m-1]!:=by
      rcases of_decide_eq_true hk with h | h
      · omega
      · exact h
     rcases Decidable.em (x<d[m]!) with h | h
     · exact h
     · exact absurd (List.le_antisymm (List.le_trans (show d[m]!≤x from h) h5) h6) h7
    refine⟨List.pairwise_append.2 ⟨h1,List.pairwise_singleton ..,fun x hx y hy=>by rw[List.mem_singleton.1 hy];exact hlt x hx⟩,fun x=>?_,fun _ x hx=>?_⟩
    · rw[List.mem_append,List.mem_singleton];constructor
      · rintro (h | rfl)
        · obtain⟨j,hj,e⟩:=(h2 x).1 h;exact⟨j,by omega,e⟩
        · exact⟨m,by omega,rfl⟩
      · rintro ⟨j,hj,e⟩;by_cases hjm:j=m
        · exact .inr (by rw[←e,hjm])
        · exact .inl ((h2 x).2 ⟨j,by omega,e⟩)
    · rcases List.mem_append.1 hx with h | h
      · exact List.le_of_lt (hlt x h)
      · rw[List.mem_singleton.1 h];exact List.le_refl _
  · rw[if_neg hk,List.append_nil];have hk:Lib.keeps d m=false:=by simpa using hk
    unfold Lib.keeps at hk;have hk:=of_decide_eq_false hk;have hm0:0<m:=Nat.pos_of_ne_zero fun e=>hk (.inl e);have he:d[m]! = d[m-1]!:=Decidable.byContradiction fun g=>hk (.inr g);refine⟨h1,fun x=>⟨fun h=>?_,?_⟩,fun _ x hx=>?_⟩
    · obtain⟨j,hj,e⟩:=(h2 x).1 h;exact⟨j,by omega,e⟩
    · rintro ⟨j,hj,e⟩;by_cases hjm:j=m
      · exact(h2 x).2 ⟨m-1,by omega,by rw[←e,hjm,he]⟩
      · exact(h2 x).2 ⟨j,by omega,e⟩
    · show x≤d[m]!;rw[he];exact h3 hm0 x hx
theorem sort_pair (l:List (List UInt8)):(sortD l).Pairwise (·≤·):=by
 have tr:∀a b c:List UInt8,decide (a≤b)=true→decide (b≤c)=true→decide (a≤c)=true:=fun a b c h1 h2=>by simp only[decide_eq_true_eq] at *;exact List.le_trans h1 h2
 have tot:∀a b:List UInt8,(decide (a≤b)||decide (b≤a))=true:=fun a b=>by simp only[Bool.or_eq_true,decide_eq_true_eq];exact List.le_total a b
 exact(List.pairwise_mergeSort tr tot l).imp fun h=>of_decide_eq_true h
theorem domL_spec (key:ByteArray) (nodes:List Nod):(domL key nodes).Pairwise (·<·)∧∀x,x ∈ domL key nodes↔x ∈ rawD key nodes:=by
 have hp:=sort_pair (rawD key nodes);obtain⟨h1,h2,-⟩:=compact_rising (sortD (rawD key nodes)).toArray (fun i j hij hj=>by
  have hj':j<(sortD (rawD key nodes)).length:=by simpa using hj
  have:=List.pairwise_iff_getElem.1 hp i j (by omega) hj' hij;simpa [getElem!_pos,hj',show i<(sortD (rawD key nodes)).length by omega] using this) (sortD (rawD key nodes)).length (by simp)
 refine⟨h1,fun x=>(h2 x).trans ?_⟩;rw[←(List.mergeSort_perm (rawD key nodes) fun x y=>decide (x≤y)).mem_iff];show _↔x ∈ sortD (rawD key nodes);constructor
 · rintro ⟨j,hj,e⟩;rw[←e];simp[getElem!_pos,hj]
 · intro h;obtain⟨j,hj,e⟩:=List.getElem_of_mem h;exact⟨j,hj,by simpa [getElem!_pos,hj] using e⟩
theorem rising_eq:∀{l l':List (List UInt8)},l.Pairwise (·<·)→l'.Pairwise (·<·)→(∀x,x ∈ l↔x ∈ l')→l=l'
 | [],[],_,_,_=>rfl
 | [],y::u,_,_,h=>absurd ((h y).2 (by simp)) (by simp)
 | x::t,[],_,_,h=>absurd ((h x).1 (by simp)) (by simp)
 | x::t,y::u,h1,h2,h=>by
  obtain⟨a1,a2⟩:=List.pairwise_cons.1 h1;obtain⟨b1,b2⟩:=List.pairwise_cons.1 h2;have hxy:x=y:=by
   rcases List.mem_cons.1 ((h x).1 (by simp)) with e | e
   · exact e
   · rcases List.mem_cons.1 ((h y).2 (by simp)) with f | f
     · exact f.symm
     · exact absurd (List.lt_trans (b1 x e) (a1 y f)) (List.lt_irrefl _)
  subst hxy;rw[rising_eq a2 b2 fun z=>⟨fun hz=>?_,fun hz=>?_⟩]
  · rcases List.mem_cons.1 ((h z).1 (by simp[hz])) with e | e
    · subst e;exact absurd (a1 _ hz) (List.lt_irrefl _)
    · exact e
  · rcases List.mem_cons.1 ((h z).2 (by simp[hz])) with e | e
    · subst e;exact absurd (b1 _ hz) (List.lt_irrefl _)
    · exact e
theorem rawB_take {key:ByteArray} {l:List Nod} {k:Nat} {n:Nod} (h:l[k]?=some n):rawB key (l.take (k+1))=rawB key (l.take k)++(match getS n.labels key with | none=>[] | some d=>[d]):=by
 unfold rawB;rw[List.take_add_one,h,List.filterMap_append]
 cases hg:getS n.labels key<;>simp[hg]
theorem rawB_len (key:ByteArray) (l:List Nod):(rawB key l).length≤l.length:=List.length_filterMap_le _ _
def spA:ByteArray:=⟨#[97]⟩
def spB:ByteArray:=⟨#[98]⟩
def spC:ByteArray:=⟨#[99]⟩
def spD:ByteArray:=⟨#[100]⟩
def spX:ByteArray:=⟨#[120]⟩
def spY:ByteArray:=⟨#[121]⟩
def spP:Pd:=podO ⟨#[112]⟩ spA 1
def spQ:Pd:=podO ⟨#[113]⟩ spC 1
def spR:Pd:=podO ⟨#[114]⟩ ⟨#[]⟩ 1
def spK:Pd:=podK ⟨#[107]⟩ 1 ⟨#[]⟩
def spS:Clu:=⟨[nodZ spA spX,nodZ spB spY,nodZ spC spX,nodK spD 9],[spP,spQ,spR],[]⟩
theorem spSkB:skewS spR spS spB=(0,true):=by kernel_rfl
theorem spSkA:skewS spR spS spA=(3,true):=by kernel_rfl
theorem spSkK:skewS spK spS spD=(0,true):=by kernel_rfl
theorem spCoR:inD spR spS.pods spX spS.nodes=2:=by kernel_rfl
theorem spCoP:inD spP spS.pods spX spS.nodes=1:=by kernel_rfl
theorem spBad:badS spS=[⟨#[112]⟩,⟨#[113]⟩]:=by kernel_rfl
theorem spDom:domB kZone spS.nodes=[spX,spY]:=by
 have h:rawD kZone spS.nodes=[[120],[121],[120]]:=by kernel_rfl
 have hd:domL kZone spS.nodes=[[120],[121]]:=rising_eq (domL_spec _ _).1 (by decide) fun x=>by
  rw[(domL_spec _ _).2,h];simp only[List.mem_cons,List.not_mem_nil,or_false];exact⟨fun e=>e.elim .inl fun e=>e.elim .inr .inl,fun e=>e.elim .inl fun e=>.inr (.inl e)⟩
 unfold domB;rw[hd];decide
theorem count_any (s1 s2 s3 a1 a2 a3 a4:Option Addr) (n1 e1 n2 e2 n3 e3 m1 c1 m2 c2 m3 c3 m4 c4:Nat) (p:Pd) (s:Clu) (d:ByteArray) (w:World) (hd:d.size≤maxLen) (hn:NodesAt w s1 n1 s.nodes) (hp:PodsAt w s2 n2 s.pods) (hb1:n1≤100000) (hb2:n2≤100000) :
 Calls Try.prog 9 #[.agg #[.slice s1 n1 e1,.slice s2 n2 e2,.slice s3 n3 e3],PodV p (.slice a1 m1 c1) (.slice a2 m2 c2) (.slice a3 m3 c3) (.slice a4 m4 c4),.string d] w (Say (.int .i64 (inD p s.pods d s.nodes:Int)) w):=by
 obtain⟨Z,hZ⟩:=eX ((w.alloc (.cells #[.slice s1 n1 e1,.slice s2 n2 e2,.slice s3 n3 e3] 27)).alloc (.cells #[.string p.name,.string p.owner,.int .i64 p.prio,.slice a1 m1 c1,.slice a2 m2 c2,.slice a3 m3 c3,.slice a4 m4 c4,.string p.key,.int .i64 p.most,.string p.node,.bool p.hold] 41))
 have hkz:Kept w Z:=by rw[←hZ];exact kept_two _ _ _
 have HSB:=lH (freshN w (.slice s1 n1 e1) [.slice s2 n2 e2,.slice s3 n3 e3] 27 Z (by rw[←hZ];exact kept_alloc _ _));have HPB:=lH (show CellsN (w.heap.size+1) [.string p.name,.string p.owner,.int .i64 p.prio,.slice a1 m1 c1,.slice a2 m2 c2,.slice a3 m3 c3,.slice a4 m4 c4,.string p.key,.int .i64 p.most,.string p.node,.bool p.hold] Z by
  have dd:=freshN (w.alloc (.cells #[.slice s1 n1 e1,.slice s2 n2 e2,.slice s3 n3 e3] 27)) (.string p.name) [.string p.owner,.int .i64 p.prio,.slice a1 m1 c1,.slice a2 m2 c2,.slice a3 m3 c3,.slice a4 m4 c4,.string p.key,.int .i64 p.most,.string p.node,.bool p.hold] 41 Z (by rw[hZ];exact Kept.refl _);rw[World.size_alloc] at dd;exact dd)
 have HT:=lH (tally_any s1 s2 s3 a1 a2 a3 a4 n1 e1 n2 e2 n3 e3 m1 c1 m2 c2 m3 c3 m4 c4 p s.nodes s.pods Z (hn.kept hkz) (hp.kept hkz) hb1 hb2);have K:=lH hkz;clear hn hp hkz;obtain⟨y0,y1,y2⟩:=HSB.out.at3;obtain⟨r0,r1,r2,r3,r4,r5,r6,r7,r8,r9,r10⟩:=HPB.out.at11;unfold PodV at HT ⊢;go_enter Try.func9,Try.ntmps9;go_upto_region 1 with fail
 try rw[hZ]
 clear hZ;go_wp2_with fail
 refine HT.out.mono ?_;rintro e w1 ⟨b,n,rfl,hM,-,-,kk⟩;have K:=lH (K.out.trans kk);have hl:=hM.look d hd;clear kk hM y0 y1 y2 r0 r1 r2 r3 r4 r5 r6 r7 r8 r9 r10;go_wp2;go_ret;exact⟨rfl,K.out⟩
theorem mapBlock_other {w:World} {b k:Nat} (f:Array Value→Array Value) (h:k≠b):(Sort.mapBlock w b f).heap[k]?=w.heap[k]?:=by
 simp[Sort.mapBlock,Array.getElem?_modify,h.symm]
theorem putRow_goff (w:World) (g off q:Nat) (d:Array (List UInt8)) (os:Array Obj):GOff (fun i=>i=g) w (Sort.grow (Sort.putRow encStr (Sort.ahead w q) g off d) os):=by
 refine⟨rfl,rfl,rfl,?_,fun k hk hn=>?_⟩
 · show w.heap.size≤(_++os).size;rw[Array.size_append,Sort.size_putRow];exact Nat.le_add_right _ _
 · show ((Sort.putRow encStr (Sort.ahead w q) g off d).heap++os)[k]?=_;rw[Array.getElem?_append_left (by rw[Sort.size_putRow];exact hk)];exact mapBlock_other _ hn
theorem holds_grow {w:World} {b off:Nat} {d:Array (List UInt8)} (os:Array Obj) (h:Sort.Holds encStr w b off d) (hb:b<w.heap.size):Sort.Holds encStr (Sort.grow w os) b off d:=by
 have e:(Sort.grow w os).heap[b]?=w.heap[b]?:=by
  show (w.heap++os)[b]?=_;rw[Array.getElem?_append_left hb]
 intro j hj;obtain⟨h1,h2⟩:=h j hj;exact⟨(World.cell?_of_block (a:=⟨b,off+j,none⟩) e).trans h1,(World.frozen?_of_block (a:=⟨b,off+j,none⟩) e).trans h2⟩
theorem enc_bytes (x:List UInt8):encStr x=.string (bytes x):=rfl
theorem own_holds {base:Nat} {W:World} {v:Value} {la:List ByteArray} (h:Own StrLay 9 W base v la):(v=.slice none 0 0∧la=[])∨∃g cap,v=.slice (some ⟨g,0,none⟩) la.length cap∧base≤g∧g<W.heap.size∧la.length≤cap∧cap≤maxLen∧Sort.Holds encStr W g 0 (la.map fun x=>x.data.toList).toArray:=by
 obtain⟨⟨hl,h⟩,-⟩:=h;rcases h with ⟨rfl,hz⟩ | ⟨g,cap,cur,rfl,hg,hh,hc1,hc2,-,ht⟩
 · exact .inl ⟨rfl,List.eq_nil_of_length_eq_zero hz⟩
 · refine .inr ⟨g,cap,rfl,hg,(Array.getElem?_eq_some_iff.1 hh).1,hc1,hc2,fun j hj=>?_⟩;have hj:j<la.length:=by simpa using hj
   constructor
   · rw[Nat.zero_add,Lib.cell_of_heap hh];have h1:(cur.toList.take (la.length*1))[j]?=some (.string la[j]):=by
      rw[show List.take (la.length*1) cur.toList=rowCells StrLay la from ht];have:=rowCells_at StrLay la j la[j] 0 (.string la[j]) (List.getElem?_eq_getElem hj) rfl;simpa [StrLay] using this
     rw[List.getElem?_take_of_lt (by omega)] at h1;have e:encStr ((la.map fun x=>x.data.toList).toArray[j]!)=.string la[j]:=by
      rw[getElem!_pos _ j (by simpa using hj)];simp[encStr]
     rw[e];simpa using h1
   · unfold World.frozen?;rw[show W.heap[(⟨g,0+j,none⟩:Addr).block]?=some (.cells cur 9 (0,0)) from hh];simp
theorem domains_any (s1 s2 s3:Option Addr) (n1 e1 n2 e2 n3 e3:Nat) (nodes:List Nod) (key:ByteArray) (w:World) (hn:NodesAt w s1 n1 nodes) (hb1:n1≤100000) :
 Calls Try.prog 14 #[.agg #[.slice s1 n1 e1,.slice s2 n2 e2,.slice s3 n3 e3],.string key] w fun e w'=>∃v,e=.returned v∧Reads StrLay w' v (domB key nodes)∧Kept w w':=by
 obtain⟨i0,hi,hz0,hz1,hz2'⟩:=info_parts infoSt;obtain⟨Z,hZ⟩:=eX (w.alloc (.cells #[.slice s1 n1 e1,.slice s2 n2 e2,.slice s3 n3 e3] 27))
 have hkz:Kept w Z:=by rw[←hZ];exact kept_alloc _ _
 obtain⟨HSB,HN,HNL,HKZ⟩:=lH4 (freshN w (.slice s1 n1 e1) [.slice s2 n2 e2,.slice s3 n3 e3] 27 Z (by rw[hZ];exact Kept.refl _)) (hn.kept hkz) hn.1 hkz;clear hn hkz;go_enter Try.func14,Try.ntmps14;have y0:=HSB.out.at_ 0 _ rfl;go_upto_region 2 with fail
 try rw[hZ]
 clear hZ;go_wp2;clear y0;go_loopw [5,13] (fun v i wr=>∃k:Nat,k≤n1∧i=.int .i64 k∧∃la:List ByteArray,rawB key (nodes.take k)=la∧Own StrLay 9 wr Z.heap.size v la∧Kept Z wr) (fun _ i _=>n1-(intOf i).toNat)
 case atStart=>exact⟨0,Nat.zero_le _,rfl,[],rfl,Own.nil _ _ _,Kept.refl _⟩
 case round =>
  obtain⟨k,hk,rfl,la,hla,ho,hK⟩:=hrel;obtain⟨HX,HO,HK⟩:=lH3 hla ho hK;obtain⟨m,hm⟩:=eX (la.length)
  have hmk:m≤k:=by
   have:=rawB_len key (nodes.take k);rw[hla,hm,List.length_take] at this;omega
  have HT:=lH hm;have hbase:Z.heap.size≤wr.heap.size:=hK.size;by_cases hlt:k<n1
  · obtain⟨g,off,rfl⟩:=HN.out.form.resolve_left (by omega);obtain⟨n,b1,k1,d1,b2,k2,d2,b3,k3,d3,hn,hd,hb,q0,q1,q2,q3,q4,hat⟩:=(HN.out.kept hK).at_ hlt;have HAT:=lH hat;have HBT:=lH (rawB_take (key:=key) hn);have hkk:(k:Int)<(n1:Int):=by omega
    have hk0:¬(k:Int)<0:=by omega
    obtain⟨wx,hwx⟩:=eX (wr.alloc (.cells #[.string n.name,.slice b1 k1 d1,.slice b2 k2 d2,.slice b3 k3 d3,.bool n.cordon] 34))
    have hkx:Kept wr wx:=by rw[←hwx];exact kept_alloc _ _
    have HQB:=lH (freshN wr (.string n.name) [.slice b1 k1 d1,.slice b2 k2 d2,.slice b3 k3 d3,.bool n.cordon] 34 wx (by rw[hwx];exact Kept.refl _));obtain⟨bq,hbq⟩:=eX (wr.heap.size)
    rw[hbq] at HQB;have KX:=lH hkx;go_upto_region 5 with fail
    try rw[hwx]
    try rw[hbq]
    clear hwx hbq hd hb hn hkx hk0 hkk hat hla ho hm hK q0 q1 q2 q3 q4;have t2:=HQB.out.at_ 2 _ rfl;obtain⟨go,hgo⟩:=eX (getS n.labels key)
    have HGO:=lH hgo;rw[hgo] at HBT;go_wp2_with fail
    refine(getR (HAT.out.labels.kept KX.out) (x:=go.getD ByteArray.empty) (b:=go.isSome) (by unfold getT;rw[hgo]) (by unfold hasS;rw[hgo])).mono ?_;rintro e w1 ⟨rfl,kk⟩;have KW:=lH (KX.out.trans kk);clear kk hgo t2
    cases go with
    | none =>
     have HV:=lH (show rawB key (nodes.take (k+1))=la by rw[HBT.out,HX.out];exact List.append_nil _);go_wp2;go_roundw
     case rel=>exact⟨k+1,by omega,by go_num,la,HV.out,HO.out.kept KW.out,HK.out.trans KW.out⟩
     case measure=>simp[intOf];omega
    | some x =>
     obtain⟨HSZ,HV,HOW2⟩:=lH3 (getS_size HAT.out.labels.fine HGO.out) (show rawB key (nodes.take (k+1))=la++[x] by rw[HBT.out,HX.out]) (show w1.ownsRow Z.heap.size 9 1 u5 m (rowCells StrLay la) by have:=(HO.out.kept KW.out).1;rw[HT.out] at this;exact this);have hs1:wr.heap.size≤w1.heap.size:=Below.size KW.out;go_wp2_with (at_builtin;refine wpList_append_lies _ rfl _ _ _ rfl Z.heap.size 9 i0 _ 1 16 Try.underlying47 hi hz0 hz1 hz2' rfl (by decide) u5 m (rowCells StrLay la) rfl (HOW2.out.alloc _) ⟨w1.heap.size,0,none⟩ 1 1 (StrLay.cs x) rfl rfl (World.news_of_block (cs:=#[.string x]) (t:=9) (fr:=(0,0)) (heap_alloc_new w1 _)) (one_str0 x) (by decide) (by unfold maxLen;omega) (by omega) (by simp;omega) (w1.heap.size+1) (by simp) ?_;intro gg cap1 w2 hown1 hgrow hat hlt1)
     have HBW:=lH ((show Below Z.heap.size Z _ from HK.out.trans (KW.out.trans (kept_alloc w1 _))).grown hgrow (by simp;omega) (fun j hj=>(HOW2.out.lt j hj).1));go_wp2;go_roundw
     case rel=>exact⟨k+1,by omega,by go_num,la++[x],HV.out,Own.snoc hown1 (by rw[HT.out]) HO.out.2 HSZ.out,HBW.out⟩
     case measure=>simp[intOf];omega
  · have hge:¬(k:Int)<(n1:Int):=by omega
    have HE:=lH (show rawB key nodes=la by rw[←hla,List.take_of_length_le (by rw[HNL.out];omega)]);have HLB:=lH (show la.length≤100000 by omega);clear hla hK hm;rcases own_holds ho with ⟨rfl,he⟩ | ⟨g,cap,rfl,hg,hgl,hc1,hc2,hH⟩
    · have HD:=lH (show domB key nodes=[] by unfold domB domL rawD;rw[HE.out,he];simp[sortD,Lib.compact,Lib.compactUpTo]);clear ho;go_wp2_with fail
      refine(Try.slices_Sort_string_none none 0 wr).mono ?_;rintro e w1 ⟨rfl,rfl⟩;go_wp2_with fail
      refine(Try.slices_Compact_string_empty none 0 _).mono ?_;rintro e w2 ⟨rfl,rfl⟩;go_wp2;go_ret;exact⟨_,rfl,by rw[HD.out];exact Reads.nil _,HKZ.out.trans HK.out⟩
    · have HH:=lH hH;have HFS:=lH HO.out.2;clear ho hH;obtain⟨ss,hss⟩:=eX ((la.map fun x=>x.data.toList))
      have HSS:=lH hss;rw[hss] at HH;have hsl:la.length=ss.length:=by rw[←hss,List.length_map]
      rw[hsl] at hc1 ⊢;have hs5:ss.length≤100000:=by have:=HLB.out;omega
      clear hss hsl;go_wp2_with fail
      refine(Try.slices_Sort_string g 0 cap ss wr HH.out hgl (by omega)).mono ?_;rintro e w1 ⟨rfl,q,os,hw1⟩;have hz:(sortD ss).length=ss.length:=(List.mergeSort_perm ss _).length_eq;have hG1:GOff (fun i=>i=g) wr w1:=by rw[hw1];exact putRow_goff wr g 0 q _ os
      have hH1:Sort.Holds encStr w1 g 0 (sortD ss).toArray:=by rw[hw1];exact holds_grow os (Sort.holds_putRow _ _ _ _ _ _ (Sort.holds_ahead _ _ _ _ _ _ HH.out) (by simp)) (by rw[Sort.size_putRow];exact hgl)
      have HG1:=lH hG1;have HH1:=lH hH1;rw[←hz] at hc1;try rw[←hz]
      clear hw1 hG1 hH1;obtain⟨tt,htt⟩:=eX (sortD ss)
      have HTT:=lH htt;rw[htt] at HH1 hc1 hz;try rw[htt]
      clear htt;have HCC:=Try.slices_Compact_string g 0 cap tt w1 HH1.out (by omega) hc1;rw[hz] at HCC;go_wp2_with fail
      refine HCC.mono ?_;rintro e w2 ⟨rfl,q2,hw2⟩;rw[←hz] at hw2;clear HCC;have hcl:(Lib.compact tt).length≤tt.length:=Lib.compact_length_le tt;have hG2:GOff (fun i=>i=g) w1 w2:=by rw[hw2];have h9:=putRow_goff w1 g 0 q2 (Lib.compact tt++List.replicate (tt.length-(Lib.compact tt).length) []).toArray #[];rwa [Sort.grow_empty] at h9
      have hH2:Sort.Holds encStr w2 g 0 (Lib.compact tt++List.replicate (tt.length-(Lib.compact tt).length) []).toArray:=by rw[hw2];exact Sort.holds_putRow _ _ _ _ _ _ (Sort.holds_ahead _ _ _ _ _ _ HH1.out) (by simp;omega)
      obtain⟨HG2,HH2,HDB,HCL,HC1⟩:=lH5 hG2 hH2 (show domB key nodes=(Lib.compact tt).map bytes by unfold domB domL rawD;rw[HE.out,HSS.out,HTT.out]) hcl hc1;clear hw2 hG2 hH2 hcl;go_wp2;go_ret;refine⟨_,rfl,?_,HKZ.out.trans (GOff.below HK.out (HG1.out.trans HG2.out) fun i e=>by rw[e];exact hg)⟩;rw[HDB.out];refine⟨some ⟨g,0,none⟩,cap,by rw[List.length_map];rfl,by rw[List.length_map];have:=HCL.out;have:=HC1.out;omega,hc2,rfl,by rw[List.length_map];have:=HCL.out;have:=HC1.out;omega,fun x hx=>?_,.inr ⟨g,0,rfl,by have h1:=HG1.out.size;have h2:=HG2.out.size;omega,fun i x j u hx hu=>?_⟩⟩
      · obtain⟨y,hy,rfl⟩:=List.mem_map.1 hx;have hm2:y ∈ domL key nodes:=by unfold domL rawD;rw[HE.out,HSS.out,HTT.out];exact hy
        have hm3:=((domL_spec key nodes).2 y).1 hm2;unfold rawD at hm3;rw[HE.out] at hm3;obtain⟨z,hz9,rfl⟩:=List.mem_map.1 hm3;rw[bytes_data];exact HFS.out z hz9
      · rw[List.getElem?_map] at hx;obtain⟨y,hy,rfl⟩:=Option.map_eq_some_iff.1 hx;have hil:=(List.getElem?_eq_some_iff.1 hy).1
        cases j with
        | zero =>
         cases hu
         have:=(HH2.out i (by simp;omega)).1;rw[getElem!_pos _ i (by simp;omega)] at this;have e:(Lib.compact tt++List.replicate (tt.length-(Lib.compact tt).length) []).toArray[i]'(by simp;omega)=y:=by
          have:=(List.getElem?_eq_some_iff.1 hy).2;simp[List.getElem_append_left hil,this]
         rw[e,enc_bytes] at this;simpa [StrLay] using this
        | succ j=>cases hu
theorem two_texts {W:World} {b:Nat} {x y:ByteArray} (h:CellsN b [.string x,.string y] W) (hx:x.size≤maxLen) (hy:y.size≤maxLen):Reads StrLay W (.slice (some ⟨b,0,none⟩) 2 2) [x,y]:=by
 refine⟨_,2,rfl,(by decide:(2:Nat)≤2),(by decide:(2:Nat)≤maxLen),rfl,(by decide:(2:Nat)≤maxLen),fun z hz=>?_,.inr ⟨b,0,rfl,h.lt,fun i z j u hz hu=>?_⟩⟩
 · rcases List.mem_cons.1 hz with rfl | hz
   · exact hx
   · obtain rfl:=List.mem_singleton.1 hz;exact hy
 · match j,hu with
   | 0,hu =>
    match i,hz with
    | 0,hz=>cases hz;cases hu;exact h.at_ 0 _ rfl
    | 1,hz=>cases hz;cases hu;exact h.at_ 1 _ rfl
    | i+2,hz=>cases hz
   | j+1,hu=>cases hu
theorem spSkD2:skewS spR spS spD=(0,false):=by kernel_rfl
theorem knownSp_any (w:World):Calls Try.prog 4 #[] w (Say (.bool true) w):=by
 go_enter Try.func4,Try.ntmps4;go_wp2_with fail
 refine(zoned_any ⟨#[97]⟩ ⟨#[120]⟩ (by decide:(1:Nat)≤maxLen) (by decide:(1:Nat)≤maxLen) _).mono ?_;rintro e w1 ⟨b1,n1,d1,l1,m1,c1,rfl,ha,k⟩;have K:=lH k;have HN1:=lH ha;clear k ha;go_wp2_with fail
 refine(zoned_any ⟨#[98]⟩ ⟨#[121]⟩ (by decide:(1:Nat)≤maxLen) (by decide:(1:Nat)≤maxLen) _).mono ?_;rintro e w2 ⟨b2,n2,d2,l2,m2,c2,rfl,ha,k⟩;obtain⟨K,HN1,HN2⟩:=lH3 (K.out.trans k) (HN1.out.kept k) ha;clear k ha;go_wp2_with fail
 refine(zoned_any ⟨#[99]⟩ ⟨#[120]⟩ (by decide:(1:Nat)≤maxLen) (by decide:(1:Nat)≤maxLen) _).mono ?_;rintro e w3 ⟨b3,n3,d3,l3,m3,c3,rfl,ha,k⟩;obtain⟨K,HN1,HN2,HN3⟩:=lH4 (K.out.trans k) (HN1.out.kept k) (HN2.out.kept k) ha;clear k ha;go_wp2_with fail
 refine(lawN_any ⟨#[100]⟩ 9 (by decide:(-9223372036854775808:Int)≤9∧(9:Int)≤9223372036854775807) (by decide:(1:Nat)≤maxLen) _).mono ?_;rintro e w4 ⟨b4,n4,d4,rfl,ha,k⟩;obtain⟨K,HN1,HN2,HN3,HN4⟩:=lH5 (K.out.trans k) (HN1.out.kept k) (HN2.out.kept k) (HN3.out.kept k) ha;clear k ha;go_wp2_with fail
 obtain⟨g1,hg1⟩:=eX (w4.heap.size)
 obtain⟨w5,hw5⟩:=eX (w4.alloc (.cells #[.string ⟨#[97]⟩,.slice b1 n1 d1,.slice l1 m1 c1,.slice none 0 0,.bool false,.string ⟨#[98]⟩,.slice b2 n2 d2,.slice l2 m2 c2,.slice none 0 0,.bool false,.string ⟨#[99]⟩,.slice b3 n3 d3,.slice l3 m3 c3,.slice none 0 0,.bool false,.string ⟨#[100]⟩,.slice b4 n4 d4,.slice none 0 0,.slice none 0 0,.bool false] 34))
 have k:Kept w4 w5:=by rw[←hw5];exact kept_alloc _ _
 have HRN:=lH (show NodesAt w5 (some ⟨g1,0,none⟩) 4 spS.nodes from by
  have c:=freshN w4 (.string ⟨#[97]⟩) [.slice b1 n1 d1,.slice l1 m1 c1,.slice none 0 0,.bool false,.string ⟨#[98]⟩,.slice b2 n2 d2,.slice l2 m2 c2,.slice none 0 0,.bool false,.string ⟨#[99]⟩,.slice b3 n3 d3,.slice l3 m3 c3,.slice none 0 0,.bool false,.string ⟨#[100]⟩,.slice b4 n4 d4,.slice none 0 0,.slice none 0 0,.bool false] 34 w5 (by rw[hw5];exact Kept.refl _);rw[hg1] at c;exact nodes_row (lx:=[(nodZ ⟨#[97]⟩ ⟨#[120]⟩,(b1,n1,d1),(l1,m1,c1),(none,0,0)),(nodZ ⟨#[98]⟩ ⟨#[121]⟩,(b2,n2,d2),(l2,m2,c2),(none,0,0)),(nodZ ⟨#[99]⟩ ⟨#[120]⟩,(b3,n3,d3),(l3,m3,c3),(none,0,0)),(nodK ⟨#[100]⟩ 9,(b4,n4,d4),(none,0,0),(none,0,0))]) (row_fresh rfl c (fun _ _=>trivial) (by decide:(4:Nat)≤maxLen)) (fun z hz=>by
   rcases List.mem_cons.1 hz with rfl | hz
   · exact HN1.out.kept k
   rcases List.mem_cons.1 hz with rfl | hz
   · exact HN2.out.kept k
   rcases List.mem_cons.1 hz with rfl | hz
   · exact HN3.out.kept k
   obtain rfl:=List.mem_singleton.1 hz;exact HN4.out.kept k))
 have K:=lH (K.out.trans k);clear HN1 HN2 HN3 HN4 k;try rw[hw5]
 clear hw5;try rw[hg1]
 clear hg1;refine(ownedLaw_any ⟨#[112]⟩ ⟨#[97]⟩ 1 (by decide:(1:Nat)≤maxLen) (by decide:(1:Nat)≤maxLen) (by decide) _).mono ?_;rintro e w6 ⟨p1,q1,r1,rfl,ha,k⟩;obtain⟨K,HRN,HP1⟩:=lH3 (K.out.trans k) (HRN.out.kept k) ha;clear k ha;go_wp2_with fail
 refine(ownedLaw_any ⟨#[113]⟩ ⟨#[99]⟩ 1 (by decide:(1:Nat)≤maxLen) (by decide:(1:Nat)≤maxLen) (by decide) _).mono ?_;rintro e w7 ⟨p2,q2,r2,rfl,ha,k⟩;obtain⟨K,HRN,HP1,HP2⟩:=lH4 (K.out.trans k) (HRN.out.kept k) (HP1.out.kept k) ha;clear k ha;go_wp2_with fail
 refine(ownedLaw_any ⟨#[114]⟩ ⟨#[]⟩ 1 (by decide:(1:Nat)≤maxLen) (by decide:(0:Nat)≤maxLen) (by decide) _).mono ?_;rintro e w8 ⟨p3,q3,r3,rfl,ha,k⟩;obtain⟨K,HRN,HP1,HP2,HP3⟩:=lH5 (K.out.trans k) (HRN.out.kept k) (HP1.out.kept k) (HP2.out.kept k) ha;clear k ha;obtain⟨w8b,hw8b⟩:=eX (w8.alloc (.cells #[.string ⟨#[112]⟩,.string ⟨#[119,101,98]⟩,.int .i64 0,.slice p1 q1 r1,.slice none 0 0,.slice none 0 0,.slice none 0 0,.string ⟨#[122,111,110,101]⟩,.int .i64 1,.string ⟨#[97]⟩,.bool false,.string ⟨#[113]⟩,.string ⟨#[119,101,98]⟩,.int .i64 0,.slice p2 q2 r2,.slice none 0 0,.slice none 0 0,.slice none 0 0,.string ⟨#[122,111,110,101]⟩,.int .i64 1,.string ⟨#[99]⟩,.bool false,.string ⟨#[114]⟩,.string ⟨#[119,101,98]⟩,.int .i64 0,.slice p3 q3 r3,.slice none 0 0,.slice none 0 0,.slice none 0 0,.string ⟨#[122,111,110,101]⟩,.int .i64 1,.string ⟨#[]⟩,.bool false] 41))
 have hs8:w8b.heap.size=w8.heap.size+1:=by rw[←hw8b];simp
 obtain⟨w9,hw9⟩:=eX (w8b.alloc (.cells #[.slice (some ⟨g1,0,none⟩) 4 4,.slice (some ⟨w8.heap.size,0,none⟩) 3 3,.slice none 0 0] 27))
 have k:Kept w8 w9:=by rw[←hw9,←hw8b];exact kept_two _ _ _
 have hc:=freshN w8 (.string ⟨#[112]⟩) [.string ⟨#[119,101,98]⟩,.int .i64 0,.slice p1 q1 r1,.slice none 0 0,.slice none 0 0,.slice none 0 0,.string ⟨#[122,111,110,101]⟩,.int .i64 1,.string ⟨#[97]⟩,.bool false,.string ⟨#[113]⟩,.string ⟨#[119,101,98]⟩,.int .i64 0,.slice p2 q2 r2,.slice none 0 0,.slice none 0 0,.slice none 0 0,.string ⟨#[122,111,110,101]⟩,.int .i64 1,.string ⟨#[99]⟩,.bool false,.string ⟨#[114]⟩,.string ⟨#[119,101,98]⟩,.int .i64 0,.slice p3 q3 r3,.slice none 0 0,.slice none 0 0,.slice none 0 0,.string ⟨#[122,111,110,101]⟩,.int .i64 1,.string ⟨#[]⟩,.bool false] 41 w9 (by rw[←hw9,←hw8b];exact kept_alloc _ _);have HPC:=lH hc;have HRP:=lH (show PodsAt w9 (some ⟨w8.heap.size,0,none⟩) 3 spS.pods from by
  exact pods_row (lx:=[(podO ⟨#[112]⟩ ⟨#[97]⟩ 1,(p1,q1,r1),(none,0,0),(none,0,0),(none,0,0)),(podO ⟨#[113]⟩ ⟨#[99]⟩ 1,(p2,q2,r2),(none,0,0),(none,0,0),(none,0,0)),(podO ⟨#[114]⟩ ⟨#[]⟩ 1,(p3,q3,r3),(none,0,0),(none,0,0),(none,0,0))]) (row_fresh rfl hc (fun _ _=>trivial) (by decide:(3:Nat)≤maxLen)) (fun z hz=>by
   rcases List.mem_cons.1 hz with rfl | hz
   · exact HP1.out.kept k
   rcases List.mem_cons.1 hz with rfl | hz
   · exact HP2.out.kept k
   obtain rfl:=List.mem_singleton.1 hz;exact HP3.out.kept k))
 have HQ:=lH (show CellsN (w8.heap.size+1) [.slice (some ⟨g1,0,none⟩) 4 4,.slice (some ⟨w8.heap.size,0,none⟩) 3 3,.slice none 0 0] w9 by
  have c:=freshN w8b (.slice (some ⟨g1,0,none⟩) 4 4) [.slice (some ⟨w8.heap.size,0,none⟩) 3 3,.slice none 0 0] 27 w9 (by rw[hw9];exact Kept.refl _);rw[hs8] at c;exact c)
 have K:=lH (K.out.trans k);have HRN:=lH (HRN.out.kept k);clear HP1 HP2 HP3 k hc;obtain⟨g2,hg2⟩:=eX (w8.heap.size)
 have HW8:=lH hw8b;have HW9:=lH hw9;clear hw9 hw8b hs8;go_upto_region 2 with fail
 try rw[HW8.out]
 try rw[hg2]
 try rw[hg2] at HW9
 try rw[HW9.out]
 rw[hg2] at HPC HRP HQ;clear HW8 HW9 hg2;have HS:=lH (show ∀W,Kept w9 W→W.cell? ⟨g2+1,0,none⟩=some (.slice (some ⟨g1,0,none⟩) 4 4)∧W.cell? ⟨g2+1,1,none⟩=some (.slice (some ⟨g2,0,none⟩) 3 3)∧W.cell? ⟨g2+1,2,none⟩=some (.slice none 0 0)∧W.cell? ⟨g2,22,none⟩=some (.string ⟨#[114]⟩)∧W.cell? ⟨g2,23,none⟩=some (.string ⟨#[119,101,98]⟩)∧W.cell? ⟨g2,24,none⟩=some (.int .i64 0)∧W.cell? ⟨g2,25,none⟩=some (.slice p3 q3 r3)∧W.cell? ⟨g2,26,none⟩=some (.slice none 0 0)∧W.cell? ⟨g2,27,none⟩=some (.slice none 0 0)∧W.cell? ⟨g2,28,none⟩=some (.slice none 0 0)∧W.cell? ⟨g2,29,none⟩=some (.string ⟨#[122,111,110,101]⟩)∧W.cell? ⟨g2,30,none⟩=some (.int .i64 1)∧W.cell? ⟨g2,31,none⟩=some (.string ⟨#[]⟩)∧W.cell? ⟨g2,32,none⟩=some (.bool false)∧W.cell? ⟨g2,0,none⟩=some (.string ⟨#[112]⟩)∧W.cell? ⟨g2,1,none⟩=some (.string ⟨#[119,101,98]⟩)∧W.cell? ⟨g2,2,none⟩=some (.int .i64 0)∧W.cell? ⟨g2,3,none⟩=some (.slice p1 q1 r1)∧W.cell? ⟨g2,4,none⟩=some (.slice none 0 0)∧W.cell? ⟨g2,5,none⟩=some (.slice none 0 0)∧W.cell? ⟨g2,6,none⟩=some (.slice none 0 0)∧W.cell? ⟨g2,7,none⟩=some (.string ⟨#[122,111,110,101]⟩)∧W.cell? ⟨g2,8,none⟩=some (.int .i64 1)∧W.cell? ⟨g2,9,none⟩=some (.string ⟨#[97]⟩)∧W.cell? ⟨g2,10,none⟩=some (.bool false) from fun W k=>by
  have h:=HQ.out.kept k;have p:=HPC.out.kept k;exact⟨h.at_ 0 _ rfl,h.at_ 1 _ rfl,h.at_ 2 _ rfl,p.at_ 22 _ rfl,p.at_ 23 _ rfl,p.at_ 24 _ rfl,p.at_ 25 _ rfl,p.at_ 26 _ rfl,p.at_ 27 _ rfl,p.at_ 28 _ rfl,p.at_ 29 _ rfl,p.at_ 30 _ rfl,p.at_ 31 _ rfl,p.at_ 32 _ rfl,p.at_ 0 _ rfl,p.at_ 1 _ rfl,p.at_ 2 _ rfl,p.at_ 3 _ rfl,p.at_ 4 _ rfl,p.at_ 5 _ rfl,p.at_ 6 _ rfl,p.at_ 7 _ rfl,p.at_ 8 _ rfl,p.at_ 9 _ rfl,p.at_ 10 _ rfl⟩)
 have HSK:=lH (show ∀W,Kept w9 W→Calls Try.prog 8 #[.agg #[.slice (some ⟨g1,0,none⟩) 4 4,.slice (some ⟨g2,0,none⟩) 3 3,.slice none 0 0],.agg #[.string ⟨#[114]⟩,.string ⟨#[119,101,98]⟩,.int .i64 0,.slice p3 q3 r3,.slice none 0 0,.slice none 0 0,.slice none 0 0,.string ⟨#[122,111,110,101]⟩,.int .i64 1,.string ⟨#[]⟩,.bool false],.string ⟨#[98]⟩] W (Say (.tuple #[.int .i64 0,.bool true]) W) from fun W k=>by
  have h:=skew_any (some ⟨g1,0,none⟩) (some ⟨g2,0,none⟩) none p3 none none none 4 4 3 3 0 0 q3 r3 0 0 0 0 0 0 spR spS ⟨#[98]⟩ W (HRN.out.kept k) (HRP.out.kept k) (by decide) (by decide);rw[show skewS spR spS ⟨#[98]⟩=(0,true) from spSkB] at h;exact h)
 refine wp_region_held_drew (S:=fun W=>W.cell? ⟨g2+1,0,none⟩=some (.slice (some ⟨g1,0,none⟩) 4 4)∧W.cell? ⟨g2+1,1,none⟩=some (.slice (some ⟨g2,0,none⟩) 3 3)∧W.cell? ⟨g2+1,2,none⟩=some (.slice none 0 0)∧W.cell? ⟨g2,22,none⟩=some (.string ⟨#[114]⟩)∧W.cell? ⟨g2,23,none⟩=some (.string ⟨#[119,101,98]⟩)∧W.cell? ⟨g2,24,none⟩=some (.int .i64 0)∧W.cell? ⟨g2,25,none⟩=some (.slice p3 q3 r3)∧W.cell? ⟨g2,26,none⟩=some (.slice none 0 0)∧W.cell? ⟨g2,27,none⟩=some (.slice none 0 0)∧W.cell? ⟨g2,28,none⟩=some (.slice none 0 0)∧W.cell? ⟨g2,29,none⟩=some (.string ⟨#[122,111,110,101]⟩)∧W.cell? ⟨g2,30,none⟩=some (.int .i64 1)∧W.cell? ⟨g2,31,none⟩=some (.string ⟨#[]⟩)∧W.cell? ⟨g2,32,none⟩=some (.bool false)∧W.cell? ⟨g2,0,none⟩=some (.string ⟨#[112]⟩)∧W.cell? ⟨g2,1,none⟩=some (.string ⟨#[119,101,98]⟩)∧W.cell? ⟨g2,2,none⟩=some (.int .i64 0)∧W.cell? ⟨g2,3,none⟩=some (.slice p1 q1 r1)∧W.cell? ⟨g2,4,none⟩=some (.slice none 0 0)∧W.cell? ⟨g2,5,none⟩=some (.slice none 0 0)∧W.cell? ⟨g2,6,none⟩=some (.slice none 0 0)∧W.cell? ⟨g2,7,none⟩=some (.string ⟨#[122,111,110,101]⟩)∧W.cell? ⟨g2,8,none⟩=some (.int .i64 1)∧W.cell? ⟨g2,9,none⟩=some (.string ⟨#[97]⟩)∧W.cell? ⟨g2,10,none⟩=some (.bool false)) (by kernel_rfl) (HS.out _ (Kept.drew w9)) (fun hHeld=>?_);refine tR 0 rfl (by kernel_rfl) (fun _ _ _=>id) (Or.inl ⟨by rfl,by rintro W ⟨o0,o1,o2,o3,o4,o5,o6,o7,o8,o9,o10,o11,o12,o13,o14,o15,o16,o17,o18,o19,o20,o21,o22,o23,o24⟩;go_simp<;>with_reducible rfl⟩) ‹_› ?_;try simp only[nA,nB,nC,nD,nE]
 refine tR 1 rfl (by kernel_rfl) (fun _ _ _=>id) (Or.inl ⟨by rfl,by rintro W ⟨o0,o1,o2,o3,o4,o5,o6,o7,o8,o9,o10,o11,o12,o13,o14,o15,o16,o17,o18,o19,o20,o21,o22,o23,o24⟩;go_simp<;>with_reducible rfl⟩) ‹_› ?_;try simp only[nA,nB,nC,nD,nE]
 refine tR 2 rfl (by kernel_rfl) (fun _ _ _=>id) (Or.inl ⟨by rfl,by rintro W ⟨o0,o1,o2,o3,o4,o5,o6,o7,o8,o9,o10,o11,o12,o13,o14,o15,o16,o17,o18,o19,o20,o21,o22,o23,o24⟩;go_simp<;>with_reducible rfl⟩) ‹_› ?_;try simp only[nA,nB,nC,nD,nE]
 refine tR 3 rfl (by kernel_rfl) (fun _ _ _=>id) (Or.inl ⟨by rfl,by rintro W ⟨o0,o1,o2,o3,o4,o5,o6,o7,o8,o9,o10,o11,o12,o13,o14,o15,o16,o17,o18,o19,o20,o21,o22,o23,o24⟩;go_simp<;>with_reducible rfl⟩) ‹_› ?_;try simp only[nA,nB,nC,nD,nE]
 refine tR 4 rfl (by kernel_rfl) (fun _ _ _=>id) (Or.inl ⟨by rfl,by rintro W ⟨o0,o1,o2,o3,o4,o5,o6,o7,o8,o9,o10,o11,o12,o13,o14,o15,o16,o17,o18,o19,o20,o21,o22,o23,o24⟩;go_simp<;>with_reducible rfl⟩) ‹_› ?_;try simp only[nA,nB,nC,nD,nE]
 have J:=lH (Kept.drew w9);refine rd1 5 fun K9 Ky=>?_;go_simp;refine(HSK.out _ J.out).mono ?_;rintro e w10 ⟨rfl,kk⟩;have J:=lH (J.out.trans kk);clear kk HSK;refine Ky.out _ _ (HS.out _ J.out) (fun _=>?_);clear Ky K9;try simp only[nA,nB,nC,nD,nE]
 refine tR 6 rfl (by kernel_rfl) (fun _ _ _=>id) (Or.inl ⟨by rfl,by rintro W ⟨o0,o1,o2,o3,o4,o5,o6,o7,o8,o9,o10,o11,o12,o13,o14,o15,o16,o17,o18,o19,o20,o21,o22,o23,o24⟩;go_simp<;>with_reducible rfl⟩) ‹_› ?_;try simp only[nA,nB,nC,nD,nE]
 refine tR 7 rfl (by kernel_rfl) (fun _ _ _=>id) (Or.inl ⟨by rfl,by rintro W ⟨o0,o1,o2,o3,o4,o5,o6,o7,o8,o9,o10,o11,o12,o13,o14,o15,o16,o17,o18,o19,o20,o21,o22,o23,o24⟩;go_simp<;>with_reducible rfl⟩) ‹_› ?_;try simp only[nA,nB,nC,nD,nE]
 refine tR 8 rfl (by kernel_rfl) (fun _ _ _=>id) (Or.inl ⟨by rfl,by rintro W ⟨o0,o1,o2,o3,o4,o5,o6,o7,o8,o9,o10,o11,o12,o13,o14,o15,o16,o17,o18,o19,o20,o21,o22,o23,o24⟩;go_simp<;>with_reducible rfl⟩) ‹_› ?_;try simp only[nA,nB,nC,nD,nE]
 refine tR 9 rfl (by kernel_rfl) (fun _ _ _=>id) (Or.inl ⟨by rfl,by rintro W ⟨o0,o1,o2,o3,o4,o5,o6,o7,o8,o9,o10,o11,o12,o13,o14,o15,o16,o17,o18,o19,o20,o21,o22,o23,o24⟩;go_simp<;>with_reducible rfl⟩) ‹_› ?_;try simp only[nA,nB,nC,nD,nE]
 refine tR 10 rfl (by kernel_rfl) (fun _ _ _=>id) (Or.inl ⟨by rfl,by rintro W ⟨o0,o1,o2,o3,o4,o5,o6,o7,o8,o9,o10,o11,o12,o13,o14,o15,o16,o17,o18,o19,o20,o21,o22,o23,o24⟩;go_simp<;>with_reducible rfl⟩) ‹_› ?_;try simp only[nA,nB,nC,nD,nE]
 refine wpAnyH_done (by kernel_rfl) ?_ _;obtain⟨K,HRN,HRP,HPC,HQ⟩:=lH5 (K.out.trans J.out) (HRN.out.kept J.out) (HRP.out.kept J.out) (HPC.out.kept J.out) (HQ.out.kept J.out);clear HS J;go_wp2_with fail
 have HS:=lH (show ∀W,Kept w10 W→W.cell? ⟨g2+1,0,none⟩=some (.slice (some ⟨g1,0,none⟩) 4 4)∧W.cell? ⟨g2+1,1,none⟩=some (.slice (some ⟨g2,0,none⟩) 3 3)∧W.cell? ⟨g2+1,2,none⟩=some (.slice none 0 0)∧W.cell? ⟨g2,22,none⟩=some (.string ⟨#[114]⟩)∧W.cell? ⟨g2,23,none⟩=some (.string ⟨#[119,101,98]⟩)∧W.cell? ⟨g2,24,none⟩=some (.int .i64 0)∧W.cell? ⟨g2,25,none⟩=some (.slice p3 q3 r3)∧W.cell? ⟨g2,26,none⟩=some (.slice none 0 0)∧W.cell? ⟨g2,27,none⟩=some (.slice none 0 0)∧W.cell? ⟨g2,28,none⟩=some (.slice none 0 0)∧W.cell? ⟨g2,29,none⟩=some (.string ⟨#[122,111,110,101]⟩)∧W.cell? ⟨g2,30,none⟩=some (.int .i64 1)∧W.cell? ⟨g2,31,none⟩=some (.string ⟨#[]⟩)∧W.cell? ⟨g2,32,none⟩=some (.bool false)∧W.cell? ⟨g2,0,none⟩=some (.string ⟨#[112]⟩)∧W.cell? ⟨g2,1,none⟩=some (.string ⟨#[119,101,98]⟩)∧W.cell? ⟨g2,2,none⟩=some (.int .i64 0)∧W.cell? ⟨g2,3,none⟩=some (.slice p1 q1 r1)∧W.cell? ⟨g2,4,none⟩=some (.slice none 0 0)∧W.cell? ⟨g2,5,none⟩=some (.slice none 0 0)∧W.cell? ⟨g2,6,none⟩=some (.slice none 0 0)∧W.cell? ⟨g2,7,none⟩=some (.string ⟨#[122,111,110,101]⟩)∧W.cell? ⟨g2,8,none⟩=some (.int .i64 1)∧W.cell? ⟨g2,9,none⟩=some (.string ⟨#[97]⟩)∧W.cell? ⟨g2,10,none⟩=some (.bool false) from fun W k=>by
  have h:=HQ.out.kept k;have p:=HPC.out.kept k;exact⟨h.at_ 0 _ rfl,h.at_ 1 _ rfl,h.at_ 2 _ rfl,p.at_ 22 _ rfl,p.at_ 23 _ rfl,p.at_ 24 _ rfl,p.at_ 25 _ rfl,p.at_ 26 _ rfl,p.at_ 27 _ rfl,p.at_ 28 _ rfl,p.at_ 29 _ rfl,p.at_ 30 _ rfl,p.at_ 31 _ rfl,p.at_ 32 _ rfl,p.at_ 0 _ rfl,p.at_ 1 _ rfl,p.at_ 2 _ rfl,p.at_ 3 _ rfl,p.at_ 4 _ rfl,p.at_ 5 _ rfl,p.at_ 6 _ rfl,p.at_ 7 _ rfl,p.at_ 8 _ rfl,p.at_ 9 _ rfl,p.at_ 10 _ rfl⟩)
 have HSK:=lH (show ∀W,Kept w10 W→Calls Try.prog 8 #[.agg #[.slice (some ⟨g1,0,none⟩) 4 4,.slice (some ⟨g2,0,none⟩) 3 3,.slice none 0 0],.agg #[.string ⟨#[114]⟩,.string ⟨#[119,101,98]⟩,.int .i64 0,.slice p3 q3 r3,.slice none 0 0,.slice none 0 0,.slice none 0 0,.string ⟨#[122,111,110,101]⟩,.int .i64 1,.string ⟨#[]⟩,.bool false],.string ⟨#[97]⟩] W (Say (.tuple #[.int .i64 3,.bool true]) W) from fun W k=>by
  have h:=skew_any (some ⟨g1,0,none⟩) (some ⟨g2,0,none⟩) none p3 none none none 4 4 3 3 0 0 q3 r3 0 0 0 0 0 0 spR spS ⟨#[97]⟩ W (HRN.out.kept k) (HRP.out.kept k) (by decide) (by decide);rw[show skewS spR spS ⟨#[97]⟩=(3,true) from spSkA] at h;exact h)
 refine wp_region_held_drew (S:=fun W=>W.cell? ⟨g2+1,0,none⟩=some (.slice (some ⟨g1,0,none⟩) 4 4)∧W.cell? ⟨g2+1,1,none⟩=some (.slice (some ⟨g2,0,none⟩) 3 3)∧W.cell? ⟨g2+1,2,none⟩=some (.slice none 0 0)∧W.cell? ⟨g2,22,none⟩=some (.string ⟨#[114]⟩)∧W.cell? ⟨g2,23,none⟩=some (.string ⟨#[119,101,98]⟩)∧W.cell? ⟨g2,24,none⟩=some (.int .i64 0)∧W.cell? ⟨g2,25,none⟩=some (.slice p3 q3 r3)∧W.cell? ⟨g2,26,none⟩=some (.slice none 0 0)∧W.cell? ⟨g2,27,none⟩=some (.slice none 0 0)∧W.cell? ⟨g2,28,none⟩=some (.slice none 0 0)∧W.cell? ⟨g2,29,none⟩=some (.string ⟨#[122,111,110,101]⟩)∧W.cell? ⟨g2,30,none⟩=some (.int .i64 1)∧W.cell? ⟨g2,31,none⟩=some (.string ⟨#[]⟩)∧W.cell? ⟨g2,32,none⟩=some (.bool false)∧W.cell? ⟨g2,0,none⟩=some (.string ⟨#[112]⟩)∧W.cell? ⟨g2,1,none⟩=some (.string ⟨#[119,101,98]⟩)∧W.cell? ⟨g2,2,none⟩=some (.int .i64 0)∧W.cell? ⟨g2,3,none⟩=some (.slice p1 q1 r1)∧W.cell? ⟨g2,4,none⟩=some (.slice none 0 0)∧W.cell? ⟨g2,5,none⟩=some (.slice none 0 0)∧W.cell? ⟨g2,6,none⟩=some (.slice none 0 0)∧W.cell? ⟨g2,7,none⟩=some (.string ⟨#[122,111,110,101]⟩)∧W.cell? ⟨g2,8,none⟩=some (.int .i64 1)∧W.cell? ⟨g2,9,none⟩=some (.string ⟨#[97]⟩)∧W.cell? ⟨g2,10,none⟩=some (.bool false)) (by kernel_rfl) (HS.out _ (Kept.drew w10)) (fun hHeld=>?_);refine tR 0 rfl (by kernel_rfl) (fun _ _ _=>id) (Or.inl ⟨by rfl,by rintro W ⟨o0,o1,o2,o3,o4,o5,o6,o7,o8,o9,o10,o11,o12,o13,o14,o15,o16,o17,o18,o19,o20,o21,o22,o23,o24⟩;go_simp<;>with_reducible rfl⟩) ‹_› ?_;try simp only[nA,nB,nC,nD,nE]
 refine tR 1 rfl (by kernel_rfl) (fun _ _ _=>id) (Or.inl ⟨by rfl,by rintro W ⟨o0,o1,o2,o3,o4,o5,o6,o7,o8,o9,o10,o11,o12,o13,o14,o15,o16,o17,o18,o19,o20,o21,o22,o23,o24⟩;go_simp<;>with_reducible rfl⟩) ‹_› ?_;try simp only[nA,nB,nC,nD,nE]
 refine tR 2 rfl (by kernel_rfl) (fun _ _ _=>id) (Or.inl ⟨by rfl,by rintro W ⟨o0,o1,o2,o3,o4,o5,o6,o7,o8,o9,o10,o11,o12,o13,o14,o15,o16,o17,o18,o19,o20,o21,o22,o23,o24⟩;go_simp<;>with_reducible rfl⟩) ‹_› ?_;try simp only[nA,nB,nC,nD,nE]
 refine tR 3 rfl (by kernel_rfl) (fun _ _ _=>id) (Or.inl ⟨by rfl,by rintro W ⟨o0,o1,o2,o3,o4,o5,o6,o7,o8,o9,o10,o11,o12,o13,o14,o15,o16,o17,o18,o19,o20,o21,o22,o23,o24⟩;go_simp<;>with_reducible rfl⟩) ‹_› ?_;try simp only[nA,nB,nC,nD,nE]
 refine tR 4 rfl (by kernel_rfl) (fun _ _ _=>id) (Or.inl ⟨by rfl,by rintro W ⟨o0,o1,o2,o3,o4,o5,o6,o7,o8,o9,o10,o11,o12,o13,o14,o15,o16,o17,o18,o19,o20,o21,o22,o23,o24⟩;go_simp<;>with_reducible rfl⟩) ‹_› ?_;try simp only[nA,nB,nC,nD,nE]
 have J:=lH (Kept.drew w10);refine rd1 5 fun K9 Ky=>?_;go_simp;refine(HSK.out _ J.out).mono ?_;rintro e w11 ⟨rfl,kk⟩;have J:=lH (J.out.trans kk);clear kk HSK;refine Ky.out _ _ (HS.out _ J.out) (fun _=>?_);clear Ky K9;try simp only[nA,nB,nC,nD,nE]
 refine tR 6 rfl (by kernel_rfl) (fun _ _ _=>id) (Or.inl ⟨by rfl,by rintro W ⟨o0,o1,o2,o3,o4,o5,o6,o7,o8,o9,o10,o11,o12,o13,o14,o15,o16,o17,o18,o19,o20,o21,o22,o23,o24⟩;go_simp<;>with_reducible rfl⟩) ‹_› ?_;try simp only[nA,nB,nC,nD,nE]
 refine tR 7 rfl (by kernel_rfl) (fun _ _ _=>id) (Or.inl ⟨by rfl,by rintro W ⟨o0,o1,o2,o3,o4,o5,o6,o7,o8,o9,o10,o11,o12,o13,o14,o15,o16,o17,o18,o19,o20,o21,o22,o23,o24⟩;go_simp<;>with_reducible rfl⟩) ‹_› ?_;try simp only[nA,nB,nC,nD,nE]
 refine tR 8 rfl (by kernel_rfl) (fun _ _ _=>id) (Or.inl ⟨by rfl,by rintro W ⟨o0,o1,o2,o3,o4,o5,o6,o7,o8,o9,o10,o11,o12,o13,o14,o15,o16,o17,o18,o19,o20,o21,o22,o23,o24⟩;go_simp<;>with_reducible rfl⟩) ‹_› ?_;try simp only[nA,nB,nC,nD,nE]
 refine tR 9 rfl (by kernel_rfl) (fun _ _ _=>id) (Or.inl ⟨by rfl,by rintro W ⟨o0,o1,o2,o3,o4,o5,o6,o7,o8,o9,o10,o11,o12,o13,o14,o15,o16,o17,o18,o19,o20,o21,o22,o23,o24⟩;go_simp<;>with_reducible rfl⟩) ‹_› ?_;try simp only[nA,nB,nC,nD,nE]
 refine tR 10 rfl (by kernel_rfl) (fun _ _ _=>id) (Or.inl ⟨by rfl,by rintro W ⟨o0,o1,o2,o3,o4,o5,o6,o7,o8,o9,o10,o11,o12,o13,o14,o15,o16,o17,o18,o19,o20,o21,o22,o23,o24⟩;go_simp<;>with_reducible rfl⟩) ‹_› ?_;try simp only[nA,nB,nC,nD,nE]
 refine wpAnyH_done (by kernel_rfl) ?_ _;obtain⟨K,HRN,HRP,HPC,HQ⟩:=lH5 (K.out.trans J.out) (HRN.out.kept J.out) (HRP.out.kept J.out) (HPC.out.kept J.out) (HQ.out.kept J.out);clear HS J;go_wp2_with fail
 have HS:=lH (show ∀W,Kept w11 W→W.cell? ⟨g2+1,0,none⟩=some (.slice (some ⟨g1,0,none⟩) 4 4)∧W.cell? ⟨g2+1,1,none⟩=some (.slice (some ⟨g2,0,none⟩) 3 3)∧W.cell? ⟨g2+1,2,none⟩=some (.slice none 0 0)∧W.cell? ⟨g2,22,none⟩=some (.string ⟨#[114]⟩)∧W.cell? ⟨g2,23,none⟩=some (.string ⟨#[119,101,98]⟩)∧W.cell? ⟨g2,24,none⟩=some (.int .i64 0)∧W.cell? ⟨g2,25,none⟩=some (.slice p3 q3 r3)∧W.cell? ⟨g2,26,none⟩=some (.slice none 0 0)∧W.cell? ⟨g2,27,none⟩=some (.slice none 0 0)∧W.cell? ⟨g2,28,none⟩=some (.slice none 0 0)∧W.cell? ⟨g2,29,none⟩=some (.string ⟨#[122,111,110,101]⟩)∧W.cell? ⟨g2,30,none⟩=some (.int .i64 1)∧W.cell? ⟨g2,31,none⟩=some (.string ⟨#[]⟩)∧W.cell? ⟨g2,32,none⟩=some (.bool false)∧W.cell? ⟨g2,0,none⟩=some (.string ⟨#[112]⟩)∧W.cell? ⟨g2,1,none⟩=some (.string ⟨#[119,101,98]⟩)∧W.cell? ⟨g2,2,none⟩=some (.int .i64 0)∧W.cell? ⟨g2,3,none⟩=some (.slice p1 q1 r1)∧W.cell? ⟨g2,4,none⟩=some (.slice none 0 0)∧W.cell? ⟨g2,5,none⟩=some (.slice none 0 0)∧W.cell? ⟨g2,6,none⟩=some (.slice none 0 0)∧W.cell? ⟨g2,7,none⟩=some (.string ⟨#[122,111,110,101]⟩)∧W.cell? ⟨g2,8,none⟩=some (.int .i64 1)∧W.cell? ⟨g2,9,none⟩=some (.string ⟨#[97]⟩)∧W.cell? ⟨g2,10,none⟩=some (.bool false) from fun W k=>by
  have h:=HQ.out.kept k;have p:=HPC.out.kept k;exact⟨h.at_ 0 _ rfl,h.at_ 1 _ rfl,h.at_ 2 _ rfl,p.at_ 22 _ rfl,p.at_ 23 _ rfl,p.at_ 24 _ rfl,p.at_ 25 _ rfl,p.at_ 26 _ rfl,p.at_ 27 _ rfl,p.at_ 28 _ rfl,p.at_ 29 _ rfl,p.at_ 30 _ rfl,p.at_ 31 _ rfl,p.at_ 32 _ rfl,p.at_ 0 _ rfl,p.at_ 1 _ rfl,p.at_ 2 _ rfl,p.at_ 3 _ rfl,p.at_ 4 _ rfl,p.at_ 5 _ rfl,p.at_ 6 _ rfl,p.at_ 7 _ rfl,p.at_ 8 _ rfl,p.at_ 9 _ rfl,p.at_ 10 _ rfl⟩)
 have HSK:=lH (show ∀W,Kept w11 W→Calls Try.prog 8 #[.agg #[.slice (some ⟨g1,0,none⟩) 4 4,.slice (some ⟨g2,0,none⟩) 3 3,.slice none 0 0],.agg #[.string ⟨#[114]⟩,.string ⟨#[119,101,98]⟩,.int .i64 0,.slice p3 q3 r3,.slice none 0 0,.slice none 0 0,.slice none 0 0,.string ⟨#[122,111,110,101]⟩,.int .i64 1,.string ⟨#[]⟩,.bool false],.string ⟨#[100]⟩] W (Say (.tuple #[.int .i64 0,.bool false]) W) from fun W k=>by
  have h:=skew_any (some ⟨g1,0,none⟩) (some ⟨g2,0,none⟩) none p3 none none none 4 4 3 3 0 0 q3 r3 0 0 0 0 0 0 spR spS ⟨#[100]⟩ W (HRN.out.kept k) (HRP.out.kept k) (by decide) (by decide);rw[show skewS spR spS ⟨#[100]⟩=(0,false) from spSkD2] at h;exact h)
 refine wp_region_held_drew (S:=fun W=>W.cell? ⟨g2+1,0,none⟩=some (.slice (some ⟨g1,0,none⟩) 4 4)∧W.cell? ⟨g2+1,1,none⟩=some (.slice (some ⟨g2,0,none⟩) 3 3)∧W.cell? ⟨g2+1,2,none⟩=some (.slice none 0 0)∧W.cell? ⟨g2,22,none⟩=some (.string ⟨#[114]⟩)∧W.cell? ⟨g2,23,none⟩=some (.string ⟨#[119,101,98]⟩)∧W.cell? ⟨g2,24,none⟩=some (.int .i64 0)∧W.cell? ⟨g2,25,none⟩=some (.slice p3 q3 r3)∧W.cell? ⟨g2,26,none⟩=some (.slice none 0 0)∧W.cell? ⟨g2,27,none⟩=some (.slice none 0 0)∧W.cell? ⟨g2,28,none⟩=some (.slice none 0 0)∧W.cell? ⟨g2,29,none⟩=some (.string ⟨#[122,111,110,101]⟩)∧W.cell? ⟨g2,30,none⟩=some (.int .i64 1)∧W.cell? ⟨g2,31,none⟩=some (.string ⟨#[]⟩)∧W.cell? ⟨g2,32,none⟩=some (.bool false)∧W.cell? ⟨g2,0,none⟩=some (.string ⟨#[112]⟩)∧W.cell? ⟨g2,1,none⟩=some (.string ⟨#[119,101,98]⟩)∧W.cell? ⟨g2,2,none⟩=some (.int .i64 0)∧W.cell? ⟨g2,3,none⟩=some (.slice p1 q1 r1)∧W.cell? ⟨g2,4,none⟩=some (.slice none 0 0)∧W.cell? ⟨g2,5,none⟩=some (.slice none 0 0)∧W.cell? ⟨g2,6,none⟩=some (.slice none 0 0)∧W.cell? ⟨g2,7,none⟩=some (.string ⟨#[122,111,110,101]⟩)∧W.cell? ⟨g2,8,none⟩=some (.int .i64 1)∧W.cell? ⟨g2,9,none⟩=some (.string ⟨#[97]⟩)∧W.cell? ⟨g2,10,none⟩=some (.bool false)) (by kernel_rfl) (HS.out _ (Kept.drew w11)) (fun hHeld=>?_);refine tR 0 rfl (by kernel_rfl) (fun _ _ _=>id) (Or.inl ⟨by rfl,by rintro W ⟨o0,o1,o2,o3,o4,o5,o6,o7,o8,o9,o10,o11,o12,o13,o14,o15,o16,o17,o18,o19,o20,o21,o22,o23,o24⟩;go_simp<;>with_reducible rfl⟩) ‹_› ?_;try simp only[nA,nB,nC,nD,nE]
 refine tR 1 rfl (by kernel_rfl) (fun _ _ _=>id) (Or.inl ⟨by rfl,by rintro W ⟨o0,o1,o2,o3,o4,o5,o6,o7,o8,o9,o10,o11,o12,o13,o14,o15,o16,o17,o18,o19,o20,o21,o22,o23,o24⟩;go_simp<;>with_reducible rfl⟩) ‹_› ?_;try simp only[nA,nB,nC,nD,nE]
 refine tR 2 rfl (by kernel_rfl) (fun _ _ _=>id) (Or.inl ⟨by rfl,by rintro W ⟨o0,o1,o2,o3,o4,o5,o6,o7,o8,o9,o10,o11,o12,o13,o14,o15,o16,o17,o18,o19,o20,o21,o22,o23,o24⟩;go_simp<;>with_reducible rfl⟩) ‹_› ?_;try simp only[nA,nB,nC,nD,nE]
 refine tR 3 rfl (by kernel_rfl) (fun _ _ _=>id) (Or.inl ⟨by rfl,by rintro W ⟨o0,o1,o2,o3,o4,o5,o6,o7,o8,o9,o10,o11,o12,o13,o14,o15,o16,o17,o18,o19,o20,o21,o22,o23,o24⟩;go_simp<;>with_reducible rfl⟩) ‹_› ?_;try simp only[nA,nB,nC,nD,nE]
 refine tR 4 rfl (by kernel_rfl) (fun _ _ _=>id) (Or.inl ⟨by rfl,by rintro W ⟨o0,o1,o2,o3,o4,o5,o6,o7,o8,o9,o10,o11,o12,o13,o14,o15,o16,o17,o18,o19,o20,o21,o22,o23,o24⟩;go_simp<;>with_reducible rfl⟩) ‹_› ?_;try simp only[nA,nB,nC,nD,nE]
 have J:=lH (Kept.drew w11);refine rd1 5 fun K9 Ky=>?_;go_simp;refine(HSK.out _ J.out).mono ?_;rintro e w12 ⟨rfl,kk⟩;have J:=lH (J.out.trans kk);clear kk HSK;refine Ky.out _ _ (HS.out _ J.out) (fun _=>?_);clear Ky K9;try simp only[nA,nB,nC,nD,nE]
 refine tR 6 rfl (by kernel_rfl) (fun _ _ _=>id) (Or.inl ⟨by rfl,by rintro W ⟨o0,o1,o2,o3,o4,o5,o6,o7,o8,o9,o10,o11,o12,o13,o14,o15,o16,o17,o18,o19,o20,o21,o22,o23,o24⟩;go_simp<;>with_reducible rfl⟩) ‹_› ?_;try simp only[nA,nB,nC,nD,nE]
 refine tR 7 rfl (by kernel_rfl) (fun _ _ _=>id) (Or.inl ⟨by rfl,by rintro W ⟨o0,o1,o2,o3,o4,o5,o6,o7,o8,o9,o10,o11,o12,o13,o14,o15,o16,o17,o18,o19,o20,o21,o22,o23,o24⟩;go_simp<;>with_reducible rfl⟩) ‹_› ?_;try simp only[nA,nB,nC,nD,nE]
 refine tR 8 rfl (by kernel_rfl) (fun _ _ _=>id) (Or.inl ⟨by rfl,by rintro W ⟨o0,o1,o2,o3,o4,o5,o6,o7,o8,o9,o10,o11,o12,o13,o14,o15,o16,o17,o18,o19,o20,o21,o22,o23,o24⟩;go_simp<;>with_reducible rfl⟩) ‹_› ?_;try simp only[nA,nB,nC,nD,nE]
 refine tR 9 rfl (by kernel_rfl) (fun _ _ _=>id) (Or.inl ⟨by rfl,by rintro W ⟨o0,o1,o2,o3,o4,o5,o6,o7,o8,o9,o10,o11,o12,o13,o14,o15,o16,o17,o18,o19,o20,o21,o22,o23,o24⟩;go_simp<;>with_reducible rfl⟩) ‹_› ?_;try simp only[nA,nB,nC,nD,nE]
 refine tR 10 rfl (by kernel_rfl) (fun _ _ _=>id) (Or.inl ⟨by rfl,by rintro W ⟨o0,o1,o2,o3,o4,o5,o6,o7,o8,o9,o10,o11,o12,o13,o14,o15,o16,o17,o18,o19,o20,o21,o22,o23,o24⟩;go_simp<;>with_reducible rfl⟩) ‹_› ?_;try simp only[nA,nB,nC,nD,nE]
 refine wpAnyH_done (by kernel_rfl) ?_ _;obtain⟨K,HRN,HRP,HPC,HQ⟩:=lH5 (K.out.trans J.out) (HRN.out.kept J.out) (HRP.out.kept J.out) (HPC.out.kept J.out) (HQ.out.kept J.out);clear HS J;go_wp2_with fail
 have HS:=lH (show ∀W,Kept w12 W→W.cell? ⟨g2+1,0,none⟩=some (.slice (some ⟨g1,0,none⟩) 4 4)∧W.cell? ⟨g2+1,1,none⟩=some (.slice (some ⟨g2,0,none⟩) 3 3)∧W.cell? ⟨g2+1,2,none⟩=some (.slice none 0 0)∧W.cell? ⟨g2,22,none⟩=some (.string ⟨#[114]⟩)∧W.cell? ⟨g2,23,none⟩=some (.string ⟨#[119,101,98]⟩)∧W.cell? ⟨g2,24,none⟩=some (.int .i64 0)∧W.cell? ⟨g2,25,none⟩=some (.slice p3 q3 r3)∧W.cell? ⟨g2,26,none⟩=some (.slice none 0 0)∧W.cell? ⟨g2,27,none⟩=some (.slice none 0 0)∧W.cell? ⟨g2,28,none⟩=some (.slice none 0 0)∧W.cell? ⟨g2,29,none⟩=some (.string ⟨#[122,111,110,101]⟩)∧W.cell? ⟨g2,30,none⟩=some (.int .i64 1)∧W.cell? ⟨g2,31,none⟩=some (.string ⟨#[]⟩)∧W.cell? ⟨g2,32,none⟩=some (.bool false)∧W.cell? ⟨g2,0,none⟩=some (.string ⟨#[112]⟩)∧W.cell? ⟨g2,1,none⟩=some (.string ⟨#[119,101,98]⟩)∧W.cell? ⟨g2,2,none⟩=some (.int .i64 0)∧W.cell? ⟨g2,3,none⟩=some (.slice p1 q1 r1)∧W.cell? ⟨g2,4,none⟩=some (.slice none 0 0)∧W.cell? ⟨g2,5,none⟩=some (.slice none 0 0)∧W.cell? ⟨g2,6,none⟩=some (.slice none 0 0)∧W.cell? ⟨g2,7,none⟩=some (.string ⟨#[122,111,110,101]⟩)∧W.cell? ⟨g2,8,none⟩=some (.int .i64 1)∧W.cell? ⟨g2,9,none⟩=some (.string ⟨#[97]⟩)∧W.cell? ⟨g2,10,none⟩=some (.bool false) from fun W k=>by
  have h:=HQ.out.kept k;have p:=HPC.out.kept k;exact⟨h.at_ 0 _ rfl,h.at_ 1 _ rfl,h.at_ 2 _ rfl,p.at_ 22 _ rfl,p.at_ 23 _ rfl,p.at_ 24 _ rfl,p.at_ 25 _ rfl,p.at_ 26 _ rfl,p.at_ 27 _ rfl,p.at_ 28 _ rfl,p.at_ 29 _ rfl,p.at_ 30 _ rfl,p.at_ 31 _ rfl,p.at_ 32 _ rfl,p.at_ 0 _ rfl,p.at_ 1 _ rfl,p.at_ 2 _ rfl,p.at_ 3 _ rfl,p.at_ 4 _ rfl,p.at_ 5 _ rfl,p.at_ 6 _ rfl,p.at_ 7 _ rfl,p.at_ 8 _ rfl,p.at_ 9 _ rfl,p.at_ 10 _ rfl⟩)
 refine wp_region_held_drew (S:=fun W=>W.cell? ⟨g2+1,0,none⟩=some (.slice (some ⟨g1,0,none⟩) 4 4)∧W.cell? ⟨g2+1,1,none⟩=some (.slice (some ⟨g2,0,none⟩) 3 3)∧W.cell? ⟨g2+1,2,none⟩=some (.slice none 0 0)∧W.cell? ⟨g2,22,none⟩=some (.string ⟨#[114]⟩)∧W.cell? ⟨g2,23,none⟩=some (.string ⟨#[119,101,98]⟩)∧W.cell? ⟨g2,24,none⟩=some (.int .i64 0)∧W.cell? ⟨g2,25,none⟩=some (.slice p3 q3 r3)∧W.cell? ⟨g2,26,none⟩=some (.slice none 0 0)∧W.cell? ⟨g2,27,none⟩=some (.slice none 0 0)∧W.cell? ⟨g2,28,none⟩=some (.slice none 0 0)∧W.cell? ⟨g2,29,none⟩=some (.string ⟨#[122,111,110,101]⟩)∧W.cell? ⟨g2,30,none⟩=some (.int .i64 1)∧W.cell? ⟨g2,31,none⟩=some (.string ⟨#[]⟩)∧W.cell? ⟨g2,32,none⟩=some (.bool false)∧W.cell? ⟨g2,0,none⟩=some (.string ⟨#[112]⟩)∧W.cell? ⟨g2,1,none⟩=some (.string ⟨#[119,101,98]⟩)∧W.cell? ⟨g2,2,none⟩=some (.int .i64 0)∧W.cell? ⟨g2,3,none⟩=some (.slice p1 q1 r1)∧W.cell? ⟨g2,4,none⟩=some (.slice none 0 0)∧W.cell? ⟨g2,5,none⟩=some (.slice none 0 0)∧W.cell? ⟨g2,6,none⟩=some (.slice none 0 0)∧W.cell? ⟨g2,7,none⟩=some (.string ⟨#[122,111,110,101]⟩)∧W.cell? ⟨g2,8,none⟩=some (.int .i64 1)∧W.cell? ⟨g2,9,none⟩=some (.string ⟨#[97]⟩)∧W.cell? ⟨g2,10,none⟩=some (.bool false)) (by kernel_rfl) (HS.out _ (Kept.drew w12)) (fun hHeld=>?_);refine tR 0 rfl (by kernel_rfl) (fun _ _ _=>id) (Or.inl ⟨by rfl,by rintro W ⟨o0,o1,o2,o3,o4,o5,o6,o7,o8,o9,o10,o11,o12,o13,o14,o15,o16,o17,o18,o19,o20,o21,o22,o23,o24⟩;go_simp<;>with_reducible rfl⟩) ‹_› ?_;try simp only[nA,nB,nC,nD,nE]
 have J:=lH (Kept.drew w12);refine rd1 1 fun K9 Ky=>?_;go_simp;refine(lawP_any ⟨#[107]⟩ 1 ⟨#[]⟩ (by decide:(-9223372036854775808:Int)≤1∧(1:Int)≤9223372036854775807) (by decide:(1:Nat)≤maxLen) (by decide:(0:Nat)≤maxLen) _).mono ?_;rintro e wk ⟨k1,k2,k3,rfl,ha,kk⟩;have J:=lH (J.out.trans kk);clear ha kk;refine Ky.out _ _ (HS.out _ J.out) (fun _=>?_);clear Ky K9;try simp only[nA,nB,nC,nD,nE]
 refine rd1 2 fun K9 Ky=>?_;go_simp;have h:=skew_any (some ⟨g1,0,none⟩) (some ⟨g2,0,none⟩) none k1 none none none 4 4 3 3 0 0 k2 k3 0 0 0 0 0 0 spK spS ⟨#[100]⟩ wk (HRN.out.kept J.out) (HRP.out.kept J.out) (by decide) (by decide);rw[show skewS spK spS ⟨#[100]⟩=(0,true) from spSkK] at h;refine h.mono ?_;clear h;rintro e w13 ⟨rfl,kk⟩;have J:=lH (J.out.trans kk);clear kk;refine Ky.out _ _ (HS.out _ J.out) (fun _=>?_);clear Ky K9;try simp only[nA,nB,nC,nD,nE]
 refine tR 3 rfl (by kernel_rfl) (fun _ _ _=>id) (Or.inl ⟨by rfl,by rintro W ⟨o0,o1,o2,o3,o4,o5,o6,o7,o8,o9,o10,o11,o12,o13,o14,o15,o16,o17,o18,o19,o20,o21,o22,o23,o24⟩;go_simp<;>with_reducible rfl⟩) ‹_› ?_;try simp only[nA,nB,nC,nD,nE]
 refine tR 4 rfl (by kernel_rfl) (fun _ _ _=>id) (Or.inl ⟨by rfl,by rintro W ⟨o0,o1,o2,o3,o4,o5,o6,o7,o8,o9,o10,o11,o12,o13,o14,o15,o16,o17,o18,o19,o20,o21,o22,o23,o24⟩;go_simp<;>with_reducible rfl⟩) ‹_› ?_;try simp only[nA,nB,nC,nD,nE]
 refine tR 5 rfl (by kernel_rfl) (fun _ _ _=>id) (Or.inl ⟨by rfl,by rintro W ⟨o0,o1,o2,o3,o4,o5,o6,o7,o8,o9,o10,o11,o12,o13,o14,o15,o16,o17,o18,o19,o20,o21,o22,o23,o24⟩;go_simp<;>with_reducible rfl⟩) ‹_› ?_;try simp only[nA,nB,nC,nD,nE]
 refine tR 6 rfl (by kernel_rfl) (fun _ _ _=>id) (Or.inl ⟨by rfl,by rintro W ⟨o0,o1,o2,o3,o4,o5,o6,o7,o8,o9,o10,o11,o12,o13,o14,o15,o16,o17,o18,o19,o20,o21,o22,o23,o24⟩;go_simp<;>with_reducible rfl⟩) ‹_› ?_;try simp only[nA,nB,nC,nD,nE]
 refine tR 7 rfl (by kernel_rfl) (fun _ _ _=>id) (Or.inl ⟨by rfl,by rintro W ⟨o0,o1,o2,o3,o4,o5,o6,o7,o8,o9,o10,o11,o12,o13,o14,o15,o16,o17,o18,o19,o20,o21,o22,o23,o24⟩;go_simp<;>with_reducible rfl⟩) ‹_› ?_;try simp only[nA,nB,nC,nD,nE]
 refine wpAnyH_done (by kernel_rfl) ?_ _;obtain⟨K,HRN,HRP,HPC,HQ⟩:=lH5 (K.out.trans J.out) (HRN.out.kept J.out) (HRP.out.kept J.out) (HPC.out.kept J.out) (HQ.out.kept J.out);clear HS J;go_wp2_with fail
 have HS:=lH (show ∀W,Kept w13 W→W.cell? ⟨g2+1,0,none⟩=some (.slice (some ⟨g1,0,none⟩) 4 4)∧W.cell? ⟨g2+1,1,none⟩=some (.slice (some ⟨g2,0,none⟩) 3 3)∧W.cell? ⟨g2+1,2,none⟩=some (.slice none 0 0)∧W.cell? ⟨g2,22,none⟩=some (.string ⟨#[114]⟩)∧W.cell? ⟨g2,23,none⟩=some (.string ⟨#[119,101,98]⟩)∧W.cell? ⟨g2,24,none⟩=some (.int .i64 0)∧W.cell? ⟨g2,25,none⟩=some (.slice p3 q3 r3)∧W.cell? ⟨g2,26,none⟩=some (.slice none 0 0)∧W.cell? ⟨g2,27,none⟩=some (.slice none 0 0)∧W.cell? ⟨g2,28,none⟩=some (.slice none 0 0)∧W.cell? ⟨g2,29,none⟩=some (.string ⟨#[122,111,110,101]⟩)∧W.cell? ⟨g2,30,none⟩=some (.int .i64 1)∧W.cell? ⟨g2,31,none⟩=some (.string ⟨#[]⟩)∧W.cell? ⟨g2,32,none⟩=some (.bool false)∧W.cell? ⟨g2,0,none⟩=some (.string ⟨#[112]⟩)∧W.cell? ⟨g2,1,none⟩=some (.string ⟨#[119,101,98]⟩)∧W.cell? ⟨g2,2,none⟩=some (.int .i64 0)∧W.cell? ⟨g2,3,none⟩=some (.slice p1 q1 r1)∧W.cell? ⟨g2,4,none⟩=some (.slice none 0 0)∧W.cell? ⟨g2,5,none⟩=some (.slice none 0 0)∧W.cell? ⟨g2,6,none⟩=some (.slice none 0 0)∧W.cell? ⟨g2,7,none⟩=some (.string ⟨#[122,111,110,101]⟩)∧W.cell? ⟨g2,8,none⟩=some (.int .i64 1)∧W.cell? ⟨g2,9,none⟩=some (.string ⟨#[97]⟩)∧W.cell? ⟨g2,10,none⟩=some (.bool false) from fun W k=>by
  have h:=HQ.out.kept k;have p:=HPC.out.kept k;exact⟨h.at_ 0 _ rfl,h.at_ 1 _ rfl,h.at_ 2 _ rfl,p.at_ 22 _ rfl,p.at_ 23 _ rfl,p.at_ 24 _ rfl,p.at_ 25 _ rfl,p.at_ 26 _ rfl,p.at_ 27 _ rfl,p.at_ 28 _ rfl,p.at_ 29 _ rfl,p.at_ 30 _ rfl,p.at_ 31 _ rfl,p.at_ 32 _ rfl,p.at_ 0 _ rfl,p.at_ 1 _ rfl,p.at_ 2 _ rfl,p.at_ 3 _ rfl,p.at_ 4 _ rfl,p.at_ 5 _ rfl,p.at_ 6 _ rfl,p.at_ 7 _ rfl,p.at_ 8 _ rfl,p.at_ 9 _ rfl,p.at_ 10 _ rfl⟩)
 have HC1:=lH (show ∀W,Kept w13 W→Calls Try.prog 9 #[.agg #[.slice (some ⟨g1,0,none⟩) 4 4,.slice (some ⟨g2,0,none⟩) 3 3,.slice none 0 0],.agg #[.string ⟨#[114]⟩,.string ⟨#[119,101,98]⟩,.int .i64 0,.slice p3 q3 r3,.slice none 0 0,.slice none 0 0,.slice none 0 0,.string ⟨#[122,111,110,101]⟩,.int .i64 1,.string ⟨#[]⟩,.bool false],.string ⟨#[120]⟩] W (Say (.int .i64 2) W) from fun W k=>by
  have h:=count_any (some ⟨g1,0,none⟩) (some ⟨g2,0,none⟩) none p3 none none none 4 4 3 3 0 0 q3 r3 0 0 0 0 0 0 spR spS ⟨#[120]⟩ W (by decide:(1:Nat)≤maxLen) (HRN.out.kept k) (HRP.out.kept k) (by decide) (by decide);rw[show inD spR spS.pods ⟨#[120]⟩ spS.nodes=2 from spCoR] at h;exact h)
 have HC2:=lH (show ∀W,Kept w13 W→Calls Try.prog 9 #[.agg #[.slice (some ⟨g1,0,none⟩) 4 4,.slice (some ⟨g2,0,none⟩) 3 3,.slice none 0 0],.agg #[.string ⟨#[112]⟩,.string ⟨#[119,101,98]⟩,.int .i64 0,.slice p1 q1 r1,.slice none 0 0,.slice none 0 0,.slice none 0 0,.string ⟨#[122,111,110,101]⟩,.int .i64 1,.string ⟨#[97]⟩,.bool false],.string ⟨#[120]⟩] W (Say (.int .i64 1) W) from fun W k=>by
  have h:=count_any (some ⟨g1,0,none⟩) (some ⟨g2,0,none⟩) none p1 none none none 4 4 3 3 0 0 q1 r1 0 0 0 0 0 0 spP spS ⟨#[120]⟩ W (by decide:(1:Nat)≤maxLen) (HRN.out.kept k) (HRP.out.kept k) (by decide) (by decide);rw[show inD spP spS.pods ⟨#[120]⟩ spS.nodes=1 from spCoP] at h;exact h)
 refine wp_region_held_drew (S:=fun W=>W.cell? ⟨g2+1,0,none⟩=some (.slice (some ⟨g1,0,none⟩) 4 4)∧W.cell? ⟨g2+1,1,none⟩=some (.slice (some ⟨g2,0,none⟩) 3 3)∧W.cell? ⟨g2+1,2,none⟩=some (.slice none 0 0)∧W.cell? ⟨g2,22,none⟩=some (.string ⟨#[114]⟩)∧W.cell? ⟨g2,23,none⟩=some (.string ⟨#[119,101,98]⟩)∧W.cell? ⟨g2,24,none⟩=some (.int .i64 0)∧W.cell? ⟨g2,25,none⟩=some (.slice p3 q3 r3)∧W.cell? ⟨g2,26,none⟩=some (.slice none 0 0)∧W.cell? ⟨g2,27,none⟩=some (.slice none 0 0)∧W.cell? ⟨g2,28,none⟩=some (.slice none 0 0)∧W.cell? ⟨g2,29,none⟩=some (.string ⟨#[122,111,110,101]⟩)∧W.cell? ⟨g2,30,none⟩=some (.int .i64 1)∧W.cell? ⟨g2,31,none⟩=some (.string ⟨#[]⟩)∧W.cell? ⟨g2,32,none⟩=some (.bool false)∧W.cell? ⟨g2,0,none⟩=some (.string ⟨#[112]⟩)∧W.cell? ⟨g2,1,none⟩=some (.string ⟨#[119,101,98]⟩)∧W.cell? ⟨g2,2,none⟩=some (.int .i64 0)∧W.cell? ⟨g2,3,none⟩=some (.slice p1 q1 r1)∧W.cell? ⟨g2,4,none⟩=some (.slice none 0 0)∧W.cell? ⟨g2,5,none⟩=some (.slice none 0 0)∧W.cell? ⟨g2,6,none⟩=some (.slice none 0 0)∧W.cell? ⟨g2,7,none⟩=some (.string ⟨#[122,111,110,101]⟩)∧W.cell? ⟨g2,8,none⟩=some (.int .i64 1)∧W.cell? ⟨g2,9,none⟩=some (.string ⟨#[97]⟩)∧W.cell? ⟨g2,10,none⟩=some (.bool false)) (by kernel_rfl) (HS.out _ (Kept.drew w13)) (fun hHeld=>?_);refine tR 0 rfl (by kernel_rfl) (fun _ _ _=>id) (Or.inl ⟨by rfl,by rintro W ⟨o0,o1,o2,o3,o4,o5,o6,o7,o8,o9,o10,o11,o12,o13,o14,o15,o16,o17,o18,o19,o20,o21,o22,o23,o24⟩;go_simp<;>with_reducible rfl⟩) ‹_› ?_;try simp only[nA,nB,nC,nD,nE]
 have J:=lH (Kept.drew w13);obtain⟨wq,hwq⟩:=eX (w13.drew)
 rw[hwq] at hHeld J ⊢;clear hwq;refine wpAnyH_ready  (rs:=[1,2]) (by kernel_rfl) (by simp) (AllReadyH.cons  (by rw[List.getElem?_toArray];exact rfl) (fun K9 Ky=>?_) (AllReadyH.cons  (by rw[List.getElem?_toArray];exact rfl) (fun K9 Ky=>?_) AllReadyH.nil))
 · go_simp;have h:=domains_any (some ⟨g1,0,none⟩) (some ⟨g2,0,none⟩) none 4 4 3 3 0 0 spS.nodes kZone _ (HRN.out.kept J.out) (by decide);rw[spDom] at h;refine h.mono ?_;clear h;rintro e wd ⟨vd,rfl,hr,kk⟩;have J:=lH (J.out.trans kk);have HV:=lH hr;clear hr kk;refine Ky.out _ _ (HS.out _ J.out) (fun _=>?_);clear Ky K9;try simp only[nA,nB,nC,nD,nE]
   refine rd1 2 fun K9 Ky=>?_;go_simp;refine Ky.out _ _ (HS.out _ (J.out.trans (kept_alloc _ _))) (fun _=>?_);clear Ky K9;try simp only[nA,nB,nC,nD,nE]
   obtain⟨wl,hwl⟩:=eX (wd.alloc (.cells #[.string ⟨#[120]⟩,.string ⟨#[121]⟩] 9))
   have kk:Kept wd wl:=by rw[←hwl];exact kept_alloc _ _
   obtain⟨HL,J,HV⟩:=lH3 (two_texts (x:=⟨#[120]⟩) (y:=⟨#[121]⟩) (freshN wd (.string ⟨#[120]⟩) [.string ⟨#[121]⟩] 9 wl (by rw[hwl];exact Kept.refl _)) (by decide:(1:Nat)≤maxLen) (by decide:(1:Nat)≤maxLen)) (J.out.trans kk) (HV.out.kept kk);try rw[hwl]
   clear hwl kk;refine rd1 3 fun K9 Ky=>?_;go_simp;refine(namesR HV.out HL.out).mono ?_;rintro e wn ⟨rfl,kk⟩;have J:=lH (J.out.trans kk);clear kk HV HL;refine Ky.out _ _ (HS.out _ J.out) (fun _=>?_);clear Ky K9;try simp only[nA,nB,nC,nD,nE]
   refine tR 4 rfl (by kernel_rfl) (fun _ _ _=>id) (Or.inl ⟨by rfl,by rintro W ⟨o0,o1,o2,o3,o4,o5,o6,o7,o8,o9,o10,o11,o12,o13,o14,o15,o16,o17,o18,o19,o20,o21,o22,o23,o24⟩;go_simp<;>with_reducible rfl⟩) ‹_› ?_;try simp only[nA,nB,nC,nD,nE]
   refine tR 5 rfl (by kernel_rfl) (fun _ _ _=>id) (Or.inl ⟨by rfl,by rintro W ⟨o0,o1,o2,o3,o4,o5,o6,o7,o8,o9,o10,o11,o12,o13,o14,o15,o16,o17,o18,o19,o20,o21,o22,o23,o24⟩;go_simp<;>with_reducible rfl⟩) ‹_› ?_;try simp only[nA,nB,nC,nD,nE]
   refine tR 6 rfl (by kernel_rfl) (fun _ _ _=>id) (Or.inl ⟨by rfl,by rintro W ⟨o0,o1,o2,o3,o4,o5,o6,o7,o8,o9,o10,o11,o12,o13,o14,o15,o16,o17,o18,o19,o20,o21,o22,o23,o24⟩;go_simp<;>with_reducible rfl⟩) ‹_› ?_;try simp only[nA,nB,nC,nD,nE]
   refine tR 7 rfl (by kernel_rfl) (fun _ _ _=>id) (Or.inl ⟨by rfl,by rintro W ⟨o0,o1,o2,o3,o4,o5,o6,o7,o8,o9,o10,o11,o12,o13,o14,o15,o16,o17,o18,o19,o20,o21,o22,o23,o24⟩;go_simp<;>with_reducible rfl⟩) ‹_› ?_;try simp only[nA,nB,nC,nD,nE]
   refine tR 8 rfl (by kernel_rfl) (fun _ _ _=>id) (Or.inl ⟨by rfl,by rintro W ⟨o0,o1,o2,o3,o4,o5,o6,o7,o8,o9,o10,o11,o12,o13,o14,o15,o16,o17,o18,o19,o20,o21,o22,o23,o24⟩;go_simp<;>with_reducible rfl⟩) ‹_› ?_;try simp only[nA,nB,nC,nD,nE]
   refine tR 9 rfl (by kernel_rfl) (fun _ _ _=>id) (Or.inl ⟨by rfl,by rintro W ⟨o0,o1,o2,o3,o4,o5,o6,o7,o8,o9,o10,o11,o12,o13,o14,o15,o16,o17,o18,o19,o20,o21,o22,o23,o24⟩;go_simp<;>with_reducible rfl⟩) ‹_› ?_;try simp only[nA,nB,nC,nD,nE]
   refine rd1 10 fun K9 Ky=>?_;go_simp;refine(HC1.out _ J.out).mono ?_;rintro e wc ⟨rfl,kk⟩;have J:=lH (J.out.trans kk);clear kk;refine Ky.out _ _ (HS.out _ J.out) (fun _=>?_);clear Ky K9;try simp only[nA,nB,nC,nD,nE]
   refine tR 11 rfl (by kernel_rfl) (fun _ _ _=>id) (Or.inl ⟨by rfl,by rintro W ⟨o0,o1,o2,o3,o4,o5,o6,o7,o8,o9,o10,o11,o12,o13,o14,o15,o16,o17,o18,o19,o20,o21,o22,o23,o24⟩;go_simp<;>with_reducible rfl⟩) ‹_› ?_;try simp only[nA,nB,nC,nD,nE]
   refine tR 12 rfl (by kernel_rfl) (fun _ _ _=>id) (Or.inl ⟨by rfl,by rintro W ⟨o0,o1,o2,o3,o4,o5,o6,o7,o8,o9,o10,o11,o12,o13,o14,o15,o16,o17,o18,o19,o20,o21,o22,o23,o24⟩;go_simp<;>with_reducible rfl⟩) ‹_› ?_;try simp only[nA,nB,nC,nD,nE]
   refine tR 13 rfl (by kernel_rfl) (fun _ _ _=>id) (Or.inl ⟨by rfl,by rintro W ⟨o0,o1,o2,o3,o4,o5,o6,o7,o8,o9,o10,o11,o12,o13,o14,o15,o16,o17,o18,o19,o20,o21,o22,o23,o24⟩;go_simp<;>with_reducible rfl⟩) ‹_› ?_;try simp only[nA,nB,nC,nD,nE]
   refine tR 14 rfl (by kernel_rfl) (fun _ _ _=>id) (Or.inl ⟨by rfl,by rintro W ⟨o0,o1,o2,o3,o4,o5,o6,o7,o8,o9,o10,o11,o12,o13,o14,o15,o16,o17,o18,o19,o20,o21,o22,o23,o24⟩;go_simp<;>with_reducible rfl⟩) ‹_› ?_;try simp only[nA,nB,nC,nD,nE]
   refine tR 15 rfl (by kernel_rfl) (fun _ _ _=>id) (Or.inl ⟨by rfl,by rintro W ⟨o0,o1,o2,o3,o4,o5,o6,o7,o8,o9,o10,o11,o12,o13,o14,o15,o16,o17,o18,o19,o20,o21,o22,o23,o24⟩;go_simp<;>with_reducible rfl⟩) ‹_› ?_;try simp only[nA,nB,nC,nD,nE]
   refine tR 16 rfl (by kernel_rfl) (fun _ _ _=>id) (Or.inl ⟨by rfl,by rintro W ⟨o0,o1,o2,o3,o4,o5,o6,o7,o8,o9,o10,o11,o12,o13,o14,o15,o16,o17,o18,o19,o20,o21,o22,o23,o24⟩;go_simp<;>with_reducible rfl⟩) ‹_› ?_;try simp only[nA,nB,nC,nD,nE]
   refine tR 17 rfl (by kernel_rfl) (fun _ _ _=>id) (Or.inl ⟨by rfl,by rintro W ⟨o0,o1,o2,o3,o4,o5,o6,o7,o8,o9,o10,o11,o12,o13,o14,o15,o16,o17,o18,o19,o20,o21,o22,o23,o24⟩;go_simp<;>with_reducible rfl⟩) ‹_› ?_;try simp only[nA,nB,nC,nD,nE]
   refine tR 18 rfl (by kernel_rfl) (fun _ _ _=>id) (Or.inl ⟨by rfl,by rintro W ⟨o0,o1,o2,o3,o4,o5,o6,o7,o8,o9,o10,o11,o12,o13,o14,o15,o16,o17,o18,o19,o20,o21,o22,o23,o24⟩;go_simp<;>with_reducible rfl⟩) ‹_› ?_;try simp only[nA,nB,nC,nD,nE]
   refine rd1 19 fun K9 Ky=>?_;go_simp;refine(HC2.out _ J.out).mono ?_;rintro e wx ⟨rfl,kk⟩;have J:=lH (J.out.trans kk);clear kk;refine Ky.out _ _ (HS.out _ J.out) (fun _=>?_);clear Ky K9;try simp only[nA,nB,nC,nD,nE]
   refine tR 20 rfl (by kernel_rfl) (fun _ _ _=>id) (Or.inl ⟨by rfl,by rintro W ⟨o0,o1,o2,o3,o4,o5,o6,o7,o8,o9,o10,o11,o12,o13,o14,o15,o16,o17,o18,o19,o20,o21,o22,o23,o24⟩;go_simp<;>with_reducible rfl⟩) ‹_› ?_;try simp only[nA,nB,nC,nD,nE]
   refine tR 21 rfl (by kernel_rfl) (fun _ _ _=>id) (Or.inl ⟨by rfl,by rintro W ⟨o0,o1,o2,o3,o4,o5,o6,o7,o8,o9,o10,o11,o12,o13,o14,o15,o16,o17,o18,o19,o20,o21,o22,o23,o24⟩;go_simp<;>with_reducible rfl⟩) ‹_› ?_;try simp only[nA,nB,nC,nD,nE]
   refine tR 22 rfl (by kernel_rfl) (fun _ _ _=>id) (Or.inl ⟨by rfl,by rintro W ⟨o0,o1,o2,o3,o4,o5,o6,o7,o8,o9,o10,o11,o12,o13,o14,o15,o16,o17,o18,o19,o20,o21,o22,o23,o24⟩;go_simp<;>with_reducible rfl⟩) ‹_› ?_;try simp only[nA,nB,nC,nD,nE]
   refine tR 23 rfl (by kernel_rfl) (fun _ _ _=>id) (Or.inl ⟨by rfl,by rintro W ⟨o0,o1,o2,o3,o4,o5,o6,o7,o8,o9,o10,o11,o12,o13,o14,o15,o16,o17,o18,o19,o20,o21,o22,o23,o24⟩;go_simp<;>with_reducible rfl⟩) ‹_› ?_;try simp only[nA,nB,nC,nD,nE]
   refine tR 24 rfl (by kernel_rfl) (fun _ _ _=>id) (Or.inl ⟨by rfl,by rintro W ⟨o0,o1,o2,o3,o4,o5,o6,o7,o8,o9,o10,o11,o12,o13,o14,o15,o16,o17,o18,o19,o20,o21,o22,o23,o24⟩;go_simp<;>with_reducible rfl⟩) ‹_› ?_;try simp only[nA,nB,nC,nD,nE]
   refine tR 25 rfl (by kernel_rfl) (fun _ _ _=>id) (Or.inl ⟨by rfl,by rintro W ⟨o0,o1,o2,o3,o4,o5,o6,o7,o8,o9,o10,o11,o12,o13,o14,o15,o16,o17,o18,o19,o20,o21,o22,o23,o24⟩;go_simp<;>with_reducible rfl⟩) ‹_› ?_;try simp only[nA,nB,nC,nD,nE]
   refine tR 26 rfl (by kernel_rfl) (fun _ _ _=>id) (Or.inl ⟨by rfl,by rintro W ⟨o0,o1,o2,o3,o4,o5,o6,o7,o8,o9,o10,o11,o12,o13,o14,o15,o16,o17,o18,o19,o20,o21,o22,o23,o24⟩;go_simp<;>with_reducible rfl⟩) ‹_› ?_;try simp only[nA,nB,nC,nD,nE]
   refine tR 27 rfl (by kernel_rfl) (fun _ _ _=>id) (Or.inl ⟨by rfl,by rintro W ⟨o0,o1,o2,o3,o4,o5,o6,o7,o8,o9,o10,o11,o12,o13,o14,o15,o16,o17,o18,o19,o20,o21,o22,o23,o24⟩;go_simp<;>with_reducible rfl⟩) ‹_› ?_;try simp only[nA,nB,nC,nD,nE]
   refine tR 28 rfl (by kernel_rfl) (fun _ _ _=>id) (Or.inl ⟨by rfl,by rintro W ⟨o0,o1,o2,o3,o4,o5,o6,o7,o8,o9,o10,o11,o12,o13,o14,o15,o16,o17,o18,o19,o20,o21,o22,o23,o24⟩;go_simp<;>with_reducible rfl⟩) ‹_› ?_;try simp only[nA,nB,nC,nD,nE]
   refine tR 29 rfl (by kernel_rfl) (fun _ _ _=>id) (Or.inl ⟨by rfl,by rintro W ⟨o0,o1,o2,o3,o4,o5,o6,o7,o8,o9,o10,o11,o12,o13,o14,o15,o16,o17,o18,o19,o20,o21,o22,o23,o24⟩;go_simp<;>with_reducible rfl⟩) ‹_› ?_;try simp only[nA,nB,nC,nD,nE]
   refine tR 30 rfl (by kernel_rfl) (fun _ _ _=>id) (Or.inl ⟨by rfl,by rintro W ⟨o0,o1,o2,o3,o4,o5,o6,o7,o8,o9,o10,o11,o12,o13,o14,o15,o16,o17,o18,o19,o20,o21,o22,o23,o24⟩;go_simp<;>with_reducible rfl⟩) ‹_› ?_;try simp only[nA,nB,nC,nD,nE]
   refine tR 31 rfl (by kernel_rfl) (fun _ _ _=>id) (Or.inl ⟨by rfl,by rintro W ⟨o0,o1,o2,o3,o4,o5,o6,o7,o8,o9,o10,o11,o12,o13,o14,o15,o16,o17,o18,o19,o20,o21,o22,o23,o24⟩;go_simp<;>with_reducible rfl⟩) ‹_› ?_;try simp only[nA,nB,nC,nD,nE]
   refine tR 32 rfl (by kernel_rfl) (fun _ _ _=>id) (Or.inl ⟨by rfl,by rintro W ⟨o0,o1,o2,o3,o4,o5,o6,o7,o8,o9,o10,o11,o12,o13,o14,o15,o16,o17,o18,o19,o20,o21,o22,o23,o24⟩;go_simp<;>with_reducible rfl⟩) ‹_› ?_;try simp only[nA,nB,nC,nD,nE]
   refine tR 33 rfl (by kernel_rfl) (fun _ _ _=>id) (Or.inl ⟨by rfl,by rintro W ⟨o0,o1,o2,o3,o4,o5,o6,o7,o8,o9,o10,o11,o12,o13,o14,o15,o16,o17,o18,o19,o20,o21,o22,o23,o24⟩;go_simp<;>with_reducible rfl⟩) ‹_› ?_;try simp only[nA,nB,nC,nD,nE]
   refine tR 34 rfl (by kernel_rfl) (fun _ _ _=>id) (Or.inl ⟨by rfl,by rintro W ⟨o0,o1,o2,o3,o4,o5,o6,o7,o8,o9,o10,o11,o12,o13,o14,o15,o16,o17,o18,o19,o20,o21,o22,o23,o24⟩;go_simp<;>with_reducible rfl⟩) ‹_› ?_;try simp only[nA,nB,nC,nD,nE]
   refine tR 35 rfl (by kernel_rfl) (fun _ _ _=>id) (Or.inl ⟨by rfl,by rintro W ⟨o0,o1,o2,o3,o4,o5,o6,o7,o8,o9,o10,o11,o12,o13,o14,o15,o16,o17,o18,o19,o20,o21,o22,o23,o24⟩;go_simp<;>with_reducible rfl⟩) ‹_› ?_;try simp only[nA,nB,nC,nD,nE]
   refine tR 36 rfl (by kernel_rfl) (fun _ _ _=>id) (Or.inl ⟨by rfl,by rintro W ⟨o0,o1,o2,o3,o4,o5,o6,o7,o8,o9,o10,o11,o12,o13,o14,o15,o16,o17,o18,o19,o20,o21,o22,o23,o24⟩;go_simp<;>with_reducible rfl⟩) ‹_› ?_;try simp only[nA,nB,nC,nD,nE]
   refine tR 37 rfl (by kernel_rfl) (fun _ _ _=>id) (Or.inl ⟨by rfl,by rintro W ⟨o0,o1,o2,o3,o4,o5,o6,o7,o8,o9,o10,o11,o12,o13,o14,o15,o16,o17,o18,o19,o20,o21,o22,o23,o24⟩;go_simp<;>with_reducible rfl⟩) ‹_› ?_;try simp only[nA,nB,nC,nD,nE]
   refine tR 38 rfl (by kernel_rfl) (fun _ _ _=>id) (Or.inl ⟨by rfl,by rintro W ⟨o0,o1,o2,o3,o4,o5,o6,o7,o8,o9,o10,o11,o12,o13,o14,o15,o16,o17,o18,o19,o20,o21,o22,o23,o24⟩;go_simp<;>with_reducible rfl⟩) ‹_› ?_;try simp only[nA,nB,nC,nD,nE]
   refine tR 39 rfl (by kernel_rfl) (fun _ _ _=>id) (Or.inl ⟨by rfl,by rintro W ⟨o0,o1,o2,o3,o4,o5,o6,o7,o8,o9,o10,o11,o12,o13,o14,o15,o16,o17,o18,o19,o20,o21,o22,o23,o24⟩;go_simp<;>with_reducible rfl⟩) ‹_› ?_;try simp only[nA,nB,nC,nD,nE]
   refine tR 40 rfl (by kernel_rfl) (fun _ _ _=>id) (Or.inl ⟨by rfl,by rintro W ⟨o0,o1,o2,o3,o4,o5,o6,o7,o8,o9,o10,o11,o12,o13,o14,o15,o16,o17,o18,o19,o20,o21,o22,o23,o24⟩;go_simp<;>with_reducible rfl⟩) ‹_› ?_;try simp only[nA,nB,nC,nD,nE]
   refine tR 41 rfl (by kernel_rfl) (fun _ _ _=>id) (Or.inl ⟨by rfl,by rintro W ⟨o0,o1,o2,o3,o4,o5,o6,o7,o8,o9,o10,o11,o12,o13,o14,o15,o16,o17,o18,o19,o20,o21,o22,o23,o24⟩;go_simp<;>with_reducible rfl⟩) ‹_› ?_;try simp only[nA,nB,nC,nD,nE]
   refine tR 42 rfl (by kernel_rfl) (fun _ _ _=>id) (Or.inl ⟨by rfl,by rintro W ⟨o0,o1,o2,o3,o4,o5,o6,o7,o8,o9,o10,o11,o12,o13,o14,o15,o16,o17,o18,o19,o20,o21,o22,o23,o24⟩;go_simp<;>with_reducible rfl⟩) ‹_› ?_;try simp only[nA,nB,nC,nD,nE]
   refine tR 43 rfl (by kernel_rfl) (fun _ _ _=>id) (Or.inl ⟨by rfl,by rintro W ⟨o0,o1,o2,o3,o4,o5,o6,o7,o8,o9,o10,o11,o12,o13,o14,o15,o16,o17,o18,o19,o20,o21,o22,o23,o24⟩;go_simp<;>with_reducible rfl⟩) ‹_› ?_;try simp only[nA,nB,nC,nD,nE]
   refine tR 44 rfl (by kernel_rfl) (fun _ _ _=>id) (Or.inl ⟨by rfl,by rintro W ⟨o0,o1,o2,o3,o4,o5,o6,o7,o8,o9,o10,o11,o12,o13,o14,o15,o16,o17,o18,o19,o20,o21,o22,o23,o24⟩;go_simp<;>with_reducible rfl⟩) ‹_› ?_;try simp only[nA,nB,nC,nD,nE]
   refine tR 45 rfl (by kernel_rfl) (fun _ _ _=>id) (Or.inl ⟨by rfl,by rintro W ⟨o0,o1,o2,o3,o4,o5,o6,o7,o8,o9,o10,o11,o12,o13,o14,o15,o16,o17,o18,o19,o20,o21,o22,o23,o24⟩;go_simp<;>with_reducible rfl⟩) ‹_› ?_;try simp only[nA,nB,nC,nD,nE]
   refine tR 46 rfl (by kernel_rfl) (fun _ _ _=>id) (Or.inl ⟨by rfl,by rintro W ⟨o0,o1,o2,o3,o4,o5,o6,o7,o8,o9,o10,o11,o12,o13,o14,o15,o16,o17,o18,o19,o20,o21,o22,o23,o24⟩;go_simp<;>with_reducible rfl⟩) ‹_› ?_;try simp only[nA,nB,nC,nD,nE]
   refine tR 47 rfl (by kernel_rfl) (fun _ _ _=>id) (Or.inl ⟨by rfl,by rintro W ⟨o0,o1,o2,o3,o4,o5,o6,o7,o8,o9,o10,o11,o12,o13,o14,o15,o16,o17,o18,o19,o20,o21,o22,o23,o24⟩;go_simp<;>with_reducible rfl⟩) ‹_› ?_;try simp only[nA,nB,nC,nD,nE]
   refine tR 48 rfl (by kernel_rfl) (fun _ _ _=>id) (Or.inl ⟨by rfl,by rintro W ⟨o0,o1,o2,o3,o4,o5,o6,o7,o8,o9,o10,o11,o12,o13,o14,o15,o16,o17,o18,o19,o20,o21,o22,o23,o24⟩;go_simp<;>with_reducible rfl⟩) ‹_› ?_;try simp only[nA,nB,nC,nD,nE]
   refine wpAnyH_ready  (rs:=[49,50]) (by kernel_rfl) (by simp) (AllReadyH.cons  (by rw[List.getElem?_toArray];exact rfl) (fun K9 Ky=>?_) (AllReadyH.cons  (by rw[List.getElem?_toArray];exact rfl) (fun K9 Ky=>?_) AllReadyH.nil))
   · go_simp;have h:=bad_any (some ⟨g1,0,none⟩) (some ⟨g2,0,none⟩) none 4 4 3 3 0 0 spS _ (HRN.out.kept J.out) (HRP.out.kept J.out) (by decide) (by decide);rw[spBad] at h;refine h.mono ?_;clear h;rintro e wb ⟨vb,rfl,hr,kk⟩;have J:=lH (J.out.trans kk);have HV:=lH hr;clear hr kk;refine Ky.out _ _ (HS.out _ J.out) (fun _=>?_);clear Ky K9;try simp only[nA,nB,nC,nD,nE]
     refine rd1 50 fun K9 Ky=>?_;go_simp;refine Ky.out _ _ (HS.out _ (J.out.trans (kept_alloc _ _))) (fun _=>?_);clear Ky K9;try simp only[nA,nB,nC,nD,nE]
     obtain⟨wl,hwl⟩:=eX (wb.alloc (.cells #[.string ⟨#[112]⟩,.string ⟨#[113]⟩] 9))
     have kk:Kept wb wl:=by rw[←hwl];exact kept_alloc _ _
     obtain⟨HL,J,HV⟩:=lH3 (two_texts (x:=⟨#[112]⟩) (y:=⟨#[113]⟩) (freshN wb (.string ⟨#[112]⟩) [.string ⟨#[113]⟩] 9 wl (by rw[hwl];exact Kept.refl _)) (by decide:(1:Nat)≤maxLen) (by decide:(1:Nat)≤maxLen)) (J.out.trans kk) (HV.out.kept kk);try rw[hwl]
     clear hwl kk;refine rd1 51 fun K9 Ky=>?_;go_simp;refine(namesR HV.out HL.out).mono ?_;rintro e wn ⟨rfl,kk⟩;have J:=lH (J.out.trans kk);clear kk HV HL;refine Ky.out _ _ (HS.out _ J.out) (fun _=>?_);clear Ky K9;try simp only[nA,nB,nC,nD,nE]
     refine tR 52 rfl (by kernel_rfl) (fun _ _ _=>id) (Or.inl ⟨by rfl,by rintro W ⟨o0,o1,o2,o3,o4,o5,o6,o7,o8,o9,o10,o11,o12,o13,o14,o15,o16,o17,o18,o19,o20,o21,o22,o23,o24⟩;go_simp<;>with_reducible rfl⟩) ‹_› ?_;try simp only[nA,nB,nC,nD,nE]
     refine tR 53 rfl (by kernel_rfl) (fun _ _ _=>id) (Or.inl ⟨by rfl,by rintro W ⟨o0,o1,o2,o3,o4,o5,o6,o7,o8,o9,o10,o11,o12,o13,o14,o15,o16,o17,o18,o19,o20,o21,o22,o23,o24⟩;go_simp<;>with_reducible rfl⟩) ‹_› ?_;try simp only[nA,nB,nC,nD,nE]
     refine wpAnyH_done (by kernel_rfl) ?_ _;go_wp2;go_ret;exact⟨rfl,K.out.trans J.out⟩
   · go_simp;refine Ky.out _ _ (HS.out _ (J.out.trans (kept_alloc _ _))) (fun _=>?_);clear Ky K9;try simp only[nA,nB,nC,nD,nE]
     obtain⟨wl,hwl⟩:=eX (wx.alloc (.cells #[.string ⟨#[112]⟩,.string ⟨#[113]⟩] 9))
     have kk:Kept wx wl:=by rw[←hwl];exact kept_alloc _ _
     have HL:=lH (two_texts (x:=⟨#[112]⟩) (y:=⟨#[113]⟩) (freshN wx (.string ⟨#[112]⟩) [.string ⟨#[113]⟩] 9 wl (by rw[hwl];exact Kept.refl _)) (by decide:(1:Nat)≤maxLen) (by decide:(1:Nat)≤maxLen));have J:=lH (J.out.trans kk);try rw[hwl]
     clear hwl kk;refine rd1 49 fun K9 Ky=>?_;go_simp;have h:=bad_any (some ⟨g1,0,none⟩) (some ⟨g2,0,none⟩) none 4 4 3 3 0 0 spS _ (HRN.out.kept J.out) (HRP.out.kept J.out) (by decide) (by decide);rw[spBad] at h;refine h.mono ?_;clear h;rintro e wb ⟨vb,rfl,hr,kk⟩;obtain⟨J,HV,HL⟩:=lH3 (J.out.trans kk) hr (HL.out.kept kk);clear hr kk;refine Ky.out _ _ (HS.out _ J.out) (fun _=>?_);clear Ky K9;try simp only[nA,nB,nC,nD,nE]
     refine rd1 51 fun K9 Ky=>?_;go_simp;refine(namesR HV.out HL.out).mono ?_;rintro e wn ⟨rfl,kk⟩;have J:=lH (J.out.trans kk);clear kk HV HL;refine Ky.out _ _ (HS.out _ J.out) (fun _=>?_);clear Ky K9;try simp only[nA,nB,nC,nD,nE]
     refine tR 52 rfl (by kernel_rfl) (fun _ _ _=>id) (Or.inl ⟨by rfl,by rintro W ⟨o0,o1,o2,o3,o4,o5,o6,o7,o8,o9,o10,o11,o12,o13,o14,o15,o16,o17,o18,o19,o20,o21,o22,o23,o24⟩;go_simp<;>with_reducible rfl⟩) ‹_› ?_;try simp only[nA,nB,nC,nD,nE]
     refine tR 53 rfl (by kernel_rfl) (fun _ _ _=>id) (Or.inl ⟨by rfl,by rintro W ⟨o0,o1,o2,o3,o4,o5,o6,o7,o8,o9,o10,o11,o12,o13,o14,o15,o16,o17,o18,o19,o20,o21,o22,o23,o24⟩;go_simp<;>with_reducible rfl⟩) ‹_› ?_;try simp only[nA,nB,nC,nD,nE]
     refine wpAnyH_done (by kernel_rfl) ?_ _;go_wp2;go_ret;exact⟨rfl,K.out.trans J.out⟩
 · go_simp;refine Ky.out _ _ (HS.out _ (J.out.trans (kept_alloc _ _))) (fun _=>?_);clear Ky K9;try simp only[nA,nB,nC,nD,nE]
   obtain⟨wl,hwl⟩:=eX (wq.alloc (.cells #[.string ⟨#[120]⟩,.string ⟨#[121]⟩] 9))
   have kk:Kept wq wl:=by rw[←hwl];exact kept_alloc _ _
   have HL:=lH (two_texts (x:=⟨#[120]⟩) (y:=⟨#[121]⟩) (freshN wq (.string ⟨#[120]⟩) [.string ⟨#[121]⟩] 9 wl (by rw[hwl];exact Kept.refl _)) (by decide:(1:Nat)≤maxLen) (by decide:(1:Nat)≤maxLen));have J:=lH (J.out.trans kk);try rw[hwl]
   clear hwl kk;refine rd1 1 fun K9 Ky=>?_;go_simp;have h:=domains_any (some ⟨g1,0,none⟩) (some ⟨g2,0,none⟩) none 4 4 3 3 0 0 spS.nodes kZone _ (HRN.out.kept J.out) (by decide);rw[spDom] at h;refine h.mono ?_;clear h;rintro e wd ⟨vd,rfl,hr,kk⟩;obtain⟨J,HV,HL⟩:=lH3 (J.out.trans kk) hr (HL.out.kept kk);clear hr kk;refine Ky.out _ _ (HS.out _ J.out) (fun _=>?_);clear Ky K9;try simp only[nA,nB,nC,nD,nE]
   refine rd1 3 fun K9 Ky=>?_;go_simp;refine(namesR HV.out HL.out).mono ?_;rintro e wn ⟨rfl,kk⟩;have J:=lH (J.out.trans kk);clear kk HV HL;refine Ky.out _ _ (HS.out _ J.out) (fun _=>?_);clear Ky K9;try simp only[nA,nB,nC,nD,nE]
   refine tR 4 rfl (by kernel_rfl) (fun _ _ _=>id) (Or.inl ⟨by rfl,by rintro W ⟨o0,o1,o2,o3,o4,o5,o6,o7,o8,o9,o10,o11,o12,o13,o14,o15,o16,o17,o18,o19,o20,o21,o22,o23,o24⟩;go_simp<;>with_reducible rfl⟩) ‹_› ?_;try simp only[nA,nB,nC,nD,nE]
   refine tR 5 rfl (by kernel_rfl) (fun _ _ _=>id) (Or.inl ⟨by rfl,by rintro W ⟨o0,o1,o2,o3,o4,o5,o6,o7,o8,o9,o10,o11,o12,o13,o14,o15,o16,o17,o18,o19,o20,o21,o22,o23,o24⟩;go_simp<;>with_reducible rfl⟩) ‹_› ?_;try simp only[nA,nB,nC,nD,nE]
   refine tR 6 rfl (by kernel_rfl) (fun _ _ _=>id) (Or.inl ⟨by rfl,by rintro W ⟨o0,o1,o2,o3,o4,o5,o6,o7,o8,o9,o10,o11,o12,o13,o14,o15,o16,o17,o18,o19,o20,o21,o22,o23,o24⟩;go_simp<;>with_reducible rfl⟩) ‹_› ?_;try simp only[nA,nB,nC,nD,nE]
   refine tR 7 rfl (by kernel_rfl) (fun _ _ _=>id) (Or.inl ⟨by rfl,by rintro W ⟨o0,o1,o2,o3,o4,o5,o6,o7,o8,o9,o10,o11,o12,o13,o14,o15,o16,o17,o18,o19,o20,o21,o22,o23,o24⟩;go_simp<;>with_reducible rfl⟩) ‹_› ?_;try simp only[nA,nB,nC,nD,nE]
   refine tR 8 rfl (by kernel_rfl) (fun _ _ _=>id) (Or.inl ⟨by rfl,by rintro W ⟨o0,o1,o2,o3,o4,o5,o6,o7,o8,o9,o10,o11,o12,o13,o14,o15,o16,o17,o18,o19,o20,o21,o22,o23,o24⟩;go_simp<;>with_reducible rfl⟩) ‹_› ?_;try simp only[nA,nB,nC,nD,nE]
   refine tR 9 rfl (by kernel_rfl) (fun _ _ _=>id) (Or.inl ⟨by rfl,by rintro W ⟨o0,o1,o2,o3,o4,o5,o6,o7,o8,o9,o10,o11,o12,o13,o14,o15,o16,o17,o18,o19,o20,o21,o22,o23,o24⟩;go_simp<;>with_reducible rfl⟩) ‹_› ?_;try simp only[nA,nB,nC,nD,nE]
   refine rd1 10 fun K9 Ky=>?_;go_simp;refine(HC1.out _ J.out).mono ?_;rintro e wc ⟨rfl,kk⟩;have J:=lH (J.out.trans kk);clear kk;refine Ky.out _ _ (HS.out _ J.out) (fun _=>?_);clear Ky K9;try simp only[nA,nB,nC,nD,nE]
   refine tR 11 rfl (by kernel_rfl) (fun _ _ _=>id) (Or.inl ⟨by rfl,by rintro W ⟨o0,o1,o2,o3,o4,o5,o6,o7,o8,o9,o10,o11,o12,o13,o14,o15,o16,o17,o18,o19,o20,o21,o22,o23,o24⟩;go_simp<;>with_reducible rfl⟩) ‹_› ?_;try simp only[nA,nB,nC,nD,nE]
   refine tR 12 rfl (by kernel_rfl) (fun _ _ _=>id) (Or.inl ⟨by rfl,by rintro W ⟨o0,o1,o2,o3,o4,o5,o6,o7,o8,o9,o10,o11,o12,o13,o14,o15,o16,o17,o18,o19,o20,o21,o22,o23,o24⟩;go_simp<;>with_reducible rfl⟩) ‹_› ?_;try simp only[nA,nB,nC,nD,nE]
   refine tR 13 rfl (by kernel_rfl) (fun _ _ _=>id) (Or.inl ⟨by rfl,by rintro W ⟨o0,o1,o2,o3,o4,o5,o6,o7,o8,o9,o10,o11,o12,o13,o14,o15,o16,o17,o18,o19,o20,o21,o22,o23,o24⟩;go_simp<;>with_reducible rfl⟩) ‹_› ?_;try simp only[nA,nB,nC,nD,nE]
   refine tR 14 rfl (by kernel_rfl) (fun _ _ _=>id) (Or.inl ⟨by rfl,by rintro W ⟨o0,o1,o2,o3,o4,o5,o6,o7,o8,o9,o10,o11,o12,o13,o14,o15,o16,o17,o18,o19,o20,o21,o22,o23,o24⟩;go_simp<;>with_reducible rfl⟩) ‹_› ?_;try simp only[nA,nB,nC,nD,nE]
   refine tR 15 rfl (by kernel_rfl) (fun _ _ _=>id) (Or.inl ⟨by rfl,by rintro W ⟨o0,o1,o2,o3,o4,o5,o6,o7,o8,o9,o10,o11,o12,o13,o14,o15,o16,o17,o18,o19,o20,o21,o22,o23,o24⟩;go_simp<;>with_reducible rfl⟩) ‹_› ?_;try simp only[nA,nB,nC,nD,nE]
   refine tR 16 rfl (by kernel_rfl) (fun _ _ _=>id) (Or.inl ⟨by rfl,by rintro W ⟨o0,o1,o2,o3,o4,o5,o6,o7,o8,o9,o10,o11,o12,o13,o14,o15,o16,o17,o18,o19,o20,o21,o22,o23,o24⟩;go_simp<;>with_reducible rfl⟩) ‹_› ?_;try simp only[nA,nB,nC,nD,nE]
   refine tR 17 rfl (by kernel_rfl) (fun _ _ _=>id) (Or.inl ⟨by rfl,by rintro W ⟨o0,o1,o2,o3,o4,o5,o6,o7,o8,o9,o10,o11,o12,o13,o14,o15,o16,o17,o18,o19,o20,o21,o22,o23,o24⟩;go_simp<;>with_reducible rfl⟩) ‹_› ?_;try simp only[nA,nB,nC,nD,nE]
   refine tR 18 rfl (by kernel_rfl) (fun _ _ _=>id) (Or.inl ⟨by rfl,by rintro W ⟨o0,o1,o2,o3,o4,o5,o6,o7,o8,o9,o10,o11,o12,o13,o14,o15,o16,o17,o18,o19,o20,o21,o22,o23,o24⟩;go_simp<;>with_reducible rfl⟩) ‹_› ?_;try simp only[nA,nB,nC,nD,nE]
   refine rd1 19 fun K9 Ky=>?_;go_simp;refine(HC2.out _ J.out).mono ?_;rintro e wx ⟨rfl,kk⟩;have J:=lH (J.out.trans kk);clear kk;refine Ky.out _ _ (HS.out _ J.out) (fun _=>?_);clear Ky K9;try simp only[nA,nB,nC,nD,nE]
   refine tR 20 rfl (by kernel_rfl) (fun _ _ _=>id) (Or.inl ⟨by rfl,by rintro W ⟨o0,o1,o2,o3,o4,o5,o6,o7,o8,o9,o10,o11,o12,o13,o14,o15,o16,o17,o18,o19,o20,o21,o22,o23,o24⟩;go_simp<;>with_reducible rfl⟩) ‹_› ?_;try simp only[nA,nB,nC,nD,nE]
   refine tR 21 rfl (by kernel_rfl) (fun _ _ _=>id) (Or.inl ⟨by rfl,by rintro W ⟨o0,o1,o2,o3,o4,o5,o6,o7,o8,o9,o10,o11,o12,o13,o14,o15,o16,o17,o18,o19,o20,o21,o22,o23,o24⟩;go_simp<;>with_reducible rfl⟩) ‹_› ?_;try simp only[nA,nB,nC,nD,nE]
   refine tR 22 rfl (by kernel_rfl) (fun _ _ _=>id) (Or.inl ⟨by rfl,by rintro W ⟨o0,o1,o2,o3,o4,o5,o6,o7,o8,o9,o10,o11,o12,o13,o14,o15,o16,o17,o18,o19,o20,o21,o22,o23,o24⟩;go_simp<;>with_reducible rfl⟩) ‹_› ?_;try simp only[nA,nB,nC,nD,nE]
   refine tR 23 rfl (by kernel_rfl) (fun _ _ _=>id) (Or.inl ⟨by rfl,by rintro W ⟨o0,o1,o2,o3,o4,o5,o6,o7,o8,o9,o10,o11,o12,o13,o14,o15,o16,o17,o18,o19,o20,o21,o22,o23,o24⟩;go_simp<;>with_reducible rfl⟩) ‹_› ?_;try simp only[nA,nB,nC,nD,nE]
   refine tR 24 rfl (by kernel_rfl) (fun _ _ _=>id) (Or.inl ⟨by rfl,by rintro W ⟨o0,o1,o2,o3,o4,o5,o6,o7,o8,o9,o10,o11,o12,o13,o14,o15,o16,o17,o18,o19,o20,o21,o22,o23,o24⟩;go_simp<;>with_reducible rfl⟩) ‹_› ?_;try simp only[nA,nB,nC,nD,nE]
   refine tR 25 rfl (by kernel_rfl) (fun _ _ _=>id) (Or.inl ⟨by rfl,by rintro W ⟨o0,o1,o2,o3,o4,o5,o6,o7,o8,o9,o10,o11,o12,o13,o14,o15,o16,o17,o18,o19,o20,o21,o22,o23,o24⟩;go_simp<;>with_reducible rfl⟩) ‹_› ?_;try simp only[nA,nB,nC,nD,nE]
   refine tR 26 rfl (by kernel_rfl) (fun _ _ _=>id) (Or.inl ⟨by rfl,by rintro W ⟨o0,o1,o2,o3,o4,o5,o6,o7,o8,o9,o10,o11,o12,o13,o14,o15,o16,o17,o18,o19,o20,o21,o22,o23,o24⟩;go_simp<;>with_reducible rfl⟩) ‹_› ?_;try simp only[nA,nB,nC,nD,nE]
   refine tR 27 rfl (by kernel_rfl) (fun _ _ _=>id) (Or.inl ⟨by rfl,by rintro W ⟨o0,o1,o2,o3,o4,o5,o6,o7,o8,o9,o10,o11,o12,o13,o14,o15,o16,o17,o18,o19,o20,o21,o22,o23,o24⟩;go_simp<;>with_reducible rfl⟩) ‹_› ?_;try simp only[nA,nB,nC,nD,nE]
   refine tR 28 rfl (by kernel_rfl) (fun _ _ _=>id) (Or.inl ⟨by rfl,by rintro W ⟨o0,o1,o2,o3,o4,o5,o6,o7,o8,o9,o10,o11,o12,o13,o14,o15,o16,o17,o18,o19,o20,o21,o22,o23,o24⟩;go_simp<;>with_reducible rfl⟩) ‹_› ?_;try simp only[nA,nB,nC,nD,nE]
   refine tR 29 rfl (by kernel_rfl) (fun _ _ _=>id) (Or.inl ⟨by rfl,by rintro W ⟨o0,o1,o2,o3,o4,o5,o6,o7,o8,o9,o10,o11,o12,o13,o14,o15,o16,o17,o18,o19,o20,o21,o22,o23,o24⟩;go_simp<;>with_reducible rfl⟩) ‹_› ?_;try simp only[nA,nB,nC,nD,nE]
   refine tR 30 rfl (by kernel_rfl) (fun _ _ _=>id) (Or.inl ⟨by rfl,by rintro W ⟨o0,o1,o2,o3,o4,o5,o6,o7,o8,o9,o10,o11,o12,o13,o14,o15,o16,o17,o18,o19,o20,o21,o22,o23,o24⟩;go_simp<;>with_reducible rfl⟩) ‹_› ?_;try simp only[nA,nB,nC,nD,nE]
   refine tR 31 rfl (by kernel_rfl) (fun _ _ _=>id) (Or.inl ⟨by rfl,by rintro W ⟨o0,o1,o2,o3,o4,o5,o6,o7,o8,o9,o10,o11,o12,o13,o14,o15,o16,o17,o18,o19,o20,o21,o22,o23,o24⟩;go_simp<;>with_reducible rfl⟩) ‹_› ?_;try simp only[nA,nB,nC,nD,nE]
   refine tR 32 rfl (by kernel_rfl) (fun _ _ _=>id) (Or.inl ⟨by rfl,by rintro W ⟨o0,o1,o2,o3,o4,o5,o6,o7,o8,o9,o10,o11,o12,o13,o14,o15,o16,o17,o18,o19,o20,o21,o22,o23,o24⟩;go_simp<;>with_reducible rfl⟩) ‹_› ?_;try simp only[nA,nB,nC,nD,nE]
   refine tR 33 rfl (by kernel_rfl) (fun _ _ _=>id) (Or.inl ⟨by rfl,by rintro W ⟨o0,o1,o2,o3,o4,o5,o6,o7,o8,o9,o10,o11,o12,o13,o14,o15,o16,o17,o18,o19,o20,o21,o22,o23,o24⟩;go_simp<;>with_reducible rfl⟩) ‹_› ?_;try simp only[nA,nB,nC,nD,nE]
   refine tR 34 rfl (by kernel_rfl) (fun _ _ _=>id) (Or.inl ⟨by rfl,by rintro W ⟨o0,o1,o2,o3,o4,o5,o6,o7,o8,o9,o10,o11,o12,o13,o14,o15,o16,o17,o18,o19,o20,o21,o22,o23,o24⟩;go_simp<;>with_reducible rfl⟩) ‹_› ?_;try simp only[nA,nB,nC,nD,nE]
   refine tR 35 rfl (by kernel_rfl) (fun _ _ _=>id) (Or.inl ⟨by rfl,by rintro W ⟨o0,o1,o2,o3,o4,o5,o6,o7,o8,o9,o10,o11,o12,o13,o14,o15,o16,o17,o18,o19,o20,o21,o22,o23,o24⟩;go_simp<;>with_reducible rfl⟩) ‹_› ?_;try simp only[nA,nB,nC,nD,nE]
   refine tR 36 rfl (by kernel_rfl) (fun _ _ _=>id) (Or.inl ⟨by rfl,by rintro W ⟨o0,o1,o2,o3,o4,o5,o6,o7,o8,o9,o10,o11,o12,o13,o14,o15,o16,o17,o18,o19,o20,o21,o22,o23,o24⟩;go_simp<;>with_reducible rfl⟩) ‹_› ?_;try simp only[nA,nB,nC,nD,nE]
   refine tR 37 rfl (by kernel_rfl) (fun _ _ _=>id) (Or.inl ⟨by rfl,by rintro W ⟨o0,o1,o2,o3,o4,o5,o6,o7,o8,o9,o10,o11,o12,o13,o14,o15,o16,o17,o18,o19,o20,o21,o22,o23,o24⟩;go_simp<;>with_reducible rfl⟩) ‹_› ?_;try simp only[nA,nB,nC,nD,nE]
   refine tR 38 rfl (by kernel_rfl) (fun _ _ _=>id) (Or.inl ⟨by rfl,by rintro W ⟨o0,o1,o2,o3,o4,o5,o6,o7,o8,o9,o10,o11,o12,o13,o14,o15,o16,o17,o18,o19,o20,o21,o22,o23,o24⟩;go_simp<;>with_reducible rfl⟩) ‹_› ?_;try simp only[nA,nB,nC,nD,nE]
   refine tR 39 rfl (by kernel_rfl) (fun _ _ _=>id) (Or.inl ⟨by rfl,by rintro W ⟨o0,o1,o2,o3,o4,o5,o6,o7,o8,o9,o10,o11,o12,o13,o14,o15,o16,o17,o18,o19,o20,o21,o22,o23,o24⟩;go_simp<;>with_reducible rfl⟩) ‹_› ?_;try simp only[nA,nB,nC,nD,nE]
   refine tR 40 rfl (by kernel_rfl) (fun _ _ _=>id) (Or.inl ⟨by rfl,by rintro W ⟨o0,o1,o2,o3,o4,o5,o6,o7,o8,o9,o10,o11,o12,o13,o14,o15,o16,o17,o18,o19,o20,o21,o22,o23,o24⟩;go_simp<;>with_reducible rfl⟩) ‹_› ?_;try simp only[nA,nB,nC,nD,nE]
   refine tR 41 rfl (by kernel_rfl) (fun _ _ _=>id) (Or.inl ⟨by rfl,by rintro W ⟨o0,o1,o2,o3,o4,o5,o6,o7,o8,o9,o10,o11,o12,o13,o14,o15,o16,o17,o18,o19,o20,o21,o22,o23,o24⟩;go_simp<;>with_reducible rfl⟩) ‹_› ?_;try simp only[nA,nB,nC,nD,nE]
   refine tR 42 rfl (by kernel_rfl) (fun _ _ _=>id) (Or.inl ⟨by rfl,by rintro W ⟨o0,o1,o2,o3,o4,o5,o6,o7,o8,o9,o10,o11,o12,o13,o14,o15,o16,o17,o18,o19,o20,o21,o22,o23,o24⟩;go_simp<;>with_reducible rfl⟩) ‹_› ?_;try simp only[nA,nB,nC,nD,nE]
   refine tR 43 rfl (by kernel_rfl) (fun _ _ _=>id) (Or.inl ⟨by rfl,by rintro W ⟨o0,o1,o2,o3,o4,o5,o6,o7,o8,o9,o10,o11,o12,o13,o14,o15,o16,o17,o18,o19,o20,o21,o22,o23,o24⟩;go_simp<;>with_reducible rfl⟩) ‹_› ?_;try simp only[nA,nB,nC,nD,nE]
   refine tR 44 rfl (by kernel_rfl) (fun _ _ _=>id) (Or.inl ⟨by rfl,by rintro W ⟨o0,o1,o2,o3,o4,o5,o6,o7,o8,o9,o10,o11,o12,o13,o14,o15,o16,o17,o18,o19,o20,o21,o22,o23,o24⟩;go_simp<;>with_reducible rfl⟩) ‹_› ?_;try simp only[nA,nB,nC,nD,nE]
   refine tR 45 rfl (by kernel_rfl) (fun _ _ _=>id) (Or.inl ⟨by rfl,by rintro W ⟨o0,o1,o2,o3,o4,o5,o6,o7,o8,o9,o10,o11,o12,o13,o14,o15,o16,o17,o18,o19,o20,o21,o22,o23,o24⟩;go_simp<;>with_reducible rfl⟩) ‹_› ?_;try simp only[nA,nB,nC,nD,nE]
   refine tR 46 rfl (by kernel_rfl) (fun _ _ _=>id) (Or.inl ⟨by rfl,by rintro W ⟨o0,o1,o2,o3,o4,o5,o6,o7,o8,o9,o10,o11,o12,o13,o14,o15,o16,o17,o18,o19,o20,o21,o22,o23,o24⟩;go_simp<;>with_reducible rfl⟩) ‹_› ?_;try simp only[nA,nB,nC,nD,nE]
   refine tR 47 rfl (by kernel_rfl) (fun _ _ _=>id) (Or.inl ⟨by rfl,by rintro W ⟨o0,o1,o2,o3,o4,o5,o6,o7,o8,o9,o10,o11,o12,o13,o14,o15,o16,o17,o18,o19,o20,o21,o22,o23,o24⟩;go_simp<;>with_reducible rfl⟩) ‹_› ?_;try simp only[nA,nB,nC,nD,nE]
   refine tR 48 rfl (by kernel_rfl) (fun _ _ _=>id) (Or.inl ⟨by rfl,by rintro W ⟨o0,o1,o2,o3,o4,o5,o6,o7,o8,o9,o10,o11,o12,o13,o14,o15,o16,o17,o18,o19,o20,o21,o22,o23,o24⟩;go_simp<;>with_reducible rfl⟩) ‹_› ?_;try simp only[nA,nB,nC,nD,nE]
   refine wpAnyH_ready  (rs:=[49,50]) (by kernel_rfl) (by simp) (AllReadyH.cons  (by rw[List.getElem?_toArray];exact rfl) (fun K9 Ky=>?_) (AllReadyH.cons  (by rw[List.getElem?_toArray];exact rfl) (fun K9 Ky=>?_) AllReadyH.nil))
   · go_simp;have h:=bad_any (some ⟨g1,0,none⟩) (some ⟨g2,0,none⟩) none 4 4 3 3 0 0 spS _ (HRN.out.kept J.out) (HRP.out.kept J.out) (by decide) (by decide);rw[spBad] at h;refine h.mono ?_;clear h;rintro e wb ⟨vb,rfl,hr,kk⟩;have J:=lH (J.out.trans kk);have HV:=lH hr;clear hr kk;refine Ky.out _ _ (HS.out _ J.out) (fun _=>?_);clear Ky K9;try simp only[nA,nB,nC,nD,nE]
     refine rd1 50 fun K9 Ky=>?_;go_simp;refine Ky.out _ _ (HS.out _ (J.out.trans (kept_alloc _ _))) (fun _=>?_);clear Ky K9;try simp only[nA,nB,nC,nD,nE]
     obtain⟨wl,hwl⟩:=eX (wb.alloc (.cells #[.string ⟨#[112]⟩,.string ⟨#[113]⟩] 9))
     have kk:Kept wb wl:=by rw[←hwl];exact kept_alloc _ _
     obtain⟨HL,J,HV⟩:=lH3 (two_texts (x:=⟨#[112]⟩) (y:=⟨#[113]⟩) (freshN wb (.string ⟨#[112]⟩) [.string ⟨#[113]⟩] 9 wl (by rw[hwl];exact Kept.refl _)) (by decide:(1:Nat)≤maxLen) (by decide:(1:Nat)≤maxLen)) (J.out.trans kk) (HV.out.kept kk);try rw[hwl]
     clear hwl kk;refine rd1 51 fun K9 Ky=>?_;go_simp;refine(namesR HV.out HL.out).mono ?_;rintro e wn ⟨rfl,kk⟩;have J:=lH (J.out.trans kk);clear kk HV HL;refine Ky.out _ _ (HS.out _ J.out) (fun _=>?_);clear Ky K9;try simp only[nA,nB,nC,nD,nE]
     refine tR 52 rfl (by kernel_rfl) (fun _ _ _=>id) (Or.inl ⟨by rfl,by rintro W ⟨o0,o1,o2,o3,o4,o5,o6,o7,o8,o9,o10,o11,o12,o13,o14,o15,o16,o17,o18,o19,o20,o21,o22,o23,o24⟩;go_simp<;>with_reducible rfl⟩) ‹_› ?_;try simp only[nA,nB,nC,nD,nE]
     refine tR 53 rfl (by kernel_rfl) (fun _ _ _=>id) (Or.inl ⟨by rfl,by rintro W ⟨o0,o1,o2,o3,o4,o5,o6,o7,o8,o9,o10,o11,o12,o13,o14,o15,o16,o17,o18,o19,o20,o21,o22,o23,o24⟩;go_simp<;>with_reducible rfl⟩) ‹_› ?_;try simp only[nA,nB,nC,nD,nE]
     refine wpAnyH_done (by kernel_rfl) ?_ _;go_wp2;go_ret;exact⟨rfl,K.out.trans J.out⟩
   · go_simp;refine Ky.out _ _ (HS.out _ (J.out.trans (kept_alloc _ _))) (fun _=>?_);clear Ky K9;try simp only[nA,nB,nC,nD,nE]
     obtain⟨wl,hwl⟩:=eX (wx.alloc (.cells #[.string ⟨#[112]⟩,.string ⟨#[113]⟩] 9))
     have kk:Kept wx wl:=by rw[←hwl];exact kept_alloc _ _
     have HL:=lH (two_texts (x:=⟨#[112]⟩) (y:=⟨#[113]⟩) (freshN wx (.string ⟨#[112]⟩) [.string ⟨#[113]⟩] 9 wl (by rw[hwl];exact Kept.refl _)) (by decide:(1:Nat)≤maxLen) (by decide:(1:Nat)≤maxLen));have J:=lH (J.out.trans kk);try rw[hwl]
     clear hwl kk;refine rd1 49 fun K9 Ky=>?_;go_simp;have h:=bad_any (some ⟨g1,0,none⟩) (some ⟨g2,0,none⟩) none 4 4 3 3 0 0 spS _ (HRN.out.kept J.out) (HRP.out.kept J.out) (by decide) (by decide);rw[spBad] at h;refine h.mono ?_;clear h;rintro e wb ⟨vb,rfl,hr,kk⟩;obtain⟨J,HV,HL⟩:=lH3 (J.out.trans kk) hr (HL.out.kept kk);clear hr kk;refine Ky.out _ _ (HS.out _ J.out) (fun _=>?_);clear Ky K9;try simp only[nA,nB,nC,nD,nE]
     refine rd1 51 fun K9 Ky=>?_;go_simp;refine(namesR HV.out HL.out).mono ?_;rintro e wn ⟨rfl,kk⟩;have J:=lH (J.out.trans kk);clear kk HV HL;refine Ky.out _ _ (HS.out _ J.out) (fun _=>?_);clear Ky K9;try simp only[nA,nB,nC,nD,nE]
     refine tR 52 rfl (by kernel_rfl) (fun _ _ _=>id) (Or.inl ⟨by rfl,by rintro W ⟨o0,o1,o2,o3,o4,o5,o6,o7,o8,o9,o10,o11,o12,o13,o14,o15,o16,o17,o18,o19,o20,o21,o22,o23,o24⟩;go_simp<;>with_reducible rfl⟩) ‹_› ?_;try simp only[nA,nB,nC,nD,nE]
     refine tR 53 rfl (by kernel_rfl) (fun _ _ _=>id) (Or.inl ⟨by rfl,by rintro W ⟨o0,o1,o2,o3,o4,o5,o6,o7,o8,o9,o10,o11,o12,o13,o14,o15,o16,o17,o18,o19,o20,o21,o22,o23,o24⟩;go_simp<;>with_reducible rfl⟩) ‹_› ?_;try simp only[nA,nB,nC,nD,nE]
     refine wpAnyH_done (by kernel_rfl) ?_ _;go_wp2;go_ret;exact⟨rfl,K.out.trans J.out⟩
theorem zoned_far (x z:ByteArray) (hx:x.size≤maxLen) (hz:z.size≤maxLen) (w:World) :
 Calls Try.prog 5 #[.string x,.string z] w fun e w'=>∃b1 n1 d1 b2 n2 d2,e=.returned (.agg #[.string x,.slice b1 n1 d1,.slice b2 n2 d2,.slice none 0 0,.bool false])∧NodAt w' (.slice b1 n1 d1) (.slice b2 n2 d2) (.slice none 0 0) (nodZ x z)∧Kept w w'∧Behind w.heap.size b1∧Behind w.heap.size b2:=by
 have cc:=freshN w (.string ⟨#[]⟩) [.slice none 0 0,.slice none 0 0,.slice none 0 0,.bool false] 34 _ (Kept.refl _);obtain⟨W0,hW0⟩:=eX (w.alloc (.cells #[.string ⟨#[]⟩,.slice none 0 0,.slice none 0 0,.slice none 0 0,.bool false] 34))
 have k0:Kept w W0:=by rw[←hW0];exact kept_alloc _ _
 rw[hW0] at cc;have C0:=lH cc;have K0:=lH k0;clear cc k0;go_enter Try.func5,Try.ntmps5;go_wp2_with fail
 try rw[hW0]
 clear hW0;refine(lawN_far x 100 (by decide) hx _).mono ?_;rintro e w1 ⟨b1,n1,d1,rfl,HN,kk,hfar⟩;have HFA:=lH hfar;clear hfar;obtain⟨W2,hW2⟩:=eX ((w1.alloc (.cells #[.string x,.slice b1 n1 d1,.slice (some ⟨w1.heap.size+1,0,none⟩) 1 1,.slice none 0 0,.bool false] 34)).alloc (.cells #[.string ⟨#[122,111,110,101]⟩,.string z] 55))
 have k2:Kept w1 W2:=by rw[←hW2];exact kept_two _ _ _
 have HB:=lH (show CellsN (w1.heap.size+1) [.string ⟨#[122,111,110,101]⟩,.string z] W2 by
  have:=freshN (w1.alloc (.cells #[.string x,.slice b1 n1 d1,.slice (some ⟨w1.heap.size+1,0,none⟩) 1 1,.slice none 0 0,.bool false] 34)) (.string ⟨#[122,111,110,101]⟩) [.string z] 55 W2 (by rw[hW2];exact Kept.refl _);simpa using this)
 have ha:=freshN w1 (.string x) [.slice b1 n1 d1,.slice (some ⟨w1.heap.size+1,0,none⟩) 1 1,.slice none 0 0,.bool false] 34 W2 (by rw[←hW2];exact kept_alloc _ _);have z0:=ha.at_ 0 _ rfl;have z1:=ha.at_ 1 _ rfl;have z2:=ha.at_ 2 _ rfl;have z3:=ha.at_ 3 _ rfl;have z4:=ha.at_ 4 _ rfl;clear ha;have c1:=C0.out.kept (kk.trans k2);have hsz:=kk.size;have hlt:=C0.out.lt;have HN:=lH (HN.kept k2);have KW:=lH (K0.out.trans (kk.trans k2));have y0:=c1.at_ 0 _ rfl;have y1:=c1.at_ 1 _ rfl;have y2:=c1.at_ 2 _ rfl;have y3:=c1.at_ 3 _ rfl;have y4:=c1.at_ 4 _ rfl;have f0:=c1.free 0;have f1:=c1.free 1;have f2:=c1.free 2;have f3:=c1.free 3;have f4:=c1.free 4;have P:=lH (putN (vs:=[.string x,.slice b1 n1 d1,.slice (some ⟨w1.heap.size+1,0,none⟩) 1 1,.slice none 0 0,.bool false]) c1 rfl);clear c1 kk k2;go_upto_region 3 with fail
 try rw[hW2]
 clear hW2;go_wp2;obtain⟨WE,hWE⟩:=eX (W2.setCells w.heap.size 0 [.string x,.slice b1 n1 d1,.slice (some ⟨w1.heap.size+1,0,none⟩) 1 1,.slice none 0 0,.bool false])
 have hWE2:(((((W2.setCell ⟨w.heap.size,0,none⟩ (.string x)).setCell ⟨w.heap.size,1,none⟩ (.slice b1 n1 d1)).setCell ⟨w.heap.size,2,none⟩ (.slice (some ⟨w1.heap.size+1,0,none⟩) 1 1)).setCell ⟨w.heap.size,3,none⟩ (.slice none 0 0)).setCell ⟨w.heap.size,4,none⟩ (.bool false))=WE:=hWE;rw[hWE] at P;try rw[hWE2]
 clear hWE hWE2;obtain⟨PC,hsz9,hbl,hkp⟩:=P.out;have HBE:CellsN (w1.heap.size+1) [.string ⟨#[122,111,110,101]⟩,.string z] WE:=HB.out.block (hbl _ (by omega));refine bodyPost_ret (by simp[results,Try.results5,go_sem,PC.at_ 0 _ rfl,PC.at_ 1 _ rfl,PC.at_ 2 _ rfl,PC.at_ 3 _ rfl,PC.at_ 4 _ rfl];try rfl) rfl ?_;refine⟨_,_,_,_,_,_,rfl,⟨hx,?_,?_,Reads.nil _⟩,hkp _ _ (Nat.le_refl _) KW.out,(fun b o s e=>by have:=HFA.out b o s e;have:=K0.out.size;omega),(fun b o s e=>by cases e;have:=K0.out.size;omega)⟩
 · exact HN.out.cap.far hsz9 fun b o s e=>hbl b (by have:=HFA.out b o s e;omega)
 · exact one_pair HBE (by decide) hz
theorem ownedLaw_far (x y:ByteArray) (m:Int) (hx:x.size≤maxLen) (hy:y.size≤maxLen) (hm:-9223372036854775808≤m∧m≤9223372036854775807) (w:World) :
 Calls Try.prog 7 #[.string x,.string y,.int .i64 m] w fun e w'=>∃b1 n1 d1,e=.returned (.agg #[.string x,.string ⟨#[119,101,98]⟩,.int .i64 0,.slice b1 n1 d1,.slice none 0 0,.slice none 0 0,.slice none 0 0,.string ⟨#[122,111,110,101]⟩,.int .i64 m,.string y,.bool false])∧PodAt w' (.slice b1 n1 d1) (.slice none 0 0) (.slice none 0 0) (.slice none 0 0) (podO x y m)∧Kept w w'∧Behind w.heap.size b1:=by
 have cc:=freshN w (.string ⟨#[]⟩) [.string ⟨#[]⟩,.int .i64 0,.slice none 0 0,.slice none 0 0,.slice none 0 0,.slice none 0 0,.string ⟨#[]⟩,.int .i64 0,.string ⟨#[]⟩,.bool false] 41 _ (Kept.refl _);obtain⟨W0,hW0⟩:=eX (w.alloc (.cells #[.string ⟨#[]⟩,.string ⟨#[]⟩,.int .i64 0,.slice none 0 0,.slice none 0 0,.slice none 0 0,.slice none 0 0,.string ⟨#[]⟩,.int .i64 0,.string ⟨#[]⟩,.bool false] 41))
 have k0:Kept w W0:=by rw[←hW0];exact kept_alloc _ _
 rw[hW0] at cc;have C0:=lH cc;have K0:=lH k0;clear cc k0;go_enter Try.func7,Try.ntmps7;go_wp2_with fail
 try rw[hW0]
 clear hW0;refine(lawP_far x 1 y (by decide) hx hy _).mono ?_;rintro e w1 ⟨b1,n1,d1,rfl,HN,kk,hfar⟩;have HFA:=lH hfar;clear hfar;obtain⟨W2,hW2⟩:=eX (w1.alloc (.cells #[.string x,.string ⟨#[119,101,98]⟩,.int .i64 0,.slice b1 n1 d1,.slice none 0 0,.slice none 0 0,.slice none 0 0,.string ⟨#[122,111,110,101]⟩,.int .i64 m,.string y,.bool false] 41))
 have k2:Kept w1 W2:=by rw[←hW2];exact kept_alloc _ _
 have ha:=freshN w1 (.string x) [.string ⟨#[119,101,98]⟩,.int .i64 0,.slice b1 n1 d1,.slice none 0 0,.slice none 0 0,.slice none 0 0,.string ⟨#[122,111,110,101]⟩,.int .i64 m,.string y,.bool false] 41 W2 (by rw[hW2];exact Kept.refl _);have z0:=ha.at_ 0 _ rfl;have z1:=ha.at_ 1 _ rfl;have z2:=ha.at_ 2 _ rfl;have z3:=ha.at_ 3 _ rfl;have z4:=ha.at_ 4 _ rfl;have z5:=ha.at_ 5 _ rfl;have z6:=ha.at_ 6 _ rfl;have z7:=ha.at_ 7 _ rfl;have z8:=ha.at_ 8 _ rfl;have z9:=ha.at_ 9 _ rfl;have z10:=ha.at_ 10 _ rfl;clear ha;have c1:=C0.out.kept (kk.trans k2);have hsz:=kk.size;have hlt:=C0.out.lt;have HN:=lH (HN.kept k2);have KW:=lH (K0.out.trans (kk.trans k2));have y0:=c1.at_ 0 _ rfl;have y1:=c1.at_ 1 _ rfl;have y2:=c1.at_ 2 _ rfl;have y3:=c1.at_ 3 _ rfl;have y4:=c1.at_ 4 _ rfl;have y5:=c1.at_ 5 _ rfl;have y6:=c1.at_ 6 _ rfl;have y7:=c1.at_ 7 _ rfl;have y8:=c1.at_ 8 _ rfl;have y9:=c1.at_ 9 _ rfl;have y10:=c1.at_ 10 _ rfl;have f0:=c1.free 0;have f1:=c1.free 1;have f2:=c1.free 2;have f3:=c1.free 3;have f4:=c1.free 4;have f5:=c1.free 5;have f6:=c1.free 6;have f7:=c1.free 7;have f8:=c1.free 8;have f9:=c1.free 9;have f10:=c1.free 10;have P:=lH (putN (vs:=[.string x,.string ⟨#[119,101,98]⟩,.int .i64 0,.slice b1 n1 d1,.slice none 0 0,.slice none 0 0,.slice none 0 0,.string ⟨#[122,111,110,101]⟩,.int .i64 m,.string y,.bool false]) c1 rfl);clear c1 kk k2;go_upto_region 4 with fail
 try rw[hW2]
 clear hW2;go_wp2;obtain⟨WE,hWE⟩:=eX (W2.setCells w.heap.size 0 [.string x,.string ⟨#[119,101,98]⟩,.int .i64 0,.slice b1 n1 d1,.slice none 0 0,.slice none 0 0,.slice none 0 0,.string ⟨#[122,111,110,101]⟩,.int .i64 m,.string y,.bool false])
 have hWE2:(((((((((((W2.setCell ⟨w.heap.size,0,none⟩ (.string x)).setCell ⟨w.heap.size,1,none⟩ (.string ⟨#[119,101,98]⟩)).setCell ⟨w.heap.size,2,none⟩ (.int .i64 0)).setCell ⟨w.heap.size,3,none⟩ (.slice b1 n1 d1)).setCell ⟨w.heap.size,4,none⟩ (.slice none 0 0)).setCell ⟨w.heap.size,5,none⟩ (.slice none 0 0)).setCell ⟨w.heap.size,6,none⟩ (.slice none 0 0)).setCell ⟨w.heap.size,7,none⟩ (.string ⟨#[122,111,110,101]⟩)).setCell ⟨w.heap.size,8,none⟩ (.int .i64 m)).setCell ⟨w.heap.size,9,none⟩ (.string y)).setCell ⟨w.heap.size,10,none⟩ (.bool false))=WE:=hWE;rw[hWE] at P;try rw[hWE2]
 clear hWE hWE2;obtain⟨PC,hsz9,hbl,hkp⟩:=P.out;refine bodyPost_ret (by simp[results,Try.results7,go_sem,PC.at_ 0 _ rfl,PC.at_ 1 _ rfl,PC.at_ 2 _ rfl,PC.at_ 3 _ rfl,PC.at_ 4 _ rfl,PC.at_ 5 _ rfl,PC.at_ 6 _ rfl,PC.at_ 7 _ rfl,PC.at_ 8 _ rfl,PC.at_ 9 _ rfl,PC.at_ 10 _ rfl];try rfl) rfl ?_;refine⟨_,_,_,rfl,⟨hx,(by decide:kWeb.size≤maxLen),(by decide:kZone.size≤maxLen),hy,(by decide:(-9223372036854775808:Int)≤0∧(0:Int)≤9223372036854775807),hm,?_,Reads.nil _,Reads.nil _,Reads.nil _⟩,hkp _ _ (Nat.le_refl _) KW.out,(fun b o s e=>by have:=HFA.out b o s e;have:=K0.out.size;omega)⟩;exact HN.out.need.far hsz9 fun b o s e=>hbl b (by have:=HFA.out b o s e;omega)
def evT (k m n:Nat):Clu:=⟨(List.range m).map evN,(List.range n).map (evP k),[]⟩
theorem evT_nod (k m:Nat):evT k (m+1) 0={ evT k m 0 with nodes:=(evT k m 0).nodes++[evN m] }:=by
 unfold evT;rw[List.range_succ,List.map_append];rfl
theorem evT_pod (k m n:Nat):evT k m (n+1)={ evT k m n with pods:=(evT k m n).pods++[evP k n] }:=by
 unfold evT;rw[List.range_succ,List.map_append];rfl
theorem ev_dec:∀i:Nat,i<6→bytes (Lib.itoa (i:Int))=⟨#[(48+i).toUInt8]⟩:=by
 intro i hi;have h:i=0∨i=1∨i=2∨i=3∨i=4∨i=5:=by omega
 rcases h with rfl | rfl | rfl | rfl | rfl | rfl<;>simp[Lib.itoa,Lib.decDigits,bytes]
theorem ev_nm (i:Nat):((⟨#[110]⟩:ByteArray)++(⟨#[(48+i).toUInt8]⟩:ByteArray))=evNm i:=by
 apply Go.WideShapes.bytes_inj;simp[ByteArray.data_append]
theorem ev_zm (i:Nat):((⟨#[122]⟩:ByteArray)++(⟨#[(48+i).toUInt8]⟩:ByteArray))=evZm i:=by
 apply Go.WideShapes.bytes_inj;simp[ByteArray.data_append]
theorem infoNE:(Try.prog.info? 34).map (fun i=>(i.zero,i.size,i.bytes))=some (some (.agg #[.string ByteArray.empty,.slice none 0 0,.slice none 0 0,.slice none 0 0,.bool false]),5,96):=by kernel_rfl
theorem infoPE:(Try.prog.info? 41).map (fun i=>(i.zero,i.size,i.bytes))=some (some (.agg #[.string ByteArray.empty,.string ByteArray.empty,.int .i64 0,.slice none 0 0,.slice none 0 0,.slice none 0 0,.slice none 0 0,.string ByteArray.empty,.int .i64 0,.string ByteArray.empty,.bool false]),11,184):=by kernel_rfl
theorem convE (W:World) (c:Nat):Sem.run Try.prog (convert 43 9 (.slice (some ⟨W.heap.size,0,none⟩) 1 1)) (W.alloc (.cells #[.int .u8 c] 5))=.ok (.string (bytes [UInt8.ofNat c])) (W.alloc (.cells #[.int .u8 c] 5)):=by
 have h:=run_convert_bytes_arg (P:=Try.prog) (W.alloc (.cells #[.int .u8 c] 5)) 43 5 Try.underlying43 Try.underlying5 W.heap.size 0 1 1 [(c:Int)] rfl (fun i hi=>by
  have hh:=W.alloc_heap_new (.cells #[.int .u8 c] 5)
  match i,hi with
  | 0,_=>rw[Lib.cell_of_heap hh];rfl) 9 Try.underlying9
 rw[h];rfl
end Go.Proofs.Ytokdjfoalkmhiaa
