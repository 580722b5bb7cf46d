/- The contracts of the functions that the law calls,and the law,walked. -/
import Derived.Test.YtgfoenfaohhjcaaGreatG0
import Derived.Test.YtgfoenfaohhjcaaGreatG2
import Derived.Test.YtgfoenfaohhjcaaGreatG3
import Derived.Test.YtgfoenfaohhjcaaGreatG6
set_option linter.unusedVariables false
set_option maxRecDepth 100000
set_option maxHeartbeats 25600000
namespace Go.Proofs.YtgfoenfaohhjcaaGreat
open Go.RowKit
def Zs (key:ByteArray) (nodes:List Nod):List ByteArray:=nodes.filterMap fun n=>getS n.labels key
def Jt (key:ByteArray) (nodes:List Nod):List (List UInt8):=(Zs key nodes).map fun x=>x.data.toList
def Jq (l:List (List UInt8)):List (List UInt8):=l.mergeSort fun x y=>decide (x≤y)
def ZQ (key:ByteArray) (nodes:List Nod):List (List UInt8):=Lib.compact (Jq (Jt key nodes))
def Yk (key:ByteArray) (nodes:List Nod):List ByteArray:=(ZQ key nodes).map bytes
theorem Zr (d:Array (List UInt8)) (hs:∀i j,i<j→j<d.size→d[i]!≤d[j]!):∀m,m≤d.size→(Lib.compactUpTo d m).Pairwise (·<·)∧(∀x,x ∈ Lib.compactUpTo d m↔∃j,j<m∧d[j]!=x)∧(0<m→∀x ∈ Lib.compactUpTo d m,x≤d[m-1]!)
 | 0,_=>⟨List.Pairwise.nil,fun x=>⟨(fun h=>by cases h),(fun ⟨j,hj,_⟩=>absurd hj (Nat.not_lt_zero _))⟩,(fun h=>absurd h (by decide))⟩
 | m+1,hm=>by
  obtain⟨h1,h2,h3⟩:=Zr d hs m (by omega);rw[Lib.compactUpTo_succ];by_cases hk:Lib.keeps d m=true
  · rw[if_pos hk];have hlt:∀x ∈ Lib.compactUpTo d m,x<d[m]!:=fun x hx=>by
     obtain⟨j,hj,e⟩:=(h2 x).1 hx;have h5:=h3 (by omega) x hx;have h6:=hs (m-1) m (by omega) (by omega);unfold Lib.keeps at hk;have h7:d[m]!≠d[m-1]!:=by
      rcases of_decide_eq_true hk with h | h
      · omega
      · exact h
     rcases Decidable.em (x<d[m]!) with h | h
     · exact h
     · exact absurd (List.le_antisymm (List.le_trans (show d[m]!≤x from h) h5) h6) h7
    refine⟨List.pairwise_append.2 ⟨h1,List.pairwise_singleton ..,fun x hx y hy=>by rw[List.mem_singleton.1 hy];exact hlt x hx⟩,fun x=>?_,fun _ x hx=>?_⟩
    · rw[List.mem_append,List.mem_singleton];constructor
      · rintro (h | rfl)
        · obtain⟨j,hj,e⟩:=(h2 x).1 h;exact⟨j,by omega,e⟩
        · exact⟨m,by omega,rfl⟩
      · rintro ⟨j,hj,e⟩;by_cases hjm:j=m
        · exact .inr (by rw[←e,hjm])
        · exact .inl ((h2 x).2 ⟨j,by omega,e⟩)
    · rcases List.mem_append.1 hx with h | h
      · exact List.le_of_lt (hlt x h)
      · rw[List.mem_singleton.1 h];exact List.le_refl _
  · rw[if_neg hk,List.append_nil];have hk:Lib.keeps d m=false:=by simpa using hk
    unfold Lib.keeps at hk;have hk:=of_decide_eq_false hk;have hm0:0<m:=Nat.pos_of_ne_zero fun e=>hk (.inl e);have he:d[m]!=d[m-1]!:=Decidable.byContradiction fun g=>hk (.inr g);refine⟨h1,fun x=>⟨fun h=>?_,?_⟩,fun _ x hx=>?_⟩
    · obtain⟨j,hj,e⟩:=(h2 x).1 h;exact⟨j,by omega,e⟩
    · rintro ⟨j,hj,e⟩;by_cases hjm:j=m
      · exact(h2 x).2 ⟨m-1,by omega,by rw[←e,hjm,he]⟩
      · exact(h2 x).2 ⟨j,by omega,e⟩
    · show x≤d[m]!;rw[he];exact h3 hm0 x hx
theorem jce (l:List (List UInt8)):(Jq l).Pairwise (·≤·):=by
 have tr:∀a b c:List UInt8,decide (a≤b)=true→decide (b≤c)=true→decide (a≤c)=true:=fun a b c h1 h2=>by simp only[decide_eq_true_eq] at *;exact List.le_trans h1 h2
 have tot:∀a b:List UInt8,(decide (a≤b)||decide (b≤a))=true:=fun a b=>by simp only[Bool.or_eq_true,decide_eq_true_eq];exact List.le_total a b
 exact(List.pairwise_mergeSort tr tot l).imp fun h=>of_decide_eq_true h
theorem Z1 (key:ByteArray) (nodes:List Nod):(ZQ key nodes).Pairwise (·<·)∧∀x,x ∈ ZQ key nodes↔x ∈ Jt key nodes:=by
 have hp:=jce (Jt key nodes);obtain⟨h1,h2,-⟩:=Zr (Jq (Jt key nodes)).toArray (fun i j hij hj=>by
  have hj':j<(Jq (Jt key nodes)).length:=by simpa using hj
  have:=List.pairwise_iff_getElem.1 hp i j (by omega) hj' hij;simpa [getElem!_pos,hj',show i<(Jq (Jt key nodes)).length by omega] using this) (Jq (Jt key nodes)).length (by simp)
 refine⟨h1,fun x=>(h2 x).trans ?_⟩;rw[←(List.mergeSort_perm (Jt key nodes) fun x y=>decide (x≤y)).mem_iff];show _↔x ∈ Jq (Jt key nodes);constructor
 · rintro ⟨j,hj,e⟩;rw[←e];simp[getElem!_pos,hj]
 · intro h;obtain⟨j,hj,e⟩:=List.getElem_of_mem h;exact⟨j,hj,by simpa [getElem!_pos,hj] using e⟩
theorem Xt:∀{l l':List (List UInt8)},l.Pairwise (·<·)→l'.Pairwise (·<·)→(∀x,x ∈ l↔x ∈ l')→l=l'
 | [],[],_,_,_=>rfl
 | [],y::u,_,_,h=>absurd ((h y).2 (by simp)) (by simp)
 | x::t,[],_,_,h=>absurd ((h x).1 (by simp)) (by simp)
 | x::t,y::u,h1,h2,h=>by
  obtain⟨a1,a2⟩:=List.pairwise_cons.1 h1;obtain⟨b1,b2⟩:=List.pairwise_cons.1 h2;have hxy:x=y:=by
   rcases List.mem_cons.1 ((h x).1 (by simp)) with e | e
   · exact e
   · rcases List.mem_cons.1 ((h y).2 (by simp)) with f | f
     · exact f.symm
     · exact absurd (List.lt_trans (b1 x e) (a1 y f)) (List.lt_irrefl _)
  subst hxy;rw[Xt a2 b2 fun z=>⟨fun hz=>?_,fun hz=>?_⟩]
  · rcases List.mem_cons.1 ((h z).1 (by simp[hz])) with e | e
    · subst e;exact absurd (a1 _ hz) (List.lt_irrefl _)
    · exact e
  · rcases List.mem_cons.1 ((h z).2 (by simp[hz])) with e | e
    · subst e;exact absurd (b1 _ hz) (List.lt_irrefl _)
    · exact e
theorem jbI {key:ByteArray} {l:List Nod} {k:Nat} {n:Nod} (h:l[k]?=some n):Zs key (l.take (k+1))=Zs key (l.take k)++(match getS n.labels key with | none=>[] | some d=>[d]):=by
 unfold Zs;rw[List.take_add_one,h,List.filterMap_append]
 cases hg:getS n.labels key<;>simp[hg]
theorem jcJ (key:ByteArray) (l:List Nod):(Zs key l).length≤l.length:=List.length_filterMap_le _ _
def spA:ByteArray:=⟨#[97]⟩
def spB:ByteArray:=⟨#[98]⟩
def spC:ByteArray:=⟨#[99]⟩
def spD:ByteArray:=⟨#[100]⟩
def spX:ByteArray:=⟨#[120]⟩
def spY:ByteArray:=⟨#[121]⟩
def spP:Pd:=Yl ⟨#[112]⟩ spA 1
def spQ:Pd:=Yl ⟨#[113]⟩ spC 1
def spR:Pd:=Yl ⟨#[114]⟩ ⟨#[]⟩ 1
def spK:Pd:=jcQ ⟨#[107]⟩ 1 ⟨#[]⟩
def spS:Clu:=⟨[Ys spA spX,Ys spB spY,Ys spC spX,ja7 spD 9],[spP,spQ,spR],[]⟩
theorem jeh:jC spR spS spB=(0,true):=by kernel_rfl
theorem jed:jC spR spS spA=(3,true):=by kernel_rfl
theorem jet:jC spK spS spD=(0,true):=by kernel_rfl
theorem jef:inD spR spS.pods spX spS.nodes=2:=by kernel_rfl
theorem jej:inD spP spS.pods spX spS.nodes=1:=by kernel_rfl
theorem XM:Yv spS=[⟨#[112]⟩,⟨#[113]⟩]:=by kernel_rfl
theorem jdj:Yk Ze spS.nodes=[spX,spY]:=by
 have h:Jt Ze spS.nodes=[[120],[121],[120]]:=by kernel_rfl
 have hd:ZQ Ze spS.nodes=[[120],[121]]:=Xt (Z1 _ _).1 (by decide) fun x=>by
  rw[(Z1 _ _).2,h];simp only[List.mem_cons,List.not_mem_nil,or_false];exact⟨fun e=>e.elim .inl fun e=>e.elim .inr .inl,fun e=>e.elim .inl fun e=>.inr (.inl e)⟩
 unfold Yk;rw[hd];decide
theorem Xs (s1 s2 s3 a1 a2 a3 a4:Option Addr) (n1 e1 n2 e2 n3 e3 m1 c1 m2 c2 m3 c3 m4 c4:Nat) (p:Pd) (s:Clu) (d:ByteArray) (w:World) (hd:d.size≤maxLen) (hn:jo w s1 n1 s.nodes) (hp:jB w s2 n2 s.pods) (hb1:n1≤100000) (hb2:n2≤100000) :
 Calls Tryz.prog 26 #[.agg #[.slice s1 n1 e1,.slice s2 n2 e2,.slice s3 n3 e3],jW p (.slice a1 m1 c1) (.slice a2 m2 c2) (.slice a3 m3 c3) (.slice a4 m4 c4),.string d] w (Say (.int .i64 (inD p s.pods d s.nodes:Int)) w):=by
 obtain⟨Z,hZ⟩:∃Z,(w.alloc (.cells #[.slice s1 n1 e1,.slice s2 n2 e2,.slice s3 n3 e3] 26)).alloc (.cells #[.string p.name,.string p.owner,.int .i64 p.prio,.slice a1 m1 c1,.slice a2 m2 c2,.slice a3 m3 c3,.slice a4 m4 c4,.string p.key,.int .i64 p.most,.string p.node,.bool p.hold] 39)=Z:=⟨_,rfl⟩
 have hkz:Kept w Z:=by rw[←hZ];exact jJ _ _ _
 have HSB:=lH (je w (.slice s1 n1 e1) [.slice s2 n2 e2,.slice s3 n3 e3] 26 Z (by rw[←hZ];exact ja _ _));have HPB:=lH (show ji (w.heap.size+1) [.string p.name,.string p.owner,.int .i64 p.prio,.slice a1 m1 c1,.slice a2 m2 c2,.slice a3 m3 c3,.slice a4 m4 c4,.string p.key,.int .i64 p.most,.string p.node,.bool p.hold] Z by
  have dd:=je (w.alloc (.cells #[.slice s1 n1 e1,.slice s2 n2 e2,.slice s3 n3 e3] 26)) (.string p.name) [.string p.owner,.int .i64 p.prio,.slice a1 m1 c1,.slice a2 m2 c2,.slice a3 m3 c3,.slice a4 m4 c4,.string p.key,.int .i64 p.most,.string p.node,.bool p.hold] 39 Z (by rw[hZ];exact Kept.refl _);rw[World.size_alloc] at dd;exact dd)
 have HT:=lH (Xy s1 s2 s3 a1 a2 a3 a4 n1 e1 n2 e2 n3 e3 m1 c1 m2 c2 m3 c3 m4 c4 p s.nodes s.pods Z (hn.kept hkz) (hp.kept hkz) hb1 hb2);have K:=lH hkz;clear hn hp hkz;have y0:=HSB.out.at_ 0 _ rfl;have y1:=HSB.out.at_ 1 _ rfl;have y2:=HSB.out.at_ 2 _ rfl;have r0:=HPB.out.at_ 0 _ rfl;have r1:=HPB.out.at_ 1 _ rfl;have r2:=HPB.out.at_ 2 _ rfl;have r3:=HPB.out.at_ 3 _ rfl;have r4:=HPB.out.at_ 4 _ rfl;have r5:=HPB.out.at_ 5 _ rfl;have r6:=HPB.out.at_ 6 _ rfl;have r7:=HPB.out.at_ 7 _ rfl;have r8:=HPB.out.at_ 8 _ rfl;have r9:=HPB.out.at_ 9 _ rfl;have r10:=HPB.out.at_ 10 _ rfl;unfold jW at HT ⊢;go_enter Tryz.func26,Tryz.ntmps26;go_upto_region 1 with fail
 try rw[hZ]
 clear hZ;go_wp2_with fail
 refine HT.out.mono ?_;rintro e w1 ⟨b,n,rfl,hM,-,-,kk⟩;have K:=lH (K.out.trans kk);have hl:=hM.look d hd;clear kk hM y0 y1 y2 r0 r1 r2 r3 r4 r5 r6 r7 r8 r9 r10;go_wp2;go_ret;exact⟨rfl,K.out⟩
theorem YZ {w:World} {b k:Nat} (f:Array Value→Array Value) (h:k≠b):(Sort.mapBlock w b f).heap[k]?=w.heap[k]?:=by
 simp[Sort.mapBlock,Array.getElem?_modify,h.symm]
theorem Ye (w:World) (g off q:Nat) (d:Array (List UInt8)) (os:Array Obj):jg (fun i=>i=g) w (Sort.grow (Sort.putRow encStr (Sort.ahead w q) g off d) os):=by
 refine⟨rfl,rfl,rfl,?_,fun k hk hn=>?_⟩
 · show w.heap.size≤(_++os).size;rw[Array.size_append,Sort.size_putRow];exact Nat.le_add_right _ _
 · show ((Sort.putRow encStr (Sort.ahead w q) g off d).heap++os)[k]?=_;rw[Array.getElem?_append_left (by rw[Sort.size_putRow];exact hk)];exact YZ _ hn
theorem holds_grow {w:World} {b off:Nat} {d:Array (List UInt8)} (os:Array Obj) (h:Sort.Holds encStr w b off d) (hb:b<w.heap.size):Sort.Holds encStr (Sort.grow w os) b off d:=by
 have e:(Sort.grow w os).heap[b]?=w.heap[b]?:=by
  show (w.heap++os)[b]?=_;rw[Array.getElem?_append_left hb]
 intro j hj;obtain⟨h1,h2⟩:=h j hj;exact⟨(World.cell?_of_block (a:=⟨b,off+j,none⟩) e).trans h1,(World.frozen?_of_block (a:=⟨b,off+j,none⟩) e).trans h2⟩
theorem jbw (x:List UInt8):encStr x=.string (bytes x):=rfl
theorem own_holds {base:Nat} {W:World} {v:Value} {la:List ByteArray} (h:Own StrLay 9 W base v la):(v=.slice none 0 0∧la=[])∨∃g cap,v=.slice (some ⟨g,0,none⟩) la.length cap∧base≤g∧g<W.heap.size∧la.length≤cap∧cap≤maxLen∧Sort.Holds encStr W g 0 (la.map fun x=>x.data.toList).toArray:=by
 obtain⟨⟨hl,h⟩,-⟩:=h;rcases h with ⟨rfl,hz⟩ | ⟨g,cap,cur,rfl,hg,hh,hc1,hc2,-,ht⟩
 · exact .inl ⟨rfl,List.eq_nil_of_length_eq_zero hz⟩
 · refine .inr ⟨g,cap,rfl,hg,(Array.getElem?_eq_some_iff.1 hh).1,hc1,hc2,fun j hj=>?_⟩;have hj:j<la.length:=by simpa using hj
   constructor
   · rw[Nat.zero_add,Lib.cell_of_heap hh];have h1:(cur.toList.take (la.length*1))[j]?=some (.string la[j]):=by
      rw[show List.take (la.length*1) cur.toList=jc StrLay la from ht];have:=JJ StrLay la j la[j] 0 (.string la[j]) (List.getElem?_eq_getElem hj) rfl;simpa [StrLay] using this
     rw[List.getElem?_take_of_lt (by omega)] at h1;have e:encStr ((la.map fun x=>x.data.toList).toArray[j]!)=.string la[j]:=by
      rw[getElem!_pos _ j (by simpa using hj)];simp[encStr]
     rw[e];simpa using h1
   · unfold World.frozen?;rw[show W.heap[(⟨g,0+j,none⟩:Addr).block]?=some (.cells cur 9 (0,0)) from hh];simp
theorem Yg (s1 s2 s3:Option Addr) (n1 e1 n2 e2 n3 e3:Nat) (nodes:List Nod) (key:ByteArray) (w:World) (hn:jo w s1 n1 nodes) (hb1:n1≤100000) :
 Calls Tryz.prog 25 #[.agg #[.slice s1 n1 e1,.slice s2 n2 e2,.slice s3 n3 e3],.string key] w fun e w'=>∃v,e=.returned v∧Reads StrLay w' v (Yk key nodes)∧Kept w w':=by
 obtain⟨i0,hi,hz0,hz1,hz2'⟩:=info_parts jcp;obtain⟨Z,hZ⟩:∃Z,w.alloc (.cells #[.slice s1 n1 e1,.slice s2 n2 e2,.slice s3 n3 e3] 26)=Z:=⟨_,rfl⟩
 have hkz:Kept w Z:=by rw[←hZ];exact ja _ _
 have HSB:=lH (je w (.slice s1 n1 e1) [.slice s2 n2 e2,.slice s3 n3 e3] 26 Z (by rw[hZ];exact Kept.refl _));have HN:=lH (hn.kept hkz);have HNL:=lH hn.1;have HKZ:=lH hkz;clear hn hkz;go_enter Tryz.func25,Tryz.ntmps25;have y0:=HSB.out.at_ 0 _ rfl;go_upto_region 2 with fail
 try rw[hZ]
 clear hZ;go_wp2;clear y0;go_loopw [5,13] (fun v i wr=>∃k:Nat,k≤n1∧i=.int .i64 k∧∃la:List ByteArray,Zs key (nodes.take k)=la∧Own StrLay 9 wr Z.heap.size v la∧Kept Z wr) (fun _ i _=>n1-(intOf i).toNat)
 case atStart=>exact⟨0,Nat.zero_le _,rfl,[],rfl,Own.nil _ _ _,Kept.refl _⟩
 case round =>
  obtain⟨k,hk,rfl,la,hla,ho,hK⟩:=hrel;have HX:=lH hla;have HO:=lH ho;have HK:=lH hK;obtain⟨m,hm⟩:∃m,la.length=m:=⟨_,rfl⟩
  have hmk:m≤k:=by
   have:=jcJ key (nodes.take k);rw[hla,hm,List.length_take] at this;omega
  have HT:=lH hm;have hbase:Z.heap.size≤wr.heap.size:=hK.size;by_cases hlt:k<n1
  · obtain⟨g,off,rfl⟩:=HN.out.form.resolve_left (by omega);obtain⟨n,b1,k1,d1,b2,k2,d2,b3,k3,d3,hn,hd,hb,q0,q1,q2,q3,q4,hat⟩:=(HN.out.kept hK).at_ hlt;have HAT:=lH hat;have HBT:=lH (jbI (key:=key) hn);have hkk:(k:Int)<(n1:Int):=by omega
    have hk0:¬(k:Int)<0:=by omega
    obtain⟨wx,hwx⟩:∃W,wr.alloc (.cells #[.string n.name,.slice b1 k1 d1,.slice b2 k2 d2,.slice b3 k3 d3,.bool n.cordon] 68)=W:=⟨_,rfl⟩
    have hkx:Kept wr wx:=by rw[←hwx];exact ja _ _
    have HQB:=lH (je wr (.string n.name) [.slice b1 k1 d1,.slice b2 k2 d2,.slice b3 k3 d3,.bool n.cordon] 68 wx (by rw[hwx];exact Kept.refl _));obtain⟨bq,hbq⟩:∃z,wr.heap.size=z:=⟨_,rfl⟩
    rw[hbq] at HQB;have KX:=lH hkx;go_upto_region 5 with fail
    try rw[hwx]
    try rw[hbq]
    clear hwx hbq hd hb hn hkx hk0 hkk hat hla ho hm hK q0 q1 q2 q3 q4;have t2:=HQB.out.at_ 2 _ rfl;obtain⟨go,hgo⟩:∃z,getS n.labels key=z:=⟨_,rfl⟩
    have HGO:=lH hgo;rw[hgo] at HBT;go_wp2_with fail
    refine(jbn (HAT.out.labels.kept KX.out) (x:=go.getD ByteArray.empty) (b:=go.isSome) (by unfold Yp;rw[hgo]) (by unfold Yn;rw[hgo])).mono ?_;rintro e w1 ⟨rfl,kk⟩;have KW:=lH (KX.out.trans kk);clear kk hgo t2
    cases go with
    | none =>
     have HV:=lH (show Zs key (nodes.take (k+1))=la by rw[HBT.out,HX.out];exact List.append_nil _);go_wp2;go_roundw
     case rel=>exact⟨k+1,by omega,by go_num,la,HV.out,HO.out.kept KW.out,HK.out.trans KW.out⟩
     case measure=>simp[intOf];omega
    | some x =>
     have HSZ:=lH (Z7 HAT.out.labels.fine HGO.out);have HV:=lH (show Zs key (nodes.take (k+1))=la++[x] by rw[HBT.out,HX.out]);have HOW2:=lH (show w1.ownsRow Z.heap.size 9 1 u5 m (jc StrLay la) by have:=(HO.out.kept KW.out).1;rw[HT.out] at this;exact this);have hs1:wr.heap.size≤w1.heap.size:=Below.size KW.out;go_wp2_with (at_builtin;refine wpList_append_lies _ rfl _ _ _ rfl Z.heap.size 9 i0 _ 1 16 Tryz.underlying29 hi hz0 hz1 hz2' rfl (by decide) u5 m (jc StrLay la) rfl (HOW2.out.alloc _) ⟨w1.heap.size,0,none⟩ 1 1 (StrLay.cs x) rfl rfl (World.news_of_block (cs:=#[.string x]) (t:=9) (fr:=(0,0)) (heap_alloc_new w1 _)) (X3 x) (by decide) (by unfold maxLen;omega) (by omega) (by simp;omega) (w1.heap.size+1) (by simp) ?_;intro gg cap1 w2 hown1 hgrow hat hlt1)
     have HBW:=lH ((show Below Z.heap.size Z _ from HK.out.trans (KW.out.trans (ja w1 _))).grown hgrow (by simp;omega) (fun j hj=>(HOW2.out.lt j hj).1));go_wp2;go_roundw
     case rel=>exact⟨k+1,by omega,by go_num,la++[x],HV.out,Own.snoc hown1 (by rw[HT.out]) HO.out.2 HSZ.out,HBW.out⟩
     case measure=>simp[intOf];omega
  · have hge:¬(k:Int)<(n1:Int):=by omega
    have HE:=lH (show Zs key nodes=la by rw[←hla,List.take_of_length_le (by rw[HNL.out];omega)]);have HLB:=lH (show la.length≤100000 by omega);clear hla hK hm;rcases own_holds ho with ⟨rfl,he⟩ | ⟨g,cap,rfl,hg,hgl,hc1,hc2,hH⟩
    · have HD:=lH (show Yk key nodes=[] by unfold Yk ZQ Jt;rw[HE.out,he];simp[Jq,Lib.compact,Lib.compactUpTo]);clear ho;go_wp2_with fail
      refine(Tryz.slices_Sort_string_none none 0 wr).mono ?_;rintro e w1 ⟨rfl,rfl⟩;go_wp2_with fail
      refine(Tryz.slices_Compact_string_empty none 0 _).mono ?_;rintro e w2 ⟨rfl,rfl⟩;go_wp2;go_ret;exact⟨_,rfl,by rw[HD.out];exact Reads.nil _,HKZ.out.trans HK.out⟩
    · have HH:=lH hH;have HFS:=lH HO.out.2;clear ho hH;obtain⟨ss,hss⟩:∃l,(la.map fun x=>x.data.toList)=l:=⟨_,rfl⟩
      have HSS:=lH hss;rw[hss] at HH;have hsl:la.length=ss.length:=by rw[←hss,List.length_map]
      rw[hsl] at hc1 ⊢;have hs5:ss.length≤100000:=by have:=HLB.out;omega
      clear hss hsl;go_wp2_with fail
      refine(Tryz.slices_Sort_string g 0 cap ss wr HH.out hgl (by omega)).mono ?_;rintro e w1 ⟨rfl,q,os,hw1⟩;have hz:(Jq ss).length=ss.length:=(List.mergeSort_perm ss _).length_eq;have hG1:jg (fun i=>i=g) wr w1:=by rw[hw1];exact Ye wr g 0 q _ os
      have hH1:Sort.Holds encStr w1 g 0 (Jq ss).toArray:=by rw[hw1];exact holds_grow os (Sort.holds_putRow _ _ _ _ _ _ (Sort.holds_ahead _ _ _ _ _ _ HH.out) (by simp)) (by rw[Sort.size_putRow];exact hgl)
      have HG1:=lH hG1;have HH1:=lH hH1;rw[←hz] at hc1;try rw[←hz]
      clear hw1 hG1 hH1;obtain⟨tt,htt⟩:∃l,Jq ss=l:=⟨_,rfl⟩
      have HTT:=lH htt;rw[htt] at HH1 hc1 hz;try rw[htt]
      clear htt;have HCC:=Tryz.slices_Compact_string g 0 cap tt w1 HH1.out (by omega) hc1;rw[hz] at HCC;go_wp2_with fail
      refine HCC.mono ?_;rintro e w2 ⟨rfl,q2,hw2⟩;rw[←hz] at hw2;clear HCC;have hcl:(Lib.compact tt).length≤tt.length:=Lib.compact_length_le tt;have hG2:jg (fun i=>i=g) w1 w2:=by rw[hw2];have h9:=Ye w1 g 0 q2 (Lib.compact tt++List.replicate (tt.length-(Lib.compact tt).length) []).toArray #[];rwa [Sort.grow_empty] at h9
      have hH2:Sort.Holds encStr w2 g 0 (Lib.compact tt++List.replicate (tt.length-(Lib.compact tt).length) []).toArray:=by rw[hw2];exact Sort.holds_putRow _ _ _ _ _ _ (Sort.holds_ahead _ _ _ _ _ _ HH1.out) (by simp;omega)
      have HG2:=lH hG2;have HH2:=lH hH2;have HDB:=lH (show Yk key nodes=(Lib.compact tt).map bytes by unfold Yk ZQ Jt;rw[HE.out,HSS.out,HTT.out]);have HCL:=lH hcl;have HC1:=lH hc1;clear hw2 hG2 hH2 hcl;go_wp2;go_ret;refine⟨_,rfl,?_,HKZ.out.trans (jg.below HK.out (HG1.out.trans HG2.out) fun i e=>by rw[e];exact hg)⟩;rw[HDB.out];refine⟨some ⟨g,0,none⟩,cap,by rw[List.length_map];rfl,by rw[List.length_map];have:=HCL.out;have:=HC1.out;omega,hc2,rfl,by rw[List.length_map];have:=HCL.out;have:=HC1.out;omega,fun x hx=>?_,.inr ⟨g,0,rfl,by have h1:=HG1.out.size;have h2:=HG2.out.size;omega,fun i x j u hx hu=>?_⟩⟩
      · obtain⟨y,hy,rfl⟩:=List.mem_map.1 hx;have hm2:y ∈ ZQ key nodes:=by unfold ZQ Jt;rw[HE.out,HSS.out,HTT.out];exact hy
        have hm3:=((Z1 key nodes).2 y).1 hm2;unfold Jt at hm3;rw[HE.out] at hm3;obtain⟨z,hz9,rfl⟩:=List.mem_map.1 hm3;rw[jaZ];exact HFS.out z hz9
      · rw[List.getElem?_map] at hx;obtain⟨y,hy,rfl⟩:=Option.map_eq_some_iff.1 hx;have hil:=(List.getElem?_eq_some_iff.1 hy).1
        cases j with
        | zero =>
         cases hu
         have:=(HH2.out i (by simp;omega)).1;rw[getElem!_pos _ i (by simp;omega)] at this;have e:(Lib.compact tt++List.replicate (tt.length-(Lib.compact tt).length) []).toArray[i]'(by simp;omega)=y:=by
          have:=(List.getElem?_eq_some_iff.1 hy).2;simp[List.getElem_append_left hil,this]
         rw[e,jbw] at this;simpa [StrLay] using this
        | succ j=>cases hu
theorem Jn {W:World} {b:Nat} {x y:ByteArray} (h:ji b [.string x,.string y] W) (hx:x.size≤maxLen) (hy:y.size≤maxLen):Reads StrLay W (.slice (some ⟨b,0,none⟩) 2 2) [x,y]:=by
 refine⟨_,2,rfl,(by decide:(2:Nat)≤2),(by decide:(2:Nat)≤maxLen),rfl,(by decide:(2:Nat)≤maxLen),fun z hz=>?_,.inr ⟨b,0,rfl,h.lt,fun i z j u hz hu=>?_⟩⟩
 · rcases List.mem_cons.1 hz with rfl | hz
   · exact hx
   · obtain rfl:=List.mem_singleton.1 hz;exact hy
 · match j,hu with
   | 0,hu =>
    match i,hz with
    | 0,hz=>cases hz;cases hu;exact h.at_ 0 _ rfl
    | 1,hz=>cases hz;cases hu;exact h.at_ 1 _ rfl
    | i+2,hz=>cases hz
   | j+1,hu=>cases hu
theorem jd4:jC spR spS spD=(0,false):=by kernel_rfl
theorem jad (w:World):Calls Tryz.prog 5 #[] w (Say (.bool true) w):=by
 go_enter Tryz.func5,Tryz.ntmps5;go_wp2_with fail
 refine(ZU ⟨#[97]⟩ ⟨#[120]⟩ (by decide:(1:Nat)≤maxLen) (by decide:(1:Nat)≤maxLen) _).mono ?_;rintro e w1 ⟨b1,n1,d1,l1,m1,c1,rfl,ha,k⟩;have K:=lH k;have HN1:=lH ha;clear k ha;go_wp2_with fail
 refine(ZU ⟨#[98]⟩ ⟨#[121]⟩ (by decide:(1:Nat)≤maxLen) (by decide:(1:Nat)≤maxLen) _).mono ?_;rintro e w2 ⟨b2,n2,d2,l2,m2,c2,rfl,ha,k⟩;have K:=lH (K.out.trans k);have HN1:=lH (HN1.out.kept k);have HN2:=lH ha;clear k ha;go_wp2_with fail
 refine(ZU ⟨#[99]⟩ ⟨#[120]⟩ (by decide:(1:Nat)≤maxLen) (by decide:(1:Nat)≤maxLen) _).mono ?_;rintro e w3 ⟨b3,n3,d3,l3,m3,c3,rfl,ha,k⟩;have K:=lH (K.out.trans k);have HN1:=lH (HN1.out.kept k);have HN2:=lH (HN2.out.kept k);have HN3:=lH ha;clear k ha;go_wp2_with fail
 refine(jcF ⟨#[100]⟩ 9 (by decide:(-9223372036854775808:Int)≤9∧(9:Int)≤9223372036854775807) (by decide:(1:Nat)≤maxLen) _).mono ?_;rintro e w4 ⟨b4,n4,d4,rfl,ha,k⟩;have K:=lH (K.out.trans k);have HN1:=lH (HN1.out.kept k);have HN2:=lH (HN2.out.kept k);have HN3:=lH (HN3.out.kept k);have HN4:=lH ha;clear k ha;go_wp2_with fail
 obtain⟨g1,hg1⟩:∃g,w4.heap.size=g:=⟨_,rfl⟩
 obtain⟨w5,hw5⟩:∃W,w4.alloc (.cells #[.string ⟨#[97]⟩,.slice b1 n1 d1,.slice l1 m1 c1,.slice none 0 0,.bool false,.string ⟨#[98]⟩,.slice b2 n2 d2,.slice l2 m2 c2,.slice none 0 0,.bool false,.string ⟨#[99]⟩,.slice b3 n3 d3,.slice l3 m3 c3,.slice none 0 0,.bool false,.string ⟨#[100]⟩,.slice b4 n4 d4,.slice none 0 0,.slice none 0 0,.bool false] 68)=W:=⟨_,rfl⟩
 have k:Kept w4 w5:=by rw[←hw5];exact ja _ _
 have HRN:=lH (show jo w5 (some ⟨g1,0,none⟩) 4 spS.nodes from by
  have c:=je w4 (.string ⟨#[97]⟩) [.slice b1 n1 d1,.slice l1 m1 c1,.slice none 0 0,.bool false,.string ⟨#[98]⟩,.slice b2 n2 d2,.slice l2 m2 c2,.slice none 0 0,.bool false,.string ⟨#[99]⟩,.slice b3 n3 d3,.slice l3 m3 c3,.slice none 0 0,.bool false,.string ⟨#[100]⟩,.slice b4 n4 d4,.slice none 0 0,.slice none 0 0,.bool false] 68 w5 (by rw[hw5];exact Kept.refl _);rw[hg1] at c;exact Xe (lx:=[(Ys ⟨#[97]⟩ ⟨#[120]⟩,(b1,n1,d1),(l1,m1,c1),(none,0,0)),(Ys ⟨#[98]⟩ ⟨#[121]⟩,(b2,n2,d2),(l2,m2,c2),(none,0,0)),(Ys ⟨#[99]⟩ ⟨#[120]⟩,(b3,n3,d3),(l3,m3,c3),(none,0,0)),(ja7 ⟨#[100]⟩ 9,(b4,n4,d4),(none,0,0),(none,0,0))]) (Xr rfl c (fun _ _=>trivial) (by decide:(4:Nat)≤maxLen)) (fun z hz=>by
   rcases List.mem_cons.1 hz with rfl | hz
   · exact HN1.out.kept k
   rcases List.mem_cons.1 hz with rfl | hz
   · exact HN2.out.kept k
   rcases List.mem_cons.1 hz with rfl | hz
   · exact HN3.out.kept k
   obtain rfl:=List.mem_singleton.1 hz;exact HN4.out.kept k))
 have K:=lH (K.out.trans k);clear HN1 HN2 HN3 HN4 k;try rw[hw5]
 clear hw5;try rw[hg1]
 clear hg1;refine(J4 ⟨#[112]⟩ ⟨#[97]⟩ 1 (by decide:(1:Nat)≤maxLen) (by decide:(1:Nat)≤maxLen) (by decide) _).mono ?_;rintro e w6 ⟨p1,q1,r1,rfl,ha,k⟩;have K:=lH (K.out.trans k);have HRN:=lH (HRN.out.kept k);have HP1:=lH ha;clear k ha;go_wp2_with fail
 refine(J4 ⟨#[113]⟩ ⟨#[99]⟩ 1 (by decide:(1:Nat)≤maxLen) (by decide:(1:Nat)≤maxLen) (by decide) _).mono ?_;rintro e w7 ⟨p2,q2,r2,rfl,ha,k⟩;have K:=lH (K.out.trans k);have HRN:=lH (HRN.out.kept k);have HP1:=lH (HP1.out.kept k);have HP2:=lH ha;clear k ha;go_wp2_with fail
 refine(J4 ⟨#[114]⟩ ⟨#[]⟩ 1 (by decide:(1:Nat)≤maxLen) (by decide:(0:Nat)≤maxLen) (by decide) _).mono ?_;rintro e w8 ⟨p3,q3,r3,rfl,ha,k⟩;have K:=lH (K.out.trans k);have HRN:=lH (HRN.out.kept k);have HP1:=lH (HP1.out.kept k);have HP2:=lH (HP2.out.kept k);have HP3:=lH ha;clear k ha;obtain⟨w8b,hw8b⟩:∃W,w8.alloc (.cells #[.string ⟨#[112]⟩,.string ⟨#[119,101,98]⟩,.int .i64 0,.slice p1 q1 r1,.slice none 0 0,.slice none 0 0,.slice none 0 0,.string ⟨#[122,111,110,101]⟩,.int .i64 1,.string ⟨#[97]⟩,.bool false,.string ⟨#[113]⟩,.string ⟨#[119,101,98]⟩,.int .i64 0,.slice p2 q2 r2,.slice none 0 0,.slice none 0 0,.slice none 0 0,.string ⟨#[122,111,110,101]⟩,.int .i64 1,.string ⟨#[99]⟩,.bool false,.string ⟨#[114]⟩,.string ⟨#[119,101,98]⟩,.int .i64 0,.slice p3 q3 r3,.slice none 0 0,.slice none 0 0,.slice none 0 0,.string ⟨#[122,111,110,101]⟩,.int .i64 1,.string ⟨#[]⟩,.bool false] 39)=W:=⟨_,rfl⟩
 have hs8:w8b.heap.size=w8.heap.size+1:=by rw[←hw8b];simp
 obtain⟨w9,hw9⟩:∃W,w8b.alloc (.cells #[.slice (some ⟨g1,0,none⟩) 4 4,.slice (some ⟨w8.heap.size,0,none⟩) 3 3,.slice none 0 0] 26)=W:=⟨_,rfl⟩
 have k:Kept w8 w9:=by rw[←hw9,←hw8b];exact jJ _ _ _
 have hc:=je w8 (.string ⟨#[112]⟩) [.string ⟨#[119,101,98]⟩,.int .i64 0,.slice p1 q1 r1,.slice none 0 0,.slice none 0 0,.slice none 0 0,.string ⟨#[122,111,110,101]⟩,.int .i64 1,.string ⟨#[97]⟩,.bool false,.string ⟨#[113]⟩,.string ⟨#[119,101,98]⟩,.int .i64 0,.slice p2 q2 r2,.slice none 0 0,.slice none 0 0,.slice none 0 0,.string ⟨#[122,111,110,101]⟩,.int .i64 1,.string ⟨#[99]⟩,.bool false,.string ⟨#[114]⟩,.string ⟨#[119,101,98]⟩,.int .i64 0,.slice p3 q3 r3,.slice none 0 0,.slice none 0 0,.slice none 0 0,.string ⟨#[122,111,110,101]⟩,.int .i64 1,.string ⟨#[]⟩,.bool false] 39 w9 (by rw[←hw9,←hw8b];exact ja _ _);have HPC:=lH hc;have HRP:=lH (show jB w9 (some ⟨w8.heap.size,0,none⟩) 3 spS.pods from by
  exact qB (lx:=[(Yl ⟨#[112]⟩ ⟨#[97]⟩ 1,(p1,q1,r1),(none,0,0),(none,0,0),(none,0,0)),(Yl ⟨#[113]⟩ ⟨#[99]⟩ 1,(p2,q2,r2),(none,0,0),(none,0,0),(none,0,0)),(Yl ⟨#[114]⟩ ⟨#[]⟩ 1,(p3,q3,r3),(none,0,0),(none,0,0),(none,0,0))]) (Xr rfl hc (fun _ _=>trivial) (by decide:(3:Nat)≤maxLen)) (fun z hz=>by
   rcases List.mem_cons.1 hz with rfl | hz
   · exact HP1.out.kept k
   rcases List.mem_cons.1 hz with rfl | hz
   · exact HP2.out.kept k
   obtain rfl:=List.mem_singleton.1 hz;exact HP3.out.kept k))
 have HQ:=lH (show ji (w8.heap.size+1) [.slice (some ⟨g1,0,none⟩) 4 4,.slice (some ⟨w8.heap.size,0,none⟩) 3 3,.slice none 0 0] w9 by
  have c:=je w8b (.slice (some ⟨g1,0,none⟩) 4 4) [.slice (some ⟨w8.heap.size,0,none⟩) 3 3,.slice none 0 0] 26 w9 (by rw[hw9];exact Kept.refl _);rw[hs8] at c;exact c)
 have K:=lH (K.out.trans k);have HRN:=lH (HRN.out.kept k);clear HP1 HP2 HP3 k hc;obtain⟨g2,hg2⟩:∃g,w8.heap.size=g:=⟨_,rfl⟩
 have HW8:=lH hw8b;have HW9:=lH hw9;clear hw9 hw8b hs8;go_upto_region 2 with fail
 try rw[HW8.out]
 try rw[hg2]
 try rw[hg2] at HW9
 try rw[HW9.out]
 rw[hg2] at HPC HRP HQ;clear HW8 HW9 hg2;have HS:=lH (show ∀W,Kept w9 W→W.cell? ⟨g2+1,0,none⟩=some (.slice (some ⟨g1,0,none⟩) 4 4)∧W.cell? ⟨g2+1,1,none⟩=some (.slice (some ⟨g2,0,none⟩) 3 3)∧W.cell? ⟨g2+1,2,none⟩=some (.slice none 0 0)∧W.cell? ⟨g2,22,none⟩=some (.string ⟨#[114]⟩)∧W.cell? ⟨g2,23,none⟩=some (.string ⟨#[119,101,98]⟩)∧W.cell? ⟨g2,24,none⟩=some (.int .i64 0)∧W.cell? ⟨g2,25,none⟩=some (.slice p3 q3 r3)∧W.cell? ⟨g2,26,none⟩=some (.slice none 0 0)∧W.cell? ⟨g2,27,none⟩=some (.slice none 0 0)∧W.cell? ⟨g2,28,none⟩=some (.slice none 0 0)∧W.cell? ⟨g2,29,none⟩=some (.string ⟨#[122,111,110,101]⟩)∧W.cell? ⟨g2,30,none⟩=some (.int .i64 1)∧W.cell? ⟨g2,31,none⟩=some (.string ⟨#[]⟩)∧W.cell? ⟨g2,32,none⟩=some (.bool false)∧W.cell? ⟨g2,0,none⟩=some (.string ⟨#[112]⟩)∧W.cell? ⟨g2,1,none⟩=some (.string ⟨#[119,101,98]⟩)∧W.cell? ⟨g2,2,none⟩=some (.int .i64 0)∧W.cell? ⟨g2,3,none⟩=some (.slice p1 q1 r1)∧W.cell? ⟨g2,4,none⟩=some (.slice none 0 0)∧W.cell? ⟨g2,5,none⟩=some (.slice none 0 0)∧W.cell? ⟨g2,6,none⟩=some (.slice none 0 0)∧W.cell? ⟨g2,7,none⟩=some (.string ⟨#[122,111,110,101]⟩)∧W.cell? ⟨g2,8,none⟩=some (.int .i64 1)∧W.cell? ⟨g2,9,none⟩=some (.string ⟨#[97]⟩)∧W.cell? ⟨g2,10,none⟩=some (.bool false) from fun W k=>by
  have h:=HQ.out.kept k;have p:=HPC.out.kept k;exact⟨h.at_ 0 _ rfl,h.at_ 1 _ rfl,h.at_ 2 _ rfl,p.at_ 22 _ rfl,p.at_ 23 _ rfl,p.at_ 24 _ rfl,p.at_ 25 _ rfl,p.at_ 26 _ rfl,p.at_ 27 _ rfl,p.at_ 28 _ rfl,p.at_ 29 _ rfl,p.at_ 30 _ rfl,p.at_ 31 _ rfl,p.at_ 32 _ rfl,p.at_ 0 _ rfl,p.at_ 1 _ rfl,p.at_ 2 _ rfl,p.at_ 3 _ rfl,p.at_ 4 _ rfl,p.at_ 5 _ rfl,p.at_ 6 _ rfl,p.at_ 7 _ rfl,p.at_ 8 _ rfl,p.at_ 9 _ rfl,p.at_ 10 _ rfl⟩)
 have HSK:=lH (show ∀W,Kept w9 W→Calls Tryz.prog 8 #[.agg #[.slice (some ⟨g1,0,none⟩) 4 4,.slice (some ⟨g2,0,none⟩) 3 3,.slice none 0 0],.agg #[.string ⟨#[114]⟩,.string ⟨#[119,101,98]⟩,.int .i64 0,.slice p3 q3 r3,.slice none 0 0,.slice none 0 0,.slice none 0 0,.string ⟨#[122,111,110,101]⟩,.int .i64 1,.string ⟨#[]⟩,.bool false],.string ⟨#[98]⟩] W (Say (.tuple #[.int .i64 0,.bool true]) W) from fun W k=>by
  have h:=JG (some ⟨g1,0,none⟩) (some ⟨g2,0,none⟩) none p3 none none none 4 4 3 3 0 0 q3 r3 0 0 0 0 0 0 spR spS ⟨#[98]⟩ W (HRN.out.kept k) (HRP.out.kept k) (by decide) (by decide);rw[show jC spR spS ⟨#[98]⟩=(0,true) from jeh] at h;exact h)
 refine wp_region_held_drew (S:=fun W=>W.cell? ⟨g2+1,0,none⟩=some (.slice (some ⟨g1,0,none⟩) 4 4)∧W.cell? ⟨g2+1,1,none⟩=some (.slice (some ⟨g2,0,none⟩) 3 3)∧W.cell? ⟨g2+1,2,none⟩=some (.slice none 0 0)∧W.cell? ⟨g2,22,none⟩=some (.string ⟨#[114]⟩)∧W.cell? ⟨g2,23,none⟩=some (.string ⟨#[119,101,98]⟩)∧W.cell? ⟨g2,24,none⟩=some (.int .i64 0)∧W.cell? ⟨g2,25,none⟩=some (.slice p3 q3 r3)∧W.cell? ⟨g2,26,none⟩=some (.slice none 0 0)∧W.cell? ⟨g2,27,none⟩=some (.slice none 0 0)∧W.cell? ⟨g2,28,none⟩=some (.slice none 0 0)∧W.cell? ⟨g2,29,none⟩=some (.string ⟨#[122,111,110,101]⟩)∧W.cell? ⟨g2,30,none⟩=some (.int .i64 1)∧W.cell? ⟨g2,31,none⟩=some (.string ⟨#[]⟩)∧W.cell? ⟨g2,32,none⟩=some (.bool false)∧W.cell? ⟨g2,0,none⟩=some (.string ⟨#[112]⟩)∧W.cell? ⟨g2,1,none⟩=some (.string ⟨#[119,101,98]⟩)∧W.cell? ⟨g2,2,none⟩=some (.int .i64 0)∧W.cell? ⟨g2,3,none⟩=some (.slice p1 q1 r1)∧W.cell? ⟨g2,4,none⟩=some (.slice none 0 0)∧W.cell? ⟨g2,5,none⟩=some (.slice none 0 0)∧W.cell? ⟨g2,6,none⟩=some (.slice none 0 0)∧W.cell? ⟨g2,7,none⟩=some (.string ⟨#[122,111,110,101]⟩)∧W.cell? ⟨g2,8,none⟩=some (.int .i64 1)∧W.cell? ⟨g2,9,none⟩=some (.string ⟨#[97]⟩)∧W.cell? ⟨g2,10,none⟩=some (.bool false)) (by kernel_rfl) (HS.out _ (Kept.drew w9)) (fun hHeld=>?_);refine tkI 0 ?_;refine tkI 1 ?_;refine tkI 2 ?_;refine tkI 3 ?_;refine tkI 4 ?_;try simp only[nP]
 have J:=lH (Kept.drew w9);refine rd1 5 fun K9 hK9=>?_;go_simp;refine(HSK.out _ J.out).mono ?_;rintro e w10 ⟨rfl,kk⟩;have J:=lH (J.out.trans kk);clear kk HSK;refine hK9.out _ _ (HS.out _ J.out) (fun hHeld1=>?_);clear hK9 K9;try simp only[nP]
 refine tkI 6 ?_;refine tkI 7 ?_;refine tkI 8 ?_;refine tkI 9 ?_;refine tkI 10 ?_;try simp only[nP]
 refine wpAnyH_done (by kernel_rfl) ?_ _;have K:=lH (K.out.trans J.out);have HRN:=lH (HRN.out.kept J.out);have HRP:=lH (HRP.out.kept J.out);have HPC:=lH (HPC.out.kept J.out);have HQ:=lH (HQ.out.kept J.out);clear HS J;go_wp2_with fail
 have HS:=lH (show ∀W,Kept w10 W→W.cell? ⟨g2+1,0,none⟩=some (.slice (some ⟨g1,0,none⟩) 4 4)∧W.cell? ⟨g2+1,1,none⟩=some (.slice (some ⟨g2,0,none⟩) 3 3)∧W.cell? ⟨g2+1,2,none⟩=some (.slice none 0 0)∧W.cell? ⟨g2,22,none⟩=some (.string ⟨#[114]⟩)∧W.cell? ⟨g2,23,none⟩=some (.string ⟨#[119,101,98]⟩)∧W.cell? ⟨g2,24,none⟩=some (.int .i64 0)∧W.cell? ⟨g2,25,none⟩=some (.slice p3 q3 r3)∧W.cell? ⟨g2,26,none⟩=some (.slice none 0 0)∧W.cell? ⟨g2,27,none⟩=some (.slice none 0 0)∧W.cell? ⟨g2,28,none⟩=some (.slice none 0 0)∧W.cell? ⟨g2,29,none⟩=some (.string ⟨#[122,111,110,101]⟩)∧W.cell? ⟨g2,30,none⟩=some (.int .i64 1)∧W.cell? ⟨g2,31,none⟩=some (.string ⟨#[]⟩)∧W.cell? ⟨g2,32,none⟩=some (.bool false)∧W.cell? ⟨g2,0,none⟩=some (.string ⟨#[112]⟩)∧W.cell? ⟨g2,1,none⟩=some (.string ⟨#[119,101,98]⟩)∧W.cell? ⟨g2,2,none⟩=some (.int .i64 0)∧W.cell? ⟨g2,3,none⟩=some (.slice p1 q1 r1)∧W.cell? ⟨g2,4,none⟩=some (.slice none 0 0)∧W.cell? ⟨g2,5,none⟩=some (.slice none 0 0)∧W.cell? ⟨g2,6,none⟩=some (.slice none 0 0)∧W.cell? ⟨g2,7,none⟩=some (.string ⟨#[122,111,110,101]⟩)∧W.cell? ⟨g2,8,none⟩=some (.int .i64 1)∧W.cell? ⟨g2,9,none⟩=some (.string ⟨#[97]⟩)∧W.cell? ⟨g2,10,none⟩=some (.bool false) from fun W k=>by
  have h:=HQ.out.kept k;have p:=HPC.out.kept k;exact⟨h.at_ 0 _ rfl,h.at_ 1 _ rfl,h.at_ 2 _ rfl,p.at_ 22 _ rfl,p.at_ 23 _ rfl,p.at_ 24 _ rfl,p.at_ 25 _ rfl,p.at_ 26 _ rfl,p.at_ 27 _ rfl,p.at_ 28 _ rfl,p.at_ 29 _ rfl,p.at_ 30 _ rfl,p.at_ 31 _ rfl,p.at_ 32 _ rfl,p.at_ 0 _ rfl,p.at_ 1 _ rfl,p.at_ 2 _ rfl,p.at_ 3 _ rfl,p.at_ 4 _ rfl,p.at_ 5 _ rfl,p.at_ 6 _ rfl,p.at_ 7 _ rfl,p.at_ 8 _ rfl,p.at_ 9 _ rfl,p.at_ 10 _ rfl⟩)
 have HSK:=lH (show ∀W,Kept w10 W→Calls Tryz.prog 8 #[.agg #[.slice (some ⟨g1,0,none⟩) 4 4,.slice (some ⟨g2,0,none⟩) 3 3,.slice none 0 0],.agg #[.string ⟨#[114]⟩,.string ⟨#[119,101,98]⟩,.int .i64 0,.slice p3 q3 r3,.slice none 0 0,.slice none 0 0,.slice none 0 0,.string ⟨#[122,111,110,101]⟩,.int .i64 1,.string ⟨#[]⟩,.bool false],.string ⟨#[97]⟩] W (Say (.tuple #[.int .i64 3,.bool true]) W) from fun W k=>by
  have h:=JG (some ⟨g1,0,none⟩) (some ⟨g2,0,none⟩) none p3 none none none 4 4 3 3 0 0 q3 r3 0 0 0 0 0 0 spR spS ⟨#[97]⟩ W (HRN.out.kept k) (HRP.out.kept k) (by decide) (by decide);rw[show jC spR spS ⟨#[97]⟩=(3,true) from jed] at h;exact h)
 refine wp_region_held_drew (S:=fun W=>W.cell? ⟨g2+1,0,none⟩=some (.slice (some ⟨g1,0,none⟩) 4 4)∧W.cell? ⟨g2+1,1,none⟩=some (.slice (some ⟨g2,0,none⟩) 3 3)∧W.cell? ⟨g2+1,2,none⟩=some (.slice none 0 0)∧W.cell? ⟨g2,22,none⟩=some (.string ⟨#[114]⟩)∧W.cell? ⟨g2,23,none⟩=some (.string ⟨#[119,101,98]⟩)∧W.cell? ⟨g2,24,none⟩=some (.int .i64 0)∧W.cell? ⟨g2,25,none⟩=some (.slice p3 q3 r3)∧W.cell? ⟨g2,26,none⟩=some (.slice none 0 0)∧W.cell? ⟨g2,27,none⟩=some (.slice none 0 0)∧W.cell? ⟨g2,28,none⟩=some (.slice none 0 0)∧W.cell? ⟨g2,29,none⟩=some (.string ⟨#[122,111,110,101]⟩)∧W.cell? ⟨g2,30,none⟩=some (.int .i64 1)∧W.cell? ⟨g2,31,none⟩=some (.string ⟨#[]⟩)∧W.cell? ⟨g2,32,none⟩=some (.bool false)∧W.cell? ⟨g2,0,none⟩=some (.string ⟨#[112]⟩)∧W.cell? ⟨g2,1,none⟩=some (.string ⟨#[119,101,98]⟩)∧W.cell? ⟨g2,2,none⟩=some (.int .i64 0)∧W.cell? ⟨g2,3,none⟩=some (.slice p1 q1 r1)∧W.cell? ⟨g2,4,none⟩=some (.slice none 0 0)∧W.cell? ⟨g2,5,none⟩=some (.slice none 0 0)∧W.cell? ⟨g2,6,none⟩=some (.slice none 0 0)∧W.cell? ⟨g2,7,none⟩=some (.string ⟨#[122,111,110,101]⟩)∧W.cell? ⟨g2,8,none⟩=some (.int .i64 1)∧W.cell? ⟨g2,9,none⟩=some (.string ⟨#[97]⟩)∧W.cell? ⟨g2,10,none⟩=some (.bool false)) (by kernel_rfl) (HS.out _ (Kept.drew w10)) (fun hHeld=>?_);refine tkI 0 ?_;refine tkI 1 ?_;refine tkI 2 ?_;refine tkI 3 ?_;refine tkI 4 ?_;try simp only[nP]
 have J:=lH (Kept.drew w10);refine rd1 5 fun K9 hK9=>?_;go_simp;refine(HSK.out _ J.out).mono ?_;rintro e w11 ⟨rfl,kk⟩;have J:=lH (J.out.trans kk);clear kk HSK;refine hK9.out _ _ (HS.out _ J.out) (fun hHeld1=>?_);clear hK9 K9;try simp only[nP]
 refine tkI 6 ?_;refine tkI 7 ?_;refine tkI 8 ?_;refine tkI 9 ?_;refine tkI 10 ?_;try simp only[nP]
 refine wpAnyH_done (by kernel_rfl) ?_ _;have K:=lH (K.out.trans J.out);have HRN:=lH (HRN.out.kept J.out);have HRP:=lH (HRP.out.kept J.out);have HPC:=lH (HPC.out.kept J.out);have HQ:=lH (HQ.out.kept J.out);clear HS J;go_wp2_with fail
 have HS:=lH (show ∀W,Kept w11 W→W.cell? ⟨g2+1,0,none⟩=some (.slice (some ⟨g1,0,none⟩) 4 4)∧W.cell? ⟨g2+1,1,none⟩=some (.slice (some ⟨g2,0,none⟩) 3 3)∧W.cell? ⟨g2+1,2,none⟩=some (.slice none 0 0)∧W.cell? ⟨g2,22,none⟩=some (.string ⟨#[114]⟩)∧W.cell? ⟨g2,23,none⟩=some (.string ⟨#[119,101,98]⟩)∧W.cell? ⟨g2,24,none⟩=some (.int .i64 0)∧W.cell? ⟨g2,25,none⟩=some (.slice p3 q3 r3)∧W.cell? ⟨g2,26,none⟩=some (.slice none 0 0)∧W.cell? ⟨g2,27,none⟩=some (.slice none 0 0)∧W.cell? ⟨g2,28,none⟩=some (.slice none 0 0)∧W.cell? ⟨g2,29,none⟩=some (.string ⟨#[122,111,110,101]⟩)∧W.cell? ⟨g2,30,none⟩=some (.int .i64 1)∧W.cell? ⟨g2,31,none⟩=some (.string ⟨#[]⟩)∧W.cell? ⟨g2,32,none⟩=some (.bool false)∧W.cell? ⟨g2,0,none⟩=some (.string ⟨#[112]⟩)∧W.cell? ⟨g2,1,none⟩=some (.string ⟨#[119,101,98]⟩)∧W.cell? ⟨g2,2,none⟩=some (.int .i64 0)∧W.cell? ⟨g2,3,none⟩=some (.slice p1 q1 r1)∧W.cell? ⟨g2,4,none⟩=some (.slice none 0 0)∧W.cell? ⟨g2,5,none⟩=some (.slice none 0 0)∧W.cell? ⟨g2,6,none⟩=some (.slice none 0 0)∧W.cell? ⟨g2,7,none⟩=some (.string ⟨#[122,111,110,101]⟩)∧W.cell? ⟨g2,8,none⟩=some (.int .i64 1)∧W.cell? ⟨g2,9,none⟩=some (.string ⟨#[97]⟩)∧W.cell? ⟨g2,10,none⟩=some (.bool false) from fun W k=>by
  have h:=HQ.out.kept k;have p:=HPC.out.kept k;exact⟨h.at_ 0 _ rfl,h.at_ 1 _ rfl,h.at_ 2 _ rfl,p.at_ 22 _ rfl,p.at_ 23 _ rfl,p.at_ 24 _ rfl,p.at_ 25 _ rfl,p.at_ 26 _ rfl,p.at_ 27 _ rfl,p.at_ 28 _ rfl,p.at_ 29 _ rfl,p.at_ 30 _ rfl,p.at_ 31 _ rfl,p.at_ 32 _ rfl,p.at_ 0 _ rfl,p.at_ 1 _ rfl,p.at_ 2 _ rfl,p.at_ 3 _ rfl,p.at_ 4 _ rfl,p.at_ 5 _ rfl,p.at_ 6 _ rfl,p.at_ 7 _ rfl,p.at_ 8 _ rfl,p.at_ 9 _ rfl,p.at_ 10 _ rfl⟩)
 have HSK:=lH (show ∀W,Kept w11 W→Calls Tryz.prog 8 #[.agg #[.slice (some ⟨g1,0,none⟩) 4 4,.slice (some ⟨g2,0,none⟩) 3 3,.slice none 0 0],.agg #[.string ⟨#[114]⟩,.string ⟨#[119,101,98]⟩,.int .i64 0,.slice p3 q3 r3,.slice none 0 0,.slice none 0 0,.slice none 0 0,.string ⟨#[122,111,110,101]⟩,.int .i64 1,.string ⟨#[]⟩,.bool false],.string ⟨#[100]⟩] W (Say (.tuple #[.int .i64 0,.bool false]) W) from fun W k=>by
  have h:=JG (some ⟨g1,0,none⟩) (some ⟨g2,0,none⟩) none p3 none none none 4 4 3 3 0 0 q3 r3 0 0 0 0 0 0 spR spS ⟨#[100]⟩ W (HRN.out.kept k) (HRP.out.kept k) (by decide) (by decide);rw[show jC spR spS ⟨#[100]⟩=(0,false) from jd4] at h;exact h)
 refine wp_region_held_drew (S:=fun W=>W.cell? ⟨g2+1,0,none⟩=some (.slice (some ⟨g1,0,none⟩) 4 4)∧W.cell? ⟨g2+1,1,none⟩=some (.slice (some ⟨g2,0,none⟩) 3 3)∧W.cell? ⟨g2+1,2,none⟩=some (.slice none 0 0)∧W.cell? ⟨g2,22,none⟩=some (.string ⟨#[114]⟩)∧W.cell? ⟨g2,23,none⟩=some (.string ⟨#[119,101,98]⟩)∧W.cell? ⟨g2,24,none⟩=some (.int .i64 0)∧W.cell? ⟨g2,25,none⟩=some (.slice p3 q3 r3)∧W.cell? ⟨g2,26,none⟩=some (.slice none 0 0)∧W.cell? ⟨g2,27,none⟩=some (.slice none 0 0)∧W.cell? ⟨g2,28,none⟩=some (.slice none 0 0)∧W.cell? ⟨g2,29,none⟩=some (.string ⟨#[122,111,110,101]⟩)∧W.cell? ⟨g2,30,none⟩=some (.int .i64 1)∧W.cell? ⟨g2,31,none⟩=some (.string ⟨#[]⟩)∧W.cell? ⟨g2,32,none⟩=some (.bool false)∧W.cell? ⟨g2,0,none⟩=some (.string ⟨#[112]⟩)∧W.cell? ⟨g2,1,none⟩=some (.string ⟨#[119,101,98]⟩)∧W.cell? ⟨g2,2,none⟩=some (.int .i64 0)∧W.cell? ⟨g2,3,none⟩=some (.slice p1 q1 r1)∧W.cell? ⟨g2,4,none⟩=some (.slice none 0 0)∧W.cell? ⟨g2,5,none⟩=some (.slice none 0 0)∧W.cell? ⟨g2,6,none⟩=some (.slice none 0 0)∧W.cell? ⟨g2,7,none⟩=some (.string ⟨#[122,111,110,101]⟩)∧W.cell? ⟨g2,8,none⟩=some (.int .i64 1)∧W.cell? ⟨g2,9,none⟩=some (.string ⟨#[97]⟩)∧W.cell? ⟨g2,10,none⟩=some (.bool false)) (by kernel_rfl) (HS.out _ (Kept.drew w11)) (fun hHeld=>?_);refine tkI 0 ?_;refine tkI 1 ?_;refine tkI 2 ?_;refine tkI 3 ?_;refine tkI 4 ?_;try simp only[nP]
 have J:=lH (Kept.drew w11);refine rd1 5 fun K9 hK9=>?_;go_simp;refine(HSK.out _ J.out).mono ?_;rintro e w12 ⟨rfl,kk⟩;have J:=lH (J.out.trans kk);clear kk HSK;refine hK9.out _ _ (HS.out _ J.out) (fun hHeld1=>?_);clear hK9 K9;try simp only[nP]
 refine tkI 6 ?_;refine tkI 7 ?_;refine tkI 8 ?_;refine tkI 9 ?_;refine tkI 10 ?_;try simp only[nP]
 refine wpAnyH_done (by kernel_rfl) ?_ _;have K:=lH (K.out.trans J.out);have HRN:=lH (HRN.out.kept J.out);have HRP:=lH (HRP.out.kept J.out);have HPC:=lH (HPC.out.kept J.out);have HQ:=lH (HQ.out.kept J.out);clear HS J;go_wp2_with fail
 have HS:=lH (show ∀W,Kept w12 W→W.cell? ⟨g2+1,0,none⟩=some (.slice (some ⟨g1,0,none⟩) 4 4)∧W.cell? ⟨g2+1,1,none⟩=some (.slice (some ⟨g2,0,none⟩) 3 3)∧W.cell? ⟨g2+1,2,none⟩=some (.slice none 0 0)∧W.cell? ⟨g2,22,none⟩=some (.string ⟨#[114]⟩)∧W.cell? ⟨g2,23,none⟩=some (.string ⟨#[119,101,98]⟩)∧W.cell? ⟨g2,24,none⟩=some (.int .i64 0)∧W.cell? ⟨g2,25,none⟩=some (.slice p3 q3 r3)∧W.cell? ⟨g2,26,none⟩=some (.slice none 0 0)∧W.cell? ⟨g2,27,none⟩=some (.slice none 0 0)∧W.cell? ⟨g2,28,none⟩=some (.slice none 0 0)∧W.cell? ⟨g2,29,none⟩=some (.string ⟨#[122,111,110,101]⟩)∧W.cell? ⟨g2,30,none⟩=some (.int .i64 1)∧W.cell? ⟨g2,31,none⟩=some (.string ⟨#[]⟩)∧W.cell? ⟨g2,32,none⟩=some (.bool false)∧W.cell? ⟨g2,0,none⟩=some (.string ⟨#[112]⟩)∧W.cell? ⟨g2,1,none⟩=some (.string ⟨#[119,101,98]⟩)∧W.cell? ⟨g2,2,none⟩=some (.int .i64 0)∧W.cell? ⟨g2,3,none⟩=some (.slice p1 q1 r1)∧W.cell? ⟨g2,4,none⟩=some (.slice none 0 0)∧W.cell? ⟨g2,5,none⟩=some (.slice none 0 0)∧W.cell? ⟨g2,6,none⟩=some (.slice none 0 0)∧W.cell? ⟨g2,7,none⟩=some (.string ⟨#[122,111,110,101]⟩)∧W.cell? ⟨g2,8,none⟩=some (.int .i64 1)∧W.cell? ⟨g2,9,none⟩=some (.string ⟨#[97]⟩)∧W.cell? ⟨g2,10,none⟩=some (.bool false) from fun W k=>by
  have h:=HQ.out.kept k;have p:=HPC.out.kept k;exact⟨h.at_ 0 _ rfl,h.at_ 1 _ rfl,h.at_ 2 _ rfl,p.at_ 22 _ rfl,p.at_ 23 _ rfl,p.at_ 24 _ rfl,p.at_ 25 _ rfl,p.at_ 26 _ rfl,p.at_ 27 _ rfl,p.at_ 28 _ rfl,p.at_ 29 _ rfl,p.at_ 30 _ rfl,p.at_ 31 _ rfl,p.at_ 32 _ rfl,p.at_ 0 _ rfl,p.at_ 1 _ rfl,p.at_ 2 _ rfl,p.at_ 3 _ rfl,p.at_ 4 _ rfl,p.at_ 5 _ rfl,p.at_ 6 _ rfl,p.at_ 7 _ rfl,p.at_ 8 _ rfl,p.at_ 9 _ rfl,p.at_ 10 _ rfl⟩)
 refine wp_region_held_drew (S:=fun W=>W.cell? ⟨g2+1,0,none⟩=some (.slice (some ⟨g1,0,none⟩) 4 4)∧W.cell? ⟨g2+1,1,none⟩=some (.slice (some ⟨g2,0,none⟩) 3 3)∧W.cell? ⟨g2+1,2,none⟩=some (.slice none 0 0)∧W.cell? ⟨g2,22,none⟩=some (.string ⟨#[114]⟩)∧W.cell? ⟨g2,23,none⟩=some (.string ⟨#[119,101,98]⟩)∧W.cell? ⟨g2,24,none⟩=some (.int .i64 0)∧W.cell? ⟨g2,25,none⟩=some (.slice p3 q3 r3)∧W.cell? ⟨g2,26,none⟩=some (.slice none 0 0)∧W.cell? ⟨g2,27,none⟩=some (.slice none 0 0)∧W.cell? ⟨g2,28,none⟩=some (.slice none 0 0)∧W.cell? ⟨g2,29,none⟩=some (.string ⟨#[122,111,110,101]⟩)∧W.cell? ⟨g2,30,none⟩=some (.int .i64 1)∧W.cell? ⟨g2,31,none⟩=some (.string ⟨#[]⟩)∧W.cell? ⟨g2,32,none⟩=some (.bool false)∧W.cell? ⟨g2,0,none⟩=some (.string ⟨#[112]⟩)∧W.cell? ⟨g2,1,none⟩=some (.string ⟨#[119,101,98]⟩)∧W.cell? ⟨g2,2,none⟩=some (.int .i64 0)∧W.cell? ⟨g2,3,none⟩=some (.slice p1 q1 r1)∧W.cell? ⟨g2,4,none⟩=some (.slice none 0 0)∧W.cell? ⟨g2,5,none⟩=some (.slice none 0 0)∧W.cell? ⟨g2,6,none⟩=some (.slice none 0 0)∧W.cell? ⟨g2,7,none⟩=some (.string ⟨#[122,111,110,101]⟩)∧W.cell? ⟨g2,8,none⟩=some (.int .i64 1)∧W.cell? ⟨g2,9,none⟩=some (.string ⟨#[97]⟩)∧W.cell? ⟨g2,10,none⟩=some (.bool false)) (by kernel_rfl) (HS.out _ (Kept.drew w12)) (fun hHeld=>?_);refine tkI 0 ?_;try simp only[nP]
 have J:=lH (Kept.drew w12);refine rd1 1 fun K9 hK9=>?_;go_simp;refine(jc9 ⟨#[107]⟩ 1 ⟨#[]⟩ (by decide:(-9223372036854775808:Int)≤1∧(1:Int)≤9223372036854775807) (by decide:(1:Nat)≤maxLen) (by decide:(0:Nat)≤maxLen) _).mono ?_;rintro e wk ⟨k1,k2,k3,rfl,ha,kk⟩;have J:=lH (J.out.trans kk);clear ha kk;refine hK9.out _ _ (HS.out _ J.out) (fun hHeld1=>?_);clear hK9 K9;try simp only[nP]
 refine rd1 2 fun K9 hK9=>?_;go_simp;have h:=JG (some ⟨g1,0,none⟩) (some ⟨g2,0,none⟩) none k1 none none none 4 4 3 3 0 0 k2 k3 0 0 0 0 0 0 spK spS ⟨#[100]⟩ wk (HRN.out.kept J.out) (HRP.out.kept J.out) (by decide) (by decide);rw[show jC spK spS ⟨#[100]⟩=(0,true) from jet] at h;refine h.mono ?_;clear h;rintro e w13 ⟨rfl,kk⟩;have J:=lH (J.out.trans kk);clear kk;refine hK9.out _ _ (HS.out _ J.out) (fun hHeld2=>?_);clear hK9 K9;try simp only[nP]
 refine tkI 3 ?_;refine tkI 4 ?_;refine tkI 5 ?_;refine tkI 6 ?_;refine tkI 7 ?_;try simp only[nP]
 refine wpAnyH_done (by kernel_rfl) ?_ _;have K:=lH (K.out.trans J.out);have HRN:=lH (HRN.out.kept J.out);have HRP:=lH (HRP.out.kept J.out);have HPC:=lH (HPC.out.kept J.out);have HQ:=lH (HQ.out.kept J.out);clear HS J;go_wp2_with fail
 have HS:=lH (show ∀W,Kept w13 W→W.cell? ⟨g2+1,0,none⟩=some (.slice (some ⟨g1,0,none⟩) 4 4)∧W.cell? ⟨g2+1,1,none⟩=some (.slice (some ⟨g2,0,none⟩) 3 3)∧W.cell? ⟨g2+1,2,none⟩=some (.slice none 0 0)∧W.cell? ⟨g2,22,none⟩=some (.string ⟨#[114]⟩)∧W.cell? ⟨g2,23,none⟩=some (.string ⟨#[119,101,98]⟩)∧W.cell? ⟨g2,24,none⟩=some (.int .i64 0)∧W.cell? ⟨g2,25,none⟩=some (.slice p3 q3 r3)∧W.cell? ⟨g2,26,none⟩=some (.slice none 0 0)∧W.cell? ⟨g2,27,none⟩=some (.slice none 0 0)∧W.cell? ⟨g2,28,none⟩=some (.slice none 0 0)∧W.cell? ⟨g2,29,none⟩=some (.string ⟨#[122,111,110,101]⟩)∧W.cell? ⟨g2,30,none⟩=some (.int .i64 1)∧W.cell? ⟨g2,31,none⟩=some (.string ⟨#[]⟩)∧W.cell? ⟨g2,32,none⟩=some (.bool false)∧W.cell? ⟨g2,0,none⟩=some (.string ⟨#[112]⟩)∧W.cell? ⟨g2,1,none⟩=some (.string ⟨#[119,101,98]⟩)∧W.cell? ⟨g2,2,none⟩=some (.int .i64 0)∧W.cell? ⟨g2,3,none⟩=some (.slice p1 q1 r1)∧W.cell? ⟨g2,4,none⟩=some (.slice none 0 0)∧W.cell? ⟨g2,5,none⟩=some (.slice none 0 0)∧W.cell? ⟨g2,6,none⟩=some (.slice none 0 0)∧W.cell? ⟨g2,7,none⟩=some (.string ⟨#[122,111,110,101]⟩)∧W.cell? ⟨g2,8,none⟩=some (.int .i64 1)∧W.cell? ⟨g2,9,none⟩=some (.string ⟨#[97]⟩)∧W.cell? ⟨g2,10,none⟩=some (.bool false) from fun W k=>by
  have h:=HQ.out.kept k;have p:=HPC.out.kept k;exact⟨h.at_ 0 _ rfl,h.at_ 1 _ rfl,h.at_ 2 _ rfl,p.at_ 22 _ rfl,p.at_ 23 _ rfl,p.at_ 24 _ rfl,p.at_ 25 _ rfl,p.at_ 26 _ rfl,p.at_ 27 _ rfl,p.at_ 28 _ rfl,p.at_ 29 _ rfl,p.at_ 30 _ rfl,p.at_ 31 _ rfl,p.at_ 32 _ rfl,p.at_ 0 _ rfl,p.at_ 1 _ rfl,p.at_ 2 _ rfl,p.at_ 3 _ rfl,p.at_ 4 _ rfl,p.at_ 5 _ rfl,p.at_ 6 _ rfl,p.at_ 7 _ rfl,p.at_ 8 _ rfl,p.at_ 9 _ rfl,p.at_ 10 _ rfl⟩)
 have HC1:=lH (show ∀W,Kept w13 W→Calls Tryz.prog 26 #[.agg #[.slice (some ⟨g1,0,none⟩) 4 4,.slice (some ⟨g2,0,none⟩) 3 3,.slice none 0 0],.agg #[.string ⟨#[114]⟩,.string ⟨#[119,101,98]⟩,.int .i64 0,.slice p3 q3 r3,.slice none 0 0,.slice none 0 0,.slice none 0 0,.string ⟨#[122,111,110,101]⟩,.int .i64 1,.string ⟨#[]⟩,.bool false],.string ⟨#[120]⟩] W (Say (.int .i64 2) W) from fun W k=>by
  have h:=Xs (some ⟨g1,0,none⟩) (some ⟨g2,0,none⟩) none p3 none none none 4 4 3 3 0 0 q3 r3 0 0 0 0 0 0 spR spS ⟨#[120]⟩ W (by decide:(1:Nat)≤maxLen) (HRN.out.kept k) (HRP.out.kept k) (by decide) (by decide);rw[show inD spR spS.pods ⟨#[120]⟩ spS.nodes=2 from jef] at h;exact h)
 have HC2:=lH (show ∀W,Kept w13 W→Calls Tryz.prog 26 #[.agg #[.slice (some ⟨g1,0,none⟩) 4 4,.slice (some ⟨g2,0,none⟩) 3 3,.slice none 0 0],.agg #[.string ⟨#[112]⟩,.string ⟨#[119,101,98]⟩,.int .i64 0,.slice p1 q1 r1,.slice none 0 0,.slice none 0 0,.slice none 0 0,.string ⟨#[122,111,110,101]⟩,.int .i64 1,.string ⟨#[97]⟩,.bool false],.string ⟨#[120]⟩] W (Say (.int .i64 1) W) from fun W k=>by
  have h:=Xs (some ⟨g1,0,none⟩) (some ⟨g2,0,none⟩) none p1 none none none 4 4 3 3 0 0 q1 r1 0 0 0 0 0 0 spP spS ⟨#[120]⟩ W (by decide:(1:Nat)≤maxLen) (HRN.out.kept k) (HRP.out.kept k) (by decide) (by decide);rw[show inD spP spS.pods ⟨#[120]⟩ spS.nodes=1 from jej] at h;exact h)
 refine wp_region_held_drew (S:=fun W=>W.cell? ⟨g2+1,0,none⟩=some (.slice (some ⟨g1,0,none⟩) 4 4)∧W.cell? ⟨g2+1,1,none⟩=some (.slice (some ⟨g2,0,none⟩) 3 3)∧W.cell? ⟨g2+1,2,none⟩=some (.slice none 0 0)∧W.cell? ⟨g2,22,none⟩=some (.string ⟨#[114]⟩)∧W.cell? ⟨g2,23,none⟩=some (.string ⟨#[119,101,98]⟩)∧W.cell? ⟨g2,24,none⟩=some (.int .i64 0)∧W.cell? ⟨g2,25,none⟩=some (.slice p3 q3 r3)∧W.cell? ⟨g2,26,none⟩=some (.slice none 0 0)∧W.cell? ⟨g2,27,none⟩=some (.slice none 0 0)∧W.cell? ⟨g2,28,none⟩=some (.slice none 0 0)∧W.cell? ⟨g2,29,none⟩=some (.string ⟨#[122,111,110,101]⟩)∧W.cell? ⟨g2,30,none⟩=some (.int .i64 1)∧W.cell? ⟨g2,31,none⟩=some (.string ⟨#[]⟩)∧W.cell? ⟨g2,32,none⟩=some (.bool false)∧W.cell? ⟨g2,0,none⟩=some (.string ⟨#[112]⟩)∧W.cell? ⟨g2,1,none⟩=some (.string ⟨#[119,101,98]⟩)∧W.cell? ⟨g2,2,none⟩=some (.int .i64 0)∧W.cell? ⟨g2,3,none⟩=some (.slice p1 q1 r1)∧W.cell? ⟨g2,4,none⟩=some (.slice none 0 0)∧W.cell? ⟨g2,5,none⟩=some (.slice none 0 0)∧W.cell? ⟨g2,6,none⟩=some (.slice none 0 0)∧W.cell? ⟨g2,7,none⟩=some (.string ⟨#[122,111,110,101]⟩)∧W.cell? ⟨g2,8,none⟩=some (.int .i64 1)∧W.cell? ⟨g2,9,none⟩=some (.string ⟨#[97]⟩)∧W.cell? ⟨g2,10,none⟩=some (.bool false)) (by kernel_rfl) (HS.out _ (Kept.drew w13)) (fun hHeld=>?_);refine tkI 0 ?_;try simp only[nP]
 have J:=lH (Kept.drew w13);obtain⟨wq,hwq⟩:∃W,w13.drew=W:=⟨_,rfl⟩
 rw[hwq] at hHeld J ⊢;clear hwq;refine rdH (rs:=[1,2]) (h:=coH (fun K9 hK9=>?_) (coH (fun K9 hK9=>?_) AllReadyH.nil))
 · go_simp;have h:=Yg (some ⟨g1,0,none⟩) (some ⟨g2,0,none⟩) none 4 4 3 3 0 0 spS.nodes Ze _ (HRN.out.kept J.out) (by decide);rw[jdj] at h;refine h.mono ?_;clear h;rintro e wd ⟨vd,rfl,hr,kk⟩;have J:=lH (J.out.trans kk);have HV:=lH hr;clear hr kk;refine hK9.out _ _ (HS.out _ J.out) (fun hHeld1=>?_);clear hK9 K9;try simp only[nP]
   refine rd1 2 fun K9 hK9=>?_;go_simp;refine hK9.out _ _ (HS.out _ (J.out.trans (ja _ _))) (fun hHeld2=>?_);clear hK9 K9;try simp only[nP]
   obtain⟨wl,hwl⟩:∃W,wd.alloc (.cells #[.string ⟨#[120]⟩,.string ⟨#[121]⟩] 9)=W:=⟨_,rfl⟩
   have kk:Kept wd wl:=by rw[←hwl];exact ja _ _
   have HL:=lH (Jn (x:=⟨#[120]⟩) (y:=⟨#[121]⟩) (je wd (.string ⟨#[120]⟩) [.string ⟨#[121]⟩] 9 wl (by rw[hwl];exact Kept.refl _)) (by decide:(1:Nat)≤maxLen) (by decide:(1:Nat)≤maxLen));have J:=lH (J.out.trans kk);have HV:=lH (HV.out.kept kk);try rw[hwl]
   clear hwl kk;refine rd1 3 fun K9 hK9=>?_;go_simp;refine(Zq HV.out HL.out).mono ?_;rintro e wn ⟨rfl,kk⟩;have J:=lH (J.out.trans kk);clear kk HV HL;refine hK9.out _ _ (HS.out _ J.out) (fun hHeld3=>?_);clear hK9 K9;try simp only[nP]
   refine tkI 4 ?_;refine tkI 5 ?_;refine tkI 6 ?_;refine tkI 7 ?_;refine tkI 8 ?_;refine tkI 9 ?_;try simp only[nP]
   refine rd1 10 fun K9 hK9=>?_;go_simp;refine(HC1.out _ J.out).mono ?_;rintro e wc ⟨rfl,kk⟩;have J:=lH (J.out.trans kk);clear kk;refine hK9.out _ _ (HS.out _ J.out) (fun hHeld4=>?_);clear hK9 K9;try simp only[nP]
   refine tkI 11 ?_;refine tkI 12 ?_;refine tkI 13 ?_;refine tkI 14 ?_;refine tkI 15 ?_;refine tkI 16 ?_;refine tkI 17 ?_;refine tkI 18 ?_;try simp only[nP]
   refine rd1 19 fun K9 hK9=>?_;go_simp;refine(HC2.out _ J.out).mono ?_;rintro e wx ⟨rfl,kk⟩;have J:=lH (J.out.trans kk);clear kk;refine hK9.out _ _ (HS.out _ J.out) (fun hHeld5=>?_);clear hK9 K9;try simp only[nP]
   refine tkI 20 ?_;refine tkI 21 ?_;refine tkI 22 ?_;refine tkI 23 ?_;refine tkI 24 ?_;refine tkI 25 ?_;refine tkI 26 ?_;refine tkI 27 ?_;refine tkI 28 ?_;refine tkI 29 ?_;refine tkI 30 ?_;refine tkI 31 ?_;refine tkI 32 ?_;refine tkI 33 ?_;refine tkI 34 ?_;refine tkI 35 ?_;refine tkI 36 ?_;refine tkI 37 ?_;refine tkI 38 ?_;refine tkI 39 ?_;refine tkI 40 ?_;refine tkI 41 ?_;refine tkI 42 ?_;refine tkI 43 ?_;refine tkI 44 ?_;refine tkI 45 ?_;refine tkI 46 ?_;refine tkI 47 ?_;refine tkI 48 ?_;try simp only[nP]
   refine rdH (rs:=[49,50]) (h:=coH (fun K9 hK9=>?_) (coH (fun K9 hK9=>?_) AllReadyH.nil))
   · go_simp;have h:=Zm (some ⟨g1,0,none⟩) (some ⟨g2,0,none⟩) none 4 4 3 3 0 0 spS _ (HRN.out.kept J.out) (HRP.out.kept J.out) (by decide) (by decide);rw[XM] at h;refine h.mono ?_;clear h;rintro e wb ⟨vb,rfl,hr,kk⟩;have J:=lH (J.out.trans kk);have HV:=lH hr;clear hr kk;refine hK9.out _ _ (HS.out _ J.out) (fun hHeld6=>?_);clear hK9 K9;try simp only[nP]
     refine rd1 50 fun K9 hK9=>?_;go_simp;refine hK9.out _ _ (HS.out _ (J.out.trans (ja _ _))) (fun hHeld7=>?_);clear hK9 K9;try simp only[nP]
     obtain⟨wl,hwl⟩:∃W,wb.alloc (.cells #[.string ⟨#[112]⟩,.string ⟨#[113]⟩] 9)=W:=⟨_,rfl⟩
     have kk:Kept wb wl:=by rw[←hwl];exact ja _ _
     have HL:=lH (Jn (x:=⟨#[112]⟩) (y:=⟨#[113]⟩) (je wb (.string ⟨#[112]⟩) [.string ⟨#[113]⟩] 9 wl (by rw[hwl];exact Kept.refl _)) (by decide:(1:Nat)≤maxLen) (by decide:(1:Nat)≤maxLen));have J:=lH (J.out.trans kk);have HV:=lH (HV.out.kept kk);try rw[hwl]
     clear hwl kk;refine rd1 51 fun K9 hK9=>?_;go_simp;refine(Zq HV.out HL.out).mono ?_;rintro e wn ⟨rfl,kk⟩;have J:=lH (J.out.trans kk);clear kk HV HL;refine hK9.out _ _ (HS.out _ J.out) (fun hHeld8=>?_);clear hK9 K9;try simp only[nP]
     refine tkI 52 ?_;refine tkI 53 ?_;try simp only[nP]
     refine wpAnyH_done (by kernel_rfl) ?_ _;go_wp2;go_ret;exact⟨rfl,K.out.trans J.out⟩
   · go_simp;refine hK9.out _ _ (HS.out _ (J.out.trans (ja _ _))) (fun hHeld9=>?_);clear hK9 K9;try simp only[nP]
     obtain⟨wl,hwl⟩:∃W,wx.alloc (.cells #[.string ⟨#[112]⟩,.string ⟨#[113]⟩] 9)=W:=⟨_,rfl⟩
     have kk:Kept wx wl:=by rw[←hwl];exact ja _ _
     have HL:=lH (Jn (x:=⟨#[112]⟩) (y:=⟨#[113]⟩) (je wx (.string ⟨#[112]⟩) [.string ⟨#[113]⟩] 9 wl (by rw[hwl];exact Kept.refl _)) (by decide:(1:Nat)≤maxLen) (by decide:(1:Nat)≤maxLen));have J:=lH (J.out.trans kk);try rw[hwl]
     clear hwl kk;refine rd1 49 fun K9 hK9=>?_;go_simp;have h:=Zm (some ⟨g1,0,none⟩) (some ⟨g2,0,none⟩) none 4 4 3 3 0 0 spS _ (HRN.out.kept J.out) (HRP.out.kept J.out) (by decide) (by decide);rw[XM] at h;refine h.mono ?_;clear h;rintro e wb ⟨vb,rfl,hr,kk⟩;have J:=lH (J.out.trans kk);have HV:=lH hr;have HL:=lH (HL.out.kept kk);clear hr kk;refine hK9.out _ _ (HS.out _ J.out) (fun hHeld10=>?_);clear hK9 K9;try simp only[nP]
     refine rd1 51 fun K9 hK9=>?_;go_simp;refine(Zq HV.out HL.out).mono ?_;rintro e wn ⟨rfl,kk⟩;have J:=lH (J.out.trans kk);clear kk HV HL;refine hK9.out _ _ (HS.out _ J.out) (fun hHeld11=>?_);clear hK9 K9;try simp only[nP]
     refine tkI 52 ?_;refine tkI 53 ?_;try simp only[nP]
     refine wpAnyH_done (by kernel_rfl) ?_ _;go_wp2;go_ret;exact⟨rfl,K.out.trans J.out⟩
 · go_simp;refine hK9.out _ _ (HS.out _ (J.out.trans (ja _ _))) (fun hHeld12=>?_);clear hK9 K9;try simp only[nP]
   obtain⟨wl,hwl⟩:∃W,wq.alloc (.cells #[.string ⟨#[120]⟩,.string ⟨#[121]⟩] 9)=W:=⟨_,rfl⟩
   have kk:Kept wq wl:=by rw[←hwl];exact ja _ _
   have HL:=lH (Jn (x:=⟨#[120]⟩) (y:=⟨#[121]⟩) (je wq (.string ⟨#[120]⟩) [.string ⟨#[121]⟩] 9 wl (by rw[hwl];exact Kept.refl _)) (by decide:(1:Nat)≤maxLen) (by decide:(1:Nat)≤maxLen));have J:=lH (J.out.trans kk);try rw[hwl]
   clear hwl kk;refine rd1 1 fun K9 hK9=>?_;go_simp;have h:=Yg (some ⟨g1,0,none⟩) (some ⟨g2,0,none⟩) none 4 4 3 3 0 0 spS.nodes Ze _ (HRN.out.kept J.out) (by decide);rw[jdj] at h;refine h.mono ?_;clear h;rintro e wd ⟨vd,rfl,hr,kk⟩;have J:=lH (J.out.trans kk);have HV:=lH hr;have HL:=lH (HL.out.kept kk);clear hr kk;refine hK9.out _ _ (HS.out _ J.out) (fun hHeld13=>?_);clear hK9 K9;try simp only[nP]
   refine rd1 3 fun K9 hK9=>?_;go_simp;refine(Zq HV.out HL.out).mono ?_;rintro e wn ⟨rfl,kk⟩;have J:=lH (J.out.trans kk);clear kk HV HL;refine hK9.out _ _ (HS.out _ J.out) (fun hHeld14=>?_);clear hK9 K9;try simp only[nP]
   refine tkI 4 ?_;refine tkI 5 ?_;refine tkI 6 ?_;refine tkI 7 ?_;refine tkI 8 ?_;refine tkI 9 ?_;try simp only[nP]
   refine rd1 10 fun K9 hK9=>?_;go_simp;refine(HC1.out _ J.out).mono ?_;rintro e wc ⟨rfl,kk⟩;have J:=lH (J.out.trans kk);clear kk;refine hK9.out _ _ (HS.out _ J.out) (fun hHeld15=>?_);clear hK9 K9;try simp only[nP]
   refine tkI 11 ?_;refine tkI 12 ?_;refine tkI 13 ?_;refine tkI 14 ?_;refine tkI 15 ?_;refine tkI 16 ?_;refine tkI 17 ?_;refine tkI 18 ?_;try simp only[nP]
   refine rd1 19 fun K9 hK9=>?_;go_simp;refine(HC2.out _ J.out).mono ?_;rintro e wx ⟨rfl,kk⟩;have J:=lH (J.out.trans kk);clear kk;refine hK9.out _ _ (HS.out _ J.out) (fun hHeld16=>?_);clear hK9 K9;try simp only[nP]
   refine tkI 20 ?_;refine tkI 21 ?_;refine tkI 22 ?_;refine tkI 23 ?_;refine tkI 24 ?_;refine tkI 25 ?_;refine tkI 26 ?_;refine tkI 27 ?_;refine tkI 28 ?_;refine tkI 29 ?_;refine tkI 30 ?_;refine tkI 31 ?_;refine tkI 32 ?_;refine tkI 33 ?_;refine tkI 34 ?_;refine tkI 35 ?_;refine tkI 36 ?_;refine tkI 37 ?_;refine tkI 38 ?_;refine tkI 39 ?_;refine tkI 40 ?_;refine tkI 41 ?_;refine tkI 42 ?_;refine tkI 43 ?_;refine tkI 44 ?_;refine tkI 45 ?_;refine tkI 46 ?_;refine tkI 47 ?_;refine tkI 48 ?_;try simp only[nP]
   refine rdH (rs:=[49,50]) (h:=coH (fun K9 hK9=>?_) (coH (fun K9 hK9=>?_) AllReadyH.nil))
   · go_simp;have h:=Zm (some ⟨g1,0,none⟩) (some ⟨g2,0,none⟩) none 4 4 3 3 0 0 spS _ (HRN.out.kept J.out) (HRP.out.kept J.out) (by decide) (by decide);rw[XM] at h;refine h.mono ?_;clear h;rintro e wb ⟨vb,rfl,hr,kk⟩;have J:=lH (J.out.trans kk);have HV:=lH hr;clear hr kk;refine hK9.out _ _ (HS.out _ J.out) (fun hHeld17=>?_);clear hK9 K9;try simp only[nP]
     refine rd1 50 fun K9 hK9=>?_;go_simp;refine hK9.out _ _ (HS.out _ (J.out.trans (ja _ _))) (fun hHeld18=>?_);clear hK9 K9;try simp only[nP]
     obtain⟨wl,hwl⟩:∃W,wb.alloc (.cells #[.string ⟨#[112]⟩,.string ⟨#[113]⟩] 9)=W:=⟨_,rfl⟩
     have kk:Kept wb wl:=by rw[←hwl];exact ja _ _
     have HL:=lH (Jn (x:=⟨#[112]⟩) (y:=⟨#[113]⟩) (je wb (.string ⟨#[112]⟩) [.string ⟨#[113]⟩] 9 wl (by rw[hwl];exact Kept.refl _)) (by decide:(1:Nat)≤maxLen) (by decide:(1:Nat)≤maxLen));have J:=lH (J.out.trans kk);have HV:=lH (HV.out.kept kk);try rw[hwl]
     clear hwl kk;refine rd1 51 fun K9 hK9=>?_;go_simp;refine(Zq HV.out HL.out).mono ?_;rintro e wn ⟨rfl,kk⟩;have J:=lH (J.out.trans kk);clear kk HV HL;refine hK9.out _ _ (HS.out _ J.out) (fun hHeld19=>?_);clear hK9 K9;try simp only[nP]
     refine tkI 52 ?_;refine tkI 53 ?_;try simp only[nP]
     refine wpAnyH_done (by kernel_rfl) ?_ _;go_wp2;go_ret;exact⟨rfl,K.out.trans J.out⟩
   · go_simp;refine hK9.out _ _ (HS.out _ (J.out.trans (ja _ _))) (fun hHeld20=>?_);clear hK9 K9;try simp only[nP]
     obtain⟨wl,hwl⟩:∃W,wx.alloc (.cells #[.string ⟨#[112]⟩,.string ⟨#[113]⟩] 9)=W:=⟨_,rfl⟩
     have kk:Kept wx wl:=by rw[←hwl];exact ja _ _
     have HL:=lH (Jn (x:=⟨#[112]⟩) (y:=⟨#[113]⟩) (je wx (.string ⟨#[112]⟩) [.string ⟨#[113]⟩] 9 wl (by rw[hwl];exact Kept.refl _)) (by decide:(1:Nat)≤maxLen) (by decide:(1:Nat)≤maxLen));have J:=lH (J.out.trans kk);try rw[hwl]
     clear hwl kk;refine rd1 49 fun K9 hK9=>?_;go_simp;have h:=Zm (some ⟨g1,0,none⟩) (some ⟨g2,0,none⟩) none 4 4 3 3 0 0 spS _ (HRN.out.kept J.out) (HRP.out.kept J.out) (by decide) (by decide);rw[XM] at h;refine h.mono ?_;clear h;rintro e wb ⟨vb,rfl,hr,kk⟩;have J:=lH (J.out.trans kk);have HV:=lH hr;have HL:=lH (HL.out.kept kk);clear hr kk;refine hK9.out _ _ (HS.out _ J.out) (fun hHeld21=>?_);clear hK9 K9;try simp only[nP]
     refine rd1 51 fun K9 hK9=>?_;go_simp;refine(Zq HV.out HL.out).mono ?_;rintro e wn ⟨rfl,kk⟩;have J:=lH (J.out.trans kk);clear kk HV HL;refine hK9.out _ _ (HS.out _ J.out) (fun hHeld22=>?_);clear hK9 K9;try simp only[nP]
     refine tkI 52 ?_;refine tkI 53 ?_;try simp only[nP]
     refine wpAnyH_done (by kernel_rfl) ?_ _;go_wp2;go_ret;exact⟨rfl,K.out.trans J.out⟩
def jd0 (s:Clu) (w:World) (e:Ending) (w':World):Prop:=∃y,e=.returned y∧zr w' y s∧Kept w w'
theorem jaG {v:Value} {s:Clu} {w:World} (h:zr w v s) (x:ByteArray) (hl:ZZ s):Calls Tryz.prog 9 #[v,.string x] w (jd0 (zl s x) w):=by
 obtain⟨v1,v2,v3,rfl,⟨a,cap,rfl,l1,m1,h1⟩,⟨b,cp,rfl,l2,m2,h2⟩,⟨d,cb,rfl,l3,m3,h3⟩⟩:=h;refine(ja4 a b d _ cap _ cp _ cb s.nodes s.pods s.buds x w h1 h2 h3 l1 m1 l2 m2 l3 m3 hl).mono ?_;rintro e w' ⟨_,_,_,_,_,_,_,_,_,rfl,ho,kk⟩;exact⟨_,rfl,ho.toR,kk⟩
theorem jcW {a:Option Addr} {n c:Nat} {l:List Pd} {w:World} (h:zC w (.slice a n c) l):jB w a n l:=by
 obtain⟨a',cap',e,_,_,h⟩:=h
 cases e
 exact h
theorem jct {a:Option Addr} {n c:Nat} {l:List Nod} {w:World} (h:j4 w (.slice a n c) l):jo w a n l:=by
 obtain⟨a',cap',e,_,_,h⟩:=h
 cases e
 exact h
theorem zr.nodesAt {w:World} {v2 v3:Value} {b:Option Addr} {m cp:Nat} {s:Clu} (h:zr w (ja8 (.slice b m cp) v2 v3) s):jo w b m s.nodes:=by
 obtain⟨_,_,_,e,g0⟩:=h
 cases e
 exact jct g0.nodes
theorem zr.podsAt' {w:World} {v1 v3:Value} {b:Option Addr} {m cp:Nat} {s:Clu} (h:zr w (ja8 v1 (.slice b m cp) v3) s):jB w b m s.pods:=by
 obtain⟨_,_,_,e,g0⟩:=h
 cases e
 exact jcW g0.pods
theorem jby {v:Value} {s:Clu} {p:Pd} {a1 a2 a3 a4:Option Addr} {m1 c1 m2 c2 m3 c3 m4 c4:Nat} {w:World} (h:zr w v (zl s p.name)) (hn:s.nodes.length≤100) (hp:s.pods.length≤1000) (x:ByteArray):Calls Tryz.prog 8 #[v,jW p (.slice a1 m1 c1) (.slice a2 m2 c2) (.slice a3 m3 c3) (.slice a4 m4 c4),.string x] w (Say (.tuple #[.int .i64 (jC p s x).1,.bool (jC p s x).2]) w):=by
 obtain⟨v1,v2,v3,rfl,⟨a,cap,rfl,l1,g1,h1⟩,⟨b,cp,rfl,l2,g2,h2⟩,⟨d,cb,rfl,l3,g3,h3⟩⟩:=h;have hd:=jbJ s p.name;have e:=JG a b d a1 a2 a3 a4 _ cap _ cp (zl s p.name).buds.length cb m1 c1 m2 c2 m3 c3 m4 c4 p (zl s p.name) x w h1 h2 (show s.nodes.length≤100000 by omega) (by omega);rw[jcu] at e;exact e
theorem SpreadBad_walk (v:Value) (s:Clu) (w:World) (h:zr w v s):Calls Tryz.prog 3 #[v] w fun e w'=>e=.returned (.bool true)∧Kept w w':=by
 have hs0:=h;obtain⟨_,_,_,rfl,⟨sa1,sc1,rfl,-,-,-⟩,⟨sa2,sc2,rfl,-,-,-⟩,⟨sa3,sc3,rfl,-,-,-⟩⟩:=hs0;obtain⟨sl1,hsl1⟩:∃q,s.nodes.length=q:=⟨_,rfl⟩
 rw[hsl1] at h;try rw[hsl1]
 obtain⟨sl2,hsl2⟩:∃q,s.pods.length=q:=⟨_,rfl⟩
 rw[hsl2] at h;try rw[hsl2]
 obtain⟨sl3,hsl3⟩:∃q,s.buds.length=q:=⟨_,rfl⟩
 rw[hsl3] at h;try rw[hsl3]
 have HL1:=lH hsl1;have HL2:=lH hsl2;clear hsl1 hsl2 hsl3;obtain⟨Z,hZ⟩:∃Z,w.alloc (.cells #[.slice sa1 sl1 sc1,.slice sa2 sl2 sc2,.slice sa3 sl3 sc3] 26)=Z:=⟨_,rfl⟩
 have hkz:Kept w Z:=by rw[←hZ];exact ja _ _
 have HQS:=lH (show ji w.heap.size [.slice sa1 sl1 sc1,.slice sa2 sl2 sc2,.slice sa3 sl3 sc3] Z from je w (.slice sa1 sl1 sc1) [.slice sa2 sl2 sc2,.slice sa3 sl3 sc3] 26 Z (by rw[hZ];exact Kept.refl _));have HS:=lH (h.kept hkz);have HKZ:=lH hkz;clear h hkz;try unfold ja8 at HS
 have K:=lH (Kept.refl Z);go_enter Tryz.func3,Tryz.ntmps3;go_wp2_with fail
 try rw[hZ]
 clear hZ;refine(jad Z).mono ?_;rintro e w1 ⟨rfl,kk⟩;have HQS:=lH (HQS.out.kept kk);have HS:=lH (HS.out.kept kk);have K:=lH (K.out.trans kk);clear kk;obtain⟨e1,he1⟩:∃e,Jc s=e:=⟨_,rfl⟩
 have HE1:=lH he1;have sq0:=HQS.out.at_ 0 _ rfl;have sq1:=HQS.out.at_ 1 _ rfl;have sq2:=HQS.out.at_ 2 _ rfl;go_wp2_with fail
 refine(jdA HS.out he1).mono ?_;rintro e w2 ⟨rfl,kk⟩;have HQS:=lH (HQS.out.kept kk);have HS:=lH (HS.out.kept kk);have K:=lH (K.out.trans kk);clear kk he1;clear sq0 sq1 sq2;have sq0:=HQS.out.at_ 0 _ rfl;have sq1:=HQS.out.at_ 1 _ rfl;have sq2:=HQS.out.at_ 2 _ rfl
 cases e1 with
 | false =>
  go_wp2;go_ret;exact⟨rfl,HKZ.out.trans K.out⟩
 | true =>
  have HL:=lH (Yu (X9 HE1.out)).1;have HB34:=lH (Yu (X9 HE1.out)).2;have HAP:=lH (jda HE1.out);have HAN:=lH (jcn HE1.out);have HNA:=lH HS.out.nodesAt;have HPA:=lH HS.out.podsAt';have hb1:sl1≤100:=by have:=HB34.out.1;have:=HL1.out;omega
  have hb2:sl2≤1000:=by have:=HB34.out.2.1;have:=HL2.out;omega
  go_wp2_with fail
  refine(Zm sa1 sa2 sa3 sl1 sc1 sl2 sc2 sl3 sc3 s w2 HNA.out HPA.out (by omega) (by omega)).mono ?_;rintro e w3 ⟨v9,rfl,hr,kk⟩;have HQS:=lH (HQS.out.kept kk);have HS:=lH (HS.out.kept kk);have HNA:=lH (HNA.out.kept kk);have HPA:=lH (HPA.out.kept kk);have K:=lH (K.out.trans kk);clear kk;obtain⟨ba,bc,rfl,-,-,hrow⟩:=hr;obtain⟨bl,hbl⟩:∃q,(Yv s).length=q:=⟨_,rfl⟩
  rw[hbl] at hrow;try rw[hbl]
  have HBL:=lH hbl;have HBR:=lH hrow;have hblm:=hrow.2.1;unfold maxLen at hblm;clear hbl hrow;clear sq0 sq1 sq2;go_wp2;go_loopw [4,5] (fun kv iv wr=>∃i k:Nat,i≤sl2∧iv=.int .i64 i∧kv=.int .i64 k∧(zh s (s.pods.take i)).length=k∧Kept w3 wr) (fun _ iv _=>sl2-(intOf iv).toNat)
  case atStart=>exact⟨0,0,Nat.zero_le _,rfl,rfl,rfl,Kept.refl _⟩
  case round =>
   obtain⟨i,k,hi9,rfl,rfl,hk,hK⟩:=hrel;have HK:=lH hK;have HKE:=lH hk;have hki:k≤i:=by
    have:=qi s (s.pods.take i);rw[hk,List.length_take] at this;omega
   have HSK:=lH (HQS.out.kept hK);have y0:=HSK.out.at_ 0 _ rfl;have y1:=HSK.out.at_ 1 _ rfl;have y2:=HSK.out.at_ 2 _ rfl;by_cases hlt:i<sl2
   · obtain⟨g,off,rfl⟩:=HPA.out.form.resolve_left (by omega);obtain⟨p,a1,m1,c1,a2,m2,c2,a3,m3,c3,a4,m4,c4,hn,hd,hb,q0,q1,q2,q3,q4,q5,q6,q7,q8,q9,q10,hat⟩:=(HPA.out.kept hK).at_ hlt;have HPN:=lH hn;have hkk:(i:Int)<(sl2:Int):=by omega
     have hk0:¬(i:Int)<0:=by omega
     obtain⟨wx,hwx⟩:∃W,wr.alloc (.cells #[.string p.name,.string p.owner,.int .i64 p.prio,.slice a1 m1 c1,.slice a2 m2 c2,.slice a3 m3 c3,.slice a4 m4 c4,.string p.key,.int .i64 p.most,.string p.node,.bool p.hold] 39)=W:=⟨_,rfl⟩
     have hkx:Kept wr wx:=by rw[←hwx];exact ja _ _
     have HQB:=lH (je wr (.string p.name) [.string p.owner,.int .i64 p.prio,.slice a1 m1 c1,.slice a2 m2 c2,.slice a3 m3 c3,.slice a4 m4 c4,.string p.key,.int .i64 p.most,.string p.node,.bool p.hold] 39 wx (by rw[hwx];exact Kept.refl _));obtain⟨bq,hbq⟩:∃z,wr.heap.size=z:=⟨_,rfl⟩
     rw[hbq] at HQB;have KX:=lH hkx;go_upto_region 11 with fail
     try rw[hwx]
     try rw[hbq]
     clear hwx hbq hd hb hkx hk0 hkk hat hk hK q0 q1 q2 q3 q4 q5 q6 q7 q8 q9 q10 y0 y1 y2;obtain⟨b,hb⟩:∃b,zI s p=b:=⟨_,rfl⟩
     have HB:=lH hb;have HNX:=lH (jcV HAP.out hn HKE.out);clear hb hn;go_cut [7] from 29 to 41 (fun f wy=>f=.bool b∧Kept wx wy)
     case first =>
      have r0:=HQB.out.at_ 0 _ rfl;by_cases hkl:k<bl
      · obtain⟨gb,ob,rfl⟩:=HBR.out.form.resolve_left (by omega);obtain⟨x,hx,hxd,hxb,hxs,cx⟩:=(HBR.out.kept (HK.out.trans KX.out)).str hkl;have ht:(x.toList==p.name.toList)=b:=by
         have h1:=HNX.out;rw[HBL.out,hx,HB.out] at h1;have h2:x=p.name↔b=true:=by rw[←h1];exact⟨fun e=>⟨hkl,by rw[e]⟩,fun e=>Option.some.inj e.2⟩
         have h3:(x.toList==p.name.toList)=true↔x=p.name:=by show (eqS x p.name)=true↔_;exact jZ
         cases b
         · exact Bool.eq_false_iff.2 fun e=>by have:=h2.1 (h3.1 e);cases this
         · exact h3.2 (h2.2 rfl)
        have hki2:(k:Int)<(bl:Int):=by omega
        have hk2:¬(k:Int)<0:=by omega
        clear hx hxd;go_wp2;go_quiet (fail)
        go_wp2;go_meet
        case rel=>exact⟨rfl,Kept.drewN _ _⟩
      · obtain rfl:b=false:=by
         cases b
         · rfl
         · have:=(HNX.out.2 HB.out).1;rw[HBL.out] at this;exact absurd this hkl
        have hki2:¬(k:Int)<(bl:Int):=by omega
        go_wp2;go_quiet (fail)
        go_wp2;go_meet
        case rel=>exact⟨rfl,Kept.drewN _ _⟩
     case rest =>
      obtain⟨rfl,hky⟩:=hcut;have HKW:=lH (KX.out.trans hky);have HQB:=lH (HQB.out.kept hky);have HSX:=lH (HSK.out.kept (KX.out.trans hky));have HBT:=lH (Xp (s:=s) HPN.out);clear hky HNX;obtain⟨t9,h9⟩:∃t,(p.node.toList==([]:List UInt8))=t:=⟨_,rfl⟩
      obtain⟨t7,h7⟩:∃t,(p.key.toList==([]:List UInt8))=t:=⟨_,rfl⟩
      have H9:=lH (show zD p.node=t9 by rw[zS,h9]);have H7:=lH (show zD p.key=t7 by rw[zS,h7]);have r0:=HQB.out.at_ 0 _ rfl;have r1:=HQB.out.at_ 1 _ rfl;have r2:=HQB.out.at_ 2 _ rfl;have r3:=HQB.out.at_ 3 _ rfl;have r4:=HQB.out.at_ 4 _ rfl;have r5:=HQB.out.at_ 5 _ rfl;have r6:=HQB.out.at_ 6 _ rfl;have r7:=HQB.out.at_ 7 _ rfl;have r8:=HQB.out.at_ 8 _ rfl;have r9:=HQB.out.at_ 9 _ rfl;have r10:=HQB.out.at_ 10 _ rfl;have y0:=HSX.out.at_ 0 _ rfl;have y1:=HSX.out.at_ 1 _ rfl;have y2:=HSX.out.at_ 2 _ rfl
      cases t9 with
      | true =>
       obtain rfl:b=false:=by rw[←HB.out];unfold zI;rw[if_pos (.inl H9.out)]
       have HE:=lH (show (zh s (s.pods.take (i+1))).length=k by rw[HBT.out,HB.out,if_neg (by decide),List.append_nil,HKE.out]);go_wp2;go_roundw
       case rel=>exact⟨i+1,k,by omega,by go_num,rfl,HE.out,HK.out.trans HKW.out⟩
       case measure=>simp[intOf];omega
      | false =>
       cases t7 with
       | true =>
        obtain rfl:b=false:=by rw[←HB.out];unfold zI;rw[if_pos (.inr H7.out)]
        have HE:=lH (show (zh s (s.pods.take (i+1))).length=k by rw[HBT.out,HB.out,if_neg (by decide),List.append_nil,HKE.out]);go_wp2;go_roundw
        case rel=>exact⟨i+1,k,by omega,by go_num,rfl,HE.out,HK.out.trans HKW.out⟩
        case measure=>simp[intOf];omega
       | false =>
        have HV:=lH (show b=(!(jC p s p.node).2||decide (p.most<(jC p s p.node).1)) by rw[←HB.out];unfold zI;rw[if_neg (by rw[H9.out,H7.out];simp)]);have HLE:=lH (jdD HAN.out (List.mem_of_getElem? HPN.out) p.node);have HSR:=lH (fun (W:World) (y:Value) (hy:zr W y (zl s p.name))=>jby (a1:=a1) (a2:=a2) (a3:=a3) (a4:=a4) (m1:=m1) (c1:=c1) (m2:=m2) (c2:=c2) (m3:=m3) (c3:=c3) (m4:=m4) (c4:=c4) hy (by have:=HL1.out;omega) (by have:=HL2.out;omega) p.node);obtain⟨z,hz⟩:∃z,(jC p s p.node).1=z:=⟨_,rfl⟩
        obtain⟨o,ho⟩:∃z,(jC p s p.node).2=z:=⟨_,rfl⟩
        rw[hz,ho] at HSR HV;rw[hz,HL2.out] at HLE;unfold jW at HSR;clear hz ho;have HF:=lH (show ∀W,Kept wc W→W.cell? ⟨w.heap.size,0,none⟩=some (.slice sa1 sl1 sc1)∧W.cell? ⟨w.heap.size,1,none⟩=some (.slice (some ⟨g,off,none⟩) sl2 sc2)∧W.cell? ⟨w.heap.size,2,none⟩=some (.slice sa3 sl3 sc3)∧W.cell? ⟨bq,0,none⟩=some (.string p.name)∧W.cell? ⟨bq,1,none⟩=some (.string p.owner)∧W.cell? ⟨bq,2,none⟩=some (.int .i64 p.prio)∧W.cell? ⟨bq,3,none⟩=some (.slice a1 m1 c1)∧W.cell? ⟨bq,4,none⟩=some (.slice a2 m2 c2)∧W.cell? ⟨bq,5,none⟩=some (.slice a3 m3 c3)∧W.cell? ⟨bq,6,none⟩=some (.slice a4 m4 c4)∧W.cell? ⟨bq,7,none⟩=some (.string p.key)∧W.cell? ⟨bq,8,none⟩=some (.int .i64 p.most)∧W.cell? ⟨bq,9,none⟩=some (.string p.node)∧W.cell? ⟨bq,10,none⟩=some (.bool p.hold) from fun W kk=>by
         have h:=HSX.out.kept kk;have p:=HQB.out.kept kk;exact⟨h.at_ 0 _ rfl,h.at_ 1 _ rfl,h.at_ 2 _ rfl,p.at_ 0 _ rfl,p.at_ 1 _ rfl,p.at_ 2 _ rfl,p.at_ 3 _ rfl,p.at_ 4 _ rfl,p.at_ 5 _ rfl,p.at_ 6 _ rfl,p.at_ 7 _ rfl,p.at_ 8 _ rfl,p.at_ 9 _ rfl,p.at_ 10 _ rfl⟩)
        have HSW:=lH (HS.out.kept (HK.out.trans HKW.out))
        cases b with
        | false =>
         go_upto_region 17 with fail
         clear r0 r1 r2 r3 r4 r5 r6 r7 r8 r9 r10 y0 y1 y2;refine wp_region_held_drew (S:=fun W=>W.cell? ⟨w.heap.size,0,none⟩=some (.slice sa1 sl1 sc1)∧W.cell? ⟨w.heap.size,1,none⟩=some (.slice (some ⟨g,off,none⟩) sl2 sc2)∧W.cell? ⟨w.heap.size,2,none⟩=some (.slice sa3 sl3 sc3)∧W.cell? ⟨bq,0,none⟩=some (.string p.name)∧W.cell? ⟨bq,1,none⟩=some (.string p.owner)∧W.cell? ⟨bq,2,none⟩=some (.int .i64 p.prio)∧W.cell? ⟨bq,3,none⟩=some (.slice a1 m1 c1)∧W.cell? ⟨bq,4,none⟩=some (.slice a2 m2 c2)∧W.cell? ⟨bq,5,none⟩=some (.slice a3 m3 c3)∧W.cell? ⟨bq,6,none⟩=some (.slice a4 m4 c4)∧W.cell? ⟨bq,7,none⟩=some (.string p.key)∧W.cell? ⟨bq,8,none⟩=some (.int .i64 p.most)∧W.cell? ⟨bq,9,none⟩=some (.string p.node)∧W.cell? ⟨bq,10,none⟩=some (.bool p.hold)) (by kernel_rfl) (HF.out _ (Kept.drew wc)) (fun hHeld=>?_);refine tkI 0 ?_;refine tkI 1 ?_;refine tkI 2 ?_;refine tkI 4 ?_;refine tkI 5 ?_;refine tkI 6 ?_;try simp only[nP]
         have J:=lH (Kept.drew wc);refine rd1 3 fun K9 hK9=>?_;go_simp;refine(jaG (HSW.out.kept J.out) p.name HL.out).mono ?_;rintro e wd ⟨x1,rfl,hd1,kk⟩;have J:=lH (J.out.trans kk);have HD1:=lH hd1;clear hd1 kk;refine hK9.out _ _ (HF.out _ J.out) (fun hHeld1=>?_);clear hK9 K9;try simp only[nP]
         refine rd1 7 fun K9 hK9=>?_;go_simp;refine(HSR.out _ _ HD1.out).mono ?_;rintro e we ⟨rfl,kk⟩;have J:=lH (J.out.trans kk);clear kk HD1 HSR;refine hK9.out _ _ (HF.out _ J.out) (fun hHeld2=>?_);clear hK9 K9;try simp only[nP]
         refine tkI 8 ?_;refine tkI 9 ?_;refine tkI 10 ?_;refine tkI 11 ?_;refine tkI 12 ?_;try simp only[nP]
         refine wpAnyH_done (by kernel_rfl) ?_ _;obtain⟨y0,y1,y2,y3,y4,y5,y6,y7,y8,y9,y10,y11,y12,y13⟩:=HF.out _ J.out;have HE:=lH (show (zh s (s.pods.take (i+1))).length=k by rw[HBT.out,HB.out,if_neg (by decide),List.append_nil,HKE.out])
         cases o with
         | false =>
          exact absurd HV.out (by simp)
         | true =>
          by_cases hmz:p.most<z
          · exact absurd HV.out (by simp[hmz])
          · have hle:z≤p.most:=by omega
            go_wp2;go_roundw
            case rel=>exact⟨i+1,k,by omega,by go_num,rfl,HE.out,HK.out.trans (HKW.out.trans J.out)⟩
            case measure=>simp[intOf];omega
        | true =>
         go_upto_region 17 with fail
         clear r0 r1 r2 r3 r4 r5 r6 r7 r8 r9 r10 y0 y1 y2;refine wp_region_held_drew (S:=fun W=>W.cell? ⟨w.heap.size,0,none⟩=some (.slice sa1 sl1 sc1)∧W.cell? ⟨w.heap.size,1,none⟩=some (.slice (some ⟨g,off,none⟩) sl2 sc2)∧W.cell? ⟨w.heap.size,2,none⟩=some (.slice sa3 sl3 sc3)∧W.cell? ⟨bq,0,none⟩=some (.string p.name)∧W.cell? ⟨bq,1,none⟩=some (.string p.owner)∧W.cell? ⟨bq,2,none⟩=some (.int .i64 p.prio)∧W.cell? ⟨bq,3,none⟩=some (.slice a1 m1 c1)∧W.cell? ⟨bq,4,none⟩=some (.slice a2 m2 c2)∧W.cell? ⟨bq,5,none⟩=some (.slice a3 m3 c3)∧W.cell? ⟨bq,6,none⟩=some (.slice a4 m4 c4)∧W.cell? ⟨bq,7,none⟩=some (.string p.key)∧W.cell? ⟨bq,8,none⟩=some (.int .i64 p.most)∧W.cell? ⟨bq,9,none⟩=some (.string p.node)∧W.cell? ⟨bq,10,none⟩=some (.bool p.hold)) (by kernel_rfl) (HF.out _ (Kept.drew wc)) (fun hHeld=>?_);refine tkI 0 ?_;refine tkI 1 ?_;refine tkI 2 ?_;refine tkI 4 ?_;refine tkI 5 ?_;refine tkI 6 ?_;try simp only[nP]
         have J:=lH (Kept.drew wc);refine rd1 3 fun K9 hK9=>?_;go_simp;refine(jaG (HSW.out.kept J.out) p.name HL.out).mono ?_;rintro e wd ⟨x1,rfl,hd1,kk⟩;have J:=lH (J.out.trans kk);have HD1:=lH hd1;clear hd1 kk;refine hK9.out _ _ (HF.out _ J.out) (fun hHeld1=>?_);clear hK9 K9;try simp only[nP]
         refine rd1 7 fun K9 hK9=>?_;go_simp;refine(HSR.out _ _ HD1.out).mono ?_;rintro e we ⟨rfl,kk⟩;have J:=lH (J.out.trans kk);clear kk HD1 HSR;refine hK9.out _ _ (HF.out _ J.out) (fun hHeld2=>?_);clear hK9 K9;try simp only[nP]
         refine tkI 8 ?_;refine tkI 9 ?_;refine tkI 10 ?_;refine tkI 11 ?_;refine tkI 12 ?_;try simp only[nP]
         refine wpAnyH_done (by kernel_rfl) ?_ _;obtain⟨y0,y1,y2,y3,y4,y5,y6,y7,y8,y9,y10,y11,y12,y13⟩:=HF.out _ J.out;have HE:=lH (show (zh s (s.pods.take (i+1))).length=k+1 by rw[HBT.out,HB.out,if_pos rfl,List.length_append,HKE.out];rfl)
         cases o with
         | false =>
          go_wp2;go_roundw
          case rel=>exact⟨i+1,k+1,by omega,by go_num,by go_num,HE.out,HK.out.trans (HKW.out.trans J.out)⟩
          case measure=>simp[intOf];omega
         | true =>
          by_cases hmz:p.most<z
          · have hge:¬(sl2:Int)≤p.most:=by have:=HLE.out;omega
            go_wp2;go_roundw
            case rel=>exact⟨i+1,k+1,by omega,by go_num,by go_num,HE.out,HK.out.trans (HKW.out.trans J.out)⟩
            case measure=>simp[intOf];omega
          · exact absurd HV.out (by simp[hmz])
   · have hge:¬(i:Int)<(sl2:Int):=by omega
     obtain rfl:k=bl:=by rw[←hk,←HBL.out,List.take_of_length_le (by rw[HL2.out];omega)];rfl
     go_wp2;go_ret;exact⟨rfl,HKZ.out.trans (K.out.trans HK.out)⟩
end Go.Proofs.YtgfoenfaohhjcaaGreat
