/- The contracts of the functions that the law calls,and the law,walked. -/
import Derived.Test.YtaikgabblipenaaG0
import Derived.Test.YtaikgabblipenaaG1
import Derived.Test.YtaikgabblipenaaG2
import Derived.Test.YtaikgabblipenaaG3
import Derived.Test.YtaikgabblipenaaG5
set_option linter.unusedVariables false
set_option maxRecDepth 100000
set_option maxHeartbeats 25600000
namespace Go.Proofs.Ytaikgabblipenaa
open Go.RowKit
theorem YM {w:World} {b k:Nat} (f:Array Value→Array Value) (h:k≠b):(Sort.mapBlock w b f).heap[k]?=w.heap[k]?:=by
 simp[Sort.mapBlock,Array.getElem?_modify,h.symm]
theorem ZV (w:World) (g off q:Nat) (d:Array (List UInt8)) (os:Array Obj):jj (fun i=>i=g) w (Sort.grow (Sort.putRow encStr (Sort.ahead w q) g off d) os):=by
 refine⟨rfl,rfl,rfl,?_,fun k hk hn=>?_⟩
 · show w.heap.size≤(_++os).size;rw[Array.size_append,Sort.size_putRow];exact Nat.le_add_right _ _
 · show ((Sort.putRow encStr (Sort.ahead w q) g off d).heap++os)[k]?=_;rw[Array.getElem?_append_left (by rw[Sort.size_putRow];exact hk)];exact YM _ hn
theorem holds_grow {w:World} {b off:Nat} {d:Array (List UInt8)} (os:Array Obj) (h:Sort.Holds encStr w b off d) (hb:b<w.heap.size):Sort.Holds encStr (Sort.grow w os) b off d:=by
 have e:(Sort.grow w os).heap[b]?=w.heap[b]?:=by
  show (w.heap++os)[b]?=_;rw[Array.getElem?_append_left hb]
 intro j hj;obtain⟨h1,h2⟩:=h j hj;exact⟨(World.cell?_of_block (a:=⟨b,off+j,none⟩) e).trans h1,(World.frozen?_of_block (a:=⟨b,off+j,none⟩) e).trans h2⟩
theorem jbh (x:List UInt8):encStr x=.string (bytes x):=rfl
theorem own_holds {base:Nat} {W:World} {v:Value} {la:List ByteArray} (h:Own StrLay 9 W base v la):(v=.slice none 0 0∧la=[])∨∃g cap,v=.slice (some ⟨g,0,none⟩) la.length cap∧base≤g∧g<W.heap.size∧la.length≤cap∧cap≤maxLen∧Sort.Holds encStr W g 0 (la.map fun x=>x.data.toList).toArray:=by
 obtain⟨⟨hl,h⟩,-⟩:=h;rcases h with ⟨rfl,hz⟩ | ⟨g,cap,cur,rfl,hg,hh,hc1,hc2,-,ht⟩
 · exact .inl ⟨rfl,List.eq_nil_of_length_eq_zero hz⟩
 · refine .inr ⟨g,cap,rfl,hg,(Array.getElem?_eq_some_iff.1 hh).1,hc1,hc2,fun j hj=>?_⟩;have hj:j<la.length:=by simpa using hj
   constructor
   · rw[Nat.zero_add,Lib.cell_of_heap hh];have h1:(cur.toList.take (la.length*1))[j]?=some (.string la[j]):=by
      rw[show List.take (la.length*1) cur.toList=je StrLay la from ht];have:=Jy StrLay la j la[j] 0 (.string la[j]) (List.getElem?_eq_getElem hj) rfl;simpa [StrLay] using this
     rw[List.getElem?_take_of_lt (by omega)] at h1;have e:encStr ((la.map fun x=>x.data.toList).toArray[j]!)=.string la[j]:=by
      rw[getElem!_pos _ j (by simpa using hj)];simp[encStr]
     rw[e];simpa using h1
   · unfold World.frozen?;rw[show W.heap[(⟨g,0+j,none⟩:Addr).block]?=some (.cells cur 9 (0,0)) from hh];simp
theorem J9 (s1 s2 s3:Option Addr) (n1 e1 n2 e2 n3 e3:Nat) (nodes:List Nod) (key:ByteArray) (w:World) (hn:jt w s1 n1 nodes) (hb1:n1≤100000) :
 Calls Try.prog 15 #[.agg #[.slice s1 n1 e1,.slice s2 n2 e2,.slice s3 n3 e3],.string key] w fun e w'=>∃v,e=.returned v∧Reads StrLay w' v (zu key nodes)∧Kept w w':=by
 obtain⟨i0,hi,hz0,hz1,hz2'⟩:=info_parts ja9;obtain⟨Z,hZ⟩:∃Z,w.alloc (.cells #[.slice s1 n1 e1,.slice s2 n2 e2,.slice s3 n3 e3] 26)=Z:=⟨_,rfl⟩
 have hkz:Kept w Z:=by rw[←hZ];exact ja _ _
 have HSB:=lH (jf w (.slice s1 n1 e1) [.slice s2 n2 e2,.slice s3 n3 e3] 26 Z (by rw[hZ];exact Kept.refl _));have HN:=lH (hn.kept hkz);have HNL:=lH hn.1;have HKZ:=lH hkz;clear hn hkz;go_enter Try.func15,Try.ntmps15;have y0:=HSB.out.at_ 0 _ rfl;go_upto_region 2 with fail
 try rw[hZ]
 clear hZ;go_wp2;clear y0;go_loopw [5,13] (fun v i wr=>∃k:Nat,k≤n1∧i=.int .i64 k∧∃la:List ByteArray,JN key (nodes.take k)=la∧Own StrLay 9 wr Z.heap.size v la∧Kept Z wr) (fun _ i _=>n1-(intOf i).toNat)
 case atStart=>exact⟨0,Nat.zero_le _,rfl,[],rfl,Own.nil _ _ _,Kept.refl _⟩
 case round =>
  obtain⟨k,hk,rfl,la,hla,ho,hK⟩:=hrel;have HX:=lH hla;have HO:=lH ho;have HK:=lH hK;obtain⟨m,hm⟩:∃m,la.length=m:=⟨_,rfl⟩
  have hmk:m≤k:=by
   have:=jb0 key (nodes.take k);rw[hla,hm,List.length_take] at this;omega
  have HT:=lH hm;have hbase:Z.heap.size≤wr.heap.size:=hK.size;by_cases hlt:k<n1
  · obtain⟨g,off,rfl⟩:=HN.out.form.resolve_left (by omega);obtain⟨n,b1,k1,d1,b2,k2,d2,b3,k3,d3,hn,hd,hb,q0,q1,q2,q3,q4,hat⟩:=(HN.out.kept hK).at_ hlt;have HAT:=lH hat;have HBT:=lH (ja2 (key:=key) hn);have hkk:(k:Int)<(n1:Int):=by omega
    have hk0:¬(k:Int)<0:=by omega
    obtain⟨wx,hwx⟩:∃W,wr.alloc (.cells #[.string n.name,.slice b1 k1 d1,.slice b2 k2 d2,.slice b3 k3 d3,.bool n.cordon] 68)=W:=⟨_,rfl⟩
    have hkx:Kept wr wx:=by rw[←hwx];exact ja _ _
    have HQB:=lH (jf wr (.string n.name) [.slice b1 k1 d1,.slice b2 k2 d2,.slice b3 k3 d3,.bool n.cordon] 68 wx (by rw[hwx];exact Kept.refl _));obtain⟨bq,hbq⟩:∃z,wr.heap.size=z:=⟨_,rfl⟩
    rw[hbq] at HQB;have KX:=lH hkx;go_upto_region 5 with fail
    try rw[hwx]
    try rw[hbq]
    clear hwx hbq hd hb hn hkx hk0 hkk hat hla ho hm hK q0 q1 q2 q3 q4;have t2:=HQB.out.at_ 2 _ rfl;obtain⟨go,hgo⟩:∃z,jy n.labels key=z:=⟨_,rfl⟩
    have HGO:=lH hgo;rw[hgo] at HBT;go_wp2_with fail
    refine(jce (HAT.out.labels.kept KX.out) (x:=go.getD ByteArray.empty) (b:=go.isSome) (by unfold Z8;rw[hgo]) (by unfold Z1;rw[hgo])).mono ?_;rintro e w1 ⟨rfl,kk⟩;have KW:=lH (KX.out.trans kk);clear kk hgo t2
    cases go with
    | none =>
     have HV:=lH (show JN key (nodes.take (k+1))=la by rw[HBT.out,HX.out];exact List.append_nil _);go_wp2;go_roundw
     case rel=>exact⟨k+1,by omega,by go_num,la,HV.out,HO.out.kept KW.out,HK.out.trans KW.out⟩
     case measure=>simp[intOf];omega
    | some x =>
     have HSZ:=lH (ZA HAT.out.labels.fine HGO.out);have HV:=lH (show JN key (nodes.take (k+1))=la++[x] by rw[HBT.out,HX.out]);have HOW2:=lH (show w1.ownsRow Z.heap.size 9 1 u5 m (je StrLay la) by have:=(HO.out.kept KW.out).1;rw[HT.out] at this;exact this);have hs1:wr.heap.size≤w1.heap.size:=Below.size KW.out;go_wp2_with (at_builtin;refine wpList_append_lies _ rfl _ _ _ rfl Z.heap.size 9 i0 _ 1 16 Try.underlying57 hi hz0 hz1 hz2' rfl (by decide) u5 m (je StrLay la) rfl (HOW2.out.alloc _) ⟨w1.heap.size,0,none⟩ 1 1 (StrLay.cs x) rfl rfl (World.news_of_block (cs:=#[.string x]) (t:=9) (fr:=(0,0)) (heap_alloc_new w1 _)) (XB x) (by decide) (by unfold maxLen;omega) (by omega) (by simp;omega) (w1.heap.size+1) (by simp) ?_;intro gg cap1 w2 hown1 hgrow hat hlt1)
     have HBW:=lH ((show Below Z.heap.size Z _ from HK.out.trans (KW.out.trans (ja w1 _))).grown hgrow (by simp;omega) (fun j hj=>(HOW2.out.lt j hj).1));go_wp2;go_roundw
     case rel=>exact⟨k+1,by omega,by go_num,la++[x],HV.out,Own.snoc hown1 (by rw[HT.out]) HO.out.2 HSZ.out,HBW.out⟩
     case measure=>simp[intOf];omega
  · have hge:¬(k:Int)<(n1:Int):=by omega
    have HE:=lH (show JN key nodes=la by rw[←hla,List.take_of_length_le (by rw[HNL.out];omega)]);have HLB:=lH (show la.length≤100000 by omega);clear hla hK hm;rcases own_holds ho with ⟨rfl,he⟩ | ⟨g,cap,rfl,hg,hgl,hc1,hc2,hH⟩
    · have HD:=lH (show zu key nodes=[] by unfold zu ZG zR;rw[HE.out,he];simp[Jl,Lib.compact,Lib.compactUpTo]);clear ho;go_wp2_with fail
      refine(Try.slices_Sort_string_none none 0 wr).mono ?_;rintro e w1 ⟨rfl,rfl⟩;go_wp2_with fail
      refine(Try.slices_Compact_string_empty none 0 _).mono ?_;rintro e w2 ⟨rfl,rfl⟩;go_wp2;go_ret;exact⟨_,rfl,by rw[HD.out];exact Reads.nil _,HKZ.out.trans HK.out⟩
    · have HH:=lH hH;have HFS:=lH HO.out.2;clear ho hH;obtain⟨ss,hss⟩:∃l,(la.map fun x=>x.data.toList)=l:=⟨_,rfl⟩
      have HSS:=lH hss;rw[hss] at HH;have hsl:la.length=ss.length:=by rw[←hss,List.length_map]
      rw[hsl] at hc1 ⊢;have hs5:ss.length≤100000:=by have:=HLB.out;omega
      clear hss hsl;go_wp2_with fail
      refine(Try.slices_Sort_string g 0 cap ss wr HH.out hgl (by omega)).mono ?_;rintro e w1 ⟨rfl,q,os,hw1⟩;have hz:(Jl ss).length=ss.length:=(List.mergeSort_perm ss _).length_eq;have hG1:jj (fun i=>i=g) wr w1:=by rw[hw1];exact ZV wr g 0 q _ os
      have hH1:Sort.Holds encStr w1 g 0 (Jl ss).toArray:=by rw[hw1];exact holds_grow os (Sort.holds_putRow _ _ _ _ _ _ (Sort.holds_ahead _ _ _ _ _ _ HH.out) (by simp)) (by rw[Sort.size_putRow];exact hgl)
      have HG1:=lH hG1;have HH1:=lH hH1;rw[←hz] at hc1;try rw[←hz]
      clear hw1 hG1 hH1;obtain⟨tt,htt⟩:∃l,Jl ss=l:=⟨_,rfl⟩
      have HTT:=lH htt;rw[htt] at HH1 hc1 hz;try rw[htt]
      clear htt;have HCC:=Try.slices_Compact_string g 0 cap tt w1 HH1.out (by omega) hc1;rw[hz] at HCC;go_wp2_with fail
      refine HCC.mono ?_;rintro e w2 ⟨rfl,q2,hw2⟩;rw[←hz] at hw2;clear HCC;have hcl:(Lib.compact tt).length≤tt.length:=Lib.compact_length_le tt;have hG2:jj (fun i=>i=g) w1 w2:=by rw[hw2];have h9:=ZV w1 g 0 q2 (Lib.compact tt++List.replicate (tt.length-(Lib.compact tt).length) []).toArray #[];rwa [Sort.grow_empty] at h9
      have hH2:Sort.Holds encStr w2 g 0 (Lib.compact tt++List.replicate (tt.length-(Lib.compact tt).length) []).toArray:=by rw[hw2];exact Sort.holds_putRow _ _ _ _ _ _ (Sort.holds_ahead _ _ _ _ _ _ HH1.out) (by simp;omega)
      have HG2:=lH hG2;have HH2:=lH hH2;have HDB:=lH (show zu key nodes=(Lib.compact tt).map bytes by unfold zu ZG zR;rw[HE.out,HSS.out,HTT.out]);have HCL:=lH hcl;have HC1:=lH hc1;clear hw2 hG2 hH2 hcl;go_wp2;go_ret;refine⟨_,rfl,?_,HKZ.out.trans (jj.below HK.out (HG1.out.trans HG2.out) fun i e=>by rw[e];exact hg)⟩;rw[HDB.out];refine⟨some ⟨g,0,none⟩,cap,by rw[List.length_map];rfl,by rw[List.length_map];have:=HCL.out;have:=HC1.out;omega,hc2,rfl,by rw[List.length_map];have:=HCL.out;have:=HC1.out;omega,fun x hx=>?_,.inr ⟨g,0,rfl,by have h1:=HG1.out.size;have h2:=HG2.out.size;omega,fun i x j u hx hu=>?_⟩⟩
      · obtain⟨y,hy,rfl⟩:=List.mem_map.1 hx;have hm2:y ∈ ZG key nodes:=by unfold ZG zR;rw[HE.out,HSS.out,HTT.out];exact hy
        have hm3:=((Jd key nodes).2 y).1 hm2;unfold zR at hm3;rw[HE.out] at hm3;obtain⟨z,hz9,rfl⟩:=List.mem_map.1 hm3;rw[Zi];exact HFS.out z hz9
      · rw[List.getElem?_map] at hx;obtain⟨y,hy,rfl⟩:=Option.map_eq_some_iff.1 hx;have hil:=(List.getElem?_eq_some_iff.1 hy).1
        cases j with
        | zero =>
         cases hu
         have:=(HH2.out i (by simp;omega)).1;rw[getElem!_pos _ i (by simp;omega)] at this;have e:(Lib.compact tt++List.replicate (tt.length-(Lib.compact tt).length) []).toArray[i]'(by simp;omega)=y:=by
          have:=(List.getElem?_eq_some_iff.1 hy).2;simp[List.getElem_append_left hil,this]
         rw[e,jbh] at this;simpa [StrLay] using this
        | succ j=>cases hu
theorem Je {W:World} {b:Nat} {x y:ByteArray} (h:jg b [.string x,.string y] W) (hx:x.size≤maxLen) (hy:y.size≤maxLen):Reads StrLay W (.slice (some ⟨b,0,none⟩) 2 2) [x,y]:=by
 refine⟨_,2,rfl,(by decide:(2:Nat)≤2),(by decide:(2:Nat)≤maxLen),rfl,(by decide:(2:Nat)≤maxLen),fun z hz=>?_,.inr ⟨b,0,rfl,h.lt,fun i z j u hz hu=>?_⟩⟩
 · rcases List.mem_cons.1 hz with rfl | hz
   · exact hx
   · obtain rfl:=List.mem_singleton.1 hz;exact hy
 · match j,hu with
   | 0,hu =>
    match i,hz with
    | 0,hz=>cases hz;cases hu;exact h.at_ 0 _ rfl
    | 1,hz=>cases hz;cases hu;exact h.at_ 1 _ rfl
    | i+2,hz=>cases hz
   | j+1,hu=>cases hu
theorem jdp:jN spR spS spD=(0,false):=by kernel_rfl
theorem qm (w:World):Calls Try.prog 6 #[] w (Say (.bool true) w):=by
 go_enter Try.func6,Try.ntmps6;go_wp2_with fail
 refine(Zu ⟨#[97]⟩ ⟨#[120]⟩ (by decide:(1:Nat)≤maxLen) (by decide:(1:Nat)≤maxLen) _).mono ?_;rintro e w1 ⟨b1,n1,d1,l1,m1,c1,rfl,ha,k⟩;have K:=lH k;have HN1:=lH ha;clear k ha;go_wp2_with fail
 refine(Zu ⟨#[98]⟩ ⟨#[121]⟩ (by decide:(1:Nat)≤maxLen) (by decide:(1:Nat)≤maxLen) _).mono ?_;rintro e w2 ⟨b2,n2,d2,l2,m2,c2,rfl,ha,k⟩;have K:=lH (K.out.trans k);have HN1:=lH (HN1.out.kept k);have HN2:=lH ha;clear k ha;go_wp2_with fail
 refine(Zu ⟨#[99]⟩ ⟨#[120]⟩ (by decide:(1:Nat)≤maxLen) (by decide:(1:Nat)≤maxLen) _).mono ?_;rintro e w3 ⟨b3,n3,d3,l3,m3,c3,rfl,ha,k⟩;have K:=lH (K.out.trans k);have HN1:=lH (HN1.out.kept k);have HN2:=lH (HN2.out.kept k);have HN3:=lH ha;clear k ha;go_wp2_with fail
 refine(jb4 ⟨#[100]⟩ 9 (by decide:(-9223372036854775808:Int)≤9∧(9:Int)≤9223372036854775807) (by decide:(1:Nat)≤maxLen) _).mono ?_;rintro e w4 ⟨b4,n4,d4,rfl,ha,k⟩;have K:=lH (K.out.trans k);have HN1:=lH (HN1.out.kept k);have HN2:=lH (HN2.out.kept k);have HN3:=lH (HN3.out.kept k);have HN4:=lH ha;clear k ha;go_wp2_with fail
 obtain⟨g1,hg1⟩:∃g,w4.heap.size=g:=⟨_,rfl⟩
 obtain⟨w5,hw5⟩:∃W,w4.alloc (.cells #[.string ⟨#[97]⟩,.slice b1 n1 d1,.slice l1 m1 c1,.slice none 0 0,.bool false,.string ⟨#[98]⟩,.slice b2 n2 d2,.slice l2 m2 c2,.slice none 0 0,.bool false,.string ⟨#[99]⟩,.slice b3 n3 d3,.slice l3 m3 c3,.slice none 0 0,.bool false,.string ⟨#[100]⟩,.slice b4 n4 d4,.slice none 0 0,.slice none 0 0,.bool false] 68)=W:=⟨_,rfl⟩
 have k:Kept w4 w5:=by rw[←hw5];exact ja _ _
 have HRN:=lH (show jt w5 (some ⟨g1,0,none⟩) 4 spS.nodes from by
  have c:=jf w4 (.string ⟨#[97]⟩) [.slice b1 n1 d1,.slice l1 m1 c1,.slice none 0 0,.bool false,.string ⟨#[98]⟩,.slice b2 n2 d2,.slice l2 m2 c2,.slice none 0 0,.bool false,.string ⟨#[99]⟩,.slice b3 n3 d3,.slice l3 m3 c3,.slice none 0 0,.bool false,.string ⟨#[100]⟩,.slice b4 n4 d4,.slice none 0 0,.slice none 0 0,.bool false] 68 w5 (by rw[hw5];exact Kept.refl _);rw[hg1] at c;exact YV (lx:=[(Ya ⟨#[97]⟩ ⟨#[120]⟩,(b1,n1,d1),(l1,m1,c1),(none,0,0)),(Ya ⟨#[98]⟩ ⟨#[121]⟩,(b2,n2,d2),(l2,m2,c2),(none,0,0)),(Ya ⟨#[99]⟩ ⟨#[120]⟩,(b3,n3,d3),(l3,m3,c3),(none,0,0)),(jar ⟨#[100]⟩ 9,(b4,n4,d4),(none,0,0),(none,0,0))]) (Xe rfl c (fun _ _=>trivial) (by decide:(4:Nat)≤maxLen)) (fun z hz=>by
   rcases List.mem_cons.1 hz with rfl | hz
   · exact HN1.out.kept k
   rcases List.mem_cons.1 hz with rfl | hz
   · exact HN2.out.kept k
   rcases List.mem_cons.1 hz with rfl | hz
   · exact HN3.out.kept k
   obtain rfl:=List.mem_singleton.1 hz;exact HN4.out.kept k))
 have K:=lH (K.out.trans k);clear HN1 HN2 HN3 HN4 k;try rw[hw5]
 clear hw5;try rw[hg1]
 clear hg1;refine(ZI ⟨#[112]⟩ ⟨#[97]⟩ 1 (by decide:(1:Nat)≤maxLen) (by decide:(1:Nat)≤maxLen) (by decide) _).mono ?_;rintro e w6 ⟨p1,q1,r1,rfl,ha,k⟩;have K:=lH (K.out.trans k);have HRN:=lH (HRN.out.kept k);have HP1:=lH ha;clear k ha;go_wp2_with fail
 refine(ZI ⟨#[113]⟩ ⟨#[99]⟩ 1 (by decide:(1:Nat)≤maxLen) (by decide:(1:Nat)≤maxLen) (by decide) _).mono ?_;rintro e w7 ⟨p2,q2,r2,rfl,ha,k⟩;have K:=lH (K.out.trans k);have HRN:=lH (HRN.out.kept k);have HP1:=lH (HP1.out.kept k);have HP2:=lH ha;clear k ha;go_wp2_with fail
 refine(ZI ⟨#[114]⟩ ⟨#[]⟩ 1 (by decide:(1:Nat)≤maxLen) (by decide:(0:Nat)≤maxLen) (by decide) _).mono ?_;rintro e w8 ⟨p3,q3,r3,rfl,ha,k⟩;have K:=lH (K.out.trans k);have HRN:=lH (HRN.out.kept k);have HP1:=lH (HP1.out.kept k);have HP2:=lH (HP2.out.kept k);have HP3:=lH ha;clear k ha;obtain⟨w8b,hw8b⟩:∃W,w8.alloc (.cells #[.string ⟨#[112]⟩,.string ⟨#[119,101,98]⟩,.int .i64 0,.slice p1 q1 r1,.slice none 0 0,.slice none 0 0,.slice none 0 0,.string ⟨#[122,111,110,101]⟩,.int .i64 1,.string ⟨#[97]⟩,.bool false,.string ⟨#[113]⟩,.string ⟨#[119,101,98]⟩,.int .i64 0,.slice p2 q2 r2,.slice none 0 0,.slice none 0 0,.slice none 0 0,.string ⟨#[122,111,110,101]⟩,.int .i64 1,.string ⟨#[99]⟩,.bool false,.string ⟨#[114]⟩,.string ⟨#[119,101,98]⟩,.int .i64 0,.slice p3 q3 r3,.slice none 0 0,.slice none 0 0,.slice none 0 0,.string ⟨#[122,111,110,101]⟩,.int .i64 1,.string ⟨#[]⟩,.bool false] 35)=W:=⟨_,rfl⟩
 have hs8:w8b.heap.size=w8.heap.size+1:=by rw[←hw8b];simp
 obtain⟨w9,hw9⟩:∃W,w8b.alloc (.cells #[.slice (some ⟨g1,0,none⟩) 4 4,.slice (some ⟨w8.heap.size,0,none⟩) 3 3,.slice none 0 0] 26)=W:=⟨_,rfl⟩
 have k:Kept w8 w9:=by rw[←hw9,←hw8b];exact j0 _ _ _
 have hc:=jf w8 (.string ⟨#[112]⟩) [.string ⟨#[119,101,98]⟩,.int .i64 0,.slice p1 q1 r1,.slice none 0 0,.slice none 0 0,.slice none 0 0,.string ⟨#[122,111,110,101]⟩,.int .i64 1,.string ⟨#[97]⟩,.bool false,.string ⟨#[113]⟩,.string ⟨#[119,101,98]⟩,.int .i64 0,.slice p2 q2 r2,.slice none 0 0,.slice none 0 0,.slice none 0 0,.string ⟨#[122,111,110,101]⟩,.int .i64 1,.string ⟨#[99]⟩,.bool false,.string ⟨#[114]⟩,.string ⟨#[119,101,98]⟩,.int .i64 0,.slice p3 q3 r3,.slice none 0 0,.slice none 0 0,.slice none 0 0,.string ⟨#[122,111,110,101]⟩,.int .i64 1,.string ⟨#[]⟩,.bool false] 35 w9 (by rw[←hw9,←hw8b];exact ja _ _);have HPC:=lH hc;have HRP:=lH (show jP w9 (some ⟨w8.heap.size,0,none⟩) 3 spS.pods from by
  exact Xz (lx:=[(Z5 ⟨#[112]⟩ ⟨#[97]⟩ 1,(p1,q1,r1),(none,0,0),(none,0,0),(none,0,0)),(Z5 ⟨#[113]⟩ ⟨#[99]⟩ 1,(p2,q2,r2),(none,0,0),(none,0,0),(none,0,0)),(Z5 ⟨#[114]⟩ ⟨#[]⟩ 1,(p3,q3,r3),(none,0,0),(none,0,0),(none,0,0))]) (Xe rfl hc (fun _ _=>trivial) (by decide:(3:Nat)≤maxLen)) (fun z hz=>by
   rcases List.mem_cons.1 hz with rfl | hz
   · exact HP1.out.kept k
   rcases List.mem_cons.1 hz with rfl | hz
   · exact HP2.out.kept k
   obtain rfl:=List.mem_singleton.1 hz;exact HP3.out.kept k))
 have HQ:=lH (show jg (w8.heap.size+1) [.slice (some ⟨g1,0,none⟩) 4 4,.slice (some ⟨w8.heap.size,0,none⟩) 3 3,.slice none 0 0] w9 by
  have c:=jf w8b (.slice (some ⟨g1,0,none⟩) 4 4) [.slice (some ⟨w8.heap.size,0,none⟩) 3 3,.slice none 0 0] 26 w9 (by rw[hw9];exact Kept.refl _);rw[hs8] at c;exact c)
 have K:=lH (K.out.trans k);have HRN:=lH (HRN.out.kept k);clear HP1 HP2 HP3 k hc;obtain⟨g2,hg2⟩:∃g,w8.heap.size=g:=⟨_,rfl⟩
 have HW8:=lH hw8b;have HW9:=lH hw9;clear hw9 hw8b hs8;go_upto_region 2 with fail
 try rw[HW8.out]
 try rw[hg2]
 try rw[hg2] at HW9
 try rw[HW9.out]
 rw[hg2] at HPC HRP HQ;clear HW8 HW9 hg2;have HS:=lH (show ∀W,Kept w9 W→W.cell? ⟨g2+1,0,none⟩=some (.slice (some ⟨g1,0,none⟩) 4 4)∧W.cell? ⟨g2+1,1,none⟩=some (.slice (some ⟨g2,0,none⟩) 3 3)∧W.cell? ⟨g2+1,2,none⟩=some (.slice none 0 0)∧W.cell? ⟨g2,22,none⟩=some (.string ⟨#[114]⟩)∧W.cell? ⟨g2,23,none⟩=some (.string ⟨#[119,101,98]⟩)∧W.cell? ⟨g2,24,none⟩=some (.int .i64 0)∧W.cell? ⟨g2,25,none⟩=some (.slice p3 q3 r3)∧W.cell? ⟨g2,26,none⟩=some (.slice none 0 0)∧W.cell? ⟨g2,27,none⟩=some (.slice none 0 0)∧W.cell? ⟨g2,28,none⟩=some (.slice none 0 0)∧W.cell? ⟨g2,29,none⟩=some (.string ⟨#[122,111,110,101]⟩)∧W.cell? ⟨g2,30,none⟩=some (.int .i64 1)∧W.cell? ⟨g2,31,none⟩=some (.string ⟨#[]⟩)∧W.cell? ⟨g2,32,none⟩=some (.bool false)∧W.cell? ⟨g2,0,none⟩=some (.string ⟨#[112]⟩)∧W.cell? ⟨g2,1,none⟩=some (.string ⟨#[119,101,98]⟩)∧W.cell? ⟨g2,2,none⟩=some (.int .i64 0)∧W.cell? ⟨g2,3,none⟩=some (.slice p1 q1 r1)∧W.cell? ⟨g2,4,none⟩=some (.slice none 0 0)∧W.cell? ⟨g2,5,none⟩=some (.slice none 0 0)∧W.cell? ⟨g2,6,none⟩=some (.slice none 0 0)∧W.cell? ⟨g2,7,none⟩=some (.string ⟨#[122,111,110,101]⟩)∧W.cell? ⟨g2,8,none⟩=some (.int .i64 1)∧W.cell? ⟨g2,9,none⟩=some (.string ⟨#[97]⟩)∧W.cell? ⟨g2,10,none⟩=some (.bool false) from fun W k=>by
  have h:=HQ.out.kept k;have p:=HPC.out.kept k;exact⟨h.at_ 0 _ rfl,h.at_ 1 _ rfl,h.at_ 2 _ rfl,p.at_ 22 _ rfl,p.at_ 23 _ rfl,p.at_ 24 _ rfl,p.at_ 25 _ rfl,p.at_ 26 _ rfl,p.at_ 27 _ rfl,p.at_ 28 _ rfl,p.at_ 29 _ rfl,p.at_ 30 _ rfl,p.at_ 31 _ rfl,p.at_ 32 _ rfl,p.at_ 0 _ rfl,p.at_ 1 _ rfl,p.at_ 2 _ rfl,p.at_ 3 _ rfl,p.at_ 4 _ rfl,p.at_ 5 _ rfl,p.at_ 6 _ rfl,p.at_ 7 _ rfl,p.at_ 8 _ rfl,p.at_ 9 _ rfl,p.at_ 10 _ rfl⟩)
 have HSK:=lH (show ∀W,Kept w9 W→Calls Try.prog 12 #[.agg #[.slice (some ⟨g1,0,none⟩) 4 4,.slice (some ⟨g2,0,none⟩) 3 3,.slice none 0 0],.agg #[.string ⟨#[114]⟩,.string ⟨#[119,101,98]⟩,.int .i64 0,.slice p3 q3 r3,.slice none 0 0,.slice none 0 0,.slice none 0 0,.string ⟨#[122,111,110,101]⟩,.int .i64 1,.string ⟨#[]⟩,.bool false],.string ⟨#[98]⟩] W (Say (.tuple #[.int .i64 0,.bool true]) W) from fun W k=>by
  have h:=Ju (some ⟨g1,0,none⟩) (some ⟨g2,0,none⟩) none p3 none none none 4 4 3 3 0 0 q3 r3 0 0 0 0 0 0 spR spS ⟨#[98]⟩ W (HRN.out.kept k) (HRP.out.kept k) (by decide) (by decide);rw[show jN spR spS ⟨#[98]⟩=(0,true) from jdv] at h;exact h)
 refine wp_region_held_drew (S:=fun W=>W.cell? ⟨g2+1,0,none⟩=some (.slice (some ⟨g1,0,none⟩) 4 4)∧W.cell? ⟨g2+1,1,none⟩=some (.slice (some ⟨g2,0,none⟩) 3 3)∧W.cell? ⟨g2+1,2,none⟩=some (.slice none 0 0)∧W.cell? ⟨g2,22,none⟩=some (.string ⟨#[114]⟩)∧W.cell? ⟨g2,23,none⟩=some (.string ⟨#[119,101,98]⟩)∧W.cell? ⟨g2,24,none⟩=some (.int .i64 0)∧W.cell? ⟨g2,25,none⟩=some (.slice p3 q3 r3)∧W.cell? ⟨g2,26,none⟩=some (.slice none 0 0)∧W.cell? ⟨g2,27,none⟩=some (.slice none 0 0)∧W.cell? ⟨g2,28,none⟩=some (.slice none 0 0)∧W.cell? ⟨g2,29,none⟩=some (.string ⟨#[122,111,110,101]⟩)∧W.cell? ⟨g2,30,none⟩=some (.int .i64 1)∧W.cell? ⟨g2,31,none⟩=some (.string ⟨#[]⟩)∧W.cell? ⟨g2,32,none⟩=some (.bool false)∧W.cell? ⟨g2,0,none⟩=some (.string ⟨#[112]⟩)∧W.cell? ⟨g2,1,none⟩=some (.string ⟨#[119,101,98]⟩)∧W.cell? ⟨g2,2,none⟩=some (.int .i64 0)∧W.cell? ⟨g2,3,none⟩=some (.slice p1 q1 r1)∧W.cell? ⟨g2,4,none⟩=some (.slice none 0 0)∧W.cell? ⟨g2,5,none⟩=some (.slice none 0 0)∧W.cell? ⟨g2,6,none⟩=some (.slice none 0 0)∧W.cell? ⟨g2,7,none⟩=some (.string ⟨#[122,111,110,101]⟩)∧W.cell? ⟨g2,8,none⟩=some (.int .i64 1)∧W.cell? ⟨g2,9,none⟩=some (.string ⟨#[97]⟩)∧W.cell? ⟨g2,10,none⟩=some (.bool false)) (by kernel_rfl) (HS.out _ (Kept.drew w9)) (fun hHeld=>?_);refine tkI 0 ?_;refine tkI 1 ?_;refine tkI 2 ?_;refine tkI 3 ?_;refine tkI 4 ?_;try simp only[nP]
 have J:=lH (Kept.drew w9);refine rd1 5 fun K9 hK9=>?_;go_simp;refine(HSK.out _ J.out).mono ?_;rintro e w10 ⟨rfl,kk⟩;have J:=lH (J.out.trans kk);clear kk HSK;refine hK9.out _ _ (HS.out _ J.out) (fun hHeld1=>?_);clear hK9 K9;try simp only[nP]
 refine tkI 6 ?_;refine tkI 7 ?_;refine tkI 8 ?_;refine tkI 9 ?_;refine tkI 10 ?_;try simp only[nP]
 refine wpAnyH_done (by kernel_rfl) ?_ _;have K:=lH (K.out.trans J.out);have HRN:=lH (HRN.out.kept J.out);have HRP:=lH (HRP.out.kept J.out);have HPC:=lH (HPC.out.kept J.out);have HQ:=lH (HQ.out.kept J.out);clear HS J;go_wp2_with fail
 have HS:=lH (show ∀W,Kept w10 W→W.cell? ⟨g2+1,0,none⟩=some (.slice (some ⟨g1,0,none⟩) 4 4)∧W.cell? ⟨g2+1,1,none⟩=some (.slice (some ⟨g2,0,none⟩) 3 3)∧W.cell? ⟨g2+1,2,none⟩=some (.slice none 0 0)∧W.cell? ⟨g2,22,none⟩=some (.string ⟨#[114]⟩)∧W.cell? ⟨g2,23,none⟩=some (.string ⟨#[119,101,98]⟩)∧W.cell? ⟨g2,24,none⟩=some (.int .i64 0)∧W.cell? ⟨g2,25,none⟩=some (.slice p3 q3 r3)∧W.cell? ⟨g2,26,none⟩=some (.slice none 0 0)∧W.cell? ⟨g2,27,none⟩=some (.slice none 0 0)∧W.cell? ⟨g2,28,none⟩=some (.slice none 0 0)∧W.cell? ⟨g2,29,none⟩=some (.string ⟨#[122,111,110,101]⟩)∧W.cell? ⟨g2,30,none⟩=some (.int .i64 1)∧W.cell? ⟨g2,31,none⟩=some (.string ⟨#[]⟩)∧W.cell? ⟨g2,32,none⟩=some (.bool false)∧W.cell? ⟨g2,0,none⟩=some (.string ⟨#[112]⟩)∧W.cell? ⟨g2,1,none⟩=some (.string ⟨#[119,101,98]⟩)∧W.cell? ⟨g2,2,none⟩=some (.int .i64 0)∧W.cell? ⟨g2,3,none⟩=some (.slice p1 q1 r1)∧W.cell? ⟨g2,4,none⟩=some (.slice none 0 0)∧W.cell? ⟨g2,5,none⟩=some (.slice none 0 0)∧W.cell? ⟨g2,6,none⟩=some (.slice none 0 0)∧W.cell? ⟨g2,7,none⟩=some (.string ⟨#[122,111,110,101]⟩)∧W.cell? ⟨g2,8,none⟩=some (.int .i64 1)∧W.cell? ⟨g2,9,none⟩=some (.string ⟨#[97]⟩)∧W.cell? ⟨g2,10,none⟩=some (.bool false) from fun W k=>by
  have h:=HQ.out.kept k;have p:=HPC.out.kept k;exact⟨h.at_ 0 _ rfl,h.at_ 1 _ rfl,h.at_ 2 _ rfl,p.at_ 22 _ rfl,p.at_ 23 _ rfl,p.at_ 24 _ rfl,p.at_ 25 _ rfl,p.at_ 26 _ rfl,p.at_ 27 _ rfl,p.at_ 28 _ rfl,p.at_ 29 _ rfl,p.at_ 30 _ rfl,p.at_ 31 _ rfl,p.at_ 32 _ rfl,p.at_ 0 _ rfl,p.at_ 1 _ rfl,p.at_ 2 _ rfl,p.at_ 3 _ rfl,p.at_ 4 _ rfl,p.at_ 5 _ rfl,p.at_ 6 _ rfl,p.at_ 7 _ rfl,p.at_ 8 _ rfl,p.at_ 9 _ rfl,p.at_ 10 _ rfl⟩)
 have HSK:=lH (show ∀W,Kept w10 W→Calls Try.prog 12 #[.agg #[.slice (some ⟨g1,0,none⟩) 4 4,.slice (some ⟨g2,0,none⟩) 3 3,.slice none 0 0],.agg #[.string ⟨#[114]⟩,.string ⟨#[119,101,98]⟩,.int .i64 0,.slice p3 q3 r3,.slice none 0 0,.slice none 0 0,.slice none 0 0,.string ⟨#[122,111,110,101]⟩,.int .i64 1,.string ⟨#[]⟩,.bool false],.string ⟨#[97]⟩] W (Say (.tuple #[.int .i64 3,.bool true]) W) from fun W k=>by
  have h:=Ju (some ⟨g1,0,none⟩) (some ⟨g2,0,none⟩) none p3 none none none 4 4 3 3 0 0 q3 r3 0 0 0 0 0 0 spR spS ⟨#[97]⟩ W (HRN.out.kept k) (HRP.out.kept k) (by decide) (by decide);rw[show jN spR spS ⟨#[97]⟩=(3,true) from jdu] at h;exact h)
 refine wp_region_held_drew (S:=fun W=>W.cell? ⟨g2+1,0,none⟩=some (.slice (some ⟨g1,0,none⟩) 4 4)∧W.cell? ⟨g2+1,1,none⟩=some (.slice (some ⟨g2,0,none⟩) 3 3)∧W.cell? ⟨g2+1,2,none⟩=some (.slice none 0 0)∧W.cell? ⟨g2,22,none⟩=some (.string ⟨#[114]⟩)∧W.cell? ⟨g2,23,none⟩=some (.string ⟨#[119,101,98]⟩)∧W.cell? ⟨g2,24,none⟩=some (.int .i64 0)∧W.cell? ⟨g2,25,none⟩=some (.slice p3 q3 r3)∧W.cell? ⟨g2,26,none⟩=some (.slice none 0 0)∧W.cell? ⟨g2,27,none⟩=some (.slice none 0 0)∧W.cell? ⟨g2,28,none⟩=some (.slice none 0 0)∧W.cell? ⟨g2,29,none⟩=some (.string ⟨#[122,111,110,101]⟩)∧W.cell? ⟨g2,30,none⟩=some (.int .i64 1)∧W.cell? ⟨g2,31,none⟩=some (.string ⟨#[]⟩)∧W.cell? ⟨g2,32,none⟩=some (.bool false)∧W.cell? ⟨g2,0,none⟩=some (.string ⟨#[112]⟩)∧W.cell? ⟨g2,1,none⟩=some (.string ⟨#[119,101,98]⟩)∧W.cell? ⟨g2,2,none⟩=some (.int .i64 0)∧W.cell? ⟨g2,3,none⟩=some (.slice p1 q1 r1)∧W.cell? ⟨g2,4,none⟩=some (.slice none 0 0)∧W.cell? ⟨g2,5,none⟩=some (.slice none 0 0)∧W.cell? ⟨g2,6,none⟩=some (.slice none 0 0)∧W.cell? ⟨g2,7,none⟩=some (.string ⟨#[122,111,110,101]⟩)∧W.cell? ⟨g2,8,none⟩=some (.int .i64 1)∧W.cell? ⟨g2,9,none⟩=some (.string ⟨#[97]⟩)∧W.cell? ⟨g2,10,none⟩=some (.bool false)) (by kernel_rfl) (HS.out _ (Kept.drew w10)) (fun hHeld=>?_);refine tkI 0 ?_;refine tkI 1 ?_;refine tkI 2 ?_;refine tkI 3 ?_;refine tkI 4 ?_;try simp only[nP]
 have J:=lH (Kept.drew w10);refine rd1 5 fun K9 hK9=>?_;go_simp;refine(HSK.out _ J.out).mono ?_;rintro e w11 ⟨rfl,kk⟩;have J:=lH (J.out.trans kk);clear kk HSK;refine hK9.out _ _ (HS.out _ J.out) (fun hHeld1=>?_);clear hK9 K9;try simp only[nP]
 refine tkI 6 ?_;refine tkI 7 ?_;refine tkI 8 ?_;refine tkI 9 ?_;refine tkI 10 ?_;try simp only[nP]
 refine wpAnyH_done (by kernel_rfl) ?_ _;have K:=lH (K.out.trans J.out);have HRN:=lH (HRN.out.kept J.out);have HRP:=lH (HRP.out.kept J.out);have HPC:=lH (HPC.out.kept J.out);have HQ:=lH (HQ.out.kept J.out);clear HS J;go_wp2_with fail
 have HS:=lH (show ∀W,Kept w11 W→W.cell? ⟨g2+1,0,none⟩=some (.slice (some ⟨g1,0,none⟩) 4 4)∧W.cell? ⟨g2+1,1,none⟩=some (.slice (some ⟨g2,0,none⟩) 3 3)∧W.cell? ⟨g2+1,2,none⟩=some (.slice none 0 0)∧W.cell? ⟨g2,22,none⟩=some (.string ⟨#[114]⟩)∧W.cell? ⟨g2,23,none⟩=some (.string ⟨#[119,101,98]⟩)∧W.cell? ⟨g2,24,none⟩=some (.int .i64 0)∧W.cell? ⟨g2,25,none⟩=some (.slice p3 q3 r3)∧W.cell? ⟨g2,26,none⟩=some (.slice none 0 0)∧W.cell? ⟨g2,27,none⟩=some (.slice none 0 0)∧W.cell? ⟨g2,28,none⟩=some (.slice none 0 0)∧W.cell? ⟨g2,29,none⟩=some (.string ⟨#[122,111,110,101]⟩)∧W.cell? ⟨g2,30,none⟩=some (.int .i64 1)∧W.cell? ⟨g2,31,none⟩=some (.string ⟨#[]⟩)∧W.cell? ⟨g2,32,none⟩=some (.bool false)∧W.cell? ⟨g2,0,none⟩=some (.string ⟨#[112]⟩)∧W.cell? ⟨g2,1,none⟩=some (.string ⟨#[119,101,98]⟩)∧W.cell? ⟨g2,2,none⟩=some (.int .i64 0)∧W.cell? ⟨g2,3,none⟩=some (.slice p1 q1 r1)∧W.cell? ⟨g2,4,none⟩=some (.slice none 0 0)∧W.cell? ⟨g2,5,none⟩=some (.slice none 0 0)∧W.cell? ⟨g2,6,none⟩=some (.slice none 0 0)∧W.cell? ⟨g2,7,none⟩=some (.string ⟨#[122,111,110,101]⟩)∧W.cell? ⟨g2,8,none⟩=some (.int .i64 1)∧W.cell? ⟨g2,9,none⟩=some (.string ⟨#[97]⟩)∧W.cell? ⟨g2,10,none⟩=some (.bool false) from fun W k=>by
  have h:=HQ.out.kept k;have p:=HPC.out.kept k;exact⟨h.at_ 0 _ rfl,h.at_ 1 _ rfl,h.at_ 2 _ rfl,p.at_ 22 _ rfl,p.at_ 23 _ rfl,p.at_ 24 _ rfl,p.at_ 25 _ rfl,p.at_ 26 _ rfl,p.at_ 27 _ rfl,p.at_ 28 _ rfl,p.at_ 29 _ rfl,p.at_ 30 _ rfl,p.at_ 31 _ rfl,p.at_ 32 _ rfl,p.at_ 0 _ rfl,p.at_ 1 _ rfl,p.at_ 2 _ rfl,p.at_ 3 _ rfl,p.at_ 4 _ rfl,p.at_ 5 _ rfl,p.at_ 6 _ rfl,p.at_ 7 _ rfl,p.at_ 8 _ rfl,p.at_ 9 _ rfl,p.at_ 10 _ rfl⟩)
 have HSK:=lH (show ∀W,Kept w11 W→Calls Try.prog 12 #[.agg #[.slice (some ⟨g1,0,none⟩) 4 4,.slice (some ⟨g2,0,none⟩) 3 3,.slice none 0 0],.agg #[.string ⟨#[114]⟩,.string ⟨#[119,101,98]⟩,.int .i64 0,.slice p3 q3 r3,.slice none 0 0,.slice none 0 0,.slice none 0 0,.string ⟨#[122,111,110,101]⟩,.int .i64 1,.string ⟨#[]⟩,.bool false],.string ⟨#[100]⟩] W (Say (.tuple #[.int .i64 0,.bool false]) W) from fun W k=>by
  have h:=Ju (some ⟨g1,0,none⟩) (some ⟨g2,0,none⟩) none p3 none none none 4 4 3 3 0 0 q3 r3 0 0 0 0 0 0 spR spS ⟨#[100]⟩ W (HRN.out.kept k) (HRP.out.kept k) (by decide) (by decide);rw[show jN spR spS ⟨#[100]⟩=(0,false) from jdp] at h;exact h)
 refine wp_region_held_drew (S:=fun W=>W.cell? ⟨g2+1,0,none⟩=some (.slice (some ⟨g1,0,none⟩) 4 4)∧W.cell? ⟨g2+1,1,none⟩=some (.slice (some ⟨g2,0,none⟩) 3 3)∧W.cell? ⟨g2+1,2,none⟩=some (.slice none 0 0)∧W.cell? ⟨g2,22,none⟩=some (.string ⟨#[114]⟩)∧W.cell? ⟨g2,23,none⟩=some (.string ⟨#[119,101,98]⟩)∧W.cell? ⟨g2,24,none⟩=some (.int .i64 0)∧W.cell? ⟨g2,25,none⟩=some (.slice p3 q3 r3)∧W.cell? ⟨g2,26,none⟩=some (.slice none 0 0)∧W.cell? ⟨g2,27,none⟩=some (.slice none 0 0)∧W.cell? ⟨g2,28,none⟩=some (.slice none 0 0)∧W.cell? ⟨g2,29,none⟩=some (.string ⟨#[122,111,110,101]⟩)∧W.cell? ⟨g2,30,none⟩=some (.int .i64 1)∧W.cell? ⟨g2,31,none⟩=some (.string ⟨#[]⟩)∧W.cell? ⟨g2,32,none⟩=some (.bool false)∧W.cell? ⟨g2,0,none⟩=some (.string ⟨#[112]⟩)∧W.cell? ⟨g2,1,none⟩=some (.string ⟨#[119,101,98]⟩)∧W.cell? ⟨g2,2,none⟩=some (.int .i64 0)∧W.cell? ⟨g2,3,none⟩=some (.slice p1 q1 r1)∧W.cell? ⟨g2,4,none⟩=some (.slice none 0 0)∧W.cell? ⟨g2,5,none⟩=some (.slice none 0 0)∧W.cell? ⟨g2,6,none⟩=some (.slice none 0 0)∧W.cell? ⟨g2,7,none⟩=some (.string ⟨#[122,111,110,101]⟩)∧W.cell? ⟨g2,8,none⟩=some (.int .i64 1)∧W.cell? ⟨g2,9,none⟩=some (.string ⟨#[97]⟩)∧W.cell? ⟨g2,10,none⟩=some (.bool false)) (by kernel_rfl) (HS.out _ (Kept.drew w11)) (fun hHeld=>?_);refine tkI 0 ?_;refine tkI 1 ?_;refine tkI 2 ?_;refine tkI 3 ?_;refine tkI 4 ?_;try simp only[nP]
 have J:=lH (Kept.drew w11);refine rd1 5 fun K9 hK9=>?_;go_simp;refine(HSK.out _ J.out).mono ?_;rintro e w12 ⟨rfl,kk⟩;have J:=lH (J.out.trans kk);clear kk HSK;refine hK9.out _ _ (HS.out _ J.out) (fun hHeld1=>?_);clear hK9 K9;try simp only[nP]
 refine tkI 6 ?_;refine tkI 7 ?_;refine tkI 8 ?_;refine tkI 9 ?_;refine tkI 10 ?_;try simp only[nP]
 refine wpAnyH_done (by kernel_rfl) ?_ _;have K:=lH (K.out.trans J.out);have HRN:=lH (HRN.out.kept J.out);have HRP:=lH (HRP.out.kept J.out);have HPC:=lH (HPC.out.kept J.out);have HQ:=lH (HQ.out.kept J.out);clear HS J;go_wp2_with fail
 have HS:=lH (show ∀W,Kept w12 W→W.cell? ⟨g2+1,0,none⟩=some (.slice (some ⟨g1,0,none⟩) 4 4)∧W.cell? ⟨g2+1,1,none⟩=some (.slice (some ⟨g2,0,none⟩) 3 3)∧W.cell? ⟨g2+1,2,none⟩=some (.slice none 0 0)∧W.cell? ⟨g2,22,none⟩=some (.string ⟨#[114]⟩)∧W.cell? ⟨g2,23,none⟩=some (.string ⟨#[119,101,98]⟩)∧W.cell? ⟨g2,24,none⟩=some (.int .i64 0)∧W.cell? ⟨g2,25,none⟩=some (.slice p3 q3 r3)∧W.cell? ⟨g2,26,none⟩=some (.slice none 0 0)∧W.cell? ⟨g2,27,none⟩=some (.slice none 0 0)∧W.cell? ⟨g2,28,none⟩=some (.slice none 0 0)∧W.cell? ⟨g2,29,none⟩=some (.string ⟨#[122,111,110,101]⟩)∧W.cell? ⟨g2,30,none⟩=some (.int .i64 1)∧W.cell? ⟨g2,31,none⟩=some (.string ⟨#[]⟩)∧W.cell? ⟨g2,32,none⟩=some (.bool false)∧W.cell? ⟨g2,0,none⟩=some (.string ⟨#[112]⟩)∧W.cell? ⟨g2,1,none⟩=some (.string ⟨#[119,101,98]⟩)∧W.cell? ⟨g2,2,none⟩=some (.int .i64 0)∧W.cell? ⟨g2,3,none⟩=some (.slice p1 q1 r1)∧W.cell? ⟨g2,4,none⟩=some (.slice none 0 0)∧W.cell? ⟨g2,5,none⟩=some (.slice none 0 0)∧W.cell? ⟨g2,6,none⟩=some (.slice none 0 0)∧W.cell? ⟨g2,7,none⟩=some (.string ⟨#[122,111,110,101]⟩)∧W.cell? ⟨g2,8,none⟩=some (.int .i64 1)∧W.cell? ⟨g2,9,none⟩=some (.string ⟨#[97]⟩)∧W.cell? ⟨g2,10,none⟩=some (.bool false) from fun W k=>by
  have h:=HQ.out.kept k;have p:=HPC.out.kept k;exact⟨h.at_ 0 _ rfl,h.at_ 1 _ rfl,h.at_ 2 _ rfl,p.at_ 22 _ rfl,p.at_ 23 _ rfl,p.at_ 24 _ rfl,p.at_ 25 _ rfl,p.at_ 26 _ rfl,p.at_ 27 _ rfl,p.at_ 28 _ rfl,p.at_ 29 _ rfl,p.at_ 30 _ rfl,p.at_ 31 _ rfl,p.at_ 32 _ rfl,p.at_ 0 _ rfl,p.at_ 1 _ rfl,p.at_ 2 _ rfl,p.at_ 3 _ rfl,p.at_ 4 _ rfl,p.at_ 5 _ rfl,p.at_ 6 _ rfl,p.at_ 7 _ rfl,p.at_ 8 _ rfl,p.at_ 9 _ rfl,p.at_ 10 _ rfl⟩)
 refine wp_region_held_drew (S:=fun W=>W.cell? ⟨g2+1,0,none⟩=some (.slice (some ⟨g1,0,none⟩) 4 4)∧W.cell? ⟨g2+1,1,none⟩=some (.slice (some ⟨g2,0,none⟩) 3 3)∧W.cell? ⟨g2+1,2,none⟩=some (.slice none 0 0)∧W.cell? ⟨g2,22,none⟩=some (.string ⟨#[114]⟩)∧W.cell? ⟨g2,23,none⟩=some (.string ⟨#[119,101,98]⟩)∧W.cell? ⟨g2,24,none⟩=some (.int .i64 0)∧W.cell? ⟨g2,25,none⟩=some (.slice p3 q3 r3)∧W.cell? ⟨g2,26,none⟩=some (.slice none 0 0)∧W.cell? ⟨g2,27,none⟩=some (.slice none 0 0)∧W.cell? ⟨g2,28,none⟩=some (.slice none 0 0)∧W.cell? ⟨g2,29,none⟩=some (.string ⟨#[122,111,110,101]⟩)∧W.cell? ⟨g2,30,none⟩=some (.int .i64 1)∧W.cell? ⟨g2,31,none⟩=some (.string ⟨#[]⟩)∧W.cell? ⟨g2,32,none⟩=some (.bool false)∧W.cell? ⟨g2,0,none⟩=some (.string ⟨#[112]⟩)∧W.cell? ⟨g2,1,none⟩=some (.string ⟨#[119,101,98]⟩)∧W.cell? ⟨g2,2,none⟩=some (.int .i64 0)∧W.cell? ⟨g2,3,none⟩=some (.slice p1 q1 r1)∧W.cell? ⟨g2,4,none⟩=some (.slice none 0 0)∧W.cell? ⟨g2,5,none⟩=some (.slice none 0 0)∧W.cell? ⟨g2,6,none⟩=some (.slice none 0 0)∧W.cell? ⟨g2,7,none⟩=some (.string ⟨#[122,111,110,101]⟩)∧W.cell? ⟨g2,8,none⟩=some (.int .i64 1)∧W.cell? ⟨g2,9,none⟩=some (.string ⟨#[97]⟩)∧W.cell? ⟨g2,10,none⟩=some (.bool false)) (by kernel_rfl) (HS.out _ (Kept.drew w12)) (fun hHeld=>?_);refine tkI 0 ?_;try simp only[nP]
 have J:=lH (Kept.drew w12);refine rd1 1 fun K9 hK9=>?_;go_simp;refine(jb1 ⟨#[107]⟩ 1 ⟨#[]⟩ (by decide:(-9223372036854775808:Int)≤1∧(1:Int)≤9223372036854775807) (by decide:(1:Nat)≤maxLen) (by decide:(0:Nat)≤maxLen) _).mono ?_;rintro e wk ⟨k1,k2,k3,rfl,ha,kk⟩;have J:=lH (J.out.trans kk);clear ha kk;refine hK9.out _ _ (HS.out _ J.out) (fun hHeld1=>?_);clear hK9 K9;try simp only[nP]
 refine rd1 2 fun K9 hK9=>?_;go_simp;have h:=Ju (some ⟨g1,0,none⟩) (some ⟨g2,0,none⟩) none k1 none none none 4 4 3 3 0 0 k2 k3 0 0 0 0 0 0 spK spS ⟨#[100]⟩ wk (HRN.out.kept J.out) (HRP.out.kept J.out) (by decide) (by decide);rw[show jN spK spS ⟨#[100]⟩=(0,true) from jdA] at h;refine h.mono ?_;clear h;rintro e w13 ⟨rfl,kk⟩;have J:=lH (J.out.trans kk);clear kk;refine hK9.out _ _ (HS.out _ J.out) (fun hHeld2=>?_);clear hK9 K9;try simp only[nP]
 refine tkI 3 ?_;refine tkI 4 ?_;refine tkI 5 ?_;refine tkI 6 ?_;refine tkI 7 ?_;try simp only[nP]
 refine wpAnyH_done (by kernel_rfl) ?_ _;have K:=lH (K.out.trans J.out);have HRN:=lH (HRN.out.kept J.out);have HRP:=lH (HRP.out.kept J.out);have HPC:=lH (HPC.out.kept J.out);have HQ:=lH (HQ.out.kept J.out);clear HS J;go_wp2_with fail
 have HS:=lH (show ∀W,Kept w13 W→W.cell? ⟨g2+1,0,none⟩=some (.slice (some ⟨g1,0,none⟩) 4 4)∧W.cell? ⟨g2+1,1,none⟩=some (.slice (some ⟨g2,0,none⟩) 3 3)∧W.cell? ⟨g2+1,2,none⟩=some (.slice none 0 0)∧W.cell? ⟨g2,22,none⟩=some (.string ⟨#[114]⟩)∧W.cell? ⟨g2,23,none⟩=some (.string ⟨#[119,101,98]⟩)∧W.cell? ⟨g2,24,none⟩=some (.int .i64 0)∧W.cell? ⟨g2,25,none⟩=some (.slice p3 q3 r3)∧W.cell? ⟨g2,26,none⟩=some (.slice none 0 0)∧W.cell? ⟨g2,27,none⟩=some (.slice none 0 0)∧W.cell? ⟨g2,28,none⟩=some (.slice none 0 0)∧W.cell? ⟨g2,29,none⟩=some (.string ⟨#[122,111,110,101]⟩)∧W.cell? ⟨g2,30,none⟩=some (.int .i64 1)∧W.cell? ⟨g2,31,none⟩=some (.string ⟨#[]⟩)∧W.cell? ⟨g2,32,none⟩=some (.bool false)∧W.cell? ⟨g2,0,none⟩=some (.string ⟨#[112]⟩)∧W.cell? ⟨g2,1,none⟩=some (.string ⟨#[119,101,98]⟩)∧W.cell? ⟨g2,2,none⟩=some (.int .i64 0)∧W.cell? ⟨g2,3,none⟩=some (.slice p1 q1 r1)∧W.cell? ⟨g2,4,none⟩=some (.slice none 0 0)∧W.cell? ⟨g2,5,none⟩=some (.slice none 0 0)∧W.cell? ⟨g2,6,none⟩=some (.slice none 0 0)∧W.cell? ⟨g2,7,none⟩=some (.string ⟨#[122,111,110,101]⟩)∧W.cell? ⟨g2,8,none⟩=some (.int .i64 1)∧W.cell? ⟨g2,9,none⟩=some (.string ⟨#[97]⟩)∧W.cell? ⟨g2,10,none⟩=some (.bool false) from fun W k=>by
  have h:=HQ.out.kept k;have p:=HPC.out.kept k;exact⟨h.at_ 0 _ rfl,h.at_ 1 _ rfl,h.at_ 2 _ rfl,p.at_ 22 _ rfl,p.at_ 23 _ rfl,p.at_ 24 _ rfl,p.at_ 25 _ rfl,p.at_ 26 _ rfl,p.at_ 27 _ rfl,p.at_ 28 _ rfl,p.at_ 29 _ rfl,p.at_ 30 _ rfl,p.at_ 31 _ rfl,p.at_ 32 _ rfl,p.at_ 0 _ rfl,p.at_ 1 _ rfl,p.at_ 2 _ rfl,p.at_ 3 _ rfl,p.at_ 4 _ rfl,p.at_ 5 _ rfl,p.at_ 6 _ rfl,p.at_ 7 _ rfl,p.at_ 8 _ rfl,p.at_ 9 _ rfl,p.at_ 10 _ rfl⟩)
 have HC1:=lH (show ∀W,Kept w13 W→Calls Try.prog 17 #[.agg #[.slice (some ⟨g1,0,none⟩) 4 4,.slice (some ⟨g2,0,none⟩) 3 3,.slice none 0 0],.agg #[.string ⟨#[114]⟩,.string ⟨#[119,101,98]⟩,.int .i64 0,.slice p3 q3 r3,.slice none 0 0,.slice none 0 0,.slice none 0 0,.string ⟨#[122,111,110,101]⟩,.int .i64 1,.string ⟨#[]⟩,.bool false],.string ⟨#[120]⟩] W (Say (.int .i64 2) W) from fun W k=>by
  have h:=ZB (some ⟨g1,0,none⟩) (some ⟨g2,0,none⟩) none p3 none none none 4 4 3 3 0 0 q3 r3 0 0 0 0 0 0 spR spS ⟨#[120]⟩ W (by decide:(1:Nat)≤maxLen) (HRN.out.kept k) (HRP.out.kept k) (by decide) (by decide);rw[show inD spR spS.pods ⟨#[120]⟩ spS.nodes=2 from jdq] at h;exact h)
 have HC2:=lH (show ∀W,Kept w13 W→Calls Try.prog 17 #[.agg #[.slice (some ⟨g1,0,none⟩) 4 4,.slice (some ⟨g2,0,none⟩) 3 3,.slice none 0 0],.agg #[.string ⟨#[112]⟩,.string ⟨#[119,101,98]⟩,.int .i64 0,.slice p1 q1 r1,.slice none 0 0,.slice none 0 0,.slice none 0 0,.string ⟨#[122,111,110,101]⟩,.int .i64 1,.string ⟨#[97]⟩,.bool false],.string ⟨#[120]⟩] W (Say (.int .i64 1) W) from fun W k=>by
  have h:=ZB (some ⟨g1,0,none⟩) (some ⟨g2,0,none⟩) none p1 none none none 4 4 3 3 0 0 q1 r1 0 0 0 0 0 0 spP spS ⟨#[120]⟩ W (by decide:(1:Nat)≤maxLen) (HRN.out.kept k) (HRP.out.kept k) (by decide) (by decide);rw[show inD spP spS.pods ⟨#[120]⟩ spS.nodes=1 from jdz] at h;exact h)
 refine wp_region_held_drew (S:=fun W=>W.cell? ⟨g2+1,0,none⟩=some (.slice (some ⟨g1,0,none⟩) 4 4)∧W.cell? ⟨g2+1,1,none⟩=some (.slice (some ⟨g2,0,none⟩) 3 3)∧W.cell? ⟨g2+1,2,none⟩=some (.slice none 0 0)∧W.cell? ⟨g2,22,none⟩=some (.string ⟨#[114]⟩)∧W.cell? ⟨g2,23,none⟩=some (.string ⟨#[119,101,98]⟩)∧W.cell? ⟨g2,24,none⟩=some (.int .i64 0)∧W.cell? ⟨g2,25,none⟩=some (.slice p3 q3 r3)∧W.cell? ⟨g2,26,none⟩=some (.slice none 0 0)∧W.cell? ⟨g2,27,none⟩=some (.slice none 0 0)∧W.cell? ⟨g2,28,none⟩=some (.slice none 0 0)∧W.cell? ⟨g2,29,none⟩=some (.string ⟨#[122,111,110,101]⟩)∧W.cell? ⟨g2,30,none⟩=some (.int .i64 1)∧W.cell? ⟨g2,31,none⟩=some (.string ⟨#[]⟩)∧W.cell? ⟨g2,32,none⟩=some (.bool false)∧W.cell? ⟨g2,0,none⟩=some (.string ⟨#[112]⟩)∧W.cell? ⟨g2,1,none⟩=some (.string ⟨#[119,101,98]⟩)∧W.cell? ⟨g2,2,none⟩=some (.int .i64 0)∧W.cell? ⟨g2,3,none⟩=some (.slice p1 q1 r1)∧W.cell? ⟨g2,4,none⟩=some (.slice none 0 0)∧W.cell? ⟨g2,5,none⟩=some (.slice none 0 0)∧W.cell? ⟨g2,6,none⟩=some (.slice none 0 0)∧W.cell? ⟨g2,7,none⟩=some (.string ⟨#[122,111,110,101]⟩)∧W.cell? ⟨g2,8,none⟩=some (.int .i64 1)∧W.cell? ⟨g2,9,none⟩=some (.string ⟨#[97]⟩)∧W.cell? ⟨g2,10,none⟩=some (.bool false)) (by kernel_rfl) (HS.out _ (Kept.drew w13)) (fun hHeld=>?_);refine tkI 0 ?_;try simp only[nP]
 have J:=lH (Kept.drew w13);obtain⟨wq,hwq⟩:∃W,w13.drew=W:=⟨_,rfl⟩
 rw[hwq] at hHeld J ⊢;clear hwq;refine rdH (rs:=[1,2]) (h:=coH (fun K9 hK9=>?_) (coH (fun K9 hK9=>?_) AllReadyH.nil))
 · go_simp;have h:=J9 (some ⟨g1,0,none⟩) (some ⟨g2,0,none⟩) none 4 4 3 3 0 0 spS.nodes zg _ (HRN.out.kept J.out) (by decide);rw[jcv] at h;refine h.mono ?_;clear h;rintro e wd ⟨vd,rfl,hr,kk⟩;have J:=lH (J.out.trans kk);have HV:=lH hr;clear hr kk;refine hK9.out _ _ (HS.out _ J.out) (fun hHeld1=>?_);clear hK9 K9;try simp only[nP]
   refine rd1 2 fun K9 hK9=>?_;go_simp;refine hK9.out _ _ (HS.out _ (J.out.trans (ja _ _))) (fun hHeld2=>?_);clear hK9 K9;try simp only[nP]
   obtain⟨wl,hwl⟩:∃W,wd.alloc (.cells #[.string ⟨#[120]⟩,.string ⟨#[121]⟩] 9)=W:=⟨_,rfl⟩
   have kk:Kept wd wl:=by rw[←hwl];exact ja _ _
   have HL:=lH (Je (x:=⟨#[120]⟩) (y:=⟨#[121]⟩) (jf wd (.string ⟨#[120]⟩) [.string ⟨#[121]⟩] 9 wl (by rw[hwl];exact Kept.refl _)) (by decide:(1:Nat)≤maxLen) (by decide:(1:Nat)≤maxLen));have J:=lH (J.out.trans kk);have HV:=lH (HV.out.kept kk);try rw[hwl]
   clear hwl kk;refine rd1 3 fun K9 hK9=>?_;go_simp;refine(Zb HV.out HL.out).mono ?_;rintro e wn ⟨rfl,kk⟩;have J:=lH (J.out.trans kk);clear kk HV HL;refine hK9.out _ _ (HS.out _ J.out) (fun hHeld3=>?_);clear hK9 K9;try simp only[nP]
   refine tkI 4 ?_;refine tkI 5 ?_;refine tkI 6 ?_;refine tkI 7 ?_;refine tkI 8 ?_;refine tkI 9 ?_;try simp only[nP]
   refine rd1 10 fun K9 hK9=>?_;go_simp;refine(HC1.out _ J.out).mono ?_;rintro e wc ⟨rfl,kk⟩;have J:=lH (J.out.trans kk);clear kk;refine hK9.out _ _ (HS.out _ J.out) (fun hHeld4=>?_);clear hK9 K9;try simp only[nP]
   refine tkI 11 ?_;refine tkI 12 ?_;refine tkI 13 ?_;refine tkI 14 ?_;refine tkI 15 ?_;refine tkI 16 ?_;refine tkI 17 ?_;refine tkI 18 ?_;try simp only[nP]
   refine rd1 19 fun K9 hK9=>?_;go_simp;refine(HC2.out _ J.out).mono ?_;rintro e wx ⟨rfl,kk⟩;have J:=lH (J.out.trans kk);clear kk;refine hK9.out _ _ (HS.out _ J.out) (fun hHeld5=>?_);clear hK9 K9;try simp only[nP]
   refine tkI 20 ?_;refine tkI 21 ?_;refine tkI 22 ?_;refine tkI 23 ?_;refine tkI 24 ?_;refine tkI 25 ?_;refine tkI 26 ?_;refine tkI 27 ?_;refine tkI 28 ?_;refine tkI 29 ?_;refine tkI 30 ?_;refine tkI 31 ?_;refine tkI 32 ?_;refine tkI 33 ?_;refine tkI 34 ?_;refine tkI 35 ?_;refine tkI 36 ?_;refine tkI 37 ?_;refine tkI 38 ?_;refine tkI 39 ?_;refine tkI 40 ?_;refine tkI 41 ?_;refine tkI 42 ?_;refine tkI 43 ?_;refine tkI 44 ?_;refine tkI 45 ?_;refine tkI 46 ?_;refine tkI 47 ?_;refine tkI 48 ?_;try simp only[nP]
   refine rdH (rs:=[49,50]) (h:=coH (fun K9 hK9=>?_) (coH (fun K9 hK9=>?_) AllReadyH.nil))
   · go_simp;have h:=ZO (some ⟨g1,0,none⟩) (some ⟨g2,0,none⟩) none 4 4 3 3 0 0 spS _ (HRN.out.kept J.out) (HRP.out.kept J.out) (by decide) (by decide);rw[Xq] at h;refine h.mono ?_;clear h;rintro e wb ⟨vb,rfl,hr,kk⟩;have J:=lH (J.out.trans kk);have HV:=lH hr;clear hr kk;refine hK9.out _ _ (HS.out _ J.out) (fun hHeld6=>?_);clear hK9 K9;try simp only[nP]
     refine rd1 50 fun K9 hK9=>?_;go_simp;refine hK9.out _ _ (HS.out _ (J.out.trans (ja _ _))) (fun hHeld7=>?_);clear hK9 K9;try simp only[nP]
     obtain⟨wl,hwl⟩:∃W,wb.alloc (.cells #[.string ⟨#[112]⟩,.string ⟨#[113]⟩] 9)=W:=⟨_,rfl⟩
     have kk:Kept wb wl:=by rw[←hwl];exact ja _ _
     have HL:=lH (Je (x:=⟨#[112]⟩) (y:=⟨#[113]⟩) (jf wb (.string ⟨#[112]⟩) [.string ⟨#[113]⟩] 9 wl (by rw[hwl];exact Kept.refl _)) (by decide:(1:Nat)≤maxLen) (by decide:(1:Nat)≤maxLen));have J:=lH (J.out.trans kk);have HV:=lH (HV.out.kept kk);try rw[hwl]
     clear hwl kk;refine rd1 51 fun K9 hK9=>?_;go_simp;refine(Zb HV.out HL.out).mono ?_;rintro e wn ⟨rfl,kk⟩;have J:=lH (J.out.trans kk);clear kk HV HL;refine hK9.out _ _ (HS.out _ J.out) (fun hHeld8=>?_);clear hK9 K9;try simp only[nP]
     refine tkI 52 ?_;refine tkI 53 ?_;try simp only[nP]
     refine wpAnyH_done (by kernel_rfl) ?_ _;go_wp2;go_ret;exact⟨rfl,K.out.trans J.out⟩
   · go_simp;refine hK9.out _ _ (HS.out _ (J.out.trans (ja _ _))) (fun hHeld9=>?_);clear hK9 K9;try simp only[nP]
     obtain⟨wl,hwl⟩:∃W,wx.alloc (.cells #[.string ⟨#[112]⟩,.string ⟨#[113]⟩] 9)=W:=⟨_,rfl⟩
     have kk:Kept wx wl:=by rw[←hwl];exact ja _ _
     have HL:=lH (Je (x:=⟨#[112]⟩) (y:=⟨#[113]⟩) (jf wx (.string ⟨#[112]⟩) [.string ⟨#[113]⟩] 9 wl (by rw[hwl];exact Kept.refl _)) (by decide:(1:Nat)≤maxLen) (by decide:(1:Nat)≤maxLen));have J:=lH (J.out.trans kk);try rw[hwl]
     clear hwl kk;refine rd1 49 fun K9 hK9=>?_;go_simp;have h:=ZO (some ⟨g1,0,none⟩) (some ⟨g2,0,none⟩) none 4 4 3 3 0 0 spS _ (HRN.out.kept J.out) (HRP.out.kept J.out) (by decide) (by decide);rw[Xq] at h;refine h.mono ?_;clear h;rintro e wb ⟨vb,rfl,hr,kk⟩;have J:=lH (J.out.trans kk);have HV:=lH hr;have HL:=lH (HL.out.kept kk);clear hr kk;refine hK9.out _ _ (HS.out _ J.out) (fun hHeld10=>?_);clear hK9 K9;try simp only[nP]
     refine rd1 51 fun K9 hK9=>?_;go_simp;refine(Zb HV.out HL.out).mono ?_;rintro e wn ⟨rfl,kk⟩;have J:=lH (J.out.trans kk);clear kk HV HL;refine hK9.out _ _ (HS.out _ J.out) (fun hHeld11=>?_);clear hK9 K9;try simp only[nP]
     refine tkI 52 ?_;refine tkI 53 ?_;try simp only[nP]
     refine wpAnyH_done (by kernel_rfl) ?_ _;go_wp2;go_ret;exact⟨rfl,K.out.trans J.out⟩
 · go_simp;refine hK9.out _ _ (HS.out _ (J.out.trans (ja _ _))) (fun hHeld12=>?_);clear hK9 K9;try simp only[nP]
   obtain⟨wl,hwl⟩:∃W,wq.alloc (.cells #[.string ⟨#[120]⟩,.string ⟨#[121]⟩] 9)=W:=⟨_,rfl⟩
   have kk:Kept wq wl:=by rw[←hwl];exact ja _ _
   have HL:=lH (Je (x:=⟨#[120]⟩) (y:=⟨#[121]⟩) (jf wq (.string ⟨#[120]⟩) [.string ⟨#[121]⟩] 9 wl (by rw[hwl];exact Kept.refl _)) (by decide:(1:Nat)≤maxLen) (by decide:(1:Nat)≤maxLen));have J:=lH (J.out.trans kk);try rw[hwl]
   clear hwl kk;refine rd1 1 fun K9 hK9=>?_;go_simp;have h:=J9 (some ⟨g1,0,none⟩) (some ⟨g2,0,none⟩) none 4 4 3 3 0 0 spS.nodes zg _ (HRN.out.kept J.out) (by decide);rw[jcv] at h;refine h.mono ?_;clear h;rintro e wd ⟨vd,rfl,hr,kk⟩;have J:=lH (J.out.trans kk);have HV:=lH hr;have HL:=lH (HL.out.kept kk);clear hr kk;refine hK9.out _ _ (HS.out _ J.out) (fun hHeld13=>?_);clear hK9 K9;try simp only[nP]
   refine rd1 3 fun K9 hK9=>?_;go_simp;refine(Zb HV.out HL.out).mono ?_;rintro e wn ⟨rfl,kk⟩;have J:=lH (J.out.trans kk);clear kk HV HL;refine hK9.out _ _ (HS.out _ J.out) (fun hHeld14=>?_);clear hK9 K9;try simp only[nP]
   refine tkI 4 ?_;refine tkI 5 ?_;refine tkI 6 ?_;refine tkI 7 ?_;refine tkI 8 ?_;refine tkI 9 ?_;try simp only[nP]
   refine rd1 10 fun K9 hK9=>?_;go_simp;refine(HC1.out _ J.out).mono ?_;rintro e wc ⟨rfl,kk⟩;have J:=lH (J.out.trans kk);clear kk;refine hK9.out _ _ (HS.out _ J.out) (fun hHeld15=>?_);clear hK9 K9;try simp only[nP]
   refine tkI 11 ?_;refine tkI 12 ?_;refine tkI 13 ?_;refine tkI 14 ?_;refine tkI 15 ?_;refine tkI 16 ?_;refine tkI 17 ?_;refine tkI 18 ?_;try simp only[nP]
   refine rd1 19 fun K9 hK9=>?_;go_simp;refine(HC2.out _ J.out).mono ?_;rintro e wx ⟨rfl,kk⟩;have J:=lH (J.out.trans kk);clear kk;refine hK9.out _ _ (HS.out _ J.out) (fun hHeld16=>?_);clear hK9 K9;try simp only[nP]
   refine tkI 20 ?_;refine tkI 21 ?_;refine tkI 22 ?_;refine tkI 23 ?_;refine tkI 24 ?_;refine tkI 25 ?_;refine tkI 26 ?_;refine tkI 27 ?_;refine tkI 28 ?_;refine tkI 29 ?_;refine tkI 30 ?_;refine tkI 31 ?_;refine tkI 32 ?_;refine tkI 33 ?_;refine tkI 34 ?_;refine tkI 35 ?_;refine tkI 36 ?_;refine tkI 37 ?_;refine tkI 38 ?_;refine tkI 39 ?_;refine tkI 40 ?_;refine tkI 41 ?_;refine tkI 42 ?_;refine tkI 43 ?_;refine tkI 44 ?_;refine tkI 45 ?_;refine tkI 46 ?_;refine tkI 47 ?_;refine tkI 48 ?_;try simp only[nP]
   refine rdH (rs:=[49,50]) (h:=coH (fun K9 hK9=>?_) (coH (fun K9 hK9=>?_) AllReadyH.nil))
   · go_simp;have h:=ZO (some ⟨g1,0,none⟩) (some ⟨g2,0,none⟩) none 4 4 3 3 0 0 spS _ (HRN.out.kept J.out) (HRP.out.kept J.out) (by decide) (by decide);rw[Xq] at h;refine h.mono ?_;clear h;rintro e wb ⟨vb,rfl,hr,kk⟩;have J:=lH (J.out.trans kk);have HV:=lH hr;clear hr kk;refine hK9.out _ _ (HS.out _ J.out) (fun hHeld17=>?_);clear hK9 K9;try simp only[nP]
     refine rd1 50 fun K9 hK9=>?_;go_simp;refine hK9.out _ _ (HS.out _ (J.out.trans (ja _ _))) (fun hHeld18=>?_);clear hK9 K9;try simp only[nP]
     obtain⟨wl,hwl⟩:∃W,wb.alloc (.cells #[.string ⟨#[112]⟩,.string ⟨#[113]⟩] 9)=W:=⟨_,rfl⟩
     have kk:Kept wb wl:=by rw[←hwl];exact ja _ _
     have HL:=lH (Je (x:=⟨#[112]⟩) (y:=⟨#[113]⟩) (jf wb (.string ⟨#[112]⟩) [.string ⟨#[113]⟩] 9 wl (by rw[hwl];exact Kept.refl _)) (by decide:(1:Nat)≤maxLen) (by decide:(1:Nat)≤maxLen));have J:=lH (J.out.trans kk);have HV:=lH (HV.out.kept kk);try rw[hwl]
     clear hwl kk;refine rd1 51 fun K9 hK9=>?_;go_simp;refine(Zb HV.out HL.out).mono ?_;rintro e wn ⟨rfl,kk⟩;have J:=lH (J.out.trans kk);clear kk HV HL;refine hK9.out _ _ (HS.out _ J.out) (fun hHeld19=>?_);clear hK9 K9;try simp only[nP]
     refine tkI 52 ?_;refine tkI 53 ?_;try simp only[nP]
     refine wpAnyH_done (by kernel_rfl) ?_ _;go_wp2;go_ret;exact⟨rfl,K.out.trans J.out⟩
   · go_simp;refine hK9.out _ _ (HS.out _ (J.out.trans (ja _ _))) (fun hHeld20=>?_);clear hK9 K9;try simp only[nP]
     obtain⟨wl,hwl⟩:∃W,wx.alloc (.cells #[.string ⟨#[112]⟩,.string ⟨#[113]⟩] 9)=W:=⟨_,rfl⟩
     have kk:Kept wx wl:=by rw[←hwl];exact ja _ _
     have HL:=lH (Je (x:=⟨#[112]⟩) (y:=⟨#[113]⟩) (jf wx (.string ⟨#[112]⟩) [.string ⟨#[113]⟩] 9 wl (by rw[hwl];exact Kept.refl _)) (by decide:(1:Nat)≤maxLen) (by decide:(1:Nat)≤maxLen));have J:=lH (J.out.trans kk);try rw[hwl]
     clear hwl kk;refine rd1 49 fun K9 hK9=>?_;go_simp;have h:=ZO (some ⟨g1,0,none⟩) (some ⟨g2,0,none⟩) none 4 4 3 3 0 0 spS _ (HRN.out.kept J.out) (HRP.out.kept J.out) (by decide) (by decide);rw[Xq] at h;refine h.mono ?_;clear h;rintro e wb ⟨vb,rfl,hr,kk⟩;have J:=lH (J.out.trans kk);have HV:=lH hr;have HL:=lH (HL.out.kept kk);clear hr kk;refine hK9.out _ _ (HS.out _ J.out) (fun hHeld21=>?_);clear hK9 K9;try simp only[nP]
     refine rd1 51 fun K9 hK9=>?_;go_simp;refine(Zb HV.out HL.out).mono ?_;rintro e wn ⟨rfl,kk⟩;have J:=lH (J.out.trans kk);clear kk HV HL;refine hK9.out _ _ (HS.out _ J.out) (fun hHeld22=>?_);clear hK9 K9;try simp only[nP]
     refine tkI 52 ?_;refine tkI 53 ?_;try simp only[nP]
     refine wpAnyH_done (by kernel_rfl) ?_ _;go_wp2;go_ret;exact⟨rfl,K.out.trans J.out⟩
theorem jbJ {a:Option Addr} {n c:Nat} {l:List Pd} {w:World} (h:zy w (.slice a n c) l):jP w a n l:=by
 obtain⟨a',cap',e,_,_,h⟩:=h
 cases e
 exact h
theorem jaY {a:Option Addr} {n c:Nat} {l:List Nod} {w:World} (h:j4 w (.slice a n c) l):jt w a n l:=by
 obtain⟨a',cap',e,_,_,h⟩:=h
 cases e
 exact h
theorem zS.nodesAt {w:World} {v2 v3:Value} {b:Option Addr} {m cp:Nat} {s:Clu} (h:zS w (jah (.slice b m cp) v2 v3) s):jt w b m s.nodes:=by
 obtain⟨_,_,_,e,g0⟩:=h
 cases e
 exact jaY g0.nodes
theorem zS.podsAt' {w:World} {v1 v3:Value} {b:Option Addr} {m cp:Nat} {s:Clu} (h:zS w (jah v1 (.slice b m cp) v3) s):jP w b m s.pods:=by
 obtain⟨_,_,_,e,g0⟩:=h
 cases e
 exact jbJ g0.pods
theorem jcZ {n:Int} {m:Nat} (h:0≤n∧n≤255) (hm:0<m):∃k:Nat,k<m∧n.tmod (m:Int)=(k:Int):=by
 obtain⟨j,rfl⟩:=Int.eq_ofNat_of_zero_le h.1;exact⟨j % m,Nat.mod_lt _ hm,rfl⟩
def jl (p:Pd):Pd:={ p with key:=zg,most:=1 }
theorem jbA {p:Pd} {pods:List Pd} {nodes:List Nod} {ds:List ByteArray} {i:Nat} {d:ByteArray} (h:ds[i]?=some d):jY p pods nodes (ds.take (i+1))=jY p pods nodes (ds.take i)+inD p pods d nodes:=by
 rw[List.take_add_one,h,Z4];simp[jY]
theorem qG {p:Pd} {pods:List Pd} {nodes:List Nod} (ds:List ByteArray) (i:Nat):jY p pods nodes (ds.take i)≤jY p pods nodes ds:=by
 conv=>rhs;rw[←List.take_append_drop i ds]
 rw[Z4];omega
theorem zx {p:Pd} {nodes:List Nod} {l:List Pd} {i:Nat} {q:Pd} (h:l[i]?=some q):jT p nodes (l.take (i+1))=jT p nodes (l.take i)+(if zk p nodes q=true then 1 else 0):=by
 rw[List.take_add_one,h,Xd];simp[jT]
theorem jbi {p q:Pd} {s:Clu} (hk:j8 p.key=false) (hb:jK p q=true):zk p s.nodes q=(jN p s q.node).2:=by
 unfold zk jN;rw[hb,if_neg (by rw[hk];decide)]
 cases domV p.key q.node s.nodes<;>rfl
theorem ZS {p q:Pd} {nodes:List Nod} (h:jK p q=false):zk p nodes q=false:=by unfold zk;rw[h];rfl
theorem jbE {x:ByteArray} (h:j8 x=true):isName x=false:=by
 rw[zB] at h;have e:x.toList=[]:=by simpa using h
 have e2:x.data.toList=[]:=by rw[←Lib.toList_data];exact e
 have e3:x.size=0:=by rw[←ByteArray.size_data,←Array.length_toList,e2];rfl
 unfold isName;rw[e3];rfl
theorem jc3:isName ⟨#[110,111,32,119,104,101,114,101]⟩=false:=by kernel_rfl
theorem SpreadSums_walk (v:Value) (s:Clu) (n1:Int) (w:World) (h:zS w v s) (h1:(Lit.int .u8 n1).wf=true):Calls Try.prog 5 #[v,.int .u8 n1] w fun e w'=>e=.returned (.bool true)∧Kept w w':=by
 have hs0:=h;obtain⟨_,_,_,rfl,⟨sa1,sc1,rfl,-,-,-⟩,⟨sa2,sc2,rfl,-,-,-⟩,⟨sa3,sc3,rfl,-,-,-⟩⟩:=hs0;obtain⟨sl1,hsl1⟩:∃q,s.nodes.length=q:=⟨_,rfl⟩
 rw[hsl1] at h;try rw[hsl1]
 obtain⟨sl2,hsl2⟩:∃q,s.pods.length=q:=⟨_,rfl⟩
 rw[hsl2] at h;try rw[hsl2]
 obtain⟨sl3,hsl3⟩:∃q,s.buds.length=q:=⟨_,rfl⟩
 rw[hsl3] at h;try rw[hsl3]
 have HL1:=lH hsl1;have HL2:=lH hsl2;clear hsl1 hsl2 hsl3;have HN1:=lH (bounds_u8 h1);clear h1;obtain⟨Z,hZ⟩:∃Z,w.alloc (.cells #[.slice sa1 sl1 sc1,.slice sa2 sl2 sc2,.slice sa3 sl3 sc3] 26)=Z:=⟨_,rfl⟩
 have hkz:Kept w Z:=by rw[←hZ];exact ja _ _
 have HQS:=lH (show jg w.heap.size [.slice sa1 sl1 sc1,.slice sa2 sl2 sc2,.slice sa3 sl3 sc3] Z from jf w (.slice sa1 sl1 sc1) [.slice sa2 sl2 sc2,.slice sa3 sl3 sc3] 26 Z (by rw[hZ];exact Kept.refl _));have HS:=lH (h.kept hkz);have HKZ:=lH hkz;clear h hkz;try unfold jah at HS
 have K:=lH (Kept.refl Z);go_enter Try.func5,Try.ntmps5;go_wp2_with fail
 try rw[hZ]
 clear hZ;refine(qm Z).mono ?_;rintro e w1 ⟨rfl,kk⟩;have HQS:=lH (HQS.out.kept kk);have HS:=lH (HS.out.kept kk);have K:=lH (K.out.trans kk);clear kk;obtain⟨e1,he1⟩:∃e,zJ s=e:=⟨_,rfl⟩
 have HE1:=lH he1;have sq0:=HQS.out.at_ 0 _ rfl;have sq1:=HQS.out.at_ 1 _ rfl;have sq2:=HQS.out.at_ 2 _ rfl;go_wp2_with fail
 refine(jc0 HS.out he1).mono ?_;rintro e w2 ⟨rfl,kk⟩;have HQS:=lH (HQS.out.kept kk);have HS:=lH (HS.out.kept kk);have K:=lH (K.out.trans kk);clear kk he1;clear sq0 sq1 sq2;have sq0:=HQS.out.at_ 0 _ rfl;have sq1:=HQS.out.at_ 1 _ rfl;have sq2:=HQS.out.at_ 2 _ rfl
 cases e1 with
 | false =>
  go_wp2;go_ret;exact⟨rfl,HKZ.out.trans K.out⟩
 | true =>
  by_cases hpi:(sl2:Int)<1
  · skip;go_wp2;go_ret;exact⟨rfl,HKZ.out.trans K.out⟩
  have HB34:=lH (XY (jcm HE1.out)).2;have HAN:=lH (jbw HE1.out);have HNA:=lH HS.out.nodesAt;have HPA:=lH HS.out.podsAt';have hb1:sl1≤100:=by have:=HB34.out.1;have:=HL1.out;omega
  have hb2:sl2≤1000:=by have:=HB34.out.2.1;have:=HL2.out;omega
  have hz1n:¬sl2=0:=by omega
  have hz1:¬(sl2:Int)=0:=by omega
  have hz1b:((sl2:Int)==0)=false:=by simp;omega
  obtain⟨k1,hk1,hkr1⟩:=jcZ HN1.out (show 0<sl2 by omega);have hki1:(k1:Int)<(sl2:Int):=by omega
  have hk10:¬(k1:Int)<0:=by omega
  have hw1:IntKind.i64.wrap n1=n1:=IntWalk.i64_in _ (by have:=HN1.out;omega);obtain⟨b9,off9,rfl⟩:=HPA.out.form.resolve_left (by omega);obtain⟨pp,a1,m1,c1,a2,m2,c2,a3,m3,c3,a4,m4,c4,hn,hd,hb,p0,p1,p2,p3,p4,p5,p6,p7,p8,p9,p10,hat⟩:=HPA.out.at_ hk1;have HF:=lH (show ∀W,Kept w2 W→W.cell? ⟨w.heap.size,0,none⟩=some (.slice sa1 sl1 sc1)∧W.cell? ⟨w.heap.size,1,none⟩=some (.slice (some ⟨b9,off9,none⟩) sl2 sc2)∧W.cell? ⟨w.heap.size,2,none⟩=some (.slice sa3 sl3 sc3)∧W.cell? ⟨b9,off9+k1*11,none⟩=some (.string pp.name)∧W.cell? ⟨b9,off9+k1*11+1,none⟩=some (.string pp.owner)∧W.cell? ⟨b9,off9+k1*11+2,none⟩=some (.int .i64 pp.prio)∧W.cell? ⟨b9,off9+k1*11+3,none⟩=some (.slice a1 m1 c1)∧W.cell? ⟨b9,off9+k1*11+4,none⟩=some (.slice a2 m2 c2)∧W.cell? ⟨b9,off9+k1*11+5,none⟩=some (.slice a3 m3 c3)∧W.cell? ⟨b9,off9+k1*11+6,none⟩=some (.slice a4 m4 c4)∧W.cell? ⟨b9,off9+k1*11+7,none⟩=some (.string pp.key)∧W.cell? ⟨b9,off9+k1*11+8,none⟩=some (.int .i64 pp.most)∧W.cell? ⟨b9,off9+k1*11+9,none⟩=some (.string pp.node)∧W.cell? ⟨b9,off9+k1*11+10,none⟩=some (.bool pp.hold) from fun W kk=>⟨cell_later kk (HQS.out.at_ 0 _ rfl),cell_later kk (HQS.out.at_ 1 _ rfl),cell_later kk (HQS.out.at_ 2 _ rfl),cell_later kk p0,cell_later kk p1,cell_later kk p2,cell_later kk p3,cell_later kk p4,cell_later kk p5,cell_later kk p6,cell_later kk p7,cell_later kk p8,cell_later kk p9,cell_later kk p10⟩);have HAT:=lH hat;have HPB:=lH (List.mem_of_getElem? hn);go_upto_region 5 with fail
  clear hat hn hd hb p0 p1 p2 p3 p4 p5 p6 p7 p8 p9 p10 sq0 sq1 sq2;have J:=lH (Kept.drew w2);refine wp_region_held_drew (S:=fun W=>W.cell? ⟨w.heap.size,0,none⟩=some (.slice sa1 sl1 sc1)∧W.cell? ⟨w.heap.size,1,none⟩=some (.slice (some ⟨b9,off9,none⟩) sl2 sc2)∧W.cell? ⟨w.heap.size,2,none⟩=some (.slice sa3 sl3 sc3)∧W.cell? ⟨b9,off9+k1*11,none⟩=some (.string pp.name)∧W.cell? ⟨b9,off9+k1*11+1,none⟩=some (.string pp.owner)∧W.cell? ⟨b9,off9+k1*11+2,none⟩=some (.int .i64 pp.prio)∧W.cell? ⟨b9,off9+k1*11+3,none⟩=some (.slice a1 m1 c1)∧W.cell? ⟨b9,off9+k1*11+4,none⟩=some (.slice a2 m2 c2)∧W.cell? ⟨b9,off9+k1*11+5,none⟩=some (.slice a3 m3 c3)∧W.cell? ⟨b9,off9+k1*11+6,none⟩=some (.slice a4 m4 c4)∧W.cell? ⟨b9,off9+k1*11+7,none⟩=some (.string pp.key)∧W.cell? ⟨b9,off9+k1*11+8,none⟩=some (.int .i64 pp.most)∧W.cell? ⟨b9,off9+k1*11+9,none⟩=some (.string pp.node)∧W.cell? ⟨b9,off9+k1*11+10,none⟩=some (.bool pp.hold)) (by kernel_rfl) (HF.out _ J.out) (fun hHeld=>?_);obtain⟨wd,hwd⟩:∃W,w2.drew=W:=⟨_,rfl⟩
  rw[hwd] at J hHeld;try rw[hwd]
  clear hwd;refine tkI 0 ?_;refine tkI 1 ?_;refine tkI 2 ?_;refine tkI 3 ?_;refine tkI 4 ?_;refine tkI 5 ?_;refine tkI 6 ?_;refine tkI 7 ?_;refine tkI 8 ?_;refine tkI 9 ?_;try simp only[nP]
  refine rd1 10 fun K9 hK9=>?_;go_simp;refine hK9.out _ _ (HF.out _ (J.out.trans (ja _ _))) (fun hHeldA=>?_);clear hK9 K9;try simp only[nP]
  refine rd1 11 fun K9 hK9=>?_;go_simp;refine hK9.out _ _ (HF.out _ (J.out.trans (ja _ _))) (fun hHeldB=>?_);clear hK9 K9;try simp only[nP]
  obtain⟨w3,hw3⟩:∃W,wd.alloc (.cells #[.string pp.name,.string pp.owner,.int .i64 pp.prio,.slice a1 m1 c1,.slice a2 m2 c2,.slice a3 m3 c3,.slice a4 m4 c4,.string pp.key,.int .i64 pp.most,.string pp.node,.bool pp.hold] 35)=W:=⟨_,rfl⟩
  have kk:Kept wd w3:=by rw[←hw3];exact ja _ _
  have HPC:=lH (show jg wd.heap.size [.string pp.name,.string pp.owner,.int .i64 pp.prio,.slice a1 m1 c1,.slice a2 m2 c2,.slice a3 m3 c3,.slice a4 m4 c4,.string pp.key,.int .i64 pp.most,.string pp.node,.bool pp.hold] w3 from jf wd (.string pp.name) [.string pp.owner,.int .i64 pp.prio,.slice a1 m1 c1,.slice a2 m2 c2,.slice a3 m3 c3,.slice a4 m4 c4,.string pp.key,.int .i64 pp.most,.string pp.node,.bool pp.hold] 35 w3 (by rw[hw3];exact Kept.refl _));have hsz:w2.heap.size≤wd.heap.size:=J.out.size;have J:=lH (J.out.trans kk);try rw[hw3]
  clear hw3 kk;refine wpAnyH_done (by kernel_rfl) ?_ _;obtain⟨bq,hbq⟩:∃b,wd.heap.size=b:=⟨_,rfl⟩
  rw[hbq] at HPC hsz;try rw[hbq]
  clear hbq;have y7:=HPC.out.at_ 7 _ rfl;have y8:=HPC.out.at_ 8 _ rfl;have f7:=HPC.out.free 7;have f8:=HPC.out.free 8;have HP2:=lH ((HPC.out.set (j:=7) (u:=.string ⟨#[122,111,110,101]⟩) (by simp)).set (j:=8) (u:=.int .i64 1) (by simp));obtain⟨w4,hw4⟩:∃W,(w3.setCell ⟨bq,7,none⟩ (.string ⟨#[122,111,110,101]⟩)).setCell ⟨bq,8,none⟩ (.int .i64 1)=W:=⟨_,rfl⟩
  rw[hw4] at HP2;have kk:Kept w2 w4:=by rw[←hw4];exact YU (YU J.out hsz _) hsz _
  have HQS:=lH (HQS.out.kept kk);have HS:=lH (HS.out.kept kk);have HNA:=lH (HNA.out.kept kk);have HPA:=lH (HPA.out.kept kk);have K:=lH (K.out.trans kk);clear kk;have sq0:=HQS.out.at_ 0 _ rfl;have sq1:=HQS.out.at_ 1 _ rfl;have sq2:=HQS.out.at_ 2 _ rfl;go_wp2_with fail
  try rw[hw4]
  clear hw4 y7 y8 f7 f8 hsz sq0 sq1 sq2;refine(J9 sa1 (some ⟨b9,off9,none⟩) sa3 sl1 sc1 sl2 sc2 sl3 sc3 s.nodes zg w4 HNA.out (by omega)).mono ?_;rintro e w5 ⟨v9,rfl,hr,kk⟩;have HQS:=lH (HQS.out.kept kk);have HS:=lH (HS.out.kept kk);have HNA:=lH (HNA.out.kept kk);have HPA:=lH (HPA.out.kept kk);have K:=lH (K.out.trans kk);have HP2:=lH (HP2.out.kept kk);clear kk;obtain⟨da,dc,rfl,-,-,hrow⟩:=hr;obtain⟨dl,hdl⟩:∃q,(zu zg s.nodes).length=q:=⟨_,rfl⟩
  rw[hdl] at hrow;try rw[hdl]
  have HDL:=lH hdl;have HDR:=lH hrow;have hdlm:=hrow.2.1;unfold maxLen at hdlm;clear hdl hrow;have HF2:=lH (show ∀W,Kept w5 W→W.cell? ⟨w.heap.size,0,none⟩=some (.slice sa1 sl1 sc1)∧W.cell? ⟨w.heap.size,1,none⟩=some (.slice (some ⟨b9,off9,none⟩) sl2 sc2)∧W.cell? ⟨w.heap.size,2,none⟩=some (.slice sa3 sl3 sc3)∧W.cell? ⟨bq,0,none⟩=some (.string pp.name)∧W.cell? ⟨bq,1,none⟩=some (.string pp.owner)∧W.cell? ⟨bq,2,none⟩=some (.int .i64 pp.prio)∧W.cell? ⟨bq,3,none⟩=some (.slice a1 m1 c1)∧W.cell? ⟨bq,4,none⟩=some (.slice a2 m2 c2)∧W.cell? ⟨bq,5,none⟩=some (.slice a3 m3 c3)∧W.cell? ⟨bq,6,none⟩=some (.slice a4 m4 c4)∧W.cell? ⟨bq,7,none⟩=some (.string ⟨#[122,111,110,101]⟩)∧W.cell? ⟨bq,8,none⟩=some (.int .i64 1)∧W.cell? ⟨bq,9,none⟩=some (.string pp.node)∧W.cell? ⟨bq,10,none⟩=some (.bool pp.hold) from fun W kk=>by
   have h:=HQS.out.kept kk;have p:=HP2.out.kept kk;exact⟨h.at_ 0 _ rfl,h.at_ 1 _ rfl,h.at_ 2 _ rfl,p.at_ 0 _ rfl,p.at_ 1 _ rfl,p.at_ 2 _ rfl,p.at_ 3 _ rfl,p.at_ 4 _ rfl,p.at_ 5 _ rfl,p.at_ 6 _ rfl,p.at_ 7 _ rfl,p.at_ 8 _ rfl,p.at_ 9 _ rfl,p.at_ 10 _ rfl⟩)
  have HCT:=lH (show ∀W,Kept w5 W→∀d:ByteArray,d.size≤maxLen→Calls Try.prog 17 #[.agg #[.slice sa1 sl1 sc1,.slice (some ⟨b9,off9,none⟩) sl2 sc2,.slice sa3 sl3 sc3],.agg #[.string pp.name,.string pp.owner,.int .i64 pp.prio,.slice a1 m1 c1,.slice a2 m2 c2,.slice a3 m3 c3,.slice a4 m4 c4,.string ⟨#[122,111,110,101]⟩,.int .i64 1,.string pp.node,.bool pp.hold],.string d] W (Say (.int .i64 (inD (jl pp) s.pods d s.nodes:Int)) W) from fun W kk d hd=>ZB sa1 (some ⟨b9,off9,none⟩) sa3 a1 a2 a3 a4 sl1 sc1 sl2 sc2 sl3 sc3 m1 c1 m2 c2 m3 c3 m4 c4 (jl pp) s d W hd (HNA.out.kept kk) (HPA.out.kept kk) (by omega) (by omega));have HSK:=lH (show ∀W,Kept w5 W→∀x:ByteArray,Calls Try.prog 12 #[.agg #[.slice sa1 sl1 sc1,.slice (some ⟨b9,off9,none⟩) sl2 sc2,.slice sa3 sl3 sc3],.agg #[.string pp.name,.string pp.owner,.int .i64 pp.prio,.slice a1 m1 c1,.slice a2 m2 c2,.slice a3 m3 c3,.slice a4 m4 c4,.string ⟨#[122,111,110,101]⟩,.int .i64 1,.string pp.node,.bool pp.hold],.string x] W (Say (.tuple #[.int .i64 (jN (jl pp) s x).1,.bool (jN (jl pp) s x).2]) W) from fun W kk x=>Ju sa1 (some ⟨b9,off9,none⟩) sa3 a1 a2 a3 a4 sl1 sc1 sl2 sc2 sl3 sc3 m1 c1 m2 c2 m3 c3 m4 c4 (jl pp) s x W (HNA.out.kept kk) (HPA.out.kept kk) (by omega) (by omega));have HSA:=lH (show jY (jl pp) s.pods s.nodes (zu zg s.nodes)=jT (jl pp) s.nodes s.pods from jb9 HAN.out (jl pp));have HWB:=lH (show jT (jl pp) s.nodes s.pods≤1000 by have h3:=Z7 (jl pp) s.nodes s.pods;rw[HL2.out] at h3;omega);go_wp2;go_loopw [6,8] (fun nv iv wr=>∃i:Nat,i≤dl∧iv=.int .i64 i∧∃c:Nat,jY (jl pp) s.pods s.nodes ((zu zg s.nodes).take i)=c∧nv=.int .i64 c∧Kept w5 wr) (fun _ iv _=>dl-(intOf iv).toNat)
  case atStart=>exact⟨0,Nat.zero_le _,rfl,0,rfl,rfl,Kept.refl _⟩
  case round =>
   obtain⟨i,hi9,rfl,c,hc,rfl,hK⟩:=hrel;have HK:=lH hK;have HC:=lH hc;have hcb:c≤1000:=by have:=qG (p:=jl pp) (pods:=s.pods) (nodes:=s.nodes) (zu zg s.nodes) i;have h2:=HSA.out;have h3:=HWB.out;omega
   obtain⟨y0,y1,y2,y3,y4,y5,y6,y7,y8,y9,y10,y11,y12,y13⟩:=HF2.out _ hK;by_cases hlt:i<dl
   · obtain⟨gd,od,rfl⟩:=HDR.out.form.resolve_left (by omega);obtain⟨x,hx,hxd,hxb,hxs,cx⟩:=(HDR.out.kept hK).str hlt;have HXI:=lH hx;have HXS:=lH hxs;have hii:(i:Int)<(dl:Int):=by omega
     have hi0:¬(i:Int)<0:=by omega
     clear hx hxd hxb hxs hc hK;go_upto_region 12 with fail
     go_cut [58] from 45 to 57 (fun t wy=>t=.bool false∧Kept wr wy)
     case first =>
      by_cases h0:i=0
      · have hd:decide (0<i)=false:=by subst h0;decide
        have h0i:¬0<i:=by omega
        clear h0;go_wp2;go_quiet (fail)
        go_wp2;go_meet
        case rel=>exact⟨rfl,Kept.drewN _ _⟩
      · obtain⟨q,rfl⟩:∃q,i=q+1:=⟨i-1,by omega⟩
        obtain⟨y,hy,_,_,_,cy⟩:=(HDR.out.kept HK.out).str (k:=q) (by omega);have hl2:ltS y x=true:=by
         have h2:=List.pairwise_iff_getElem.1 (Xf zg s.nodes) q (q+1) (List.getElem?_eq_some_iff.1 hy).1 (List.getElem?_eq_some_iff.1 HXI.out).1 (by omega);rw[(List.getElem?_eq_some_iff.1 hy).2,(List.getElem?_eq_some_iff.1 HXI.out).2] at h2;exact h2
        have hle:(Op.bytesLess x.toList y.toList||x.toList==y.toList)=false:=by
         have e1:ltS x y=false:=Bool.eq_false_iff.2 fun g=>JX (Vec.zr g hl2) rfl;have e2:eqS x y=false:=Bool.eq_false_iff.2 fun g=>JX hl2 (jA.1 g).symm;show (ltS x y||eqS x y)=false;rw[e1,e2];rfl
        have hd:decide (0<q+1)=true:=by simp
        have hsub:((q+1:Nat):Int)-1=(q:Int):=by omega
        have hsw:IntKind.i64.wrap (q:Int)=(q:Int):=IntWalk.i64_in _ (by omega);have hq0:¬(q:Int)<0:=by omega
        have hql:(q:Int)<(dl:Int):=by omega
        go_wp2;go_quiet (fail)
        go_wp2;go_meet
        case rel=>exact⟨rfl,Kept.drewN _ _⟩
     case rest =>
      obtain⟨rfl,hky⟩:=hcut;have HKY:=lH (HK.out.trans hky);have hcx:=cell_later hky cx;clear y0 y1 y2 y3 y4 y5 y6 y7 y8 y9 y10 y11 y12 y13 cx hky;have HF3:=lH (show ∀W,Kept wc W→W.cell? ⟨w.heap.size,0,none⟩=some (.slice sa1 sl1 sc1)∧W.cell? ⟨w.heap.size,1,none⟩=some (.slice (some ⟨b9,off9,none⟩) sl2 sc2)∧W.cell? ⟨w.heap.size,2,none⟩=some (.slice sa3 sl3 sc3)∧W.cell? ⟨bq,0,none⟩=some (.string pp.name)∧W.cell? ⟨bq,1,none⟩=some (.string pp.owner)∧W.cell? ⟨bq,2,none⟩=some (.int .i64 pp.prio)∧W.cell? ⟨bq,3,none⟩=some (.slice a1 m1 c1)∧W.cell? ⟨bq,4,none⟩=some (.slice a2 m2 c2)∧W.cell? ⟨bq,5,none⟩=some (.slice a3 m3 c3)∧W.cell? ⟨bq,6,none⟩=some (.slice a4 m4 c4)∧W.cell? ⟨bq,7,none⟩=some (.string ⟨#[122,111,110,101]⟩)∧W.cell? ⟨bq,8,none⟩=some (.int .i64 1)∧W.cell? ⟨bq,9,none⟩=some (.string pp.node)∧W.cell? ⟨bq,10,none⟩=some (.bool pp.hold)∧W.cell? ⟨gd,od+i,none⟩=some (.string x) from fun W kk=>by
       obtain⟨y0,y1,y2,y3,y4,y5,y6,y7,y8,y9,y10,y11,y12,y13⟩:=HF2.out _ (HKY.out.trans kk);exact⟨y0,y1,y2,y3,y4,y5,y6,y7,y8,y9,y10,y11,y12,y13,cell_later kk hcx⟩)
      clear hcx;obtain⟨z2,hz2⟩:∃z,inD (jl pp) s.pods x s.nodes=z:=⟨_,rfl⟩
      have HE:=lH (show jY (jl pp) s.pods s.nodes ((zu zg s.nodes).take (i+1))=c+z2 by rw[jbA HXI.out,HC.out,hz2]);have hcc:c+z2≤1000:=by have:=qG (p:=jl pp) (pods:=s.pods) (nodes:=s.nodes) (zu zg s.nodes) (i+1);have h1:=HE.out;have h2:=HSA.out;have h3:=HWB.out;omega
      have HCX:=lH (fun (W:World) (kk:Kept w5 W)=>HCT.out W kk x HXS.out);rw[hz2] at HCX;clear hz2;obtain⟨z3,hz3⟩:∃z,c+z2=z:=⟨_,rfl⟩
      have hadd:(c:Int)+(z2:Int)=(z3:Int):=by omega
      have haw:IntKind.i64.wrap (z3:Int)=(z3:Int):=IntWalk.i64_in _ (by omega);rw[hz3] at HE;clear hz3 hcc;go_upto_region 14 with fail
      have J:=lH (Kept.drew wc);refine wp_region_held_drew (S:=fun W=>W.cell? ⟨w.heap.size,0,none⟩=some (.slice sa1 sl1 sc1)∧W.cell? ⟨w.heap.size,1,none⟩=some (.slice (some ⟨b9,off9,none⟩) sl2 sc2)∧W.cell? ⟨w.heap.size,2,none⟩=some (.slice sa3 sl3 sc3)∧W.cell? ⟨bq,0,none⟩=some (.string pp.name)∧W.cell? ⟨bq,1,none⟩=some (.string pp.owner)∧W.cell? ⟨bq,2,none⟩=some (.int .i64 pp.prio)∧W.cell? ⟨bq,3,none⟩=some (.slice a1 m1 c1)∧W.cell? ⟨bq,4,none⟩=some (.slice a2 m2 c2)∧W.cell? ⟨bq,5,none⟩=some (.slice a3 m3 c3)∧W.cell? ⟨bq,6,none⟩=some (.slice a4 m4 c4)∧W.cell? ⟨bq,7,none⟩=some (.string ⟨#[122,111,110,101]⟩)∧W.cell? ⟨bq,8,none⟩=some (.int .i64 1)∧W.cell? ⟨bq,9,none⟩=some (.string pp.node)∧W.cell? ⟨bq,10,none⟩=some (.bool pp.hold)∧W.cell? ⟨gd,od+i,none⟩=some (.string x)) (by kernel_rfl) (HF3.out _ J.out) (fun hHeld=>?_);obtain⟨wd,hwd⟩:∃W,wc.drew=W:=⟨_,rfl⟩
      rw[hwd] at J hHeld;try rw[hwd]
      clear hwd;refine tkI 0 ?_;refine tkI 1 ?_;refine tkI 2 ?_;refine tkI 3 ?_;refine tkI 4 ?_;refine tkI 5 ?_;refine tkI 6 ?_;try simp only[nP]
      refine rd1 7 fun K9 hK9=>?_;go_simp;refine(HCX.out _ (HKY.out.trans J.out)).mono ?_;rintro e we ⟨rfl,kk⟩;have J:=lH (J.out.trans kk);clear kk;refine hK9.out _ _ (HF3.out _ J.out) (fun hHeld1=>?_);clear hK9 K9;try simp only[nP]
      refine tkI 8 ?_;refine tkI 9 ?_;try simp only[nP]
      refine wpAnyH_done (by kernel_rfl) ?_ _;go_wp2;go_roundw
      case rel=>exact⟨i+1,by omega,by go_num,z3,HE.out,rfl,HKY.out.trans J.out⟩
      case measure=>simp[intOf];omega
   · have hge:¬(i:Int)<(dl:Int):=by omega
     have HCE:=lH (show c=jT (jl pp) s.nodes s.pods by rw[←hc,List.take_of_length_le (by rw[HDL.out];omega),HSA.out]);clear hc hK;obtain⟨wv,rfl⟩:∃W,W=wr:=⟨_,rfl⟩
     go_wp2;clear y0 y1 y2 y3 y4 y5 y6 y7 y8 y9 y10 y11 y12 y13;go_loopw [9,10] (fun nv iv wr=>∃t:Nat,t≤sl2∧iv=.int .i64 t∧∃k:Nat,jT (jl pp) s.nodes (s.pods.take t)=k∧nv=.int .i64 k∧Kept w5 wr) (fun _ iv _=>sl2-(intOf iv).toNat)
     case atStart=>exact⟨0,Nat.zero_le _,rfl,0,rfl,rfl,HK.out⟩
     case round =>
      obtain⟨t,ht9,rfl,k,hk,rfl,hK⟩:=hrel;have HK2:=lH hK;have HKE:=lH hk;have hkb:k≤1000:=by
       have:=Z7 (jl pp) s.nodes (s.pods.take t);rw[hk,List.length_take] at this;omega
      obtain⟨y0,y1,y2,y3,y4,y5,y6,y7,y8,y9,y10,y11,y12,y13⟩:=HF2.out _ hK;by_cases hlt:t<sl2
      · skip;obtain⟨qq,ua1,um1,uc1,ua2,um2,uc2,ua3,um3,uc3,ua4,um4,uc4,hn,hd,hb,q0,q1,q2,q3,q4,q5,q6,q7,q8,q9,q10,hat⟩:=(HPA.out.kept hK).at_ hlt;have HPN:=lH hn;have hkk:(t:Int)<(sl2:Int):=by omega
        have hk0:¬(t:Int)<0:=by omega
        obtain⟨wx,hwx⟩:∃W,wr.alloc (.cells #[.string qq.name,.string qq.owner,.int .i64 qq.prio,.slice ua1 um1 uc1,.slice ua2 um2 uc2,.slice ua3 um3 uc3,.slice ua4 um4 uc4,.string qq.key,.int .i64 qq.most,.string qq.node,.bool qq.hold] 35)=W:=⟨_,rfl⟩
        have hkx:Kept wr wx:=by rw[←hwx];exact ja _ _
        have HQB:=lH (jf wr (.string qq.name) [.string qq.owner,.int .i64 qq.prio,.slice ua1 um1 uc1,.slice ua2 um2 uc2,.slice ua3 um3 uc3,.slice ua4 um4 uc4,.string qq.key,.int .i64 qq.most,.string qq.node,.bool qq.hold] 35 wx (by rw[hwx];exact Kept.refl _));obtain⟨b2,hb2q⟩:∃z,wr.heap.size=z:=⟨_,rfl⟩
        rw[hb2q] at HQB;have KX:=lH (HK2.out.trans hkx);go_upto_region 20 with fail
        try rw[hwx]
        try rw[hb2q]
        clear hwx hb2q hd hb hn hkx hk0 hkk hat hk hK q0 q1 q2 q3 q4 q5 q6 q7 q8 q9 q10 y0 y1 y2 y3 y4 y5 y6 y7 y8 y9 y10 y11 y12 y13;obtain⟨y0,y1,y2,y3,y4,y5,y6,y7,y8,y9,y10,y11,y12,y13⟩:=HF2.out _ KX.out;obtain⟨t4,h4⟩:∃t,qq.hold=t:=⟨_,rfl⟩
        rw[h4] at HQB;have r0:=HQB.out.at_ 0 _ rfl;have r1:=HQB.out.at_ 1 _ rfl;have r2:=HQB.out.at_ 2 _ rfl;have r3:=HQB.out.at_ 3 _ rfl;have r4:=HQB.out.at_ 4 _ rfl;have r5:=HQB.out.at_ 5 _ rfl;have r6:=HQB.out.at_ 6 _ rfl;have r7:=HQB.out.at_ 7 _ rfl;have r8:=HQB.out.at_ 8 _ rfl;have r9:=HQB.out.at_ 9 _ rfl;have r10:=HQB.out.at_ 10 _ rfl;obtain⟨t1,h1⟩:∃t,(qq.name.toList==pp.name.toList)=t:=⟨_,rfl⟩
        have T1:=lH (show eqS qq.name pp.name=t1 from h1);obtain⟨t2,h2⟩:∃t,(qq.owner.toList==pp.owner.toList)=t:=⟨_,rfl⟩
        have T2:=lH (show eqS qq.owner pp.owner=t2 from h2);obtain⟨t3,h3⟩:∃t,(qq.owner.toList==([]:List UInt8))=t:=⟨_,rfl⟩
        have T3:=lH (show j8 qq.owner=t3 by rw[zB,h3]);obtain⟨t5,h5⟩:∃t,(qq.node.toList==([]:List UInt8))=t:=⟨_,rfl⟩
        have T5:=lH (show j8 qq.node=t5 by rw[zB,h5]);have T4:=lH h4;clear h4
        cases t1 with
        | true =>
         have HW:=lH (show zk (jl pp) s.nodes qq=false by exact ZS (qB (jl pp) qq T1.out));have HE:=lH (show jT (jl pp) s.nodes (s.pods.take (t+1))=k by rw[zx HPN.out,HW.out,HKE.out];rfl);go_wp2;go_roundw
         case rel=>exact⟨t+1,by omega,by go_num,k,HE.out,rfl,KX.out⟩
         case measure=>simp[intOf];omega
        | false =>
         cases t2 with
         | false =>
          have HW:=lH (show zk (jl pp) s.nodes qq=false by exact ZS (by unfold jK;rw[show eqS qq.owner (jl pp).owner=false from T2.out];simp));have HE:=lH (show jT (jl pp) s.nodes (s.pods.take (t+1))=k by rw[zx HPN.out,HW.out,HKE.out];rfl);go_wp2;go_roundw
          case rel=>exact⟨t+1,by omega,by go_num,k,HE.out,rfl,KX.out⟩
          case measure=>simp[intOf];omega
         | true =>
          cases t3 with
          | true =>
           have HW:=lH (show zk (jl pp) s.nodes qq=false by exact ZS (by unfold jK;rw[show j8 (jl pp).owner=true by rw[show (jl pp).owner=qq.owner from(jA.1 T2.out).symm];exact T3.out];rfl));have HE:=lH (show jT (jl pp) s.nodes (s.pods.take (t+1))=k by rw[zx HPN.out,HW.out,HKE.out];rfl);go_wp2;go_roundw
           case rel=>exact⟨t+1,by omega,by go_num,k,HE.out,rfl,KX.out⟩
           case measure=>simp[intOf];omega
          | false =>
           cases t4 with
           | true =>
            have HW:=lH (show zk (jl pp) s.nodes qq=false by exact ZS (by unfold jK;rw[T4.out];simp));have HE:=lH (show jT (jl pp) s.nodes (s.pods.take (t+1))=k by rw[zx HPN.out,HW.out,HKE.out];rfl);go_wp2;go_roundw
            case rel=>exact⟨t+1,by omega,by go_num,k,HE.out,rfl,KX.out⟩
            case measure=>simp[intOf];omega
           | false =>
            cases t5 with
            | true =>
             have HW:=lH (show zk (jl pp) s.nodes qq=false by unfold zk;rw[ZY (jbE T5.out) (Yv HE1.out)];simp);have HE:=lH (show jT (jl pp) s.nodes (s.pods.take (t+1))=k by rw[zx HPN.out,HW.out,HKE.out];rfl);go_wp2;go_roundw
             case rel=>exact⟨t+1,by omega,by go_num,k,HE.out,rfl,KX.out⟩
             case measure=>simp[intOf];omega
            | false =>
             have HBS:=lH (show jK (jl pp) qq=true by unfold jK;rw[show j8 (jl pp).owner=false by rw[show (jl pp).owner=qq.owner from(jA.1 T2.out).symm];exact T3.out,show eqS qq.owner (jl pp).owner=true from T2.out,T4.out,show eqS qq.name (jl pp).name=false from T1.out];rfl);have HWS:=lH (jbi (p:=jl pp) (s:=s) (show j8 zg=false by kernel_rfl) HBS.out);have HSQ:=lH (HSK.out _ KX.out qq.node);obtain⟨z,hz⟩:∃z,(jN (jl pp) s qq.node).1=z:=⟨_,rfl⟩
             obtain⟨o,ho⟩:∃z,(jN (jl pp) s qq.node).2=z:=⟨_,rfl⟩
             rw[hz,ho] at HSQ;rw[ho] at HWS;clear hz ho;go_wp2_with fail
             refine HSQ.out.mono ?_;rintro e wy ⟨rfl,kk⟩;have KY:=lH (KX.out.trans kk);clear kk HSQ y0 y1 y2 y3 y4 y5 y6 y7 y8 y9 y10 y11 y12 y13 r0 r1 r2 r3 r4 r5 r6 r7 r8 r9 r10
             cases o with
             | false =>
              have HE:=lH (show jT (jl pp) s.nodes (s.pods.take (t+1))=k by rw[zx HPN.out,HWS.out,HKE.out];rfl);go_wp2;go_roundw
              case rel=>exact⟨t+1,by omega,by go_num,k,HE.out,rfl,KY.out⟩
              case measure=>simp[intOf];omega
             | true =>
              have HE:=lH (show jT (jl pp) s.nodes (s.pods.take (t+1))=k+1 by rw[zx HPN.out,HWS.out,HKE.out];rfl);go_wp2;go_roundw
              case rel=>exact⟨t+1,by omega,by go_num,k+1,HE.out,by go_num,KY.out⟩
              case measure=>simp[intOf];omega
      · have hge:¬(t:Int)<(sl2:Int):=by omega
        obtain rfl:k=c:=by rw[←hk,List.take_of_length_le (by rw[HL2.out];omega)];exact HCE.out.symm
        have HCZ:=HCT.out wr hK ⟨#[110,111,32,119,104,101,114,101]⟩ (by decide:(8:Nat)≤maxLen);rw[jaj HE1.out (jl pp) jc3] at HCZ;clear hk;go_wp2_with fail
        refine HCZ.mono ?_;clear HCZ;rintro e wz ⟨rfl,kk⟩;have KZ:=lH (HK2.out.trans kk);clear kk hK y0 y1 y2 y3 y4 y5 y6 y7 y8 y9 y10 y11 y12 y13;go_wp2;go_ret;exact⟨rfl,HKZ.out.trans (K.out.trans KZ.out)⟩
end Go.Proofs.Ytaikgabblipenaa
