/- What serves all packages,and package by package the contracts of the functions that the law calls. -/
import Derived.Test.YtokdjfoalkmhiaaG0
import Derived.Sort.KeysCollected
import Derived.Sort.MapsRangeIn
import Derived.Shelf.Spec.SlicesInsert
set_option linter.unusedVariables false
set_option maxRecDepth 100000
set_option maxHeartbeats 25600000
namespace Go.Proofs.Ytokdjfoalkmhiaa
open Go.RowKit
def DomRes (o:Option ByteArray) (w:World) (e:Ending) (w':World):Prop:=(∀d,o=some d→e=.returned (.string d))∧(o=none→e=.panicked [perr 3])∧Kept w w'
theorem DomRes.bad {o:Option ByteArray} {w w':World} (h:o=none) (k:Kept w w'):DomRes o w (.panicked [perr 3]) w':=⟨(fun d e=>by rw[h] at e;cases e),(fun _=>rfl),k⟩
theorem DomRes.good {o:Option ByteArray} {d:ByteArray} {w w':World} (h:o=some d) (k:Kept w w'):DomRes o w (.returned (.string d)) w':=⟨(fun c e=>by rw[h] at e;cases e;rfl),(fun e=>by rw[h] at e;cases e),k⟩
theorem valOf_any (a:Option Addr) (m c:Nat) (l:PL) (key:ByteArray) (w:World) (h:Reads PairLay w (.slice a m c) l):Calls Try.prog 31 #[.slice a m c,.string key] w (DomRes (getS l key) w):=by
 obtain⟨go,hgo⟩:=eX (getS l key)
 rw[hgo];have HG:=lH (getR h (x:=go.getD ByteArray.empty) (b:=go.isSome) (by unfold getT;rw[hgo]) (by unfold hasS;rw[hgo]));clear h hgo;go_enter Try.func31,Try.ntmps31;go_wp2_with fail
 refine HG.out.mono ?_;rintro e w1 ⟨rfl,kk⟩;have K:=lH kk;clear kk
 cases go with
 | none =>
  go_wp2;exact⟨rfl,DomRes.bad rfl K.out⟩
 | some d =>
  go_wp2;go_ret;exact DomRes.good rfl K.out
theorem domV_hit {key name:ByteArray} {n:Nod} {l:List Nod} (h:eqS n.name name=true):domV key name (n::l)=getS n.labels key:=by rw[domV,if_pos h]
theorem domV_miss {key name:ByteArray} {n:Nod} {l:List Nod} (h:eqS n.name name=false):domV key name (n::l)=domV key name l:=by rw[domV,if_neg (by rw[h];decide)]
theorem domainOf_any (s1 s2 s3:Option Addr) (n1 e1 n2 e2 n3 e3:Nat) (nodes:List Nod) (key name:ByteArray) (w:World) (hn:NodesAt w s1 n1 nodes) (hb1:n1≤100000) :
 Calls Try.prog 24 #[.agg #[.slice s1 n1 e1,.slice s2 n2 e2,.slice s3 n3 e3],.string key,.string name] w (DomRes (domV key name nodes) w):=by
 obtain⟨Z,hZ⟩:=eX (w.alloc (.cells #[.slice s1 n1 e1,.slice s2 n2 e2,.slice s3 n3 e3] 27))
 have hkz:Kept w Z:=by rw[←hZ];exact kept_alloc _ _
 obtain⟨HSB,HN,HNL,HKZ⟩:=lH4 (freshN w (.slice s1 n1 e1) [.slice s2 n2 e2,.slice s3 n3 e3] 27 Z (by rw[hZ];exact Kept.refl _)) hn hn.1 hkz;clear hn hkz;go_enter Try.func24,Try.ntmps24;have y0:=HSB.out.at_ 0 _ rfl;go_upto_region 1 with fail
 try rw[hZ]
 clear hZ;go_wp2;clear y0;go_loopw [12] (fun i wr=>∃k:Nat,k≤n1∧i=.int .i64 k∧domV key name (nodes.drop k)=domV key name nodes∧Kept Z wr) (fun i _=>n1-(intOf i).toNat)
 case atStart=>exact⟨0,Nat.zero_le _,rfl,rfl,Kept.refl _⟩
 case round =>
  obtain⟨k,hk,rfl,hR,hK⟩:=hrel;obtain⟨HR,HK,HKR⟩:=lH3 hR (HKZ.out.trans hK) hK;by_cases hlt:k<n1
  · obtain⟨g,off,rfl⟩:=HN.out.form.resolve_left (by omega);obtain⟨n,b1,k1,d1,b2,k2,d2,b3,k3,d3,hn,hd,hb,u0,u1,u2,u3,u4,hat⟩:=(HN.out.kept HK.out).at_ hlt;have HAT:=lH hat;have HD:=lH hd;have hkk:(k:Int)<(n1:Int):=by omega
    have hk0:¬(k:Int)<0:=by omega
    obtain⟨wx,hwx⟩:=eX (wr.alloc (.cells #[.string n.name,.slice b1 k1 d1,.slice b2 k2 d2,.slice b3 k3 d3,.bool n.cordon] 34))
    have hkx:Kept wr wx:=by rw[←hwx];exact kept_alloc _ _
    have HQB:=lH (freshN wr (.string n.name) [.slice b1 k1 d1,.slice b2 k2 d2,.slice b3 k3 d3,.bool n.cordon] 34 wx (by rw[hwx];exact Kept.refl _));obtain⟨bq,hbq⟩:=eX (wr.heap.size)
    rw[hbq] at HQB;have KX:=lH hkx;go_upto_region 4 with fail
    try rw[hwx]
    try rw[hbq]
    clear hwx hbq hd hb hn hR hK hkx hk0 hkk hat u0 u1 u2 u3 u4;have t0:=HQB.out.at_ 0 _ rfl;have t2:=HQB.out.at_ 2 _ rfl;obtain⟨t,ht⟩:=eX ((n.name.toList==name.toList))
    have HT:=lH (show eqS n.name name=t from ht)
    cases t with
    | false =>
     have HX:=lH (show domV key name (nodes.drop (k+1))=domV key name nodes by rw[←HR.out,HD.out,domV_miss HT.out]);go_wp2;go_roundw
     case rel=>exact⟨k+1,by omega,by go_num,HX.out,HKR.out.trans KX.out⟩
     case measure=>simp[intOf];omega
    | true =>
     have HX:=lH (show getS n.labels key=domV key name nodes by rw[←HR.out,HD.out,domV_hit HT.out]);go_wp2_with fail
     refine(valOf_any b2 k2 d2 n.labels key wx (HAT.out.labels.kept KX.out)).mono ?_;rintro e w3 ⟨h1,h2,kk⟩;have K3:=lH (HK.out.trans (KX.out.trans kk));clear kk;rw[HX.out] at h1 h2
     cases ho:domV key name nodes with
     | none =>
      obtain rfl:=h2 ho;have HO:=lH ho;clear h1 h2 ho;go_wp2;exact⟨rfl,DomRes.bad HO.out K3.out⟩
     | some d =>
      obtain rfl:=h1 d ho;have HO:=lH ho;clear h1 h2 ho;go_wp2;go_ret;exact DomRes.good HO.out K3.out
  · have hge:¬(k:Int)<(n1:Int):=by omega
    have HO:=lH (show domV key name nodes=none by rw[←HR.out,List.drop_of_length_le (by rw[HNL.out];omega)];rfl);clear hR hK;go_wp2;exact⟨rfl,DomRes.bad HO.out HK.out⟩
theorem beside_any (p q:Pd) (a1 a2 a3 a4 b1 b2 b3 b4:Option Addr) (m1 c1 m2 c2 m3 c3 m4 c4 k1 d1 k2 d2 k3 d3 k4 d4:Nat) (w:World):Calls Try.prog 28 #[PodV p (.slice a1 m1 c1) (.slice a2 m2 c2) (.slice a3 m3 c3) (.slice a4 m4 c4),PodV q (.slice b1 k1 d1) (.slice b2 k2 d2) (.slice b3 k3 d3) (.slice b4 k4 d4)] w (Say (.bool (besideB p q)) w):=by
 obtain⟨Z,hZ⟩:=eX ((w.alloc (.cells #[.string p.name,.string p.owner,.int .i64 p.prio,.slice a1 m1 c1,.slice a2 m2 c2,.slice a3 m3 c3,.slice a4 m4 c4,.string p.key,.int .i64 p.most,.string p.node,.bool p.hold] 41)).alloc (.cells #[.string q.name,.string q.owner,.int .i64 q.prio,.slice b1 k1 d1,.slice b2 k2 d2,.slice b3 k3 d3,.slice b4 k4 d4,.string q.key,.int .i64 q.most,.string q.node,.bool q.hold] 41))
 have hkz:Kept w Z:=by rw[←hZ];exact kept_two _ _ _
 have hp:=freshN w (.string p.name) [.string p.owner,.int .i64 p.prio,.slice a1 m1 c1,.slice a2 m2 c2,.slice a3 m3 c3,.slice a4 m4 c4,.string p.key,.int .i64 p.most,.string p.node,.bool p.hold] 41 Z (by rw[←hZ];exact kept_alloc _ _);have hq:CellsN (w.heap.size+1) [.string q.name,.string q.owner,.int .i64 q.prio,.slice b1 k1 d1,.slice b2 k2 d2,.slice b3 k3 d3,.slice b4 k4 d4,.string q.key,.int .i64 q.most,.string q.node,.bool q.hold] Z:=by
  have dd:=freshN (w.alloc (.cells #[.string p.name,.string p.owner,.int .i64 p.prio,.slice a1 m1 c1,.slice a2 m2 c2,.slice a3 m3 c3,.slice a4 m4 c4,.string p.key,.int .i64 p.most,.string p.node,.bool p.hold] 41)) (.string q.name) [.string q.owner,.int .i64 q.prio,.slice b1 k1 d1,.slice b2 k2 d2,.slice b3 k3 d3,.slice b4 k4 d4,.string q.key,.int .i64 q.most,.string q.node,.bool q.hold] 41 Z (by rw[hZ];exact Kept.refl _);rw[World.size_alloc] at dd;exact dd
 have p0:=hp.at_ 0 _ rfl;have p1:=hp.at_ 1 _ rfl;have q0:=hq.at_ 0 _ rfl;have q1:=hq.at_ 1 _ rfl;have q10:=hq.at_ 10 _ rfl;have HK:=lH hkz;obtain⟨t0,h0⟩:=eX ((p.owner.toList==([]:List UInt8)))
 obtain⟨t1,h1⟩:=eX ((q.owner.toList==p.owner.toList))
 obtain⟨t2,h2⟩:=eX ((q.name.toList==p.name.toList))
 obtain⟨t3,h3⟩:=eX (q.hold)
 have HV:=lH (show besideB p q=(!t0&&(t1&&(!t3&&!t2))) by unfold besideB eqS;rw[no_iff,h0,h1,h2,h3]);rw[h3] at q10;rw[h3] at hZ;clear hp hq hkz;unfold PodV;rw[h3];clear h3;go_enter Try.func28,Try.ntmps28
 cases t0 with
 | true =>
  go_wp2;try rw[hZ]
  go_ret;exact⟨ret_bool (by rw[HV.out];rfl),by first | exact HK.out | (rw[hZ];exact HK.out)⟩
 | false =>
  cases t1 with
  | false =>
   go_wp2;try rw[hZ]
   go_ret;exact⟨ret_bool (by rw[HV.out];rfl),by first | exact HK.out | (rw[hZ];exact HK.out)⟩
  | true =>
   cases t3 with
   | true =>
    go_wp2;try rw[hZ]
    go_ret;exact⟨ret_bool (by rw[HV.out];rfl),by first | exact HK.out | (rw[hZ];exact HK.out)⟩
   | false =>
    cases t2 with
    | true =>
     go_wp2;try rw[hZ]
     go_ret;exact⟨ret_bool (by rw[HV.out];rfl),by first | exact HK.out | (rw[hZ];exact HK.out)⟩
    | false =>
     go_wp2;try rw[hZ]
     go_ret;exact⟨ret_bool (by rw[HV.out];rfl),by first | exact HK.out | (rw[hZ];exact HK.out)⟩
open Go.RowKit Go.Maps Go.WideShapes Go.WideMaps
theorem mapLaw:Keyed Try.prog 9:=string_keyed Try.underlying9
theorem mapZero (w:World):(zeroValue 3).run Try.prog w=.ok (.int .i64 0) w:=by kernel_rfl
abbrev mk9 (x:ByteArray):Lit:=.string x.data.toList
theorem mk9_inj {x y:ByteArray} (h:mk9 x=mk9 y):x=y:=by
 injection h with h
 cases x;cases y
 simp only at h;congr 1
 exact Array.toList_inj.1 h
structure MapD (w:World) (b n:Nat) (D:DataW Unit) (f:ByteArray→Int) (dom:ByteArray→Bool):Prop where
 own:w.ownsMap Try.prog 9 (plainElem Try.prog 3) b n D
 at_:∀x,D.atKey (mk9 x) (.lit (.int .i64 0))=.lit (.int .i64 (f x))
 has:∀x,Maps.has D (mk9 x)=dom x
 map:IsMap D
def MapIs (w:World) (b n:Nat) (f:ByteArray→Int) (dom:ByteArray→Bool):Prop:=∃D:DataW Unit,MapD w b n D f dom
theorem MapIs.made (w:World):MapIs (w.alloc (.map #[] 0)) w.heap.size 0 (fun _=>0) (fun _=>false) :=
 ⟨.map [],World.ownsMap_made w _ _ _,fun _=>rfl,fun _=>rfl,isMap_empty⟩
theorem MapIs.block {w w':World} {b n:Nat} {f:ByteArray→Int} {dom:ByteArray→Bool} (h:MapIs w b n f dom) (hb:w'.heap[b]?=w.heap[b]?):MapIs w' b n f dom:=by
 obtain⟨D,⟨es,clock,h1,h2⟩,h3,h4,h5⟩:=h;exact⟨D,⟨es,clock,hb.trans h1,h2⟩,h3,h4,h5⟩
theorem MapIs.lt {w:World} {b n:Nat} {f:ByteArray→Int} {dom:ByteArray→Bool} (h:MapIs w b n f dom):b<w.heap.size:=by
 obtain⟨D,h,-⟩:=h;exact h.lt
theorem MapIs.kept {w w':World} {b n:Nat} {f:ByteArray→Int} {dom:ByteArray→Bool} (h:MapIs w b n f dom) (k:Kept w w'):MapIs w' b n f dom:=h.block (k.block b h.lt)
theorem MapIs.eq {w:World} {b n:Nat} {f g:ByteArray→Int} {dom dem:ByteArray→Bool} (h:MapIs w b n f dom) (hf:∀x,f x=g x) (hd:∀x,dom x=dem x):MapIs w b n g dem:=by
 obtain⟨D,h1,h2,h3,h4⟩:=h;exact⟨D,h1,fun x=>by rw[h2,hf],fun x=>by rw[h3,hd],h4⟩
theorem MapIs.look {w:World} {b n:Nat} {f:ByteArray→Int} {dom:ByteArray→Bool} (h:MapIs w b n f dom) (x:ByteArray) (hx:x.size≤maxLen):(Instr.lookup 60 (.map (some b)) (.string x) false).run Try.prog w=.ok (.int .i64 (f x)) w:=by
 obtain⟨D,h1,h2,h3,h4⟩:=h;obtain⟨c,hrun,hat,-⟩:=h1.lookup_int (t:=60) mapLaw Try.underlying60 Try.underlying3 (mapZero _) (keyOf_string_mk Try.underlying9 hx);rw[hrun];have:=(h2 x).symm.trans hat;injection this with this;injection this with _ this;rw[this]
theorem MapIs.put {w:World} {b n:Nat} {f:ByteArray→Int} {dom:ByteArray→Bool} (h:MapIs w b n f dom) (hn:n<maxLen) (x:ByteArray) (hx:x.size≤maxLen) (c:Int) (hc:-9223372036854775808≤c∧c≤9223372036854775807) :
 ∃w',(Instr.mapUpdate 60 (.map (some b)) (.string x) (.int .i64 c)).run Try.prog w=.ok () w'∧MapIs w' b (n+1) (fun y=>if y=x then c else f y) (fun y=>if y=x then true else dom y)∧GOff (fun i=>i=b) w w':=by
 obtain⟨D,h1,h2,h3,h4⟩:=h;obtain⟨w',hrun,ho,hg⟩:=h1.update (t:=60) mapLaw Try.underlying60 hn (keyOf_string_mk Try.underlying9 hx) (plainElem_int (H:=Unit) Try.underlying3 (WalkArith.wf_i64 hc));refine⟨w',hrun,⟨_,ho,fun y=>?_,fun y=>?_,h4.put _ _⟩,GOff.grown hg fun k e=>by cases e;rfl⟩
 · by_cases e:y=x
   · subst e;rw[if_pos rfl,atKey_put_same h4 (show WideAt.IsKeyLit (.string _) from trivial)]
   · rw[if_neg e,atKey_put_other (fun g=>e (mk9_inj g)),h2]
 · by_cases e:y=x
   · subst e;rw[if_pos rfl,has_put_same h4 (show WideAt.IsKeyLit (.string _) from trivial)]
   · rw[if_neg e,has_put_other (fun g=>e (mk9_inj g)),h3]
theorem MapIs.mono1 {w:World} {b n n':Nat} {f:ByteArray→Int} {dom:ByteArray→Bool} (h:MapIs w b n f dom) (hn:n≤n'):MapIs w b n' f dom:=by
 obtain⟨D,h1,h2,h3,h4⟩:=h;exact⟨D,h1.mono hn,h2,h3,h4⟩
theorem tally_any (s1 s2 s3 a1 a2 a3 a4:Option Addr) (n1 e1 n2 e2 n3 e3 m1 c1 m2 c2 m3 c3 m4 c4:Nat) (p:Pd) (nodes:List Nod) (pods:List Pd) (w:World) (hn:NodesAt w s1 n1 nodes) (hp:PodsAt w s2 n2 pods) (hb1:n1≤100000) (hb2:n2≤100000) :
 Calls Try.prog 18 #[.agg #[.slice s1 n1 e1,.slice s2 n2 e2,.slice s3 n3 e3],PodV p (.slice a1 m1 c1) (.slice a2 m2 c2) (.slice a3 m3 c3) (.slice a4 m4 c4)] w fun e w'=>∃b n,e=.returned (.map (some b))∧MapIs w' b n (fun d=>(inD p pods d nodes:Int)) (fun d=>hasD p.key d nodes)∧w.heap.size≤b∧n≤100000∧Kept w w':=by
 obtain⟨Z,hZ⟩:=eX ((w.alloc (.cells #[.slice s1 n1 e1,.slice s2 n2 e2,.slice s3 n3 e3] 27)).alloc (.cells #[.string p.name,.string p.owner,.int .i64 p.prio,.slice a1 m1 c1,.slice a2 m2 c2,.slice a3 m3 c3,.slice a4 m4 c4,.string p.key,.int .i64 p.most,.string p.node,.bool p.hold] 41))
 have hkz:Kept w Z:=by rw[←hZ];exact kept_two _ _ _
 have hzs:Z.heap.size=w.heap.size+2:=by rw[←hZ];simp
 have HSB:=lH (freshN w (.slice s1 n1 e1) [.slice s2 n2 e2,.slice s3 n3 e3] 27 Z (by rw[←hZ];exact kept_alloc _ _));have HPB:=lH (show CellsN (w.heap.size+1) [.string p.name,.string p.owner,.int .i64 p.prio,.slice a1 m1 c1,.slice a2 m2 c2,.slice a3 m3 c3,.slice a4 m4 c4,.string p.key,.int .i64 p.most,.string p.node,.bool p.hold] Z by
  have dd:=freshN (w.alloc (.cells #[.slice s1 n1 e1,.slice s2 n2 e2,.slice s3 n3 e3] 27)) (.string p.name) [.string p.owner,.int .i64 p.prio,.slice a1 m1 c1,.slice a2 m2 c2,.slice a3 m3 c3,.slice a4 m4 c4,.string p.key,.int .i64 p.most,.string p.node,.bool p.hold] 41 Z (by rw[hZ];exact Kept.refl _);rw[World.size_alloc] at dd;exact dd)
 obtain⟨Y,hY⟩:=eX (Z.alloc (.map #[] 0))
 have hky:Kept Z Y:=by rw[←hY];exact kept_alloc _ _
 obtain⟨HM0,HYS,HSB,HPB,HKY⟩:=lH5 (show MapIs Y Z.heap.size 0 (fun _=>0) (fun _=>false) by rw[←hY];exact MapIs.made Z) (show Y.heap.size=Z.heap.size+1 by rw[←hY,World.size_alloc]) (HSB.out.kept hky) (HPB.out.kept hky) (hkz.trans hky);obtain⟨mb,hmb⟩:=eX (Z.heap.size)
 rw[hmb] at HM0 HYS;obtain⟨HMB,HZS,HN,HP,HNL,HPL⟩:=lH6 (show w.heap.size+2≤mb by omega) hzs hn hp hn.1 hp.1;clear hn hp hkz hky hzs;have hmm:=@run_makeMap Try.prog;unfold PodV;go_enter Try.func18,Try.ntmps18;have y0:=HSB.out.at_ 0 _ rfl;have y1:=HSB.out.at_ 1 _ rfl;have z0:=(show CellsN w.heap.size _ Z from freshN w (.slice s1 n1 e1) [.slice s2 n2 e2,.slice s3 n3 e3] 27 Z (by rw[←hZ];exact kept_alloc _ _)).at_ 1 _ rfl;go_upto_region 2 with fail
 try rw[hZ]
 try rw[hY]
 try rw[hmb]
 clear hZ hY hmb hmm z0;go_wp2;clear y0 y1;skip;go_loopw [17] (fun i wr=>∃k:Nat,k≤n2∧i=.int .i64 k∧(∃dom,MapIs wr mb k (fun x=>(onN p x (pods.take k):Int)) dom)∧GOff (fun i=>i=mb) Y wr) (fun i _=>n2-(intOf i).toNat)
 case atStart=>exact⟨0,Nat.zero_le _,rfl,⟨_,HM0.out.eq (fun _=>rfl) (fun _=>rfl)⟩,GOff.of (Kept.refl _)⟩
 case round =>
  obtain⟨k,hk,rfl,⟨dom,hM⟩,hG⟩:=hrel;obtain⟨HM,HG,KW⟩:=lH3 hM hG (show Kept w wr from GOff.below HKY.out hG fun i e=>by have:=HMB.out;omega);by_cases hlt:k<n2
  · obtain⟨g,off,rfl⟩:=HP.out.form.resolve_left (by omega);obtain⟨q,b1,k1,d1,b2,k2,d2,b3,k3,d3,b4,k4,d4,hn,hd,hb,u0,u1,u2,u3,u4,u5,u6,u7,u8,u9,u10,hat⟩:=(HP.out.kept KW.out).at_ hlt;have HTK:=lH (show pods.take (k+1)=pods.take k++[q] by rw[List.take_add_one,hn];rfl);have HND:=lH hat.node;have hkk:(k:Int)<(n2:Int):=by omega
    have hk0:¬(k:Int)<0:=by omega
    obtain⟨wx,hwx⟩:=eX (wr.alloc (.cells #[.string q.name,.string q.owner,.int .i64 q.prio,.slice b1 k1 d1,.slice b2 k2 d2,.slice b3 k3 d3,.slice b4 k4 d4,.string q.key,.int .i64 q.most,.string q.node,.bool q.hold] 41))
    have hkx:Kept wr wx:=by rw[←hwx];exact kept_alloc _ _
    have HQB:=lH (freshN wr (.string q.name) [.string q.owner,.int .i64 q.prio,.slice b1 k1 d1,.slice b2 k2 d2,.slice b3 k3 d3,.slice b4 k4 d4,.string q.key,.int .i64 q.most,.string q.node,.bool q.hold] 41 wx (by rw[hwx];exact Kept.refl _));obtain⟨bq,hbq⟩:=eX (wr.heap.size)
    rw[hbq] at HQB;obtain⟨HBQ,HPB1,HMX,KX⟩:=lH4 (show mb<bq by rw[←hbq];have:=HYS.out;have:=hG.size;omega) ((HPB.out.block (hG.block _ (by have:=HPB.out.lt;exact this) (by have:=HMB.out;omega))).kept hkx) (hM.kept hkx) hkx;go_upto_region 5 with fail
    try rw[hwx]
    try rw[hbq]
    clear hwx hbq hd hb hat hM hG hkx hk0 hkk u0 u1 u2 u3 u4 u5 u6 u7 u8 u9 u10;obtain⟨r0,r1,r2,r3,r4,r5,r6,r7,r8,r9,r10⟩:=HPB1.out.at11;obtain⟨t0,t1,t2,t3,t4,t5,t6,t7,t8,t9,t10⟩:=HQB.out.at11;go_wp2_with fail
    refine(beside_any p q a1 a2 a3 a4 b1 b2 b3 b4 m1 c1 m2 c2 m3 c3 m4 c4 k1 d1 k2 d2 k3 d3 k4 d4 wx).mono ?_;rintro e w3 ⟨rfl,kk⟩;clear r0 t0 r1 t1 r2 t2 r3 t3 r4 t4 r5 t5 r6 t6 r7 t7 r8 t8 r9 t9 r10 t10;have HK3:=lH kk;have HM3:=lH (HMX.out.kept kk);have t9:=(HQB.out.kept kk).at_ 9 _ rfl;clear kk;obtain⟨bb,hbb⟩:=eX (besideB p q)
    have HBB:=lH hbb;rw[hbb];clear hbb
    cases bb with
    | false =>
     go_wp2;go_roundw
     case rel =>
      refine⟨k+1,by omega,by go_num,⟨dom,(HM3.out.mono1 (Nat.le_succ k)).eq (fun x=>?_) (fun _=>rfl)⟩,(HG.out.trans (GOff.of KX.out)).trans (GOff.of HK3.out)⟩;rw[HTK.out,onN_app];show ((onN p x (pods.take k):Nat):Int)=((onN p x (pods.take k)+((if besideB p q=true∧q.node=x then 1 else 0)+0):Nat):Int);rw[if_neg (by rw[HBB.out];simp)];rfl
     case measure=>simp[intOf];omega
    | true =>
     have hsz:onN p q.node (pods.take k)≤k:=Nat.le_trans (onN_le _ _ _) (by rw[List.length_take];omega);have hlook:=HM3.out.look q.node HND.out;obtain⟨v,hv⟩:=eX (onN p q.node (pods.take k))
     have HV:=lH hv;rw[hv] at hlook hsz;obtain⟨v1,hv1⟩:∃z:Nat,v+1=z:=⟨_,rfl⟩
     have hv2:(v:Int)+1=(v1:Int):=by omega
     have hv3:IntKind.i64.wrap (v1:Int)=(v1:Int):=IntWalk.i64_in _ (by omega);obtain⟨w4,hput,hM4,hG4⟩:=HM3.out.put (by unfold maxLen;omega) q.node HND.out (v1:Int) (by omega);obtain⟨HM4,HG4,HV1⟩:=lH3 hM4 hG4 hv1;clear hM4 hG4 hv hv1;go_wp2;go_roundw
     case rel =>
      refine⟨k+1,by omega,by go_num,⟨_,HM4.out.eq (fun x=>?_) (fun _=>rfl)⟩,((HG.out.trans (GOff.of KX.out)).trans (GOff.of HK3.out)).trans HG4.out⟩;rw[HTK.out,onN_app];show _=((onN p x (pods.take k)+((if besideB p q=true∧q.node=x then 1 else 0)+0):Nat):Int);by_cases hx:x=q.node
      · rw[if_pos hx,if_pos ⟨HBB.out,hx.symm⟩,hx,HV.out,←HV1.out]
      · rw[if_neg hx,if_neg (fun g=>hx g.2.symm)];rfl
     case measure=>simp[intOf];omega
  · have hge:¬(k:Int)<(n2:Int):=by omega
    have hM:=HM.out;rw[List.take_of_length_le (by rw[HPL.out];omega)] at hM;obtain⟨HM,HSB,HPB⟩:=lH3 hM (HSB.out.block (hG.block _ HSB.out.lt (by have:=HMB.out;omega))) (HPB.out.block (hG.block _ HPB.out.lt (by have:=HMB.out;omega)));obtain⟨X,hX⟩:=eX (wr.alloc (.map #[] 0))
    have hkx:Kept wr X:=by rw[←hX];exact kept_alloc _ _
    have HM0:=lH (show MapIs X wr.heap.size 0 (fun _=>0) (fun _=>false) by rw[←hX];exact MapIs.made wr);have HXS:=lH (show X.heap.size=wr.heap.size+1 by rw[←hX,World.size_alloc]);obtain⟨mc,hmc⟩:=eX (wr.heap.size)
    rw[hmc] at HM0 HXS;obtain⟨HMC,HM,HSB,HPB,KX⟩:=lH5 (show mb<mc by rw[←hmc];have:=HYS.out;have:=hG.size;omega) (HM.out.kept hkx) (HSB.out.kept hkx) (HPB.out.kept hkx) (KW.out.trans hkx);clear hM hG hkx;have hmm:=@run_makeMap Try.prog;go_upto_region 9 with fail
    try rw[hX]
    try rw[hmc]
    clear hX hmc hmm;have y0:=HSB.out.at_ 0 _ rfl;go_wp2;clear y0;go_loopw [34] (fun i wr=>∃k:Nat,k≤n1∧i=.int .i64 k∧MapIs wr mc k (fun d=>(inD p pods d (nodes.take k):Int)) (fun d=>hasD p.key d (nodes.take k))∧GOff (fun i=>i=mc) X wr) (fun i _=>n1-(intOf i).toNat)
    case atStart=>exact⟨0,Nat.zero_le _,rfl,HM0.out.eq (fun _=>rfl) (fun _=>rfl),GOff.of (Kept.refl _)⟩
    case round =>
     obtain⟨k,hk,rfl,hN,hG⟩:=hrel;obtain⟨HC,HG,KW⟩:=lH3 hN hG (show Kept w wr from GOff.below KX.out hG fun i e=>by have:=HMB.out;have:=HMC.out;omega);by_cases hlt:k<n1
     · obtain⟨g,off,rfl⟩:=HN.out.form.resolve_left (by omega);obtain⟨n,b1,k1,d1,b2,k2,d2,b3,k3,d3,hn,hd,hb,u0,u1,u2,u3,u4,hat⟩:=(HN.out.kept KW.out).at_ hlt;have HTK:=lH (show nodes.take (k+1)=nodes.take k++[n] by rw[List.take_add_one,hn];rfl);have HAT:=lH hat;have hkk:(k:Int)<(n1:Int):=by omega
       have hk0:¬(k:Int)<0:=by omega
       obtain⟨wx,hwx⟩:=eX (wr.alloc (.cells #[.string n.name,.slice b1 k1 d1,.slice b2 k2 d2,.slice b3 k3 d3,.bool n.cordon] 34))
       have hkx:Kept wr wx:=by rw[←hwx];exact kept_alloc _ _
       have HQB:=lH (freshN wr (.string n.name) [.slice b1 k1 d1,.slice b2 k2 d2,.slice b3 k3 d3,.bool n.cordon] 34 wx (by rw[hwx];exact Kept.refl _));obtain⟨bq,hbq⟩:=eX (wr.heap.size)
       rw[hbq] at HQB;obtain⟨HPB1,HC1,HM1,KX1⟩:=lH4 ((HPB.out.block (hG.block _ HPB.out.lt (by have:=HMB.out;have:=HMC.out;omega))).kept hkx) (hN.kept hkx) ((HM.out.block (hG.block _ HM.out.lt (by have:=HMC.out;omega))).kept hkx) hkx;go_upto_region 12 with fail
       try rw[hwx]
       try rw[hbq]
       clear hwx hbq hd hb hat hN hG hkx hk0 hkk u0 u1 u2 u3 u4;have r7:=HPB1.out.at_ 7 _ rfl;have t2:=HQB.out.at_ 2 _ rfl;obtain⟨go,hgo⟩:=eX (getS n.labels p.key)
       have HGO:=lH hgo;go_wp2_with fail
       refine(getR (HAT.out.labels.kept KX1.out) (x:=go.getD ByteArray.empty) (b:=go.isSome) (by unfold getT;rw[hgo]) (by unfold hasS;rw[hgo])).mono ?_;rintro e w3 ⟨rfl,kk⟩;obtain⟨HK3,HC3,HM3⟩:=lH3 kk (HC1.out.kept kk) (HM1.out.kept kk);have t0:=(HQB.out.kept kk).at_ 0 _ rfl;clear kk hgo r7 t2
       cases go with
       | none =>
        go_wp2;go_roundw
        case rel =>
         refine⟨k+1,by omega,by go_num,(HC3.out.mono1 (Nat.le_succ k)).eq (fun x=>?_) (fun x=>?_),(HG.out.trans (GOff.of KX1.out)).trans (GOff.of HK3.out)⟩
         · rw[HTK.out,inD_app];show ((inD p pods x (nodes.take k):Nat):Int)=((inD p pods x (nodes.take k)+((if getS n.labels p.key=some x then onN p n.name pods else 0)+0):Nat):Int);rw[if_neg (by rw[HGO.out];simp)];rfl
         · rw[HTK.out];unfold hasD;rw[List.any_append,List.any_cons,HGO.out];simp
        case measure=>simp[intOf];omega
       | some d =>
        have hds:d.size≤maxLen:=getS_size HAT.out.labels.fine HGO.out;have hb1a:inD p pods d (nodes.take k)≤100000*100000:=Nat.le_trans (inD_le _ _ _ _) (Nat.mul_le_mul (by rw[List.length_take];omega) (by rw[HPL.out];omega));have hb2a:onN p n.name pods≤100000:=Nat.le_trans (onN_le _ _ _) (by rw[HPL.out];omega);have hl1:=HC3.out.look d hds;have hl2:=HM3.out.look n.name HAT.out.size;obtain⟨x1,hx1⟩:=eX (inD p pods d (nodes.take k))
        obtain⟨x2,hx2⟩:=eX (onN p n.name pods)
        have HX1:=lH hx1;have HX2:=lH hx2;rw[hx1] at hl1 hb1a;rw[hx2] at hl2 hb2a;obtain⟨x3,hx3⟩:∃z:Nat,x1+x2=z:=⟨_,rfl⟩
        have hx4:(x1:Int)+(x2:Int)=(x3:Int):=by omega
        have hx5:IntKind.i64.wrap (x3:Int)=(x3:Int):=IntWalk.i64_in _ (by omega);obtain⟨w4,hput,hM4,hG4⟩:=HC3.out.put (by unfold maxLen;omega) d hds (x3:Int) (by omega);obtain⟨HM4,HG4,HX3⟩:=lH3 hM4 hG4 hx3;clear hM4 hG4 hx1 hx2 hx3;go_wp2;go_roundw
        case rel =>
         refine⟨k+1,by omega,by go_num,HM4.out.eq (fun x=>?_) (fun x=>?_),((HG.out.trans (GOff.of KX1.out)).trans (GOff.of HK3.out)).trans HG4.out⟩
         · rw[HTK.out,inD_app];show _=((inD p pods x (nodes.take k)+((if getS n.labels p.key=some x then onN p n.name pods else 0)+0):Nat):Int);by_cases hx:x=d
           · subst hx;rw[if_pos rfl,if_pos HGO.out,HX2.out,HX1.out,←HX3.out];rfl
           · rw[if_neg hx,if_neg (fun g=>hx (by rw[HGO.out] at g;exact(Option.some.inj g).symm))];rfl
         · rw[HTK.out];unfold hasD;rw[List.any_append,List.any_cons,HGO.out];by_cases hx:x=d
           · subst hx;simp
           · rw[if_neg hx];simp[show ¬d=x from fun e=>hx e.symm]
        case measure=>simp[intOf];omega
     · have hge:¬(k:Int)<(n1:Int):=by omega
       have hM:=HC.out;rw[List.take_of_length_le (by rw[HNL.out];omega)] at hM;have HC:=lH hM;clear hM hN hG;go_wp2;go_ret;exact⟨mc,rfl,k,HC.out,by have:=HMB.out;have:=HMC.out;omega,by omega,KW.out⟩
open Go.RowKit Go.Maps Go.Sort Go.Shelf Go.WideShapes
attribute [local go_sem] Oper.semAt_some
def VAt (D:DataW Unit) (p:List UInt8×Int):Prop:=∀zd,D.atKey (.string p.1) zd=.lit (.int .i64 p.2)
def VAll (D:DataW Unit) (ps:List (List UInt8×Int)):Prop:=(ps.map (·.1)).Perm (strKeys D)∧(∀x,x ∈ ps.map (·.1)↔has D (.string x)=true)∧∀p ∈ ps,VAt D p
def VPart (D:DataW Unit) (ps:List (List UInt8×Int)):Prop:=(ps.map (·.1)).Nodup∧(∀x ∈ ps.map (·.1),has D (.string x)=true)∧∀p ∈ ps,VAt D p
theorem mvalues1_in (F:Fence) (n:Nat) (h8:F.fn 33) (hro:F.round=none) (hn:1≤n) (l Bm b nn:Nat) (D0:DataW Unit) (J Jx:List Int→World→Prop)
 (hY:∀pre x W,J pre W→pre.length<Maps.size D0→YieldAt F (n-1) Try.prog l #[.int .i64 x] W fun e W' =>
   (e=.returned (.bool true)∧J (pre++[x]) W'∧KeepsWalks W W')∨(e=.returned (.bool false)∧Jx (pre++[x]) W'))
 (W:World) (hJ:AbidesFrom W.heap.size J) (hm:W.cell? ⟨Bm,0,none⟩=some (.map (some b))) (hown:W.ownsMap Try.prog 9 (plainElem Try.prog 3) b nn D0) (h0:J [] W) :
 CallsIn F n Try.prog 33 #[.func (.yield l) #[] #[],.pointer (some ⟨Bm,0,none⟩)] W fun e W'=>(∃v,e=.returned v) ∧
  ((∃xs,(∃ps,VAll D0 ps∧xs=ps.map (·.2))∧J xs W')∨(∃pre,(∃ps,VPart D0 ps∧pre=ps.map (·.2))∧Jx pre W')):=by
 refine callsIn_of_wp Try.func33 rfl h8 ?_ hro;simp only[Try.ntmps33,List.size_toArray,List.length_cons,List.length_nil,Nat.reduceAdd,Nat.reduceSub,Array.replicate_succ,Array.replicate_zero,List.push_toArray,List.append_toArray,List.nil_append,List.cons_append]
 gi_wp2_with (first
  | (gi_at_range;refine wpListIn_range_own _ rfl _ 60 rfl 9 3 mapLaw Try.underlying60 _ b nn _ rfl hown ?_;intro w0 hrg0 hg0 hs0)
  | gi_in)
 go_frame
 gi_loopw [4] (fun _ wr=>∃(left:Lit→Bool) (cnt:Nat) (ps:List (List UInt8×Int)),wr.ranges Try.prog 9 (plainElem Try.prog 3) b W.heap.size nn D0 left cnt∧ps.length+cnt≤Maps.size D0∧Collected D0 left (ps.map (·.1))∧(∀p ∈ ps,VAt D0 p)∧J (ps.map (·.2)) wr)
  (fun _ wr=>wr.rangeLeft b W.heap.size)
 case atStart =>
  exact⟨_,_,[],hrg0,by simp,Collected.start D0,by simp,hJ [] W w0 none h0 hg0 (fun r e=>by cases e)⟩
 case round =>
  obtain⟨left,cnt,ps,hrg,hcs,hC,hV,hJs⟩:=hrel
  gi_wp2_with (first
   | (gi_at_next;refine wpListIn_next_ranges _ rfl _ rfl 9 mapLaw (plainElem Try.prog 3) encStr (Value.int .i64) (fun key kl hk=>by obtain⟨x,hx,_⟩:=Maps.keyOf_str Try.underlying9 hk;exact⟨x,hx⟩) (fun v y hv=>by obtain⟨c,rfl,_⟩:=plainElem_int_inv Try.underlying3 hv;exact⟨c,rfl⟩) b W.heap.size nn _ _ _ rfl hrg ?_ ?_)
   | gi_in)
  · intro hc0 hl0;gi_wp2
    go_end0
    exact⟨⟨_,rfl⟩,.inl ⟨_,⟨ps,⟨hC.perm hown mapLaw Try.underlying9 hl0,fun x=>by rw[hC.2 x,hl0];simp,hV⟩,rfl⟩,hJs⟩⟩
  · intro x c kl yd yp w2 cnt2 hkey hlk hv hat hrg2 hlt hg2 hs2 hen;obtain⟨x',ex,rfl,_⟩:=Maps.keyOf_str Try.underlying9 hkey;obtain rfl:x=x':=encStr_inj ex;obtain⟨c',ec,ez,_⟩:=plainElem_int_inv Try.underlying3 hv;obtain rfl:c=c':=by simpa using ec
    obtain rfl:yd=.lit (.int .i64 c):=(Prod.mk.inj ez).1;have hJ2:J (ps.map (·.2)) w2:=hJ _ wr w2 (some W.heap.size) hJs hg2 (fun r e=>by cases e;exact⟨Nat.le_refl _,hrg.iter_walk⟩);obtain⟨fn,tmps,assign,body,hy,hR⟩:=hY (ps.map (·.2)) c w2 hJ2 (by simp;omega);clear hs2;gi_wp2
    refine hR.mono ?_;have hC2:Collected D0 (fun z=>left z&&!z.sameKey (.string x)) ((ps++[(x,c)]).map (·.1)):=by simpa using hC.step hlk hat
    have hV2:∀p ∈ ps++[(x,c)],VAt D0 p:=fun p hp=>(List.mem_append.1 hp).elim (hV p) (fun e=>by simp at e;subst e;exact hat);rintro e W3 (⟨rfl,hJ3,hk3⟩ | ⟨rfl,hJx3⟩)
    · gi_wp2
      have hrg3:=hrg2.of_walks hk3;go_roundw
      case rel=>exact⟨_,cnt2,ps++[(x,c)],hrg3,by simp;omega,hC2,hV2,by simpa using hJ3⟩
      case measure=>rw[hrg3.left_eq,hrg.left_eq];exact hlt
    · gi_wp2
      refine bodyPost_ret (results_none rfl _ _ _) rfl ?_;exact⟨⟨_,rfl⟩,.inr ⟨_,⟨ps++[(x,c)],⟨hC2.1,fun y hy=>((hC2.2 y).1 hy).1,hV2⟩,by simp⟩,hJx3⟩⟩
theorem mvalues_stops (F:Fence) (n:Nat) (h7:F.fn 33) (hro:F.round=none) (hn:1≤n) (Bm b nn:Nat) (D0:DataW Unit) (w:World) (hBm:Bm<w.heap.size)
 (hm:w.cell? ⟨Bm,0,none⟩=some (.map (some b))) (hown:w.ownsMap Try.prog 9 (plainElem Try.prog 3) b nn D0) :
 SeqStopsK F n Try.prog 33 #[.pointer (some ⟨Bm,0,none⟩)] (fun c:Int=>#[Value.int .i64 c]) KeepsWalks (fun xs=>∃ps,VAll D0 ps∧xs=ps.map (·.2)) (fun pre=>∃ps,VPart D0 ps∧pre=ps.map (·.2)) (Maps.size D0) w:=fun l J Jx W hW hJ _ hY h0=>by
 have hown':W.ownsMap Try.prog 9 (plainElem Try.prog 3) b nn D0:=by
  have hbl:=hown.lt;obtain⟨es,clock,hb,Ft,hs,hD⟩:=hown;exact⟨es,clock,(hW.block b hbl).trans hb,Ft,hs,hD⟩
 exact mvalues1_in F n h7 hro hn l Bm b nn D0 J Jx hY W hJ ((hW.cell (p:=⟨Bm,0,none⟩) hBm).trans hm) hown' h0
theorem mvalues_any (mb:Option Nat) (w:World) :
 Calls Try.prog 27 #[.map mb] w fun e w'=>e=.returned (.func (.func 33) #[] #[.pointer (some ⟨w.heap.size,0,none⟩)])∧w'=w.alloc (.cells #[.map mb] 60):=by
 have hmf:=hmfL (P:=Try.prog);go_enter Try.func27,Try.ntmps27;go_wp2;go_ret;exact⟨rfl,rfl⟩
theorem info_int9:(Try.prog.info? 3).map (fun i=>(i.zero,i.size,i.bytes))=some (some (.int .i64 0),1,8):=by kernel_rfl
theorem others_walks {W W':World} (h:KeepsOthers W W'):KeepsWalks W W':=⟨h.size,fun k o hk hw=>h.same k o hk (by cases o<;>first | rfl | cases hw)⟩
def OwnI (base:Nat) (W:World) (v:Value) (zs:List Int):Prop:=W.ownsRow base 3 1 v zs.length (zs.map (Value.int .i64))∧(v=.slice none 0 0↔zs=[])
theorem appendSeqI_in (F:Fence) (n:Nat) (h3:F.fn 32) (h5:F.fn 33) (hro:F.round=none) (hn:3≤n) (Bs b nn:Nat) (D0:DataW Unit) (hlen:Maps.size D0≤1000000) (w:World)
 (hBs:Bs<w.heap.size) (hcs:w.cell? ⟨Bs,0,none⟩=some (.map (some b))) (hown:w.ownsMap Try.prog 9 (plainElem Try.prog 3) b nn D0) :
 CallsIn F n Try.prog 32 #[.slice none 0 0,.func (.func 33) #[] #[.pointer (some ⟨Bs,0,none⟩)]] w fun e W'=>∃v xs,e=.returned v∧(∃ps,VAll D0 ps∧xs=ps.map (·.2))∧OwnI w.heap.size W' v xs∧Below w.heap.size w W':=by
 have h1:1≤n:=by omega
 obtain⟨i0,hi,hz0,hz1,hz2⟩:=info_parts info_int9;refine callsIn_of_wp_marks Try.func32 rfl h3 ?_ hro;simp only[Try.ntmps32,List.size_toArray,List.length_cons,List.length_nil,Nat.reduceAdd,Nat.reduceSub,Array.replicate_succ,Array.replicate_zero,List.push_toArray,List.append_toArray,List.nil_append,List.cons_append];gi_wp2
 have bO:=Boxed.new w 71 (.slice none 0 0);have hB0:Below w.heap.size w (w.alloc (.cells #[.slice none 0 0] 71)):=(Below.refl _ w).alloc (Nat.le_refl _) _;have hown0:(w.alloc (.cells #[.slice none 0 0] 71)).ownsMap Try.prog 9 (plainElem Try.prog 3) b nn D0:=by
  have hbl:=hown.lt;obtain⟨es,clock,hb,Ft,hs,hD⟩:=hown;exact⟨es,clock,(Below.heap_alloc _ _ b hbl).trans hb,Ft,hs,hD⟩
 refine wpIn_rangeFunc_ownG hro h1 (gf:=33) (lb:=#[.pointer (some ⟨Bs,0,none⟩)]) rfl h5 (enters_of Try.func33 (by kernel_rfl) rfl)
  (mvalues_stops F (n-1) h5 hro (by omega) Bs b nn D0 _ (by simp;omega) ((hB0.cell (p:=⟨Bs,0,none⟩) hBs).trans hcs) hown0) (fun h k=>h.trans k) (fun W l o o' _ h _ hw=>KeepsWalks.putObj o' h hw) (Below.refl _ _) (fun _=>rfl)
  (fun pre W=>(∃v,Boxed W w.heap.size 71 v∧W.ownsRow w.heap.size 3 1 v pre.length (pre.map (Value.int .i64))∧(v=.slice none 0 0↔pre=[]))∧Below w.heap.size w W)
  (fun _ _ _=>False)
  (OwnFrom.and (Own.from (holdsRow_own w.heap.size w.heap.size 71 3 1 (fun pre=>pre.length) (fun pre=>pre.map (Value.int .i64)) (fun pre v=>v=.slice none 0 0↔pre=[])) _) (ownFrom_below (Nat.le_refl _) (by simp)))
  (fun _ _ _ _ _ hs _ _=>hs)
  ⟨⟨_,bO,World.ownsRow_nil _ _ _ _,by simp⟩,hB0⟩
  (fun x=>{ tmps:=#[.slice none 0 0,.func (.func 33) #[] #[.pointer (some ⟨Bs,0,none⟩)],.pointer (some ⟨w.heap.size,0,none⟩),undef,.slice none 0 0,.int .i64 x,.func (.func 33) #[] #[.pointer (some ⟨Bs,0,none⟩)],.int .i64 x,undef,undef,undef,undef,undef],defers:=[] }) ?assign ?body ?done ?stop
 case assign =>
  intro l x W K hK;gi_wp2
  exact hK
 case body =>
  rintro l pre x W ⟨⟨v,hv,hrow,hnil⟩,hB⟩ hlt;have hc:=hv.cell;gi_wp2_with (gi_at_builtin;refine wpListIn_append_own _ rfl _ _ 71 rfl w.heap.size 3 i0 (.int .i64 0) 1 8 Try.underlying71 hi hz0 hz1 hz2 rfl (by decide) _ _ _ rfl (hrow.alloc _) ⟨W.heap.size,0,none⟩ 1 1 [.int .i64 x] rfl rfl (cell_one_new _ _ _) (by simp[Value.oneCell']) (by unfold maxLen;omega) (by omega) (by have:=hB.size;simp;omega) ?_;intro v' w1 hown' hgrow _;obtain⟨g',cap',rfl⟩:=ownsRow_succ hown';obtain⟨hv1,hv2,hr2,hk2,hb2⟩:=hv.appended (by decide) hrow hB.size (Nat.le_refl _) hown' hgrow;have hc1:=hv1.cell;have hf1:=hv1.frozen)
  exact⟨hk2.from _,others_walks hk2,⟨_,hv2,by simpa using hr2,by simp⟩,hB.trans hb2⟩
 case done =>
  rintro D ys W hD hS ⟨⟨v,hv,hrow,hnil⟩,hB⟩ hK;have hc:=hv.cell;gi_wp2
  refine⟨by simp,.inl ⟨_,_,rfl,run_takeDeferred hK,?_⟩⟩;exact⟨_,results_tmp rfl _ _ _,v,ys,rfl,hS,⟨ownsRow_putObj hrow _ hK rfl,hnil⟩,hB.trans (belowK_b (w:=w) (Nat.le_refl _) W D _ _ (by simp at hD;omega) hK rfl rfl)⟩
 case stop =>
  rintro D c pre W _ _ h _;exact h.elim
theorem collectI_any (Bs b nn:Nat) (f:ByteArray→Int) (dom:ByteArray→Bool) (w:World) (hn:nn≤1000000) (hBs:Bs<w.heap.size) (hcs:w.cell? ⟨Bs,0,none⟩=some (.map (some b))) (h:MapIs w b nn f dom) :
 Calls Try.prog 26 #[.func (.func 33) #[] #[.pointer (some ⟨Bs,0,none⟩)]] w fun e w'=>∃v zs,e=.returned v∧OwnI w.heap.size w' v zs∧(∀x,dom x=true→f x ∈ zs)∧(∀z ∈ zs,∃x,dom x=true∧z=f x)∧zs.length≤1000000∧Kept w w':=by
 obtain⟨D,h1,h2,h3,h4⟩:=h;have hsz:Maps.size D≤1000000:=Nat.le_trans h1.size_le hn;have HA:=lH (appendSeqI_in Fence.wide 3 trivial trivial rfl (by omega) Bs b nn D hsz w hBs hcs h1);have HC:=lH (show Calls Try.prog 32 #[.slice none 0 0,.func (.func 33) #[] #[.pointer (some ⟨Bs,0,none⟩)]] w _ from callsIn_wide.1 HA.out);clear h1 hcs;go_enter Try.func26,Try.ntmps26;go_wp2_with fail
 refine HC.out.mono ?_;rintro e w1 ⟨v,xs,rfl,⟨ps,hps,rfl⟩,ho,hb⟩;obtain⟨HO,HB,HP⟩:=lH3 ho hb hps;clear ho hb hps;have key:∀y:List UInt8,(⟨⟨y⟩⟩:ByteArray).data.toList=y:=fun _=>rfl;have hl:(ps.map (·.2)).length≤1000000:=by
  rw[List.length_map];have h5:ps.length=(strKeys D).length:=by rw[←HP.out.1.length_eq,List.length_map]
  have h6:(strKeys D).length≤Maps.size D:=by
   cases D<;>first | exact Nat.zero_le _ | (show (List.filterMap _ _).length≤_;exact List.length_filterMap_le _ _) | simp[strKeys,Maps.size]
  omega
 go_wp2;go_ret;refine⟨v,_,rfl,HO.out,fun x hx=>?_,fun z hz=>?_,hl,HB.out⟩
 · have hm:=(HP.out.2.1 x.data.toList).2 ((h3 x).trans hx);obtain⟨p,hp,e⟩:=List.mem_map.1 hm;have hv:=HP.out.2.2 p hp (.lit (.int .i64 0));rw[e] at hv;have:=(h2 x).symm.trans hv;injection this with this;injection this with _ this;exact List.mem_map.2 ⟨p,hp,this.symm⟩
 · obtain⟨p,hp,rfl⟩:=List.mem_map.1 hz;refine⟨⟨⟨p.1⟩⟩,?_,?_⟩
   · rw[←h3];exact(HP.out.2.1 p.1).1 (List.mem_map_of_mem hp)
   · have hv:=HP.out.2.2 p hp (.lit (.int .i64 0));have:=(h2 ⟨⟨p.1⟩⟩).symm.trans hv;injection this with this;injection this with _ this;exact this.symm
end Go.Proofs.Ytokdjfoalkmhiaa
namespace Go.Proofs.Ytokdjfoalkmhiaa
open Go.RowKit
theorem OwnI.cells {base:Nat} {W:World} {v:Value} {zs:List Int} (h:OwnI base W v zs) (h0:zs≠[]):∃g cap,v=.slice (some ⟨g,0,none⟩) zs.length cap∧∀j,j<zs.length→W.cell? ⟨g,0+j,none⟩=some (.int .i64 (zs.getD j 0)):=by
 obtain⟨⟨hl,h⟩,-⟩:=h;rcases h with ⟨-,hz⟩ | ⟨g,cap,cur,rfl,-,hh,-,-,-,ht⟩
 · exact absurd (List.eq_nil_of_length_eq_zero hz) h0
 · refine⟨g,cap,rfl,fun j hj=>?_⟩;rw[Nat.zero_add,Lib.cell_of_heap hh];have h1:(cur.toList.take (zs.length*1))[j]?=some (.int .i64 (zs.getD j 0)):=by
    rw[ht,List.getElem?_map,List.getElem?_eq_getElem hj];simp[List.getD,hj]
   rw[List.getElem?_take_of_lt (by omega)] at h1;simpa using h1
theorem foldl_min:∀(l:List Int) (m:Int),l.foldl min m≤m∧(∀z ∈ l,l.foldl min m≤z)∧(l.foldl min m=m∨l.foldl min m ∈ l)
 | [],m=>⟨Int.le_refl _,fun z h=>absurd h (by simp),.inl rfl⟩
 | x::t,m=>by
  obtain⟨h1,h2,h3⟩:=foldl_min t (min m x);rw[List.foldl_cons];refine⟨by omega,fun z hz=>?_,?_⟩
  · rcases List.mem_cons.1 hz with rfl | hz
    · omega
    · exact h2 z hz
  · rcases h3 with h3 | h3
    · by_cases g:m≤x
      · exact .inl (by rw[h3];omega)
      · exact .inr (by rw[h3,show min m x=x by omega];simp)
    · exact .inr (by simp[h3])
theorem minOf_is {zs:List Int} (h:zs≠[]):(∀z ∈ zs,Lib.minOf zs≤z)∧Lib.minOf zs ∈ zs:=by
 cases zs with
 | nil=>exact absurd rfl h
 | cons x t =>
  obtain⟨h1,h2,h3⟩:=foldl_min (x::t) x;refine⟨h2,?_⟩;show (x::t).foldl min x ∈ _;rcases h3 with h3 | h3
  · rw[h3];simp
  · exact h3
theorem domV_size {w:World} {a:Option Addr} {m:Nat} {nodes:List Nod} (h:NodesAt w a m nodes) {key name d:ByteArray} (hd:domV key name nodes=some d):d.size≤maxLen:=by
 have:=domV_has hd;unfold hasD at this;rw[List.any_eq_true] at this;obtain⟨n,hn,he⟩:=this;have he:getS n.labels key=some d:=by simpa using he
 obtain⟨k,hk,e⟩:=List.getElem_of_mem hn;rcases h.2.2 with h0 | ⟨b,off,-,-,hc⟩
 · rw[h.1] at hk;omega
 · obtain⟨_,_,_,_,_,_,_,_,_,_,_,_,_,_,hN⟩:=hc k n (by rw[List.getElem?_eq_getElem hk,e]);exact getS_size hN.labels.fine he
theorem skewOn_any (s1 s2 s3 a1 a2 a3 a4:Option Addr) (n1 e1 n2 e2 n3 e3 m1 c1 m2 c2 m3 c3 m4 c4:Nat) (p:Pd) (s:Clu) (name:ByteArray) (w:World) (hn:NodesAt w s1 n1 s.nodes) (hp:PodsAt w s2 n2 s.pods) (hb1:n1≤100000) (hb2:n2≤100000) :
 Calls Try.prog 17 #[.agg #[.slice s1 n1 e1,.slice s2 n2 e2,.slice s3 n3 e3],PodV p (.slice a1 m1 c1) (.slice a2 m2 c2) (.slice a3 m3 c3) (.slice a4 m4 c4),.string name] w fun e w'=>(∀d,domV p.key name s.nodes=some d→e=.returned (.int .i64 (skewD p s d)))∧(domV p.key name s.nodes=none→e=.panicked [perr 3])∧Kept w w':=by
 obtain⟨Z,hZ⟩:=eX ((w.alloc (.cells #[.slice s1 n1 e1,.slice s2 n2 e2,.slice s3 n3 e3] 27)).alloc (.cells #[.string p.name,.string p.owner,.int .i64 p.prio,.slice a1 m1 c1,.slice a2 m2 c2,.slice a3 m3 c3,.slice a4 m4 c4,.string p.key,.int .i64 p.most,.string p.node,.bool p.hold] 41))
 have hkz:Kept w Z:=by rw[←hZ];exact kept_two _ _ _
 have HSB:=lH (freshN w (.slice s1 n1 e1) [.slice s2 n2 e2,.slice s3 n3 e3] 27 Z (by rw[←hZ];exact kept_alloc _ _));have HPB:=lH (show CellsN (w.heap.size+1) [.string p.name,.string p.owner,.int .i64 p.prio,.slice a1 m1 c1,.slice a2 m2 c2,.slice a3 m3 c3,.slice a4 m4 c4,.string p.key,.int .i64 p.most,.string p.node,.bool p.hold] Z by
  have dd:=freshN (w.alloc (.cells #[.slice s1 n1 e1,.slice s2 n2 e2,.slice s3 n3 e3] 27)) (.string p.name) [.string p.owner,.int .i64 p.prio,.slice a1 m1 c1,.slice a2 m2 c2,.slice a3 m3 c3,.slice a4 m4 c4,.string p.key,.int .i64 p.most,.string p.node,.bool p.hold] 41 Z (by rw[hZ];exact Kept.refl _);rw[World.size_alloc] at dd;exact dd)
 obtain⟨HN,HP,HNL,HPL,K⟩:=lH5 hn hp hn.1 hp.1 hkz;clear hn hp hkz;unfold PodV;go_enter Try.func17,Try.ntmps17;go_upto_region 1 with fail
 try rw[hZ]
 clear hZ;obtain⟨y0,y1,y2⟩:=HSB.out.at3;have r7:=HPB.out.at_ 7 _ rfl;go_wp2_with fail
 refine(domainOf_any s1 s2 s3 n1 e1 n2 e2 n3 e3 s.nodes p.key name Z (HN.out.kept K.out) hb1).mono ?_;rintro e w1 ⟨h1,h2,kk⟩;obtain⟨HSB,HPB,K⟩:=lH3 (HSB.out.kept kk) (HPB.out.kept kk) (K.out.trans kk);clear kk y0 y1 y2 r7
 cases ho:domV p.key name s.nodes with
 | none =>
  obtain rfl:=h2 ho;have HO:=lH ho;clear h1 h2 ho;go_wp2;exact⟨rfl,(fun d e=>by rw[HO.out] at e;cases e),(fun _=>rfl),K.out⟩
 | some d =>
  obtain rfl:=h1 d ho;have HO:=lH ho;have hds:=domV_size HN.out ho;have HDS:=lH hds;have HDH:=lH (domV_has ho);clear h1 h2 ho hds;obtain⟨y0,y1,y2⟩:=HSB.out.at3;obtain⟨r0,r1,r2,r3,r4,r5,r6,r7,r8,r9,r10⟩:=HPB.out.at11;go_wp2_with fail
  have TA:=tally_any s1 s2 s3 a1 a2 a3 a4 n1 e1 n2 e2 n3 e3 m1 c1 m2 c2 m3 c3 m4 c4 p s.nodes s.pods w1 (HN.out.kept K.out) (HP.out.kept K.out) hb1 hb2;unfold PodV at TA;refine TA.mono ?_;clear TA;rintro e w2 ⟨mc,nn,rfl,hM,hmc,hnn,kk⟩;obtain⟨HM,HW1,K,HMC⟩:=lH4 hM K.out.size (K.out.trans kk) hmc;have KS:=lH K.out.size;clear kk hM hmc y0 y1 y2 r0 r1 r2 r3 r4 r5 r6 r7 r8 r9 r10;have hb9:inD p s.pods d s.nodes≤100000*100000:=Nat.le_trans (inD_le _ _ _ _) (Nat.mul_le_mul (by rw[HNL.out];omega) (by rw[HPL.out];omega));have hl1:=HM.out.look d HDS.out;obtain⟨x1,hx1⟩:=eX (inD p s.pods d s.nodes)
  have HX1:=lH hx1;rw[hx1] at hl1 hb9;obtain⟨x3,hx3⟩:∃z:Nat,x1+1=z:=⟨_,rfl⟩
  have hx4:(x1:Int)+1=(x3:Int):=by omega
  have hx5:IntKind.i64.wrap (x3:Int)=(x3:Int):=IntWalk.i64_in _ (by omega);obtain⟨w4,hput,hM4,hG4⟩:=HM.out.put (by unfold maxLen;omega) d HDS.out (x3:Int) (by omega);have HX3:=lH hx3;have HMF:=lH (show MapIs w4 mc (nn+1) (fun e=>((inD p s.pods e s.nodes+(if e=d then 1 else 0):Nat):Int)) (fun e=>hasD p.key e s.nodes) from hM4.eq (fun e=>by
   by_cases he:e=d
   · subst he;rw[if_pos rfl,if_pos rfl,HX1.out,HX3.out]
   · rw[if_neg he,if_neg he];rfl) (fun e=>by
   by_cases he:e=d
   · subst he;rw[if_pos rfl,HDH.out]
   · rw[if_neg he]))
  have HG4:=lH hG4;have hb10:x3≤100000*100000+1:=by omega
  have HB10:=lH hb10;have HNN:=lH hnn;clear hM4 hG4 hx1 hx3 hb9 hb10;go_upto_region 4 with fail
  clear hl1 hput hx4 hx5;have J:=lH (Kept.drew w4);refine wp_region_held_drew (S:=fun W=>MapIs W mc (nn+1) (fun e=>((inD p s.pods e s.nodes+(if e=d then 1 else 0):Nat):Int)) (fun e=>hasD p.key e s.nodes)) (by kernel_rfl) (HMF.out.kept J.out) (fun hHeld=>?_);refine tR 0 rfl (by kernel_rfl) (fun _ _ _=>id) (Or.inl ⟨by rfl,(by intro W hSw;go_simp<;>with_reducible rfl)⟩) ‹_› ?_;try simp only[nA,nB,nC,nD,nE]
  refine tR 1 rfl (by kernel_rfl) (fun _ _ _=>id) (Or.inl ⟨by rfl,(by intro W hSw;go_simp<;>with_reducible rfl)⟩) ‹_› ?_;try simp only[nA,nB,nC,nD,nE]
  refine tR 2 rfl (by kernel_rfl) (fun _ _ _=>id) (Or.inl ⟨by rfl,(by intro W hSw;have hl:=hSw.look d HDS.out;go_simp<;>with_reducible rfl)⟩) ‹_› ?_;try simp only[nA,nB,nC,nD,nE]
  refine tR 3 rfl (by kernel_rfl) (fun _ _ _=>id) (Or.inl ⟨by rfl,(by intro W hSw;go_simp<;>with_reducible rfl)⟩) ‹_› ?_;try simp only[nA,nB,nC,nD,nE]
  skip;refine rd1 4 fun K9 Ky=>?_;go_simp;refine(mvalues_any (some mc) _).mono ?_;rintro e w5 ⟨rfl,rfl⟩;have kq:=kept_alloc w4.drew (.cells #[.map (some mc)] 60);obtain⟨w5,hw5⟩:=eX (w4.drew.alloc (.cells #[.map (some mc)] 60))
  have hcs:CellsN w4.drew.heap.size [.map (some mc)] w5:=freshN w4.drew (.map (some mc)) [] 60 w5 (by rw[hw5];exact Kept.refl _);rw[hw5] at kq ⊢;obtain⟨bs,hbs⟩:=eX (w4.drew.heap.size)
  rw[hbs] at hcs ⊢;have HCS:=lH hcs;have J:=lH (J.out.trans kq);clear hcs kq hw5 hbs;refine Ky.out _ _ (HMF.out.kept J.out) (fun _=>?_);clear Ky K9;try simp only[nA,nB,nC,nD,nE]
  refine rd1 5 fun K9 Ky=>?_;go_simp;refine(collectI_any bs mc (nn+1) _ _ w5 (by have:=HNN.out;omega) HCS.out.lt (HCS.out.at_ 0 _ rfl) (HMF.out.kept J.out)).mono ?_;rintro e w6 ⟨v,zs,rfl,ho,hz1,hz2,hzl,kk⟩;have J:=lH (J.out.trans kk);have hzd:=hz1 d HDH.out;have hz0:zs≠[]:=fun e=>by rw[e] at hzd;cases hzd
  obtain⟨g,cap,rfl,hc⟩:=ho.cells hz0;obtain⟨HC,HZ1,HZ2,HZ0,HZL⟩:=lH5 hc hz1 hz2 hz0 hzl;clear kk ho hc hz1 hz2 hz0 hzd hzl;refine Ky.out _ _ (HMF.out.kept J.out) (fun _=>?_);clear Ky K9;try simp only[nA,nB,nC,nD,nE]
  refine rd1 6 fun K9 Ky=>?_;go_simp;refine(Try.slices_Min_int g 0 zs.length cap zs w6 (List.length_pos_iff.2 HZ0.out) (Nat.le_refl _) (by have:=HZL.out;omega) HC.out).mono ?_;rintro e w7 ⟨rfl,rfl⟩;rw[List.take_length];refine Ky.out _ _ (HMF.out.kept J.out) (fun _=>?_);clear Ky K9;try simp only[nA,nB,nC,nD,nE]
  obtain⟨hm1,hm2⟩:=minOf_is HZ0.out;obtain⟨c,hcd,hce⟩:=HZ2.out _ hm2;obtain⟨zm,hzm⟩:∃z:Nat,inD p s.pods c s.nodes+(if c=d then 1 else 0)=z:=⟨_,rfl⟩
  rw[hzm] at hce;rw[hce] at hm1 ⊢;have HL:=lH (leastD_is (p:=p) (pods:=s.pods) (nodes:=s.nodes) (d:=d) (m:=inD p s.pods d s.nodes+1) (z:=zm) HDH.out rfl (fun e he=>by have:=hm1 _ (HZ1.out e he);omega) ⟨c,hcd,hzm.symm⟩);have hle:zm≤x3:=by have h:=hm1 _ (HZ1.out d HDH.out);rw[if_pos rfl,HX1.out] at h;have:=HX3.out;omega
  have HSK:=lH (show skewD p s d=(x3:Int)-(zm:Int) by unfold skewD;rw[HL.out,HX1.out,HX3.out]);have hx6:(inD p s.pods d s.nodes+(if d=d then 1 else 0))=x3:=by rw[if_pos rfl,HX1.out,HX3.out]
  try rw[hx6]
  obtain⟨y,hy⟩:∃y:Nat,x3-zm=y:=⟨_,rfl⟩
  have hy1:(x3:Int)-(zm:Int)=(y:Int):=by omega
  have hy2:IntKind.i64.wrap (y:Int)=(y:Int):=IntWalk.i64_in _ (by have:=HB10.out;omega);clear hm1 hm2 hcd hce hzm;refine tR 7 rfl (by kernel_rfl) (fun _ _ _=>id) (Or.inl ⟨by rfl,(by intro W hSw;go_simp<;>with_reducible rfl)⟩) ‹_› ?_;try simp only[nA,nB,nC,nD,nE]
  refine tR 8 rfl (by kernel_rfl) (fun _ _ _=>id) (Or.inl ⟨by rfl,(by intro W hSw;go_simp<;>with_reducible rfl)⟩) ‹_› ?_;try simp only[nA,nB,nC,nD,nE]
  refine wpAnyH_done (by kernel_rfl) ?_ _;go_wp2;go_ret;refine⟨fun d9 e9=>?_,fun e9=>?_,(GOff.below K.out HG4.out fun i e=>by have:=HMC.out;have:=HW1.out;omega).trans J.out⟩
  · rw[HO.out] at e9
    cases e9
    rw[HSK.out,hy1];have hv:IntKind.i64.wrap (((inD p s.pods d s.nodes:Nat):Int)+1-(zm:Int))=(y:Int):=by
     rw[HX1.out,show (x1:Int)+1-(zm:Int)=(y:Int) by have:=HX3.out;omega];exact hy2
    exact congrArg (fun z=>Ending.returned (.int .i64 z)) hv
  · rw[HO.out] at e9
    cases e9
open Go.RowKit Go.Shelf
def SkR (o:Option Int) (w:World) (e:Ending) (w':World):Prop:=(∀z,o=some z→e=.returned (.int .i64 z))∧(o=none→e=.panicked [perr 3])∧Kept w w'
theorem caughtI_panicking (B:Nat) (q:Nat) (x y:Int) (w:World) (hq:w.cell? ⟨q,0,none⟩=some (.int .i64 y)) (hzq:w.frozen? ⟨q,0,none⟩=false) (hBq:B≤q) :
 CallsD Try.prog 23 #[.pointer (some ⟨q,0,none⟩)] (.panicking [perr x]) w fun e u' w' =>
  e=.returned (.tuple #[])∧u'=.panicking [{ perr x with recovered:=true }]∧w'=w.setCell ⟨q,0,none⟩ (.int .i64 x)∧w'.cell? ⟨q,0,none⟩=some (.int .i64 x)∧Below B w w':=by
 have hta:∀W,(Instr.typeAssert (.iface 56 (.int .i64 x)) 20 56 false).run Try.prog W=.ok (.int .i64 x) W:=fun _=>by kernel_rfl
 refine callsD_of_wpS Try.func23 rfl fun c₀ cs hu=>?_;apply wpS_seq;apply wpS_region;simp[wpOpsS,go_sem,recoverD,hu,Try.ntmps23,Exit.thenS];apply wpS_seq;apply wpS_region;simp[wpOpsS,go_sem,recoverD,Exit.thenS];refine wpS_cond (t:=true) (by simp[Act.eval,Array.replicate]) ?_;simp only[if_true];refine wpS_of_wp ?_;simp[Array.replicate];go_wp2;simp[bodyPostS,results,Try.results23];exact⟨World.cell?_setCell_same' _ _ _ (by rw[hq];rfl),(Below.refl B w).setCell (p:=⟨q,0,none⟩) hBq _⟩
theorem caughtI_idle (q:Addr) (w:World) :
 CallsD Try.prog 23 #[.pointer (some q)] .returning w fun e u' w'=>e=.returned (.tuple #[])∧u'=.returning∧w'=w:=by
 refine callsD_of_wpS Try.func23 rfl fun c₀ cs hu=>?_;apply wpS_seq;apply wpS_region;simp[wpOpsS,go_sem,recoverD,hu,Try.ntmps23,Exit.thenS];apply wpS_seq;apply wpS_region;simp[wpOpsS,go_sem,recoverD,hu,Exit.thenS];refine wpS_cond (t:=false) (by simp[Act.eval,Array.replicate]) ?_;simp only[Bool.false_eq_true,if_false];refine wpS_of_wp (wp_skip ?_)
 cases c₀
 simp_all [bodyPostS,results,Try.results23]
theorem caughtI_any (Q1 Q2 Q3:Nat) (o:Option Int) (w:World) (hk:∀W,Kept w W→Calls Try.prog 16 #[.pointer (some ⟨Q1,0,none⟩),.pointer (some ⟨Q2,0,none⟩),.pointer (some ⟨Q3,0,none⟩)] W (SkR o W)) :
 Calls Try.prog 15 #[.func (.func 16) #[] #[.pointer (some ⟨Q1,0,none⟩),.pointer (some ⟨Q2,0,none⟩),.pointer (some ⟨Q3,0,none⟩)]] w fun e w'=>e=.returned (.tuple #[.int .i64 (o.getD 0),.int .i64 (if o.isSome=true then 0 else 3)])∧Kept w w':=by
 have hmf:=hmfL (P:=Try.prog);obtain⟨Z,hZ⟩:=eX (w.alloc (.cells #[.int .i64 0] 56))
 have hkz:Kept w Z:=by rw[←hZ];exact kept_alloc _ _
 obtain⟨HK,HZE,HKC⟩:=lH3 hkz (freshN w (.int .i64 0) [] 56 Z (by rw[hZ];exact Kept.refl _)) (hk Z hkz);clear hk hkz;go_enter_defers Try.func15,Try.ntmps15
 go_wp2_with fail
 try rw[hZ]
 refine HKC.out.mono ?_;rintro e1 w1 ⟨h0,h1,hb⟩;have KK:=lH (HK.out.trans hb);have HE1:=lH (HZE.out.kept hb);have ze:=HE1.out.at_ 0 _ rfl;have zf:=HE1.out.free 0
 cases o with
 | some z =>
  obtain rfl:=h0 z rfl;clear h0 h1 hb hZ;go_wp2_with fail
  have FE:=lH (HE1.out.set (j:=0) (u:=.int .i64 0) (by simp));have KF:=lH (show Kept w (w1.setCell ⟨w.heap.size,0,none⟩ (.int .i64 0)) from KK.out.setCell (p:=⟨w.heap.size,0,none⟩) (Nat.le_refl _) _);obtain⟨WF,hWF⟩:=eX (w1.setCell ⟨w.heap.size,0,none⟩ (.int .i64 0))
  rw[hWF] at FE KF ⊢;have fe:=FE.out.at_ 0 _ rfl;clear hWF ze zf;refine leaves_cons (f:=23) (args:=#[.pointer (some ⟨w.heap.size,0,none⟩)]) (by simp) (by simp[go_sem]) ?_;refine(caughtI_idle ⟨w.heap.size,0,none⟩ _).mono ?_;rintro e u' w'' ⟨rfl,rfl,rfl⟩;simp[Leaves,settle,results,Try.results15,go_sem,fe];exact KF.out
 | none =>
  obtain rfl:=h1 rfl;clear h0 h1 hb hZ;go_wp2_with fail
  refine leaves_cons (f:=23) (args:=#[.pointer (some ⟨w.heap.size,0,none⟩)]) (by simp) (by simp[go_sem]) ?_;refine(caughtI_panicking w.heap.size w.heap.size 3 0 _ ze zf (Nat.le_refl _)).mono ?_;rintro e u' w'' ⟨rfl,rfl,rfl,q2,q3⟩;have KF:=lH (show Kept w _ from Below.trans KK.out q3);obtain⟨WF,hWF⟩:=eX (w1.setCell ⟨w.heap.size,0,none⟩ (.int .i64 3))
  rw[hWF] at q2 KF ⊢;clear hWF q3 ze zf;simp[Leaves,settle,results,Try.results15,go_sem,q2];exact KF.out
theorem closureSk (Q1 Q2 Q3:Nat) (s1 s2 s3 a1 a2 a3 a4:Option Addr) (n1 e1 n2 e2 n3 e3 m1 c1 m2 c2 m3 c3 m4 c4:Nat) (p:Pd) (s:Clu) (name:ByteArray) (w:World) (hq1:CellsN Q1 [.slice s1 n1 e1,.slice s2 n2 e2,.slice s3 n3 e3] w) (hq2:CellsN Q2 [.string p.name,.string p.owner,.int .i64 p.prio,.slice a1 m1 c1,.slice a2 m2 c2,.slice a3 m3 c3,.slice a4 m4 c4,.string p.key,.int .i64 p.most,.string p.node,.bool p.hold] w) (hq3:CellsN Q3 [.string name] w) (hn:NodesAt w s1 n1 s.nodes) (hp:PodsAt w s2 n2 s.pods) (hb1:n1≤100000) (hb2:n2≤100000) :
 Calls Try.prog 16 #[.pointer (some ⟨Q1,0,none⟩),.pointer (some ⟨Q2,0,none⟩),.pointer (some ⟨Q3,0,none⟩)] w (SkR ((domV p.key name s.nodes).map (skewD p s)) w):=by
 have HS:=lH (skewOn_any s1 s2 s3 a1 a2 a3 a4 n1 e1 n2 e2 n3 e3 m1 c1 m2 c2 m3 c3 m4 c4 p s name w hn hp hb1 hb2);unfold PodV at HS;have y0:=hq1.at_ 0 _ rfl;have y1:=hq1.at_ 1 _ rfl;have y2:=hq1.at_ 2 _ rfl;have r0:=hq2.at_ 0 _ rfl;have r1:=hq2.at_ 1 _ rfl;have r2:=hq2.at_ 2 _ rfl;have r3:=hq2.at_ 3 _ rfl;have r4:=hq2.at_ 4 _ rfl;have r5:=hq2.at_ 5 _ rfl;have r6:=hq2.at_ 6 _ rfl;have r7:=hq2.at_ 7 _ rfl;have r8:=hq2.at_ 8 _ rfl;have r9:=hq2.at_ 9 _ rfl;have r10:=hq2.at_ 10 _ rfl;have z0:=hq3.at_ 0 _ rfl;clear hq1 hq2 hq3 hn hp;go_enter Try.func16,Try.ntmps16;go_wp2_with fail
 refine HS.out.mono ?_;rintro e w1 ⟨h1,h2,kk⟩;have K:=lH kk;clear kk HS y0 y1 y2 r0 r1 r2 r3 r4 r5 r6 r7 r8 r9 r10 z0
 cases ho:domV p.key name s.nodes with
 | none =>
  obtain rfl:=h2 ho;have HO:=lH ho;clear h1 h2 ho;go_wp2;exact⟨rfl,(fun z e=>by cases e),(fun _=>rfl),K.out⟩
 | some d =>
  obtain rfl:=h1 d ho;have HO:=lH ho;clear h1 h2 ho;obtain⟨z,hz⟩:=eX (skewD p s d)
  rw[hz];have HZ:=lH hz;clear hz;go_wp2;go_ret;exact⟨(fun y e=>by rw[HO.out] at e;cases e;exact congrArg (fun z=>Ending.returned (.int .i64 z)) HZ.out.symm),(fun e=>by rw[HO.out] at e;cases e),K.out⟩
theorem skew_any (s1 s2 s3 a1 a2 a3 a4:Option Addr) (n1 e1 n2 e2 n3 e3 m1 c1 m2 c2 m3 c3 m4 c4:Nat) (p:Pd) (s:Clu) (name:ByteArray) (w:World) (hn:NodesAt w s1 n1 s.nodes) (hp:PodsAt w s2 n2 s.pods) (hb1:n1≤100000) (hb2:n2≤100000) :
 Calls Try.prog 8 #[.agg #[.slice s1 n1 e1,.slice s2 n2 e2,.slice s3 n3 e3],PodV p (.slice a1 m1 c1) (.slice a2 m2 c2) (.slice a3 m3 c3) (.slice a4 m4 c4),.string name] w (Say (.tuple #[.int .i64 (skewS p s name).1,.bool (skewS p s name).2]) w):=by
 have hmf:=hmfL (P:=Try.prog);obtain⟨Y,hY⟩:=eX ((w.alloc (.cells #[.slice s1 n1 e1,.slice s2 n2 e2,.slice s3 n3 e3] 27)).alloc (.cells #[.string p.name,.string p.owner,.int .i64 p.prio,.slice a1 m1 c1,.slice a2 m2 c2,.slice a3 m3 c3,.slice a4 m4 c4,.string p.key,.int .i64 p.most,.string p.node,.bool p.hold] 41))
 have hky:Kept w Y:=by rw[←hY];exact kept_two _ _ _
 have hys:Y.heap.size=w.heap.size+2:=by rw[←hY];simp
 have hsb:=freshN w (.slice s1 n1 e1) [.slice s2 n2 e2,.slice s3 n3 e3] 27 Y (by rw[←hY];exact kept_alloc _ _);have hpb:CellsN (w.heap.size+1) [.string p.name,.string p.owner,.int .i64 p.prio,.slice a1 m1 c1,.slice a2 m2 c2,.slice a3 m3 c3,.slice a4 m4 c4,.string p.key,.int .i64 p.most,.string p.node,.bool p.hold] Y:=by
  have dd:=freshN (w.alloc (.cells #[.slice s1 n1 e1,.slice s2 n2 e2,.slice s3 n3 e3] 27)) (.string p.name) [.string p.owner,.int .i64 p.prio,.slice a1 m1 c1,.slice a2 m2 c2,.slice a3 m3 c3,.slice a4 m4 c4,.string p.key,.int .i64 p.most,.string p.node,.bool p.hold] 41 Y (by rw[hY];exact Kept.refl _);rw[World.size_alloc] at dd;exact dd
 obtain⟨Z,hZ⟩:=eX (Y.alloc (.cells #[.string name] 9))
 have hkz:Kept Y Z:=by rw[←hZ];exact kept_alloc _ _
 have hnb:CellsN (w.heap.size+2) [.string name] Z:=by
  have dd:=freshN Y (.string name) [] 9 Z (by rw[hZ];exact Kept.refl _);rw[hys] at dd;exact dd
 have hYZ:((w.alloc (.cells #[.slice s1 n1 e1,.slice s2 n2 e2,.slice s3 n3 e3] 27)).alloc (.cells #[.string p.name,.string p.owner,.int .i64 p.prio,.slice a1 m1 c1,.slice a2 m2 c2,.slice a3 m3 c3,.slice a4 m4 c4,.string p.key,.int .i64 p.most,.string p.node,.bool p.hold] 41)).alloc (.cells #[.string name] 9)=Z:=by rw[hY];exact hZ
 obtain⟨HSB,HPB,HNB,K,HN,HP⟩:=lH6 (hsb.kept hkz) (hpb.kept hkz) hnb (hky.trans hkz) (hn.kept (hky.trans hkz)) (hp.kept (hky.trans hkz));clear hn hp hky hkz hys hsb hpb hnb hY hZ;obtain⟨t0,h0⟩:=eX ((p.key.toList==([]:List UInt8)))
 have HI:=lH (show isNo p.key=t0 by rw[no_iff,h0]);have r7:=HPB.out.at_ 7 _ rfl;unfold PodV;go_enter Try.func8,Try.ntmps8
 cases t0 with
 | true =>
  have HV:=lH (show skewS p s name=(0,true) by unfold skewS;rw[if_pos HI.out]);go_wp2;try rw[hYZ]
  go_ret2
  rw[HV.out];exact⟨rfl,by first | exact K.out | (rw[hYZ];exact K.out)⟩
 | false =>
  have HC:=lH (caughtI_any w.heap.size (w.heap.size+1) (w.heap.size+2) ((domV p.key name s.nodes).map (skewD p s)) Z fun W k=>closureSk w.heap.size (w.heap.size+1) (w.heap.size+2) s1 s2 s3 a1 a2 a3 a4 n1 e1 n2 e2 n3 e3 m1 c1 m2 c2 m3 c3 m4 c4 p s name W (HSB.out.kept k) (HPB.out.kept k) (HNB.out.kept k) (HN.out.kept k) (HP.out.kept k) hb1 hb2);have HV:=lH (show skewS p s name=(((domV p.key name s.nodes).map (skewD p s)).getD 0,((domV p.key name s.nodes).map (skewD p s)).isSome) by
   unfold skewS;rw[if_neg (by rw[HI.out];decide)]
   cases domV p.key name s.nodes<;>rfl)
  obtain⟨o,ho⟩:=eX ((domV p.key name s.nodes).map (skewD p s))
  rw[ho] at HC HV;clear ho;go_upto_region 3 with fail
  try rw[hYZ]
  clear hYZ r7 h0;go_wp2_with fail
  refine HC.out.mono ?_;rintro e w1 ⟨rfl,kk⟩;have K:=lH (K.out.trans kk);clear kk
  cases o with
  | none =>
   have HW:=lH (show skewS p s name=(0,false) from HV.out);go_wp2;go_ret2
   rw[HW.out];exact⟨rfl,K.out⟩
  | some z =>
   have HW:=lH (show skewS p s name=(z,true) from HV.out);go_wp2;go_ret2
   rw[HW.out];exact⟨rfl,K.out⟩
theorem names_any (a a9:Option Addr) (len cap cap9:Nat) (l:List ByteArray) (w:World) (hr:RowAt StrLay w a len l) (hr9:RowAt StrLay w a9 len l) :
 Calls Try.prog 13 #[.slice a len cap,.slice a9 len cap9] w fun e w'=>e=.returned (.bool true)∧Kept w w':=by
 have hl:=hr.1;have hm:=hr.2.1;unfold maxLen at hm;by_cases h0:len=0
 · subst h0;clear hr hl hr9;go_enter Try.func13,Try.ntmps13;go_wp2;refine wp_loop_rounds 1 ?_;rw[rounds_succ];go_wp2;go_ret;exact⟨rfl,Kept.refl _⟩
 · obtain⟨b,off,rfl⟩:∃b off,a=some ⟨b,off,none⟩:=by
    rcases hr.form with h | h
    · exact absurd h h0
    · exact h
   obtain⟨b9,off9,rfl⟩:∃b off,a9=some ⟨b,off,none⟩:=by
    rcases hr9.form with h | h
    · exact absurd h h0
    · exact h
   have HR:=lH hr;have HR9:=lH hr9;clear hr hl hr9 h0;go_enter Try.func13,Try.ntmps13;go_wp2;go_loopw [5] (fun i wr=>∃k:Nat,k≤len∧i=.int .i64 k∧Kept w wr) (fun i _=>len-(intOf i).toNat)
   case atStart=>exact⟨0,Nat.zero_le _,rfl,Kept.refl _⟩
   case round =>
    obtain⟨k,hk,rfl,hK⟩:=hrel;have HK:=lH hK;by_cases hlt:k<len
    · obtain⟨x,hx,hd,hb,hz,c1⟩:=(HR.out.kept hK).str hlt;obtain⟨x9,hx9,_,hb9,_,d1⟩:=(HR9.out.kept hK).str hlt;obtain rfl:x=x9:=by rw[hx] at hx9;exact Option.some.inj hx9
      clear hx hd hx9 hK;go_wp2;go_quiet (fail)
      go_wp2;go_roundw
      case rel=>exact⟨k+1,by omega,by go_num,HK.out.trans (Kept.drewN _ _)⟩
      case measure=>simp[intOf];omega
    · clear hK;go_wp2;go_ret;exact⟨rfl,HK.out⟩
theorem namesR {v v9:Value} {l:List ByteArray} {w:World} (h:Reads StrLay w v l) (h9:Reads StrLay w v9 l):Calls Try.prog 13 #[v,v9] w (Say (.bool true) w):=by
 obtain⟨a,cap,rfl,_,_,hr⟩:=h;obtain⟨a9,cap9,rfl,_,_,hr9⟩:=h9;exact names_any a a9 _ cap cap9 l w hr hr9
theorem one_str0 (x:ByteArray) (u:Value) (h:u ∈ [Value.string x]):u.oneCell'=true:=one_s x u h
theorem infoSt:(Try.prog.info? 9).map (fun i=>(i.zero,i.size,i.bytes))=some (some (.string ByteArray.empty),1,16):=by kernel_rfl
theorem stands_any (s1 s2 s3 a1 a2 a3 a4:Option Addr) (n1 e1 n2 e2 n3 e3 m1 c1 m2 c2 m3 c3 m4 c4:Nat) (p:Pd) (s:Clu) (w:World) (hn:NodesAt w s1 n1 s.nodes) (hp:PodsAt w s2 n2 s.pods) (hb1:n1≤100000) (hb2:n2≤100000) :
 Calls Try.prog 19 #[.agg #[.slice s1 n1 e1,.slice s2 n2 e2,.slice s3 n3 e3],PodV p (.slice a1 m1 c1) (.slice a2 m2 c2) (.slice a3 m3 c3) (.slice a4 m4 c4)] w (Say (.bool (badP s p)) w):=by
 obtain⟨Z,hZ⟩:=eX ((w.alloc (.cells #[.slice s1 n1 e1,.slice s2 n2 e2,.slice s3 n3 e3] 27)).alloc (.cells #[.string p.name,.string p.owner,.int .i64 p.prio,.slice a1 m1 c1,.slice a2 m2 c2,.slice a3 m3 c3,.slice a4 m4 c4,.string p.key,.int .i64 p.most,.string p.node,.bool p.hold] 41))
 have hkz:Kept w Z:=by rw[←hZ];exact kept_two _ _ _
 have HSB:=lH (freshN w (.slice s1 n1 e1) [.slice s2 n2 e2,.slice s3 n3 e3] 27 Z (by rw[←hZ];exact kept_alloc _ _));have HPB:=lH (show CellsN (w.heap.size+1) [.string p.name,.string p.owner,.int .i64 p.prio,.slice a1 m1 c1,.slice a2 m2 c2,.slice a3 m3 c3,.slice a4 m4 c4,.string p.key,.int .i64 p.most,.string p.node,.bool p.hold] Z by
  have dd:=freshN (w.alloc (.cells #[.slice s1 n1 e1,.slice s2 n2 e2,.slice s3 n3 e3] 27)) (.string p.name) [.string p.owner,.int .i64 p.prio,.slice a1 m1 c1,.slice a2 m2 c2,.slice a3 m3 c3,.slice a4 m4 c4,.string p.key,.int .i64 p.most,.string p.node,.bool p.hold] 41 Z (by rw[hZ];exact Kept.refl _);rw[World.size_alloc] at dd;exact dd)
 have HS:=lH (skew_any s1 s2 s3 a1 a2 a3 a4 n1 e1 n2 e2 n3 e3 m1 c1 m2 c2 m3 c3 m4 c4 p s p.node Z (hn.kept hkz) (hp.kept hkz) hb1 hb2);have K:=lH hkz;clear hn hp hkz;obtain⟨t9,h9⟩:=eX ((p.node.toList==([]:List UInt8)))
 obtain⟨t7,h7⟩:=eX ((p.key.toList==([]:List UInt8)))
 have H9:=lH (show isNo p.node=t9 by rw[no_iff,h9]);have H7:=lH (show isNo p.key=t7 by rw[no_iff,h7]);obtain⟨y0,y1,y2⟩:=HSB.out.at3;obtain⟨r0,r1,r2,r3,r4,r5,r6,r7,r8,r9,r10⟩:=HPB.out.at11;unfold PodV at HS ⊢;go_enter Try.func19,Try.ntmps19
 cases t9 with
 | true =>
  have HV:=lH (show badP s p=false by unfold badP;rw[if_pos (.inl H9.out)]);go_wp2;try rw[hZ]
  go_ret;exact⟨ret_bool HV.out.symm,by first | exact K.out | (rw[hZ];exact K.out)⟩
 | false =>
  cases t7 with
  | true =>
   have HV:=lH (show badP s p=false by unfold badP;rw[if_pos (.inr H7.out)]);go_wp2;try rw[hZ]
   go_ret;exact⟨ret_bool HV.out.symm,by first | exact K.out | (rw[hZ];exact K.out)⟩
  | false =>
  have HV:=lH (show badP s p=(!(skewS p s p.node).2||decide (p.most<(skewS p s p.node).1)) by unfold badP;rw[if_neg (by rw[H9.out,H7.out];simp)]);obtain⟨z,hz⟩:=eX ((skewS p s p.node).1)
  obtain⟨b,hb⟩:=eX ((skewS p s p.node).2)
  rw[hz,hb] at HS HV;clear hz hb;go_upto_region 3 with fail
  try rw[hZ]
  clear hZ;go_wp2_with fail
  refine HS.out.mono ?_;rintro e w1 ⟨rfl,kk⟩;have K:=lH (K.out.trans kk);have r8:=(HPB.out.kept kk).at_ 8 _ rfl;clear kk y0 y1 y2 r0 r1 r2 r3 r4 r5 r6 r7 r9 r10
  cases b with
  | false =>
   go_wp2;go_ret;exact⟨ret_bool (by rw[HV.out];rfl),K.out⟩
  | true =>
   by_cases hlt:p.most<z
   · have HLT:=lH hlt;go_wp2;go_ret;exact⟨ret_bool (by rw[HV.out,decide_eq_true HLT.out];rfl),K.out⟩
   · have HLT:=lH hlt;have hle:z≤p.most:=by omega
     clear hlt;go_wp2;go_ret;exact⟨ret_bool (by rw[HV.out,decide_eq_false (by have:=HLT.out;omega)];rfl),K.out⟩
def badL (s:Clu) (l:List Pd):List ByteArray:=(l.filter fun p=>badP s p).map fun p=>p.name
theorem badL_take {s:Clu} {l:List Pd} {k:Nat} {p:Pd} (h:l[k]?=some p):badL s (l.take (k+1))=badL s (l.take k)++(if badP s p=true then [p.name] else []):=by
 unfold badL;rw[List.take_add_one,h,List.filter_append,List.map_append]
 cases hb:badP s p
 · rw[if_neg (by decide)];simp[hb]
 · rw[if_pos rfl];simp[hb]
theorem badL_len (s:Clu) (l:List Pd):(badL s l).length≤l.length:=by
 unfold badL;rw[List.length_map];exact List.length_filter_le _ _
theorem bad_any (s1 s2 s3:Option Addr) (n1 e1 n2 e2 n3 e3:Nat) (s:Clu) (w:World) (hn:NodesAt w s1 n1 s.nodes) (hp:PodsAt w s2 n2 s.pods) (hb1:n1≤100000) (hb2:n2≤100000) :
 Calls Try.prog 10 #[.agg #[.slice s1 n1 e1,.slice s2 n2 e2,.slice s3 n3 e3]] w fun e w'=>∃v,e=.returned v∧Reads StrLay w' v (badS s)∧Kept w w':=by
 obtain⟨i0,hi,hz0,hz1,hz2'⟩:=info_parts infoSt;obtain⟨Z,hZ⟩:=eX (w.alloc (.cells #[.slice s1 n1 e1,.slice s2 n2 e2,.slice s3 n3 e3] 27))
 have hkz:Kept w Z:=by rw[←hZ];exact kept_alloc _ _
 obtain⟨HSB,HN,HP,HPL,HKZ,HZS⟩:=lH6 (freshN w (.slice s1 n1 e1) [.slice s2 n2 e2,.slice s3 n3 e3] 27 Z (by rw[hZ];exact Kept.refl _)) (hn.kept hkz) (hp.kept hkz) hp.1 hkz (show w.heap.size<Z.heap.size by rw[←hZ];simp);clear hn hp hkz;go_enter Try.func10,Try.ntmps10;have y1:=HSB.out.at_ 1 _ rfl;go_upto_region 2 with fail
 try rw[hZ]
 clear hZ;go_wp2;clear y1;go_loopw [3,9] (fun v i wr=>∃k:Nat,k≤n2∧i=.int .i64 k∧∃la:List ByteArray,badL s (s.pods.take k)=la∧Own StrLay 9 wr Z.heap.size v la∧Kept Z wr) (fun _ i _=>n2-(intOf i).toNat)
 case atStart=>exact⟨0,Nat.zero_le _,rfl,[],rfl,Own.nil _ _ _,Kept.refl _⟩
 case round =>
  obtain⟨k,hk,rfl,la,hla,ho,hK⟩:=hrel;obtain⟨HX,HO,HK⟩:=lH3 hla ho hK;obtain⟨m,hm⟩:=eX (la.length)
  have hmk:m≤k:=by
   have:=badL_len s (s.pods.take k);rw[hla,hm,List.length_take] at this;omega
  have HT:=lH hm;have hbase:Z.heap.size≤wr.heap.size:=hK.size;by_cases hlt:k<n2
  · obtain⟨g,off,rfl⟩:=HP.out.form.resolve_left (by omega);obtain⟨p,a1,m1,c1,a2,m2,c2,a3,m3,c3,a4,m4,c4,hn,hd,hb,q0,q1,q2,q3,q4,q5,q6,q7,q8,q9,q10,hat⟩:=(HP.out.kept hK).at_ hlt;have HSZ:=lH hat.name;have HBT:=lH (badL_take (s:=s) hn);have hkk:(k:Int)<(n2:Int):=by omega
    have hk0:¬(k:Int)<0:=by omega
    obtain⟨wx,hwx⟩:=eX (wr.alloc (.cells #[.string p.name,.string p.owner,.int .i64 p.prio,.slice a1 m1 c1,.slice a2 m2 c2,.slice a3 m3 c3,.slice a4 m4 c4,.string p.key,.int .i64 p.most,.string p.node,.bool p.hold] 41))
    have hkx:Kept wr wx:=by rw[←hwx];exact kept_alloc _ _
    have HQB:=lH (freshN wr (.string p.name) [.string p.owner,.int .i64 p.prio,.slice a1 m1 c1,.slice a2 m2 c2,.slice a3 m3 c3,.slice a4 m4 c4,.string p.key,.int .i64 p.most,.string p.node,.bool p.hold] 41 wx (by rw[hwx];exact Kept.refl _));obtain⟨bq,hbq⟩:=eX (wr.heap.size)
    rw[hbq] at HQB;obtain⟨HSX,HST,KX⟩:=lH3 (HSB.out.kept (hK.trans hkx)) (stands_any s1 (some ⟨g,off,none⟩) s3 a1 a2 a3 a4 n1 e1 n2 e2 n3 e3 m1 c1 m2 c2 m3 c3 m4 c4 p s wx (HN.out.kept (hK.trans hkx)) (HP.out.kept (hK.trans hkx)) hb1 hb2) hkx;unfold PodV at HST;go_upto_region 5 with fail
    try rw[hwx]
    try rw[hbq]
    clear hwx hbq hd hb hn hkx hk0 hkk hat hla ho hm hK q0 q1 q2 q3 q4 q5 q6 q7 q8 q9 q10;obtain⟨y0,y1,y2⟩:=HSX.out.at3;obtain⟨r0,r1,r2,r3,r4,r5,r6,r7,r8,r9,r10⟩:=HQB.out.at11;go_wp2_with fail
    refine HST.out.mono ?_;rintro e w1 ⟨rfl,kk⟩;have KW:=lH (KX.out.trans kk);have r0:=(HQB.out.kept kk).at_ 0 _ rfl;obtain⟨bb,hbb⟩:=eX (badP s p)
    rw[hbb] at HBT;rw[hbb];clear hbb kk HST y0 y1 y2 r1 r2 r3 r4 r5 r6 r7 r8 r9 r10
    cases bb with
    | false =>
     have HV:=lH (show badL s (s.pods.take (k+1))=la by rw[HBT.out,HX.out,if_neg (by decide),List.append_nil]);go_wp2;go_roundw
     case rel=>exact⟨k+1,by omega,by go_num,la,HV.out,HO.out.kept KW.out,HK.out.trans KW.out⟩
     case measure=>simp[intOf];omega
    | true =>
     have HV:=lH (show badL s (s.pods.take (k+1))=la++[p.name] by rw[HBT.out,HX.out,if_pos rfl]);have HOW2:=lH (show w1.ownsRow Z.heap.size 9 1 u3 m (rowCells StrLay la) by have:=(HO.out.kept KW.out).1;rw[HT.out] at this;exact this);have hs1:wr.heap.size≤w1.heap.size:=Below.size KW.out;go_wp2_with (at_builtin;refine wpList_append_lies _ rfl _ _ _ rfl Z.heap.size 9 i0 _ 1 16 Try.underlying47 hi hz0 hz1 hz2' rfl (by decide) u3 m (rowCells StrLay la) rfl (HOW2.out.alloc _) ⟨w1.heap.size,0,none⟩ 1 1 (StrLay.cs p.name) rfl rfl (World.news_of_block (cs:=#[.string p.name]) (t:=9) (fr:=(0,0)) (heap_alloc_new w1 _)) (one_str0 p.name) (by decide) (by unfold maxLen;omega) (by omega) (by simp;omega) (w1.heap.size+1) (by simp) ?_;intro gg cap1 w2 hown1 hgrow hat hlt1)
     have HBW:=lH ((show Below Z.heap.size Z _ from HK.out.trans (KW.out.trans (kept_alloc w1 _))).grown hgrow (by simp;omega) (fun j hj=>(HOW2.out.lt j hj).1));go_wp2;go_roundw
     case rel=>exact⟨k+1,by omega,by go_num,la++[p.name],HV.out,Own.snoc hown1 (by rw[HT.out]) HO.out.2 HSZ.out,HBW.out⟩
     case measure=>simp[intOf];omega
  · have hge:¬(k:Int)<(n2:Int):=by omega
    have HE:=lH (show badS s=la by rw[←hla,List.take_of_length_le (by rw[HPL.out];omega)];rfl);clear hla ho hm hK;go_wp2;go_ret;exact⟨_,rfl,by rw[HE.out];exact HO.out.reads,HKZ.out.trans HK.out⟩
def VRes (r:Int×Vec.V) (w:World) (e:Ending) (w':World):Prop:=(r.1=0→∃v,e=.returned v∧Vec.OwnV 64 w' w.heap.size v r.2)∧(r.1≠0→e=.panicked [perr r.1])∧Kept w w'
theorem VRes.ok {m:Vec.V} {w w':World} {e:Ending} {r:Int×Vec.V} (h:VRes r w e w') (hr:r=(0,m)):∃v,e=.returned v∧Vec.OwnV 64 w' w.heap.size v m∧Kept w w':=by
 subst hr;obtain⟨v,rfl,g⟩:=h.1 rfl;exact⟨v,rfl,g,h.2.2⟩
structure EInv {X A:Type} (L:Lay X) (T:TypeId) (At:World→X→Prop) (fst:X→A) (B g len c k:Nat) (l:List A) (w wr:World) (lx:List X):Prop where
 own:Own L T wr B (.slice (some ⟨g,0,none⟩) len c) lx
 map:lx.map fst=l
 done:∀j z,lx[j]?=some z→j<k→Off (fun b=>b<B∨b=g) wr fun u=>At u z
 todo:∀j z,lx[j]?=some z→k≤j→Off (fun b=>B≤b) wr fun u=>At u z
 kept:Below B w wr
theorem EInv.start {X A:Type} {L:Lay X} {T:TypeId} {At:World→X→Prop} {fst:X→A} {g len c:Nat} {l:List A} {w wr:World} {lx:List X} (ho:Own L T wr w.heap.size (.slice (some ⟨g,0,none⟩) len c) lx) (hm:lx.map fst=l) (hk:Kept w wr) (hat:∀z ∈ lx,∀u,Kept w u→At u z) :
 EInv L T At fst w.heap.size g len c 0 l w wr lx :=
 ⟨ho,hm,fun j z _ h=>absurd h (Nat.not_lt_zero _),fun j z hz _=>Off.of (hat z (List.mem_of_getElem? hz)) hk fun i h=>h,hk⟩
structure OwnClu (S:Nat→Prop) (B:Nat) (w:World) (v1 v2 v3:Value) (s:Clu):Prop where
 pods:∃lx:List PX,(lx.map fun z=>z.1)=s.pods∧Own PodLay0 41 w B v2 lx∧∀z ∈ lx,Off (fun b=>S b∨v2.ownBlock=some b) w fun u=>At4 u z
 nodes:Off (fun b=>S b∨v2.ownBlock=some b) w fun u=>NodesR u v1 s.nodes
 buds:Off (fun b=>S b∨v2.ownBlock=some b) w fun u=>BudsR u v3 s.buds
 sep:∀k,v2.ownBlock=some k→¬S k
theorem OwnClu.toR {S:Nat→Prop} {B:Nat} {w:World} {v1 v2 v3:Value} {s:Clu} (h:OwnClu S B w v1 v2 v3 s):CluR w (.agg #[v1,v2,v3]) s:=by
 obtain⟨lx,e,ho,hd⟩:=h.pods;exact⟨v1,v2,v3,rfl,h.nodes.here,by rw[←e];exact pods_own ho fun z hz=>(hd z hz).here,h.buds.here⟩
theorem OwnClu.lt {S:Nat→Prop} {B:Nat} {w:World} {v1 v2 v3:Value} {s:Clu} (h:OwnClu S B w v1 v2 v3 s):∀g,v2.ownBlock=some g→B≤g∧g<w.heap.size:=by
 obtain⟨lx,e,ho,hd⟩:=h.pods;exact own_lt ho
theorem OwnClu.step {S:Nat→Prop} {B:Nat} {w w':World} {v1 v2 v3:Value} {s:Clu} (h:OwnClu S B w v1 v2 v3 s) (g:GOff S w w'):OwnClu S B w' v1 v2 v3 s:=by
 obtain⟨lx,e,ho,hd⟩:=h.pods;have g':GOff (fun b=>S b∨v2.ownBlock=some b) w w':=g.mono fun b e=>.inl e;exact⟨⟨lx,e,ho.goff g h.sep,fun z hz=>(hd z hz).step g'⟩,h.nodes.step g',h.buds.step g',h.sep⟩
theorem OwnClu.kept {S:Nat→Prop} {B:Nat} {w w':World} {v1 v2 v3:Value} {s:Clu} (h:OwnClu S B w v1 v2 v3 s) (k:Kept w w'):OwnClu S B w' v1 v2 v3 s:=h.step (GOff.of k)
theorem OwnClu.less {S S':Nat→Prop} {B B':Nat} {w:World} {v1 v2 v3:Value} {s:Clu} (h:OwnClu S B w v1 v2 v3 s) (hb:B'≤B) (hs:∀k,S' k→S k):OwnClu S' B' w v1 v2 v3 s:=by
 obtain⟨lx,e,ho,hd⟩:=h.pods;have m:∀k,(S' k∨v2.ownBlock=some k)→(S k∨v2.ownBlock=some k):=fun k e=>e.imp (hs k) id;exact⟨⟨lx,e,ho.base_le hb,fun z hz=>(hd z hz).less m⟩,h.nodes.less m,h.buds.less m,fun k hk e=>h.sep k hk (hs k e)⟩
theorem OwnClu.more {S:Nat→Prop} {B q:Nat} {w w':World} {v1 v2 v3:Value} {s:Clu} (h:OwnClu S B w v1 v2 v3 s) (k:Kept w w') (hq:w.heap.size≤q):OwnClu (fun b=>S b∨b=q) B w' v1 v2 v3 s:=by
 obtain⟨lx,e,ho,hd⟩:=h.pods;have m:∀b,((S b∨b=q)∨v2.ownBlock=some b)→((S b∨v2.ownBlock=some b)∨w.heap.size≤b):=fun b e=>by
  rcases e with (e | e) | e
  · exact .inl (.inl e)
  · exact .inr (by omega)
  · exact .inl (.inr e)
 exact⟨⟨lx,e,ho.kept k,fun z hz=>(hd z hz).new (GOff.of k) m⟩,h.nodes.new (GOff.of k) m,h.buds.new (GOff.of k) m,fun b hb e=>by
  rcases e with e | e
  · exact h.sep b hb e
  · have:=(h.lt b hb).2;omega⟩
def nodK (x:ByteArray) (c:Int):Nod:=⟨x,[(⟨#[99,112,117]⟩,c)],[],[],false⟩
def podK (x:ByteArray) (c:Int) (y:ByteArray):Pd:=⟨x,⟨#[]⟩,0,[(⟨#[99,112,117]⟩,c)],[],[],[],⟨#[]⟩,0,y,false⟩
theorem one_amount (w:World) (c:Int) (h:-9223372036854775808≤c∧c≤9223372036854775807) (W:World) (k:Kept (w.alloc (.cells #[.string ⟨#[99,112,117]⟩,.int .i64 c] 64)) W):Vec.Reads W (.slice (some ⟨w.heap.size,0,none⟩) 1 1) [(⟨#[99,112,117]⟩,c)]:=by
 have cc:=freshN w (.string ⟨#[99,112,117]⟩) [.int .i64 c] 64 W k;refine⟨_,1,rfl,(by decide:(1:Nat)≤1),(by decide:(1:Nat)≤maxLen),rfl,(by decide:(1:Nat)≤maxLen),fun i hi=>?_,.inr ⟨w.heap.size,0,rfl,cc.lt,fun i hi=>?_⟩⟩
 · obtain rfl:i=0:=by simpa using hi
   exact⟨(by decide:(3:Nat)≤maxLen),h.1,h.2⟩
 · obtain rfl:i=0:=by simpa using hi
   exact⟨cc.at_ 0 _ rfl,cc.at_ 1 _ rfl⟩
theorem lawN_far (x:ByteArray) (c:Int) (hc:-9223372036854775808≤c∧c≤9223372036854775807) (hx:x.size≤maxLen) (w:World) :
 Calls Try.prog 11 #[.string x,.int .i64 c] w fun e w'=>∃b1 n1 d1,e=.returned (.agg #[.string x,.slice b1 n1 d1,.slice none 0 0,.slice none 0 0,.bool false])∧NodAt w' (.slice b1 n1 d1) (.slice none 0 0) (.slice none 0 0) (nodK x c)∧Kept w w'∧∀b o z,b1=some ⟨b,o,z⟩→w.heap.size<b:=by
 have cc:=freshN w (.string ⟨#[]⟩) [.slice none 0 0,.slice none 0 0,.slice none 0 0,.bool false] 34 _ (Kept.refl _);obtain⟨W0,hW0⟩:=eX (w.alloc (.cells #[.string ⟨#[]⟩,.slice none 0 0,.slice none 0 0,.slice none 0 0,.bool false] 34))
 have hs:W0.heap.size=w.heap.size+1:=by rw[←hW0];simp
 rw[hW0] at cc;obtain⟨W1,hW1⟩:=eX (W0.alloc (.cells #[.string ⟨#[99,112,117]⟩,.int .i64 c] 64))
 have HR:=lH (one_amount W0 c hc W1 (by rw[hW1];exact Kept.refl _));rw[hs] at HR;have c1:=cc.kept (W':=W1) (by rw[←hW1];exact kept_alloc _ _);have KW:=lH (show Kept w W1 by rw[←hW1,←hW0];exact kept_two _ _ _);have y0:=c1.at_ 0 _ rfl;have y1:=c1.at_ 1 _ rfl;have y2:=c1.at_ 2 _ rfl;have y3:=c1.at_ 3 _ rfl;have y4:=c1.at_ 4 _ rfl;have f0:=c1.free 0;have f1:=c1.free 1;have f2:=c1.free 2;have f3:=c1.free 3;have f4:=c1.free 4;have P:=lH (putN (vs:=[.string x,.slice (some ⟨w.heap.size+1,0,none⟩) 1 1,.slice none 0 0,.slice none 0 0,.bool false]) c1 rfl);clear c1 cc;go_enter Try.func11,Try.ntmps11;go_wp2;try rw[hW0]
 try rw[hW1]
 obtain⟨WE,hWE⟩:=eX (W1.setCells w.heap.size 0 [.string x,.slice (some ⟨w.heap.size+1,0,none⟩) 1 1,.slice none 0 0,.slice none 0 0,.bool false])
 have hWE2:(((((W1.setCell ⟨w.heap.size,0,none⟩ (.string x)).setCell ⟨w.heap.size,1,none⟩ (.slice (some ⟨w.heap.size+1,0,none⟩) 1 1)).setCell ⟨w.heap.size,2,none⟩ (.slice none 0 0)).setCell ⟨w.heap.size,3,none⟩ (.slice none 0 0)).setCell ⟨w.heap.size,4,none⟩ (.bool false))=WE:=hWE;rw[hWE] at P;try rw[hWE2]
 clear hWE hWE2;obtain⟨PC,hsz,hbl,hkp⟩:=P.out;refine bodyPost_ret (by simp[results,Try.results11,go_sem,PC.at_ 0 _ rfl,PC.at_ 1 _ rfl,PC.at_ 2 _ rfl,PC.at_ 3 _ rfl,PC.at_ 4 _ rfl];try rfl) rfl ?_;exact⟨_,_,_,rfl,⟨hx,(HR.out.far hsz (fun b o s e=>hbl b (by cases e;omega))),Reads.nil _,Reads.nil _⟩,hkp _ _ (Nat.le_refl _) KW.out,fun b o z e=>by cases e;omega⟩
theorem lawN_any (x:ByteArray) (c:Int) (hc:-9223372036854775808≤c∧c≤9223372036854775807) (hx:x.size≤maxLen) (w:World) :
 Calls Try.prog 11 #[.string x,.int .i64 c] w fun e w'=>∃b1 n1 d1,e=.returned (.agg #[.string x,.slice b1 n1 d1,.slice none 0 0,.slice none 0 0,.bool false])∧NodAt w' (.slice b1 n1 d1) (.slice none 0 0) (.slice none 0 0) (nodK x c)∧Kept w w' :=
 (lawN_far x c hc hx w).mono fun e w' ⟨b,n,d,h1,h2,h3,_⟩=>⟨b,n,d,h1,h2,h3⟩
theorem lawP_far (x:ByteArray) (c:Int) (y:ByteArray) (hc:-9223372036854775808≤c∧c≤9223372036854775807) (hx:x.size≤maxLen) (hy:y.size≤maxLen) (w:World) :
 Calls Try.prog 12 #[.string x,.int .i64 c,.string y] w fun e w'=>∃b1 n1 d1,e=.returned (.agg #[.string x,.string ⟨#[]⟩,.int .i64 0,.slice b1 n1 d1,.slice none 0 0,.slice none 0 0,.slice none 0 0,.string ⟨#[]⟩,.int .i64 0,.string y,.bool false])∧PodAt w' (.slice b1 n1 d1) (.slice none 0 0) (.slice none 0 0) (.slice none 0 0) (podK x c y)∧Kept w w'∧∀b o z,b1=some ⟨b,o,z⟩→w.heap.size<b:=by
 have cc:=freshN w (.string ⟨#[]⟩) [.string ⟨#[]⟩,.int .i64 0,.slice none 0 0,.slice none 0 0,.slice none 0 0,.slice none 0 0,.string ⟨#[]⟩,.int .i64 0,.string ⟨#[]⟩,.bool false] 41 _ (Kept.refl _);obtain⟨W0,hW0⟩:=eX (w.alloc (.cells #[.string ⟨#[]⟩,.string ⟨#[]⟩,.int .i64 0,.slice none 0 0,.slice none 0 0,.slice none 0 0,.slice none 0 0,.string ⟨#[]⟩,.int .i64 0,.string ⟨#[]⟩,.bool false] 41))
 have hs:W0.heap.size=w.heap.size+1:=by rw[←hW0];simp
 rw[hW0] at cc;obtain⟨W1,hW1⟩:=eX (W0.alloc (.cells #[.string ⟨#[99,112,117]⟩,.int .i64 c] 64))
 have HR:=lH (one_amount W0 c hc W1 (by rw[hW1];exact Kept.refl _));rw[hs] at HR;have c1:=cc.kept (W':=W1) (by rw[←hW1];exact kept_alloc _ _);have KW:=lH (show Kept w W1 by rw[←hW1,←hW0];exact kept_two _ _ _);have y0:=c1.at_ 0 _ rfl;have y1:=c1.at_ 1 _ rfl;have y2:=c1.at_ 2 _ rfl;have y3:=c1.at_ 3 _ rfl;have y4:=c1.at_ 4 _ rfl;have y5:=c1.at_ 5 _ rfl;have y6:=c1.at_ 6 _ rfl;have y7:=c1.at_ 7 _ rfl;have y8:=c1.at_ 8 _ rfl;have y9:=c1.at_ 9 _ rfl;have y10:=c1.at_ 10 _ rfl;have f0:=c1.free 0;have f1:=c1.free 1;have f2:=c1.free 2;have f3:=c1.free 3;have f4:=c1.free 4;have f5:=c1.free 5;have f6:=c1.free 6;have f7:=c1.free 7;have f8:=c1.free 8;have f9:=c1.free 9;have f10:=c1.free 10;have P:=lH (putN (vs:=[.string x,.string ⟨#[]⟩,.int .i64 0,.slice (some ⟨w.heap.size+1,0,none⟩) 1 1,.slice none 0 0,.slice none 0 0,.slice none 0 0,.string ⟨#[]⟩,.int .i64 0,.string y,.bool false]) c1 rfl);clear c1 cc;go_enter Try.func12,Try.ntmps12;go_wp2;try rw[hW0]
 try rw[hW1]
 obtain⟨WE,hWE⟩:=eX (W1.setCells w.heap.size 0 [.string x,.string ⟨#[]⟩,.int .i64 0,.slice (some ⟨w.heap.size+1,0,none⟩) 1 1,.slice none 0 0,.slice none 0 0,.slice none 0 0,.string ⟨#[]⟩,.int .i64 0,.string y,.bool false])
 have hWE2:(((((((((((W1.setCell ⟨w.heap.size,0,none⟩ (.string x)).setCell ⟨w.heap.size,1,none⟩ (.string ⟨#[]⟩)).setCell ⟨w.heap.size,2,none⟩ (.int .i64 0)).setCell ⟨w.heap.size,3,none⟩ (.slice (some ⟨w.heap.size+1,0,none⟩) 1 1)).setCell ⟨w.heap.size,4,none⟩ (.slice none 0 0)).setCell ⟨w.heap.size,5,none⟩ (.slice none 0 0)).setCell ⟨w.heap.size,6,none⟩ (.slice none 0 0)).setCell ⟨w.heap.size,7,none⟩ (.string ⟨#[]⟩)).setCell ⟨w.heap.size,8,none⟩ (.int .i64 0)).setCell ⟨w.heap.size,9,none⟩ (.string y)).setCell ⟨w.heap.size,10,none⟩ (.bool false))=WE:=hWE;rw[hWE] at P;try rw[hWE2]
 clear hWE hWE2;obtain⟨PC,hsz,hbl,hkp⟩:=P.out;refine bodyPost_ret (by simp[results,Try.results12,go_sem,PC.at_ 0 _ rfl,PC.at_ 1 _ rfl,PC.at_ 2 _ rfl,PC.at_ 3 _ rfl,PC.at_ 4 _ rfl,PC.at_ 5 _ rfl,PC.at_ 6 _ rfl,PC.at_ 7 _ rfl,PC.at_ 8 _ rfl,PC.at_ 9 _ rfl,PC.at_ 10 _ rfl];try rfl) rfl ?_;exact⟨_,_,_,rfl,⟨hx,(by decide:(0:Nat)≤maxLen),(by decide:(0:Nat)≤maxLen),hy,(by decide:(-9223372036854775808:Int)≤0∧(0:Int)≤9223372036854775807),(by decide:(-9223372036854775808:Int)≤0∧(0:Int)≤9223372036854775807),(HR.out.far hsz (fun b o s e=>hbl b (by cases e;omega))),Reads.nil _,Reads.nil _,Reads.nil _⟩,hkp _ _ (Nat.le_refl _) KW.out,fun b o z e=>by cases e;omega⟩
theorem row_fresh {X:Type} {L:Lay X} {lx:List X} {q:Nat} {v:Value} {vs:List Value} {W:World} (hc:rowCells L lx=v::vs) (c:CellsN q (v::vs) W) (hf:∀x ∈ lx,L.fine x) (hm:lx.length≤maxLen):RowAt L W (some ⟨q,0,none⟩) lx.length lx :=
 ⟨rfl,hm,hf,.inr ⟨q,0,rfl,c.lt,fun i x j u hi hj=>by
  have:=rowCells_at L lx i x j u hi hj;rw[hc] at this;rw[Nat.zero_add];exact c.at_ _ u this⟩⟩
theorem nodes_row {w:World} {a:Option Addr} {len:Nat} {lx:List NX} (h:RowAt NodLay0 w a len lx) (hf:∀z ∈ lx,At3 w z):NodesAt w a len (lx.map fun z=>z.1):=by
 obtain⟨g0,g1,g2,g3⟩:=h;refine⟨by rw[List.length_map];exact g0,g1,g3.imp id ?_⟩;rintro ⟨b,off,rfl,hb,hc⟩;refine⟨b,off,rfl,hb,fun i n hi=>?_⟩;rw[List.getElem?_map] at hi;obtain⟨z,hz,rfl⟩:=Option.map_eq_some_iff.1 hi;exact⟨_,_,_,_,_,_,_,_,_,hc i z 0 _ hz rfl,hc i z 1 _ hz rfl,hc i z 2 _ hz rfl,hc i z 3 _ hz rfl,hc i z 4 _ hz rfl,hf z (List.mem_of_getElem? hz)⟩
theorem pods_row {w:World} {a:Option Addr} {len:Nat} {lx:List PX} (h:RowAt PodLay0 w a len lx) (hf:∀z ∈ lx,At4 w z):PodsAt w a len (lx.map fun z=>z.1):=by
 obtain⟨g0,g1,g2,g3⟩:=h;refine⟨by rw[List.length_map];exact g0,g1,g3.imp id ?_⟩;rintro ⟨b,off,rfl,hb,hc⟩;refine⟨b,off,rfl,hb,fun i n hi=>?_⟩;rw[List.getElem?_map] at hi;obtain⟨z,hz,rfl⟩:=Option.map_eq_some_iff.1 hi;exact⟨_,_,_,_,hc i z 0 _ hz rfl,hc i z 1 _ hz rfl,hc i z 2 _ hz rfl,hc i z 3 _ hz rfl,hc i z 4 _ hz rfl,hc i z 5 _ hz rfl,hc i z 6 _ hz rfl,hc i z 7 _ hz rfl,hc i z 8 _ hz rfl,hc i z 9 _ hz rfl,hc i z 10 _ hz rfl,hf z (List.mem_of_getElem? hz)⟩
theorem lawP_any (x:ByteArray) (c:Int) (y:ByteArray) (hc:-9223372036854775808≤c∧c≤9223372036854775807) (hx:x.size≤maxLen) (hy:y.size≤maxLen) (w:World) :
 Calls Try.prog 12 #[.string x,.int .i64 c,.string y] w fun e w'=>∃b1 n1 d1,e=.returned (.agg #[.string x,.string ⟨#[]⟩,.int .i64 0,.slice b1 n1 d1,.slice none 0 0,.slice none 0 0,.slice none 0 0,.string ⟨#[]⟩,.int .i64 0,.string y,.bool false])∧PodAt w' (.slice b1 n1 d1) (.slice none 0 0) (.slice none 0 0) (.slice none 0 0) (podK x c y)∧Kept w w' :=
 (lawP_far x c y hc hx hy w).mono fun e w' ⟨b,n,d,h1,h2,h3,_⟩=>⟨b,n,d,h1,h2,h3⟩
def Fit8 (l:Vec.V):Prop:=Vec.Gd l∧l.length≤8
theorem Fit8.nil:Fit8 []:=⟨Vec.Gd.nil,by decide⟩
def kZone:ByteArray:=⟨#[122,111,110,101]⟩
def kWeb:ByteArray:=⟨#[119,101,98]⟩
def nodZ (x z:ByteArray):Nod:=⟨x,[(⟨#[99,112,117]⟩,100)],[(kZone,z)],[],false⟩
def podO (x y:ByteArray) (m:Int):Pd:=⟨x,kWeb,0,[(⟨#[99,112,117]⟩,1)],[],[],[],kZone,m,y,false⟩
theorem one_pair {W:World} {b:Nat} {x y:ByteArray} (h:CellsN b [.string x,.string y] W) (hx:x.size≤maxLen) (hy:y.size≤maxLen):Reads PairLay W (.slice (some ⟨b,0,none⟩) 1 1) [(x,y)]:=by
 refine⟨_,1,rfl,(by decide:(1:Nat)≤1),(by decide:(1:Nat)≤maxLen),rfl,(by decide:(1:Nat)≤maxLen),fun z hz=>?_,.inr ⟨b,0,rfl,h.lt,fun i z j u hz hu=>?_⟩⟩
 · obtain rfl:z=(x,y):=by simpa using hz
   exact⟨hx,hy⟩
 · cases i with
   | zero =>
    cases hz
    match j,hu with
    | 0,hu=>cases hu;exact h.at_ 0 _ rfl
    | 1,hu=>cases hu;exact h.at_ 1 _ rfl
    | j+2,hu=>cases hu
   | succ i=>cases hz
theorem zoned_any (x z:ByteArray) (hx:x.size≤maxLen) (hz:z.size≤maxLen) (w:World) :
 Calls Try.prog 5 #[.string x,.string z] w fun e w'=>∃b1 n1 d1 b2 n2 d2,e=.returned (.agg #[.string x,.slice b1 n1 d1,.slice b2 n2 d2,.slice none 0 0,.bool false])∧NodAt w' (.slice b1 n1 d1) (.slice b2 n2 d2) (.slice none 0 0) (nodZ x z)∧Kept w w':=by
 have cc:=freshN w (.string ⟨#[]⟩) [.slice none 0 0,.slice none 0 0,.slice none 0 0,.bool false] 34 _ (Kept.refl _);obtain⟨W0,hW0⟩:=eX (w.alloc (.cells #[.string ⟨#[]⟩,.slice none 0 0,.slice none 0 0,.slice none 0 0,.bool false] 34))
 have k0:Kept w W0:=by rw[←hW0];exact kept_alloc _ _
 rw[hW0] at cc;have C0:=lH cc;have K0:=lH k0;clear cc k0;go_enter Try.func5,Try.ntmps5;go_wp2_with fail
 try rw[hW0]
 clear hW0;refine(lawN_far x 100 (by decide) hx _).mono ?_;rintro e w1 ⟨b1,n1,d1,rfl,HN,kk,hfar⟩;have HFA:=lH hfar;clear hfar;obtain⟨W2,hW2⟩:=eX ((w1.alloc (.cells #[.string x,.slice b1 n1 d1,.slice (some ⟨w1.heap.size+1,0,none⟩) 1 1,.slice none 0 0,.bool false] 34)).alloc (.cells #[.string ⟨#[122,111,110,101]⟩,.string z] 55))
 have k2:Kept w1 W2:=by rw[←hW2];exact kept_two _ _ _
 have HB:=lH (show CellsN (w1.heap.size+1) [.string ⟨#[122,111,110,101]⟩,.string z] W2 by
  have:=freshN (w1.alloc (.cells #[.string x,.slice b1 n1 d1,.slice (some ⟨w1.heap.size+1,0,none⟩) 1 1,.slice none 0 0,.bool false] 34)) (.string ⟨#[122,111,110,101]⟩) [.string z] 55 W2 (by rw[hW2];exact Kept.refl _);simpa using this)
 have ha:=freshN w1 (.string x) [.slice b1 n1 d1,.slice (some ⟨w1.heap.size+1,0,none⟩) 1 1,.slice none 0 0,.bool false] 34 W2 (by rw[←hW2];exact kept_alloc _ _);have z0:=ha.at_ 0 _ rfl;have z1:=ha.at_ 1 _ rfl;have z2:=ha.at_ 2 _ rfl;have z3:=ha.at_ 3 _ rfl;have z4:=ha.at_ 4 _ rfl;clear ha;have c1:=C0.out.kept (kk.trans k2);have hsz:=kk.size;have hlt:=C0.out.lt;have HN:=lH (HN.kept k2);have KW:=lH (K0.out.trans (kk.trans k2));have y0:=c1.at_ 0 _ rfl;have y1:=c1.at_ 1 _ rfl;have y2:=c1.at_ 2 _ rfl;have y3:=c1.at_ 3 _ rfl;have y4:=c1.at_ 4 _ rfl;have f0:=c1.free 0;have f1:=c1.free 1;have f2:=c1.free 2;have f3:=c1.free 3;have f4:=c1.free 4;have P:=lH (putN (vs:=[.string x,.slice b1 n1 d1,.slice (some ⟨w1.heap.size+1,0,none⟩) 1 1,.slice none 0 0,.bool false]) c1 rfl);clear c1 kk k2;go_upto_region 3 with fail
 try rw[hW2]
 clear hW2;go_wp2;obtain⟨WE,hWE⟩:=eX (W2.setCells w.heap.size 0 [.string x,.slice b1 n1 d1,.slice (some ⟨w1.heap.size+1,0,none⟩) 1 1,.slice none 0 0,.bool false])
 have hWE2:(((((W2.setCell ⟨w.heap.size,0,none⟩ (.string x)).setCell ⟨w.heap.size,1,none⟩ (.slice b1 n1 d1)).setCell ⟨w.heap.size,2,none⟩ (.slice (some ⟨w1.heap.size+1,0,none⟩) 1 1)).setCell ⟨w.heap.size,3,none⟩ (.slice none 0 0)).setCell ⟨w.heap.size,4,none⟩ (.bool false))=WE:=hWE;rw[hWE] at P;try rw[hWE2]
 clear hWE hWE2;obtain⟨PC,hsz9,hbl,hkp⟩:=P.out;have HBE:CellsN (w1.heap.size+1) [.string ⟨#[122,111,110,101]⟩,.string z] WE:=HB.out.block (hbl _ (by omega));refine bodyPost_ret (by simp[results,Try.results5,go_sem,PC.at_ 0 _ rfl,PC.at_ 1 _ rfl,PC.at_ 2 _ rfl,PC.at_ 3 _ rfl,PC.at_ 4 _ rfl];try rfl) rfl ?_;refine⟨_,_,_,_,_,_,rfl,⟨hx,?_,?_,Reads.nil _⟩,hkp _ _ (Nat.le_refl _) KW.out⟩
 · exact HN.out.cap.far hsz9 fun b o s e=>hbl b (by have:=HFA.out b o s e;omega)
 · exact one_pair HBE (by decide) hz
theorem ownedLaw_any (x y:ByteArray) (m:Int) (hx:x.size≤maxLen) (hy:y.size≤maxLen) (hm:-9223372036854775808≤m∧m≤9223372036854775807) (w:World) :
 Calls Try.prog 7 #[.string x,.string y,.int .i64 m] w fun e w'=>∃b1 n1 d1,e=.returned (.agg #[.string x,.string ⟨#[119,101,98]⟩,.int .i64 0,.slice b1 n1 d1,.slice none 0 0,.slice none 0 0,.slice none 0 0,.string ⟨#[122,111,110,101]⟩,.int .i64 m,.string y,.bool false])∧PodAt w' (.slice b1 n1 d1) (.slice none 0 0) (.slice none 0 0) (.slice none 0 0) (podO x y m)∧Kept w w':=by
 have cc:=freshN w (.string ⟨#[]⟩) [.string ⟨#[]⟩,.int .i64 0,.slice none 0 0,.slice none 0 0,.slice none 0 0,.slice none 0 0,.string ⟨#[]⟩,.int .i64 0,.string ⟨#[]⟩,.bool false] 41 _ (Kept.refl _);obtain⟨W0,hW0⟩:=eX (w.alloc (.cells #[.string ⟨#[]⟩,.string ⟨#[]⟩,.int .i64 0,.slice none 0 0,.slice none 0 0,.slice none 0 0,.slice none 0 0,.string ⟨#[]⟩,.int .i64 0,.string ⟨#[]⟩,.bool false] 41))
 have k0:Kept w W0:=by rw[←hW0];exact kept_alloc _ _
 rw[hW0] at cc;have C0:=lH cc;have K0:=lH k0;clear cc k0;go_enter Try.func7,Try.ntmps7;go_wp2_with fail
 try rw[hW0]
 clear hW0;refine(lawP_far x 1 y (by decide) hx hy _).mono ?_;rintro e w1 ⟨b1,n1,d1,rfl,HN,kk,hfar⟩;have HFA:=lH hfar;clear hfar;obtain⟨W2,hW2⟩:=eX (w1.alloc (.cells #[.string x,.string ⟨#[119,101,98]⟩,.int .i64 0,.slice b1 n1 d1,.slice none 0 0,.slice none 0 0,.slice none 0 0,.string ⟨#[122,111,110,101]⟩,.int .i64 m,.string y,.bool false] 41))
 have k2:Kept w1 W2:=by rw[←hW2];exact kept_alloc _ _
 have ha:=freshN w1 (.string x) [.string ⟨#[119,101,98]⟩,.int .i64 0,.slice b1 n1 d1,.slice none 0 0,.slice none 0 0,.slice none 0 0,.string ⟨#[122,111,110,101]⟩,.int .i64 m,.string y,.bool false] 41 W2 (by rw[hW2];exact Kept.refl _);have z0:=ha.at_ 0 _ rfl;have z1:=ha.at_ 1 _ rfl;have z2:=ha.at_ 2 _ rfl;have z3:=ha.at_ 3 _ rfl;have z4:=ha.at_ 4 _ rfl;have z5:=ha.at_ 5 _ rfl;have z6:=ha.at_ 6 _ rfl;have z7:=ha.at_ 7 _ rfl;have z8:=ha.at_ 8 _ rfl;have z9:=ha.at_ 9 _ rfl;have z10:=ha.at_ 10 _ rfl;clear ha;have c1:=C0.out.kept (kk.trans k2);have hsz:=kk.size;have hlt:=C0.out.lt;have HN:=lH (HN.kept k2);have KW:=lH (K0.out.trans (kk.trans k2));have y0:=c1.at_ 0 _ rfl;have y1:=c1.at_ 1 _ rfl;have y2:=c1.at_ 2 _ rfl;have y3:=c1.at_ 3 _ rfl;have y4:=c1.at_ 4 _ rfl;have y5:=c1.at_ 5 _ rfl;have y6:=c1.at_ 6 _ rfl;have y7:=c1.at_ 7 _ rfl;have y8:=c1.at_ 8 _ rfl;have y9:=c1.at_ 9 _ rfl;have y10:=c1.at_ 10 _ rfl;have f0:=c1.free 0;have f1:=c1.free 1;have f2:=c1.free 2;have f3:=c1.free 3;have f4:=c1.free 4;have f5:=c1.free 5;have f6:=c1.free 6;have f7:=c1.free 7;have f8:=c1.free 8;have f9:=c1.free 9;have f10:=c1.free 10;have P:=lH (putN (vs:=[.string x,.string ⟨#[119,101,98]⟩,.int .i64 0,.slice b1 n1 d1,.slice none 0 0,.slice none 0 0,.slice none 0 0,.string ⟨#[122,111,110,101]⟩,.int .i64 m,.string y,.bool false]) c1 rfl);clear c1 kk k2;go_upto_region 4 with fail
 try rw[hW2]
 clear hW2;go_wp2;obtain⟨WE,hWE⟩:=eX (W2.setCells w.heap.size 0 [.string x,.string ⟨#[119,101,98]⟩,.int .i64 0,.slice b1 n1 d1,.slice none 0 0,.slice none 0 0,.slice none 0 0,.string ⟨#[122,111,110,101]⟩,.int .i64 m,.string y,.bool false])
 have hWE2:(((((((((((W2.setCell ⟨w.heap.size,0,none⟩ (.string x)).setCell ⟨w.heap.size,1,none⟩ (.string ⟨#[119,101,98]⟩)).setCell ⟨w.heap.size,2,none⟩ (.int .i64 0)).setCell ⟨w.heap.size,3,none⟩ (.slice b1 n1 d1)).setCell ⟨w.heap.size,4,none⟩ (.slice none 0 0)).setCell ⟨w.heap.size,5,none⟩ (.slice none 0 0)).setCell ⟨w.heap.size,6,none⟩ (.slice none 0 0)).setCell ⟨w.heap.size,7,none⟩ (.string ⟨#[122,111,110,101]⟩)).setCell ⟨w.heap.size,8,none⟩ (.int .i64 m)).setCell ⟨w.heap.size,9,none⟩ (.string y)).setCell ⟨w.heap.size,10,none⟩ (.bool false))=WE:=hWE;rw[hWE] at P;try rw[hWE2]
 clear hWE hWE2;obtain⟨PC,hsz9,hbl,hkp⟩:=P.out;refine bodyPost_ret (by simp[results,Try.results7,go_sem,PC.at_ 0 _ rfl,PC.at_ 1 _ rfl,PC.at_ 2 _ rfl,PC.at_ 3 _ rfl,PC.at_ 4 _ rfl,PC.at_ 5 _ rfl,PC.at_ 6 _ rfl,PC.at_ 7 _ rfl,PC.at_ 8 _ rfl,PC.at_ 9 _ rfl,PC.at_ 10 _ rfl];try rfl) rfl ?_;refine⟨_,_,_,rfl,⟨hx,(by decide:kWeb.size≤maxLen),(by decide:kZone.size≤maxLen),hy,(by decide:(-9223372036854775808:Int)≤0∧(0:Int)≤9223372036854775807),hm,?_,Reads.nil _,Reads.nil _,Reads.nil _⟩,hkp _ _ (Nat.le_refl _) KW.out⟩;exact HN.out.need.far hsz9 fun b o s e=>hbl b (by have:=HFA.out b o s e;omega)
abbrev evNm (j:Nat):ByteArray:=⟨#[110,(48+j).toUInt8]⟩
abbrev evZm (j:Nat):ByteArray:=⟨#[122,(48+j).toUInt8]⟩
abbrev evPm (i:Nat):ByteArray:=⟨#[112,(97+i).toUInt8]⟩
def evN (j:Nat):Nod:=nodZ (evNm j) (evZm j)
def evP (k i:Nat):Pd:=podO (evPm i) (evNm (i % k)) 1
def evQ (i:Nat):Pd:=podO (evPm i) ⟨#[]⟩ 1
def evZ:Pd:=podO ⟨#[122,122]⟩ ⟨#[]⟩ 1
def evS (k n:Nat):Clu:=⟨(List.range k).map evN,(List.range n).map (evP k),[]⟩
def evK (k i j:Nat):Int:=if k=1 then 0 else if i % k=0 then 1 else if j<i % k then 2 else if i % k+1=k then 0 else 1
def evB (k i m:Nat):Nat:=if i % k<m then i % k else 0
def evC (k n j:Nat):Nat:=n / k+(if j<n % k then 1 else 0)
theorem ev_skew:∀k,k<7→∀i,i<20→∀j,j<k→skewS (evQ i) (evS k i) (evNm j)=(evK k i j,true):=by decide +kernel
theorem ev_count:∀k,k<7→∀n,n<20→∀j,j<k→inD evZ (evS k n).pods (evZm j) (evS k n).nodes=evC k n j:=by decide +kernel
theorem ev_bad:∀k,k<7→0<k→∀n,n<20→badS (evS k n)=[]:=by decide +kernel
theorem ev_best:∀k,k<7→∀i,i<20→∀j,j<k→(if evK k i j<evK k i (evB k i j) then j else evB k i j)=evB k i (j+1):=by decide +kernel
theorem ev_pos:∀k,k<7→∀i,i<20→∀j,j<k→¬evK k i j<0:=by decide +kernel
theorem ev_in:∀k,k<7→∀i,i<20→∀j,j<k→evB k i j<k:=by decide +kernel
theorem ev_end (k i:Nat) (h:0<k):evB k i k=i % k:=if_pos (Nat.mod_lt _ h)
theorem ev_even:∀k,k<7→∀n,n<20→∀j,j<k→(evC k n j=n / k∨evC k n j=n / k+1)∧(n % k=0→evC k n j=n / k):=by decide +kernel
def Tri (S:Nat→Prop) (v1 v2 v3:Value) (b:Nat):Prop:=S b∨v1.ownBlock=some b∨v2.ownBlock=some b∨v3.ownBlock=some b
structure Own3 (S:Nat→Prop) (B:Nat) (w:World) (v1 v2 v3:Value) (s:Clu):Prop where
 n:∃lx:List NX,(lx.map fun z=>z.1)=s.nodes∧Own NodLay0 34 w B v1 lx∧∀z ∈ lx,Off (Tri S v1 v2 v3) w fun u=>At3 u z
 p:∃lx:List PX,(lx.map fun z=>z.1)=s.pods∧Own PodLay0 41 w B v2 lx∧∀z ∈ lx,Off (Tri S v1 v2 v3) w fun u=>At4 u z
 b:∃lx:List BX,(lx.map fun z=>z.1)=s.buds∧Own BudLay0 120 w B v3 lx∧∀z ∈ lx,Off (Tri S v1 v2 v3) w fun u=>At1 u z
 sep:∀k,(v1.ownBlock=some k∨v2.ownBlock=some k∨v3.ownBlock=some k)→¬S k
 d12:∀k,v1.ownBlock=some k→v2.ownBlock≠some k
 d13:∀k,v1.ownBlock=some k→v3.ownBlock≠some k
 d23:∀k,v2.ownBlock=some k→v3.ownBlock≠some k
theorem Own3.toR {S:Nat→Prop} {B:Nat} {w:World} {v1 v2 v3:Value} {s:Clu} (h:Own3 S B w v1 v2 v3 s):CluR w (.agg #[v1,v2,v3]) s:=by
 obtain⟨l1,e1,o1,d1⟩:=h.n;obtain⟨l2,e2,o2,d2⟩:=h.p;obtain⟨l3,e3,o3,d3⟩:=h.b;exact⟨v1,v2,v3,rfl,by rw[←e1];exact nodes_own o1 fun z hz=>(d1 z hz).here,by rw[←e2];exact pods_own o2 fun z hz=>(d2 z hz).here,by rw[←e3];exact buds_own o3 fun z hz=>(d3 z hz).here⟩
theorem Own3.lt {S:Nat→Prop} {B:Nat} {w:World} {v1 v2 v3:Value} {s:Clu} (h:Own3 S B w v1 v2 v3 s) {g:Nat} (hg:v1.ownBlock=some g∨v2.ownBlock=some g∨v3.ownBlock=some g):B≤g∧g<w.heap.size:=by
 obtain⟨l1,e1,o1,d1⟩:=h.n;obtain⟨l2,e2,o2,d2⟩:=h.p;obtain⟨l3,e3,o3,d3⟩:=h.b;rcases hg with hg | hg | hg
 · exact own_lt o1 g hg
 · exact own_lt o2 g hg
 · exact own_lt o3 g hg
theorem Own3.step {S:Nat→Prop} {B:Nat} {w w':World} {v1 v2 v3:Value} {s:Clu} (h:Own3 S B w v1 v2 v3 s) (g:GOff S w w'):Own3 S B w' v1 v2 v3 s:=by
 obtain⟨l1,e1,o1,d1⟩:=h.n;obtain⟨l2,e2,o2,d2⟩:=h.p;obtain⟨l3,e3,o3,d3⟩:=h.b;have g':GOff (Tri S v1 v2 v3) w w':=g.mono fun b e=>.inl e;exact⟨⟨l1,e1,o1.goff g fun k e=>h.sep k (.inl e),fun z hz=>(d1 z hz).step g'⟩,⟨l2,e2,o2.goff g fun k e=>h.sep k (.inr (.inl e)),fun z hz=>(d2 z hz).step g'⟩,⟨l3,e3,o3.goff g fun k e=>h.sep k (.inr (.inr e)),fun z hz=>(d3 z hz).step g'⟩,h.sep,h.d12,h.d13,h.d23⟩
theorem Own3.kept {S:Nat→Prop} {B:Nat} {w w':World} {v1 v2 v3:Value} {s:Clu} (h:Own3 S B w v1 v2 v3 s) (k:Kept w w'):Own3 S B w' v1 v2 v3 s:=h.step (GOff.of k)
theorem Own3.none (S:Nat→Prop) (B:Nat) (w:World):Own3 S B w (.slice none 0 0) (.slice none 0 0) (.slice none 0 0) ⟨[],[],[]⟩ :=
 ⟨⟨[],rfl,Own.nil _ _ _,fun z hz=>by cases hz⟩,⟨[],rfl,Own.nil _ _ _,fun z hz=>by cases hz⟩,⟨[],rfl,Own.nil _ _ _,fun z hz=>by cases hz⟩,(fun k e=>by rcases e with e | e | e<;>cases e),(fun k e=>by cases e),(fun k e=>by cases e),(fun k e=>by cases e)⟩
theorem Own3.elsN {S:Nat→Prop} {w w':World} {v1 v2 v3 v':Value} {Φ:World→Prop} (h:Off (Tri S v1 v2 v3) w Φ) (g:GOff (fun b=>v1.ownBlock=some b) w w') (hn:∀k,v'.ownBlock=some k→v1.ownBlock=some k∨w.heap.size≤k):Off (Tri S v' v2 v3) w' Φ :=
 h.new (g.mono fun b e=>.inr (.inl e)) fun b e=>by
  rcases e with e | e | e | e
  · exact .inl (.inl e)
  · rcases hn b e with e | e
    · exact .inl (.inr (.inl e))
    · exact .inr e
  · exact .inl (.inr (.inr (.inl e)))
  · exact .inl (.inr (.inr (.inr e)))
theorem Own3.turnN {S:Nat→Prop} {B:Nat} {w w':World} {v1 v2 v3 v':Value} {s:Clu} {l:List Nod} (h:Own3 S B w v1 v2 v3 s) (g:GOff (fun b=>v1.ownBlock=some b) w w') (hn:∀k,v'.ownBlock=some k→v1.ownBlock=some k∨w.heap.size≤k) (hS:∀k,S k→k<w.heap.size)
 (hp:∃lx:List NX,(lx.map fun z=>z.1)=l∧Own NodLay0 34 w' B v' lx∧∀z ∈ lx,Off (Tri S v' v2 v3) w' fun u=>At3 u z):Own3 S B w' v' v2 v3 { s with nodes:=l }:=by
 obtain⟨lp,ep,op,dp⟩:=h.p;obtain⟨lb,eb,ob,db⟩:=h.b;have hs:∀k,v'.ownBlock=some k→¬S k:=fun k e he=>by
  rcases hn k e with e | e
  · exact h.sep k (.inl e) he
  · have:=hS k he;omega
 have hd12:∀k,v'.ownBlock=some k→v2.ownBlock≠some k:=fun k e e2=>by
  rcases hn k e with q | q
  · exact h.d12 k q e2
  · have:=(h.lt (g:=k) (.inr (.inl e2))).2;omega
 have hd13:∀k,v'.ownBlock=some k→v3.ownBlock≠some k:=fun k e e2=>by
  rcases hn k e with q | q
  · exact h.d13 k q e2
  · have:=(h.lt (g:=k) (.inr (.inr e2))).2;omega
 exact⟨hp,⟨lp,ep,op.goff g (fun k e e2=>h.d12 k e2 e),fun z hz=>Own3.elsN (dp z hz) g hn⟩,⟨lb,eb,ob.goff g (fun k e e2=>h.d13 k e2 e),fun z hz=>Own3.elsN (db z hz) g hn⟩,fun k e=>by
  rcases e with e | e | e
  · exact hs k e
  · exact h.sep k (.inr (.inl e))
  · exact h.sep k (.inr (.inr e)),hd12,hd13,h.d23⟩
theorem Own3.elsP {S:Nat→Prop} {w w':World} {v1 v2 v3 v':Value} {Φ:World→Prop} (h:Off (Tri S v1 v2 v3) w Φ) (g:GOff (fun b=>v2.ownBlock=some b) w w') (hn:∀k,v'.ownBlock=some k→v2.ownBlock=some k∨w.heap.size≤k):Off (Tri S v1 v' v3) w' Φ :=
 h.new (g.mono fun b e=>.inr (.inr (.inl e))) fun b e=>by
  rcases e with e | e | e | e
  · exact .inl (.inl e)
  · exact .inl (.inr (.inl e))
  · rcases hn b e with e | e
    · exact .inl (.inr (.inr (.inl e)))
    · exact .inr e
  · exact .inl (.inr (.inr (.inr e)))
theorem Own3.turnP {S:Nat→Prop} {B:Nat} {w w':World} {v1 v2 v3 v':Value} {s:Clu} {l:List Pd} (h:Own3 S B w v1 v2 v3 s) (g:GOff (fun b=>v2.ownBlock=some b) w w') (hn:∀k,v'.ownBlock=some k→v2.ownBlock=some k∨w.heap.size≤k) (hS:∀k,S k→k<w.heap.size)
 (hp:∃lx:List PX,(lx.map fun z=>z.1)=l∧Own PodLay0 41 w' B v' lx∧∀z ∈ lx,Off (Tri S v1 v' v3) w' fun u=>At4 u z):Own3 S B w' v1 v' v3 { s with pods:=l }:=by
 obtain⟨ln,en,on,dn⟩:=h.n;obtain⟨lb,eb,ob,db⟩:=h.b;have hs:∀k,v'.ownBlock=some k→¬S k:=fun k e he=>by
  rcases hn k e with e | e
  · exact h.sep k (.inr (.inl e)) he
  · have:=hS k he;omega
 have hd12:∀k,v1.ownBlock=some k→v'.ownBlock≠some k:=fun k e e2=>by
  rcases hn k e2 with q | q
  · exact h.d12 k e q
  · have:=(h.lt (g:=k) (.inl e)).2;omega
 have hd23:∀k,v'.ownBlock=some k→v3.ownBlock≠some k:=fun k e e2=>by
  rcases hn k e with q | q
  · exact h.d23 k q e2
  · have:=(h.lt (g:=k) (.inr (.inr e2))).2;omega
 exact⟨⟨ln,en,on.goff g (fun k e e2=>h.d12 k e e2),fun z hz=>Own3.elsP (dn z hz) g hn⟩,hp,⟨lb,eb,ob.goff g (fun k e e2=>h.d23 k e2 e),fun z hz=>Own3.elsP (db z hz) g hn⟩,fun k e=>by
  rcases e with e | e | e
  · exact h.sep k (.inl e)
  · exact hs k e
  · exact h.sep k (.inr (.inr e)),hd12,h.d13,hd23⟩
end Go.Proofs.Ytokdjfoalkmhiaa
