/- C. -/
import Derived.Test.YtokdjfoalkmhiaaGreatG2
import Derived.Test.YtokdjfoalkmhiaaGreatG6
import Derived.Test.YtokdjfoalkmhiaaGreatG7
import Derived.Test.YtokdjfoalkmhiaaGreatG8
set_option linter.unusedVariables false
set_option maxRecDepth 100000
set_option maxHeartbeats 25600000
namespace Go.Proofs.YtokdjfoalkmhiaaGreat
open Go.RowKit Go.Shelf Go.Lib Go.Sort
theorem Ya (pack:Bool) (x y:Mk):ltOf (cfM pack) x y=JU pack x y:=by
 unfold ltOf
 cases h:JU pack x y with
 | true=>exact decide_eq_true ((jbT pack x y).2 h)
 | false=>exact decide_eq_false (fun e=>by rw[(jbT pack x y).1 e] at h;cases h)
theorem je8 (pack:Bool):SWO (ltOf (cfM pack)) where
 irrefl x:=by rw[Ya];exact qO _ _ _ _
 trans x y z h1 h2:=by rw[Ya] at *;exact YP h1 h2
 ntrans x y z h1 h2:=by rw[Ya] at *;exact qY h1 h2
theorem jac:∀args w,(callFunc 110 args).run Tryz.prog w=.ok (.enter 110 args) w:=enters_of Tryz.func110 (by kernel_rfl) rfl
theorem jdi (q:Nat) (pack:Bool) (blk size:Nat) (w:World) (hq:w.cell? ⟨q,0,none⟩=some (.bool pack)) (hne:q≠blk) (hlt:q<w.heap.size):CmpLays Tryz.prog 110 #[.pointer (some ⟨q,0,none⟩)] mkC 3 (cfM pack) blk 0 size w:=fun m os dk hs x y=>by
 refine jaw q pack x.1 y.1 x.2.1 y.2.1 x.2.2 y.2.2 _ ?_;show (grow (putRowK mkC 3 (Sort.ahead w m) blk 0 dk) os).cell? ⟨q,0,none⟩=_;rw[cell?_grow _ _ _ (by rw[size_putRowK];exact hlt),cell?_putRowK_other mkC 3 _ blk 0 dk ⟨q,0,none⟩ hne];exact hq
theorem jdn {B:Nat} {w0 w:World} {blk n:Nat} {d:Array Mk} {os:Array Obj} (h:Go.RowKit.Below B w0 w) (hg:B≤blk) (hB:B≤w.heap.size):Go.RowKit.Below B w0 (sortWorldK mkC 3 w blk 0 n d os):=by
 unfold sortWorldK;refine(below_putRow (enc:=id) (q:=n) (d:=flatK mkC 3 d) h hg).trans ?_;exact below_grow B (putRowK mkC 3 (Sort.ahead w n) blk 0 d) (by rw[size_putRowK];exact hB) 0 os
theorem jcq {W:World} {base:Nat} {v:Value} {zs:List Mk} (h:jd0 base W v zs) (hv:v≠.slice none 0 0):∃g cap,v=.slice (some ⟨g,0,none⟩) zs.length cap∧base≤g∧g<W.heap.size∧zs.length≤cap∧cap≤maxLen∧HoldsK mkC 3 W g 0 zs.toArray:=by
 rcases h.1.2 with ⟨e0,_⟩ | ⟨g,cap,cur,rfl,hb,hg,hn,hm,hs,ht⟩
 · exact absurd e0 hv
 · have hlt:g<W.heap.size:=by
    rcases Nat.lt_or_ge g W.heap.size with h' | h'
    · exact h'
    · rw[Array.getElem?_eq_none h'] at hg;cases hg
   refine⟨g,cap,rfl,hb,hlt,hn,hm,fun t htl=>?_⟩;have htl2:t<zs.length*3:=by simpa using htl
   have h3:t / 3<zs.length:=by omega
   have h4:t % 3<3:=Nat.mod_lt _ (by decide);refine⟨?_,by simp[World.frozen?,hg]⟩;rw[get_flatK _ _ _ _ (by simpa using htl2)];have e2:=J8 MkLay zs (t / 3) zs[t / 3] (t % 3) ((mkC zs[t / 3])[t % 3]'h4) (List.getElem?_eq_getElem h3) (List.getElem?_eq_getElem h4);have e1:(cur.toList.take (zs.length*3))[t]?=(jb MkLay zs)[t]?:=by rw[ht];rfl
   rw[show t / 3*MkLay.m+t % 3=t from by show t / 3*3+t % 3=t;omega] at e2;rw[e2,List.getElem?_take,if_pos htl2,Array.getElem?_toList] at e1;simp only[World.cell?,hg,Nat.zero_add];simp only[Option.isSome_none,Bool.false_eq_true,if_false];rw[e1,getElem!_pos zs.toArray (t / 3) (by simpa using h3),getElem!_pos (mkC _) (t % 3) h4];simp;rfl
theorem jco {W:World} {g:Nat} {l:List Mk} (h:HoldsK mkC 3 W g 0 l.toArray) (hg:g<W.heap.size) (hm:l.length≤maxLen) (hf:∀x ∈ l,MkLay.fine x):ji MkLay W (some ⟨g,0,none⟩) l.length l:=by
 refine⟨rfl,hm,hf,.inr ⟨g,0,rfl,hg,fun i x j u hi hj=>?_⟩⟩;obtain⟨hil,ex⟩:=List.getElem?_eq_some_iff.1 hi;have hj':(mkC x)[j]?=some u:=hj;obtain⟨hjl,eu⟩:=List.getElem?_eq_some_iff.1 hj';have hj3:j<3:=hjl;have:=(h.cell (i:=i) (c:=j) (by simpa using hil) hj3).1;rw[getElem!_pos l.toArray i (by simpa using hil)] at this;simp only[List.getElem_toArray] at this;rw[ex,getElem!_pos (mkC x) j hjl,eu] at this;exact this
def jgA (pack:Bool) (xs:List Mk) (w:World) (e:Ending) (w':World):Prop:=∃v l,e=.returned v∧l.Perm xs∧(l.Pairwise fun a b=>JU pack b a=false)∧Reads MkLay w' v l∧Kept w w'
theorem X8 (q:Nat) (pack:Bool) (Bs:Nat) (sv:Value) (xs:List Mk) (hlen:xs.length≤1000000) (hx:∀x ∈ xs,MkLay.fine x) (w:World) (hq:w.cell? ⟨q,0,none⟩=some (.bool pack)) (hBs:Bs<w.heap.size) (hcs:w.cell? ⟨Bs,0,none⟩=some sv) (hL:Mks w.heap.size w sv xs) :
 Calls Tryz.prog 108 #[.func (.func 170) #[] #[.pointer (some ⟨Bs,0,none⟩)],.func (.func 110) #[] #[.pointer (some ⟨q,0,none⟩)]] w (jgA pack xs w):=by
 have HC:=lH (qW Bs sv xs hlen w hBs hcs hL);have hql:q<w.heap.size:=World.block_lt_of_cell? _ _ hq;obtain⟨HQ,Rk,HX,Ud⟩:=lH4 hq hql hx hlen;clear hBs hcs hL hq hql hx hlen;go_enter Tryz.func108,Tryz.ntmps108;go_wp2_with fail
 refine HC.out.mono ?_;rintro e w1 ⟨v,rfl,ho,hb⟩;by_cases hv:v=.slice none 0 0
 · have hxs:=ho.2.1 hv;have HS:=lH (AnyF.slices_SortFunc_none jdH none 0 (.func (.func 110) #[] #[.pointer (some ⟨q,0,none⟩)]) w1);change Hid (Calls Tryz.prog 169 _ _ _) at HS;subst hv hxs;have HB:=lH hb;clear hb ho;go_wp2_with fail
   refine HS.out.mono ?_;rintro e w2 ⟨rfl,rfl⟩;go_wp2_with fail
   go_ret;exact⟨_,[],rfl,List.Perm.refl _,List.Pairwise.nil,Reads.nil _,HB.out⟩
 · obtain⟨g,cap,rfl,hg1,hg2,hc1,hc2,hH⟩:=jcq ho hv;have hne:q≠g:=by have:=Rk.out;omega
   have hst:=AnyQ.slices_SortFunc jdH 3 Tryz.isAgg172 Tryz.sizeOf172 mkC (fun _=>rfl) XS (cfM pack) (je8 pack) 110 #[.pointer (some ⟨q,0,none⟩)] g 0 cap xs.toArray w1 jac (jdi q pack g _ w1 (cell_later hb HQ.out) hne (Nat.lt_of_lt_of_le Rk.out hb.size)) hH hg2 (by have:=Ud.out;simp;omega);change Calls Tryz.prog 169 _ _ _ at hst;obtain⟨HB,HS,HG,Rl,HH,HP⟩:=lH6 hb hst hg1 hg2 hH (And.intro hc1 hc2);clear hb ho hst hg1 hg2 hH hc1 hc2 hv hne;simp only[List.size_toArray] at HS;go_wp2_with fail
   refine HS.out.mono ?_;rintro e w2 ⟨rfl,d',n,os,hp,hs,hw⟩;obtain⟨P1,P2,P3⟩:=lH3 hp hs hw;clear hp hs hw;go_wp2_with fail
   go_ret;have hsz:d'.size=xs.length:=by simpa using P1.out.1
   have hperm:d'.toList.Perm xs:=by
    have:=P1.out.2.2;simp only[Array.toList_extract,List.extract_eq_take_drop,List.drop_zero,Nat.sub_zero] at this;rw[List.take_of_length_le (by simp;omega),List.take_of_length_le (by simp)] at this;exact this
   have hlen:d'.toList.length=xs.length:=by simpa using hsz
   refine⟨_,d'.toList,rfl,hperm,?_,?_,?_⟩
   · rw[List.pairwise_iff_getElem];intro i j hi hj hij;have h2:=P2.out i j (Nat.zero_le _) hij (by omega);rw[Ya,getElem!_pos d' j (by simpa using hj),getElem!_pos d' i (by simpa using hi)] at h2;simpa using h2
   · have hh:HoldsK mkC 3 w2 g 0 d'.toList.toArray:=by
      rw[P3.out];simp only[Array.toArray_toList];exact holdsK_sortWorldK mkC 3 w1 g 0 n xs.toArray d' os Rl.out HH.out (by simpa using hsz)
     have hg3:g<w2.heap.size:=by rw[P3.out];exact lt_sortWorldK mkC 3 w1 g 0 n d' os Rl.out
     refine⟨_,cap,by rw[hlen];rfl,by rw[hlen];exact HP.out.1,HP.out.2,jco hh hg3 (by rw[hlen];exact Nat.le_trans HP.out.1 HP.out.2) (fun x hx=>HX.out x (hperm.mem_iff.1 hx))⟩
   · rw[P3.out];exact jdn HB.out HG.out HB.out.size
open Go.RowKit
attribute [local go_sem] zW
theorem ji.mark {w:World} {b off len:Nat} {l:List Mk} {k:Nat} (h:ji MkLay w (some ⟨b,off,none⟩) len l) (hk:k<len):∃x:Mk,l[k]?=some x∧x.1.size≤maxLen∧w.cell? ⟨b,off+k*3,none⟩=some (.string x.1)∧w.cell? ⟨b,off+k*3+1,none⟩=some (.int .i64 x.2.1)∧w.cell? ⟨b,off+k*3+2,none⟩=some (.float .f64 x.2.2):=by
 obtain⟨x,h1,-,-,h4,h5⟩:=h.cells hk;exact⟨x,h1,h4.1,h5 0 _ rfl,h5 1 _ rfl,h5 2 _ rfl⟩
theorem jb7 (pack:Bool) (v:Value) (xs:List Mk) (w:World) (hr:Reads MkLay w v xs) (hlen:xs.length≤100000):Calls Tryz.prog 51 #[v,.bool pack] w fun e w'=>∃(y:Value) (l:List Mk),e=.returned y∧l.Perm xs∧(l.Pairwise fun a b=>JU pack b a=false)∧Own jz 9 w' w.heap.size y (l.map (·.1))∧Kept w w':=by
 have hmf:=hmfL (P:=Tryz.prog);obtain⟨i0,hi,hz0,hz1,hz2'⟩:=info_parts jcY;obtain⟨Z,hZ⟩:=eX (w.alloc (.cells #[.bool pack] 4))
 have hkz:Kept w Z:=by rw[←hZ];exact ja _ _
 have hq:Z.cell? ⟨w.heap.size,0,none⟩=some (.bool pack):=by rw[←hZ];simp
 obtain⟨HR,K,HF⟩:=lH3 (hr.kept hkz) hkz (hr.fine);obtain⟨a,cap,rfl,-,-,-⟩:=hr;obtain⟨nx,hnx⟩:=eX (xs.length)
 obtain⟨Y,hY⟩:=eX (Z.alloc (.cells #[.slice a nx cap] 102))
 have hky:Kept Z Y:=by rw[←hY];exact ja _ _
 have hys:Z.heap.size<Y.heap.size:=by rw[←hY];simp
 have hyc:Y.cell? ⟨Z.heap.size,0,none⟩=some (.slice a nx cap):=by rw[←hY];simp
 have HV:=lH (jay a nx cap Z);have HS:=lH (X8 w.heap.size pack Z.heap.size (.slice a nx cap) xs (by omega) HF.out Y (cell_later hky hq) hys hyc (by have:=(HR.out.kept hky).mks;rw[hnx] at this;exact this));rw[hY] at HV;rw[hnx];have KY:=lH hky;have VE:=lH hnx;rw[hnx] at hlen;clear hq hkz hky hys hyc hnx;go_enter Tryz.func51,Tryz.ntmps51;go_wp2_with fail
 try rw[hZ]
 clear hZ;refine HV.out.mono ?_;rintro e w1 ⟨rfl,rfl⟩;clear hY;go_wp2_with fail
 refine HS.out.mono ?_;rintro e w1 ⟨v9,l,rfl,hp,hs,hv,kk⟩;obtain⟨RV,TP,K⟩:=lH3 hp hs (K.out.trans (KY.out.trans kk));have hll:l.length=nx:=hp.length_eq.trans VE.out;obtain⟨wa,wc,rfl,-,-,hrow⟩:=hv;rw[hll] at hrow ⊢;have Uk:=lH hrow;have Ue:=lH hll;clear kk hp hs hrow hll HS HV;have KW:=lH (Kept.refl w1);go_wp2;go_loopw [6,15] (fun v i wr=>∃k:Nat,k≤nx∧i=.int .i64 k∧∃la:List ByteArray,(l.take k).map (·.1)=la∧Own jz 9 wr w1.heap.size v la∧Kept w1 wr) (fun _ i _=>nx-(intOf i).toNat)
 case atStart=>exact⟨0,Nat.zero_le _,rfl,[],rfl,Own.nil _ _ _,Kept.refl _⟩
 case round =>
  obtain⟨k,hk,rfl,la,hla,ho,hK⟩:=hrel;obtain⟨HX,HO,HK⟩:=lH3 hla ho hK;obtain⟨m,hm⟩:=eX (la.length)
  have hmk:m≤k:=by
   have:=congrArg List.length hla;rw[List.length_map,List.length_take,hm] at this;omega
  have HT:=lH hm;have hbase:w1.heap.size≤wr.heap.size:=hK.size;by_cases hlt:k<nx
  · obtain⟨b9,o9,rfl⟩:=Uk.out.form.resolve_left (by omega);obtain⟨⟨x1,x2,x3⟩,hx,hxs,c0,c1,c2⟩:=(Uk.out.kept hK).mark hlt;dsimp only at hxs c0 c1 c2;have Tk:=lH hxs;have HV:=lH (show (l.take (k+1)).map (·.1)=la++[x1] by rw[List.take_add_one,hx,List.map_append,HX.out];rfl);have hkk:(k:Int)<(nx:Int):=by omega
    have hk0:¬(k:Int)<0:=by omega
    obtain⟨wx,hwx⟩:=eX (wr.alloc (.cells #[.string x1,.int .i64 x2,.float .f64 x3] 172))
    have hkx:Kept wr wx:=by rw[←hwx];exact ja _ _
    have U4:=lH (jc wr (.string x1) [.int .i64 x2,.float .f64 x3] 172 wx (by rw[hwx];exact Kept.refl _));obtain⟨bq,hbq⟩:=eX (wr.heap.size)
    rw[hbq] at U4;have KX:=lH hkx;go_upto_region 6 with fail
    try rw[hwx]
    try rw[hbq]
    clear hwx hbq hx hxs hkx hk0 hkk hla ho hm hK c0 c1 c2;have t0:=U4.out.at_ 0 _ rfl;have Vu:=lH (show wx.ownsRow w1.heap.size 9 1 u6 m (jb jz la) by have:=(HO.out.kept KX.out).1;rw[HT.out] at this;exact this);have hs1:wr.heap.size≤wx.heap.size:=Below.size KX.out;go_wp2_with (at_builtin;refine wpList_append_lies _ rfl _ _ _ rfl w1.heap.size 9 i0 _ 1 16 Tryz.underlying34 hi hz0 hz1 hz2' rfl (by decide) u6 m (jb jz la) rfl (Vu.out.alloc _) ⟨wx.heap.size,0,none⟩ 1 1 (jz.cs x1) rfl rfl (World.news_of_block (cs:=#[.string x1]) (t:=9) (fr:=(0,0)) (heap_alloc_new wx _)) (jaK x1) (by decide) (by unfold maxLen;omega) (by omega) (by simp;omega) (wx.heap.size+1) (by simp) ?_;intro gg cap1 w4 hown1 hgrow hat hlt1)
    have Vz:=lH ((show Below w1.heap.size w1 _ from HK.out.trans (KX.out.trans (ja wx _))).grown hgrow (by simp;omega) (fun j hj=>(Vu.out.lt j hj).1));go_wp2;go_roundw
    case rel=>exact⟨k+1,by omega,by go_num,la++[x1],HV.out,Own.snoc hown1 (by rw[HT.out]) HO.out.2 Tk.out,Vz.out⟩
    case measure=>simp[intOf];omega
  · have hge:¬(k:Int)<(nx:Int):=by omega
    have HE:=lH (show l.map (·.1)=la by rw[←hla,List.take_of_length_le (by rw[Ue.out];omega)]);clear hla ho hm hK;go_wp2;go_ret;exact⟨_,rfl,l,RV.out,TP.out,by rw[HE.out];exact HO.out.base_le K.out.size,K.out.trans HK.out⟩
end Go.Proofs.YtokdjfoalkmhiaaGreat
namespace Go.Proofs.YtokdjfoalkmhiaaGreat
open Go.RowKit
theorem jfM {s:Clu} {p:Pd} {pack:Bool} {xs l:List Mk} (ht:Jw s p (zy s p s.nodes) xs) (hp:l.Perm xs) (hs:l.Pairwise fun a b=>JU pack b a=false):JP s p pack (l.map (·.1)):=by
 refine⟨by rw[←ht.1];exact hp.map _,?_⟩;rw[List.pairwise_map];refine List.Pairwise.imp_of_mem (fun {a b} ha hb h=>?_) hs;have h1:=ht.2 a (hp.mem_iff.1 ha);have h2:=ht.2 b (hp.mem_iff.1 hb);unfold Jg;rw[←h1.1,←h1.2,←h2.1,←h2.2];exact h
def jaO (s:Clu) (p:Pd) (pack:Bool) (w:World) (e:Ending) (w':World):Prop:=∃(v:Value) (l:List ByteArray),e=.returned v∧JP s p pack l∧Own jz 9 w' w.heap.size v l∧Kept w w'
def jeh (s:Clu) (p:Pd) (pack:Bool) (w:World) (e:Ending) (w':World):Prop:=∃l:List ByteArray,JP s p pack l∧e=.returned (.tuple #[.string (l.headD ⟨#[]⟩),.bool (!l.isEmpty)])∧Kept w w'
theorem ZJ (s1 s2 s3:Option Addr) (n1 e1 n2 e2 n3 e3:Nat) (a1 a2 a3 a4:Option Addr) (m1 c1 m2 c2 m3 c3 m4 c4:Nat) (pack:Bool) (p:Pd) (s:Clu) (w:World) (hs:jJ w (zx (.slice s1 n1 e1) (.slice s2 n2 e2) (.slice s3 n3 e3)) s) (hl:jv s) (hb:s.pods.length+1≤100000) (hp:jr w (.slice a1 m1 c1) (.slice a2 m2 c2) (.slice a3 m3 c3) (.slice a4 m4 c4) p) (hlp:zM p):Calls Tryz.prog 19 #[.agg #[.slice s1 n1 e1,.slice s2 n2 e2,.slice s3 n3 e3],jt p (.slice a1 m1 c1) (.slice a2 m2 c2) (.slice a3 m3 c3) (.slice a4 m4 c4),.bool pack] w (jaO s p pack w):=by
 obtain⟨Z,hZ⟩:=eX ((w.alloc (.cells #[.slice s1 n1 e1,.slice s2 n2 e2,.slice s3 n3 e3] 26)).alloc (.cells #[.string p.name,.string p.owner,.int .i64 p.prio,.slice a1 m1 c1,.slice a2 m2 c2,.slice a3 m3 c3,.slice a4 m4 c4,.string p.key,.int .i64 p.most,.string p.node,.bool p.hold] 44))
 have hkz:Kept w Z:=by rw[←hZ];exact jj _ _ _
 have Vf:=lH (jc w (.slice s1 n1 e1) [.slice s2 n2 e2,.slice s3 n3 e3] 26 Z (by rw[←hZ];exact ja _ _));have Va:=lH (show je (w.heap.size+1) [.string p.name,.string p.owner,.int .i64 p.prio,.slice a1 m1 c1,.slice a2 m2 c2,.slice a3 m3 c3,.slice a4 m4 c4,.string p.key,.int .i64 p.most,.string p.node,.bool p.hold] Z by
  have dd:=jc (w.alloc (.cells #[.slice s1 n1 e1,.slice s2 n2 e2,.slice s3 n3 e3] 26)) (.string p.name) [.string p.owner,.int .i64 p.prio,.slice a1 m1 c1,.slice a2 m2 c2,.slice a3 m3 c3,.slice a4 m4 c4,.string p.key,.int .i64 p.most,.string p.node,.bool p.hold] 44 Z (by rw[hZ];exact Kept.refl _);rw[World.size_alloc] at dd;exact dd)
 obtain⟨K,HS,HP,HL,Uj,VS⟩:=lH6 hkz (hs.kept hkz) (hp.kept hkz) hl hb hlp;clear hs hp hkz hl hb hlp;have Ux:=lH (jc5 s1 s2 s3 n1 e1 n2 e2 n3 e3 a1 a2 a3 a4 m1 c1 m2 c2 m3 c3 m4 c4 p s Z HS.out HL.out Uj.out HP.out VS.out);unfold jt at Ux;have hfl:=YG s p s.nodes;have VC:=HL.out.nodesN;obtain⟨y0,y1,y2⟩:=Vf.out.at3;obtain⟨r0,r1,r2,r3,r4,r5,r6,r7,r8,r9,r10⟩:=Va.out.at11;unfold jt;go_enter Tryz.func19,Tryz.ntmps19;go_wp2_with fail
 try rw[hZ]
 clear hZ;refine Ux.out.mono ?_;rintro e w1 ⟨v,xs,rfl,hr,ht,kk⟩;obtain⟨HN,HT,K⟩:=lH3 (jb7 pack v xs w1 hr (by rw[ht.len];omega)) ht (K.out.trans kk);clear kk hr ht hfl VC Ux y0 y1 y2 r0 r1 r2 r3 r4 r5 r6 r7 r8 r9 r10;go_wp2_with fail
 refine HN.out.mono ?_;rintro e w2 ⟨y,l,rfl,hp,hs,ho,kk⟩;obtain⟨HO,HD,K⟩:=lH3 (ho.base_le K.out.size) (jfM HT.out hp hs) (K.out.trans kk);clear kk ho hp hs HN;go_wp2;go_ret;exact⟨_,_,rfl,HD.out,HO.out,K.out⟩
theorem Yc (s1 s2 s3:Option Addr) (n1 e1 n2 e2 n3 e3:Nat) (a1 a2 a3 a4:Option Addr) (m1 c1 m2 c2 m3 c3 m4 c4:Nat) (pack:Bool) (p:Pd) (s:Clu) (w:World) (hs:jJ w (zx (.slice s1 n1 e1) (.slice s2 n2 e2) (.slice s3 n3 e3)) s) (hl:jv s) (hb:s.pods.length+1≤100000) (hp:jr w (.slice a1 m1 c1) (.slice a2 m2 c2) (.slice a3 m3 c3) (.slice a4 m4 c4) p) (hlp:zM p):Calls Tryz.prog 47 #[.agg #[.slice s1 n1 e1,.slice s2 n2 e2,.slice s3 n3 e3],jt p (.slice a1 m1 c1) (.slice a2 m2 c2) (.slice a3 m3 c3) (.slice a4 m4 c4),.bool pack] w (jeh s p pack w):=by
 obtain⟨Z,hZ⟩:=eX ((w.alloc (.cells #[.slice s1 n1 e1,.slice s2 n2 e2,.slice s3 n3 e3] 26)).alloc (.cells #[.string p.name,.string p.owner,.int .i64 p.prio,.slice a1 m1 c1,.slice a2 m2 c2,.slice a3 m3 c3,.slice a4 m4 c4,.string p.key,.int .i64 p.most,.string p.node,.bool p.hold] 44))
 have hkz:Kept w Z:=by rw[←hZ];exact jj _ _ _
 have Vf:=lH (jc w (.slice s1 n1 e1) [.slice s2 n2 e2,.slice s3 n3 e3] 26 Z (by rw[←hZ];exact ja _ _));have Va:=lH (show je (w.heap.size+1) [.string p.name,.string p.owner,.int .i64 p.prio,.slice a1 m1 c1,.slice a2 m2 c2,.slice a3 m3 c3,.slice a4 m4 c4,.string p.key,.int .i64 p.most,.string p.node,.bool p.hold] Z by
  have dd:=jc (w.alloc (.cells #[.slice s1 n1 e1,.slice s2 n2 e2,.slice s3 n3 e3] 26)) (.string p.name) [.string p.owner,.int .i64 p.prio,.slice a1 m1 c1,.slice a2 m2 c2,.slice a3 m3 c3,.slice a4 m4 c4,.string p.key,.int .i64 p.most,.string p.node,.bool p.hold] 44 Z (by rw[hZ];exact Kept.refl _);rw[World.size_alloc] at dd;exact dd)
 obtain⟨K,HS,HP,HL,Uj,VS⟩:=lH6 hkz (hs.kept hkz) (hp.kept hkz) hl hb hlp;clear hs hp hkz hl hb hlp;have Ux:=lH (ZJ s1 s2 s3 n1 e1 n2 e2 n3 e3 a1 a2 a3 a4 m1 c1 m2 c2 m3 c3 m4 c4 pack p s Z HS.out HL.out Uj.out HP.out VS.out);unfold jt at Ux;obtain⟨y0,y1,y2⟩:=Vf.out.at3;obtain⟨r0,r1,r2,r3,r4,r5,r6,r7,r8,r9,r10⟩:=Va.out.at11;unfold jt;go_enter Tryz.func47,Tryz.ntmps47;go_wp2_with fail
 try rw[hZ]
 clear hZ;refine Ux.out.mono ?_;rintro e w1 ⟨v,l,rfl,hd,ho,kk⟩;have HD:=lH hd;have K:=lH (K.out.trans kk);obtain⟨a,cap,rfl,-,-,hrow⟩:=ho.at_;clear kk hd ho Ux y0 y1 y2 r0 r1 r2 r3 r4 r5 r6 r7 r8 r9 r10
 cases l with
 | nil =>
  have h0:(((([]:List ByteArray).length:Nat):Int)==0)=true:=rfl;go_wp2;go_ret2
  exact⟨[],HD.out,rfl,K.out⟩
 | cons x t =>
  obtain⟨b,off,rfl⟩:=hrow.form.resolve_left (by simp);obtain⟨x9,hx9,-,-,-,c0⟩:=hrow.str (k:=0) (by simp);obtain rfl:x=x9:=by simpa using hx9
  rw[Nat.add_zero] at c0;obtain⟨n,hn⟩:=eX ((x::t).length)
  have hn1:0<n:=by rw[←hn];simp
  have hn0:((n:Int)==0)=false:=by simp;omega
  have hn2:(0:Int)<(n:Int):=by omega
  rw[hn];clear hx9 hrow hn;go_wp2;go_ret2
  exact⟨x::t,HD.out,rfl,K.out⟩
def scC:Nod:={ Nod.zero with name:=⟨#[99]⟩ }
def scS:Clu:=⟨[Ji ⟨#[97]⟩ 10,Ji ⟨#[98]⟩ 10,scC],[jQ ⟨#[120]⟩ 5 ⟨#[97]⟩],[]⟩
def scY:Pd:=jQ ⟨#[121]⟩ 2 ⟨#[]⟩
def scZ:Pd:=jQ ⟨#[122]⟩ 11 ⟨#[]⟩
def scK:Pd:={ Pd.zero with name:=⟨#[107]⟩ }
theorem Zf:jv scS:=⟨fun n hn=>by
 unfold scS at hn;simp only[List.mem_cons,List.not_mem_nil,or_false] at hn;rcases hn with rfl | rfl | rfl
 · exact⟨(by decide:(1:Nat)≤1000000),(by decide:(0:Nat)≤1000000),(by decide:(0:Nat)≤1000000)⟩
 · exact⟨(by decide:(1:Nat)≤1000000),(by decide:(0:Nat)≤1000000),(by decide:(0:Nat)≤1000000)⟩
 · exact⟨(by decide:(0:Nat)≤1000000),(by decide:(0:Nat)≤1000000),(by decide:(0:Nat)≤1000000)⟩,
 fun n hn=>by
  unfold scS at hn;obtain rfl:=List.mem_singleton.1 hn;exact⟨(by decide:(1:Nat)≤1000000),(by decide:(0:Nat)≤1000000),(by decide:(0:Nat)≤1000000),(by decide:(0:Nat)≤1000000)⟩,(fun n h=>by cases h),(by decide:(3:Nat)≤100000),(by decide:(1:Nat)≤100000),(by decide:(0:Nat)≤100000)⟩
theorem ZC (x y:ByteArray) (c:Int):zM (jQ x c y):=⟨(by decide:(1:Nat)≤1000000),(by decide:(0:Nat)≤1000000),(by decide:(0:Nat)≤1000000),(by decide:(0:Nat)≤1000000)⟩
theorem jfi:zM scK:=⟨(by decide:(0:Nat)≤1000000),(by decide:(0:Nat)≤1000000),(by decide:(0:Nat)≤1000000),(by decide:(0:Nat)≤1000000)⟩
theorem Z4:scS.pods.length+1≤100000:=(by decide:(2:Nat)≤100000)
theorem jfw:zy scS scY scS.nodes=[⟨#[97]⟩,⟨#[98]⟩]:=by kernel_rfl
theorem jgG:zy scS scZ scS.nodes=[]:=by kernel_rfl
theorem jgS:zy scS scK scS.nodes=[⟨#[97]⟩,⟨#[98]⟩,⟨#[99]⟩]:=by kernel_rfl
theorem jgQ:zB scS ⟨#[97]⟩ ⟨#[99,112,117]⟩=some 4602678819172646912:=by kernel_rfl
theorem jgD:zB scS ⟨#[97]⟩ ⟨#[109,101,109]⟩=none:=by kernel_rfl
theorem jgE:zl scS scY ⟨#[97]⟩=some 4604480259023595110:=by kernel_rfl
theorem jgR:zl scS scY ⟨#[99]⟩=none:=by kernel_rfl
theorem jgy:Jg scS scY false ⟨#[97]⟩ ⟨#[98]⟩=false:=by kernel_rfl
theorem jgC:Jg scS scY true ⟨#[98]⟩ ⟨#[97]⟩=false:=by kernel_rfl
theorem jgz:Jg scS scK false ⟨#[97]⟩ ⟨#[98]⟩=false:=by kernel_rfl
theorem jgF:Jg scS scK false ⟨#[99]⟩ ⟨#[98]⟩=false:=by kernel_rfl
theorem jgT:Jg scS scK false ⟨#[99]⟩ ⟨#[97]⟩=false:=by kernel_rfl
theorem Xj {r:ByteArray→ByteArray→Prop} {x y:ByteArray} (h:r x y):[x,y].Pairwise r:=List.Pairwise.cons (fun z hz=>by obtain rfl:=List.mem_singleton.1 hz;exact h) (List.Pairwise.cons (fun z hz=>by cases hz) List.Pairwise.nil)
theorem jgN:JP scS scY false [⟨#[98]⟩,⟨#[97]⟩]:=⟨by rw[jfw];exact List.Perm.swap _ _ _,Xj jgy⟩
theorem jgq:JP scS scY true [⟨#[97]⟩,⟨#[98]⟩]:=⟨by rw[jfw],Xj jgC⟩
theorem jgP:JP scS scZ true []:=⟨by rw[jgG],List.Pairwise.nil⟩
theorem jgM:JP scS scK false [⟨#[98]⟩,⟨#[97]⟩,⟨#[99]⟩]:=⟨by rw[jgS];exact List.Perm.swap _ _ _,List.Pairwise.cons (fun z hz=>by
 rcases List.mem_cons.1 hz with rfl | hz
 · exact jgz
 · obtain rfl:=List.mem_singleton.1 hz;exact jgF) (Xj jgT)⟩
theorem jeh.is {s:Clu} {p:Pd} {pack:Bool} {w w':World} {e:Ending} {l:List ByteArray} (h:jeh s p pack w e w') (ho:JP s p pack l):Say (.tuple #[.string (l.headD ⟨#[]⟩),.bool (!l.isEmpty)]) w e w':=by
 obtain⟨m,hm,he,kk⟩:=h;rw[hm.unique ho] at he;exact⟨he,kk⟩
theorem Z1.is {x:Option Nat} {z:Nat} {w w':World} {e:Ending} (h:Z1 x w e w') (hx:x=some z):Say (.float .f64 z) w e w':=by
 obtain⟨r,he,hr,-,kk⟩:=h;rw[hx] at hr;obtain⟨-,rfl⟩:=JV.1 hr;exact⟨he,kk⟩
def jdS (w:World) (e:Ending) (w':World):Prop:=∃r,e=.returned (.float .f64 r)∧cls r=6∧Kept w w'
theorem Z1.not {x:Option Nat} {w w':World} {e:Ending} (h:Z1 x w e w') (hx:x=none):jdS w e w':=by
 obtain⟨r,he,hr,-,kk⟩:=h;rw[hx] at hr;exact⟨r,he,by unfold cls;rw[JB.1 hr];rfl,kk⟩
theorem jaO.is {s:Clu} {p:Pd} {pack:Bool} {w w':World} {e:Ending} {l:List ByteArray} (h:jaO s p pack w e w') (ho:JP s p pack l):∃v,e=.returned v∧Own jz 9 w' w.heap.size v l∧Kept w w':=by
 obtain⟨v,m,he,hm,h2,kk⟩:=h;rw[hm.unique ho] at h2;exact⟨v,he,h2,kk⟩
theorem je9 (w:World):jr w (.slice none 0 0) (.slice none 0 0) (.slice none 0 0) (.slice none 0 0) scK:=⟨(by decide:(1:Nat)≤maxLen),(by decide:(0:Nat)≤maxLen),(by decide:(0:Nat)≤maxLen),(by decide:(0:Nat)≤maxLen),(by decide:(-9223372036854775808:Int)≤0∧(0:Int)≤9223372036854775807),(by decide:(-9223372036854775808:Int)≤0∧(0:Int)≤9223372036854775807),⟨none,0,rfl,Nat.le_refl _,by decide,Vec.jn.nil w⟩,Reads.nil _,Reads.nil _,Reads.nil _⟩
theorem je3:(FloatKind.f64.format.order 4602678819172646912 4602678819172646912==some .eq)=true:=by kernel_rfl
theorem jfA:(FloatKind.f64.format.order 4604480259023595110 4604480259023595110==some .eq)=true:=by kernel_rfl
theorem Xh (w:World):Calls Tryz.prog 16 #[] w (Say (.bool true) w):=by
 go_enter Tryz.func16,Tryz.ntmps16;go_wp2_with fail
 refine(jai ⟨#[97]⟩ 10 (by decide:(-9223372036854775808:Int)≤10∧(10:Int)≤9223372036854775807) (by decide:(1:Nat)≤maxLen) _).mono ?_;rintro e w1 ⟨b1,n1,d1,rfl,ha,k⟩;have K:=lH k;have Tl:=lH ha;clear k ha;go_wp2_with fail
 refine(jai ⟨#[98]⟩ 10 (by decide:(-9223372036854775808:Int)≤10∧(10:Int)≤9223372036854775807) (by decide:(1:Nat)≤maxLen) _).mono ?_;rintro e w2 ⟨b2,n2,d2,rfl,ha,k⟩;obtain⟨K,Tl,U5⟩:=lH3 (K.out.trans k) (Tl.out.kept k) ha;clear k ha;obtain⟨gB,hgB⟩:=eX (w2.heap.size)
 obtain⟨wB,hwB⟩:=eX (w2.alloc (.cells #[.string ⟨#[97]⟩,.slice b1 n1 d1,.slice none 0 0,.slice none 0 0,.bool false,.string ⟨#[98]⟩,.slice b2 n2 d2,.slice none 0 0,.slice none 0 0,.bool false,.string ⟨#[99]⟩,.slice none 0 0,.slice none 0 0,.slice none 0 0,.bool false] 57))
 have kk:Kept w2 wB:=by rw[←hwB];exact ja _ _
 have hsz:wB.heap.size=gB+1:=by rw[←hwB,World.size_alloc,hgB]
 have RW:=lH hsz;have CB:=lH (show je gB [.string ⟨#[97]⟩,.slice b1 n1 d1,.slice none 0 0,.slice none 0 0,.bool false,.string ⟨#[98]⟩,.slice b2 n2 d2,.slice none 0 0,.slice none 0 0,.bool false,.string ⟨#[99]⟩,.slice none 0 0,.slice none 0 0,.slice none 0 0,.bool false] wB from by
  have c:=jc w2 (.string ⟨#[97]⟩) [.slice b1 n1 d1,.slice none 0 0,.slice none 0 0,.bool false,.string ⟨#[98]⟩,.slice b2 n2 d2,.slice none 0 0,.slice none 0 0,.bool false,.string ⟨#[99]⟩,.slice none 0 0,.slice none 0 0,.slice none 0 0,.bool false] 57 wB (by rw[hwB];exact Kept.refl _);rw[hgB] at c;exact c)
 have TQ:=lH hgB;have U6:=lH hwB;clear hgB hwB hsz;have VW:=lH (show js wB (some ⟨gB,0,none⟩) 3 scS.nodes from ZG (lx:=[(Ji ⟨#[97]⟩ 10,(b1,n1,d1),(none,0,0),(none,0,0)),(Ji ⟨#[98]⟩ 10,(b2,n2,d2),(none,0,0),(none,0,0)),(scC,(none,0,0),(none,0,0),(none,0,0))]) (Zd rfl CB.out (fun _ _=>trivial) (by decide:(3:Nat)≤maxLen)) (fun z hz=>by
  rcases List.mem_cons.1 hz with rfl | hz
  · exact Tl.out.kept kk
  rcases List.mem_cons.1 hz with rfl | hz
  · exact U5.out.kept kk
  obtain rfl:=List.mem_singleton.1 hz;exact⟨(by decide:(1:Nat)≤maxLen),⟨none,0,rfl,Nat.le_refl _,by decide,Vec.jn.nil wB⟩,Reads.nil _,Reads.nil _⟩))
 have K:=lH (K.out.trans kk);clear kk CB Tl U5;go_wp2_with fail
 rw[U6.out];try rw[TQ.out]
 clear U6;refine(Xn ⟨#[120]⟩ 5 ⟨#[97]⟩ (by decide:(-9223372036854775808:Int)≤5∧(5:Int)≤9223372036854775807) (by decide:(1:Nat)≤maxLen) (by decide:(1:Nat)≤maxLen) _).mono ?_;rintro e w3 ⟨p1,q1,r1,rfl,ha,kk⟩;obtain⟨K,VW,Rm⟩:=lH3 (K.out.trans kk) (VW.out.kept kk) ha;clear kk ha;obtain⟨gS,hgS⟩:=eX (w3.heap.size)
 obtain⟨wS,hwS⟩:=eX (w3.alloc (.cells #[.string ⟨#[120]⟩,.string ⟨#[]⟩,.int .i64 0,.slice p1 q1 r1,.slice none 0 0,.slice none 0 0,.slice none 0 0,.string ⟨#[]⟩,.int .i64 0,.string ⟨#[97]⟩,.bool false] 44))
 have kk:Kept w3 wS:=by rw[←hwS];exact ja _ _
 have hsz:wS.heap.size=gS+1:=by rw[←hwS,World.size_alloc,hgS]
 have TR:=lH hsz;have CS:=lH (show je gS [.string ⟨#[120]⟩,.string ⟨#[]⟩,.int .i64 0,.slice p1 q1 r1,.slice none 0 0,.slice none 0 0,.slice none 0 0,.string ⟨#[]⟩,.int .i64 0,.string ⟨#[97]⟩,.bool false] wS from by
  have c:=jc w3 (.string ⟨#[120]⟩) [.string ⟨#[]⟩,.int .i64 0,.slice p1 q1 r1,.slice none 0 0,.slice none 0 0,.slice none 0 0,.string ⟨#[]⟩,.int .i64 0,.string ⟨#[97]⟩,.bool false] 44 wS (by rw[hwS];exact Kept.refl _);rw[hgS] at c;exact c)
 have TS:=lH hgS;have U7:=lH hwS;clear hgS hwS hsz;have Rn:=lH (show jy wS (some ⟨gS,0,none⟩) 1 scS.pods from jaj (lx:=[(jQ ⟨#[120]⟩ 5 ⟨#[97]⟩,(p1,q1,r1),(none,0,0),(none,0,0),(none,0,0))]) (Zd rfl CS.out (fun _ _=>trivial) (by decide:(1:Nat)≤maxLen)) (fun z hz=>by
  obtain rfl:=List.mem_singleton.1 hz;exact Rm.out.kept kk))
 have VW:=lH (VW.out.kept kk);have K:=lH (K.out.trans kk);clear kk CS Rm;obtain⟨gQ,hgQ⟩:=eX (wS.heap.size)
 obtain⟨wQ,hwQ⟩:=eX (wS.alloc (.cells #[.slice (some ⟨gB,0,none⟩) 3 3,.slice (some ⟨gS,0,none⟩) 1 1,.slice none 0 0] 26))
 have kk:Kept wS wQ:=by rw[←hwQ];exact ja _ _
 have hsz:wQ.heap.size=gQ+1:=by rw[←hwQ,World.size_alloc,hgQ]
 have RY:=lH hsz;have CQ:=lH (show je gQ [.slice (some ⟨gB,0,none⟩) 3 3,.slice (some ⟨gS,0,none⟩) 1 1,.slice none 0 0] wQ from by
  have c:=jc wS (.slice (some ⟨gB,0,none⟩) 3 3) [.slice (some ⟨gS,0,none⟩) 1 1,.slice none 0 0] 26 wQ (by rw[hwQ];exact Kept.refl _);rw[hgQ] at c;exact c)
 have U8:=lH hgQ;have U9:=lH hwQ;clear hgQ hwQ hsz;have HC:=lH (show jJ wQ (.agg #[.slice (some ⟨gB,0,none⟩) 3 3,.slice (some ⟨gS,0,none⟩) 1 1,.slice none 0 0]) scS from⟨_,_,_,rfl,⟨⟨_,_,rfl,(by decide:(3:Nat)≤3),(by decide:(3:Nat)≤maxLen),VW.out.kept kk⟩,⟨_,_,rfl,(by decide:(1:Nat)≤1),(by decide:(1:Nat)≤maxLen),Rn.out.kept kk⟩,⟨_,_,rfl,(by decide:(0:Nat)≤0),(by decide:(0:Nat)≤maxLen),YD _⟩⟩⟩);have K:=lH (K.out.trans kk);clear kk VW Rn;have hgq:gQ=gS+1:=U8.out.symm.trans TR.out;have UR:=lH hgq;clear hgq;go_upto_region 2 with fail
 rw[U7.out];try rw[TS.out]
 rw[U9.out];try rw[←UR.out]
 try rw[U8.out]
 clear U7 U9;go_wp2_with fail
 refine(Xn ⟨#[121]⟩ 2 ⟨#[]⟩ (by decide:(-9223372036854775808:Int)≤2∧(2:Int)≤9223372036854775807) (by decide:(1:Nat)≤maxLen) (by decide:(0:Nat)≤maxLen) _).mono ?_;rintro e w4 ⟨p2,q2,r2,rfl,ha,kk⟩;obtain⟨K,HC,CQ,HY⟩:=lH4 (K.out.trans kk) (HC.out.kept kk) (CQ.out.kept kk) ha;clear kk ha;obtain⟨gR,hgR⟩:=eX (w4.heap.size)
 obtain⟨wR,hwR⟩:=eX (w4.alloc (.cells #[.string ⟨#[121]⟩,.string ⟨#[]⟩,.int .i64 0,.slice p2 q2 r2,.slice none 0 0,.slice none 0 0,.slice none 0 0,.string ⟨#[]⟩,.int .i64 0,.string ⟨#[]⟩,.bool false] 44))
 have kk:Kept w4 wR:=by rw[←hwR];exact ja _ _
 have hsz:wR.heap.size=gR+1:=by rw[←hwR,World.size_alloc,hgR]
 have RZ:=lH hsz;have CR:=lH (show je gR [.string ⟨#[121]⟩,.string ⟨#[]⟩,.int .i64 0,.slice p2 q2 r2,.slice none 0 0,.slice none 0 0,.slice none 0 0,.string ⟨#[]⟩,.int .i64 0,.string ⟨#[]⟩,.bool false] wR from by
  have c:=jc w4 (.string ⟨#[121]⟩) [.string ⟨#[]⟩,.int .i64 0,.slice p2 q2 r2,.slice none 0 0,.slice none 0 0,.slice none 0 0,.string ⟨#[]⟩,.int .i64 0,.string ⟨#[]⟩,.bool false] 44 wR (by rw[hwR];exact Kept.refl _);rw[hgR] at c;exact c)
 have TT:=lH hgR;have Ta:=lH hwR;clear hgR hwR hsz;obtain⟨K,HC,CQ,HY⟩:=lH4 (K.out.trans kk) (HC.out.kept kk) (CQ.out.kept kk) (HY.out.kept kk);clear kk;go_upto_region 3 with fail
 rw[Ta.out];try rw[TT.out]
 clear Ta;obtain⟨UF,Vi,R0,R5,Tm,Tn,KW⟩:=lH7 (show ∀W,Kept wR W→Calls Tryz.prog 47 #[.agg #[.slice (some ⟨gB,0,none⟩) 3 3,.slice (some ⟨gS,0,none⟩) 1 1,.slice none 0 0],.agg #[.string ⟨#[121]⟩,.string ⟨#[]⟩,.int .i64 0,.slice p2 q2 r2,.slice none 0 0,.slice none 0 0,.slice none 0 0,.string ⟨#[]⟩,.int .i64 0,.string ⟨#[]⟩,.bool false],.bool false] W (Say (.tuple #[.string ⟨#[98]⟩,.bool true]) W) from fun W k=>(Yc (some ⟨gB,0,none⟩) (some ⟨gS,0,none⟩) none 3 3 1 1 0 0 p2 none none none q2 r2 0 0 0 0 0 0 false scY scS W (HC.out.kept k) Zf Z4 (HY.out.kept k) (ZC _ _ _)).mono fun e w h=>h.is jgN) (show ∀W,Kept wR W→Calls Tryz.prog 47 #[.agg #[.slice (some ⟨gB,0,none⟩) 3 3,.slice (some ⟨gS,0,none⟩) 1 1,.slice none 0 0],.agg #[.string ⟨#[121]⟩,.string ⟨#[]⟩,.int .i64 0,.slice p2 q2 r2,.slice none 0 0,.slice none 0 0,.slice none 0 0,.string ⟨#[]⟩,.int .i64 0,.string ⟨#[]⟩,.bool false],.bool true] W (Say (.tuple #[.string ⟨#[97]⟩,.bool true]) W) from fun W k=>(Yc (some ⟨gB,0,none⟩) (some ⟨gS,0,none⟩) none 3 3 1 1 0 0 p2 none none none q2 r2 0 0 0 0 0 0 true scY scS W (HC.out.kept k) Zf Z4 (HY.out.kept k) (ZC _ _ _)).mono fun e w h=>h.is jgq) (show ∀W,Kept wR W→Calls Tryz.prog 48 #[.agg #[.slice (some ⟨gB,0,none⟩) 3 3,.slice (some ⟨gS,0,none⟩) 1 1,.slice none 0 0],.string ⟨#[97]⟩,.string ⟨#[99,112,117]⟩] W (Say (.float .f64 4602678819172646912) W) from fun W k=>(Xz (some ⟨gB,0,none⟩) (some ⟨gS,0,none⟩) none 3 3 1 1 0 0 scS ⟨#[97]⟩ ⟨#[99,112,117]⟩ W (HC.out.kept k) Zf).mono fun e w h=>h.is jgQ) (show ∀W,Kept wR W→Calls Tryz.prog 48 #[.agg #[.slice (some ⟨gB,0,none⟩) 3 3,.slice (some ⟨gS,0,none⟩) 1 1,.slice none 0 0],.string ⟨#[97]⟩,.string ⟨#[109,101,109]⟩] W (jdS W) from fun W k=>(Xz (some ⟨gB,0,none⟩) (some ⟨gS,0,none⟩) none 3 3 1 1 0 0 scS ⟨#[97]⟩ ⟨#[109,101,109]⟩ W (HC.out.kept k) Zf).mono fun e w h=>h.not jgD) (show ∀W,Kept wR W→Calls Tryz.prog 21 #[.agg #[.slice (some ⟨gB,0,none⟩) 3 3,.slice (some ⟨gS,0,none⟩) 1 1,.slice none 0 0],.agg #[.string ⟨#[121]⟩,.string ⟨#[]⟩,.int .i64 0,.slice p2 q2 r2,.slice none 0 0,.slice none 0 0,.slice none 0 0,.string ⟨#[]⟩,.int .i64 0,.string ⟨#[]⟩,.bool false],.string ⟨#[97]⟩] W (Say (.float .f64 4604480259023595110) W) from fun W k=>(ZH (some ⟨gB,0,none⟩) (some ⟨gS,0,none⟩) none 3 3 1 1 0 0 p2 none none none q2 r2 0 0 0 0 0 0 scY scS ⟨#[97]⟩ W (HC.out.kept k) Zf Z4 (HY.out.kept k) (ZC _ _ _) (by decide:(1:Nat)≤maxLen)).mono fun e w h=>h.is jgE) (show ∀W,Kept wR W→Calls Tryz.prog 21 #[.agg #[.slice (some ⟨gB,0,none⟩) 3 3,.slice (some ⟨gS,0,none⟩) 1 1,.slice none 0 0],.agg #[.string ⟨#[121]⟩,.string ⟨#[]⟩,.int .i64 0,.slice p2 q2 r2,.slice none 0 0,.slice none 0 0,.slice none 0 0,.string ⟨#[]⟩,.int .i64 0,.string ⟨#[]⟩,.bool false],.string ⟨#[99]⟩] W (jdS W) from fun W k=>(ZH (some ⟨gB,0,none⟩) (some ⟨gS,0,none⟩) none 3 3 1 1 0 0 p2 none none none q2 r2 0 0 0 0 0 0 scY scS ⟨#[99]⟩ W (HC.out.kept k) Zf Z4 (HY.out.kept k) (ZC _ _ _) (by decide:(1:Nat)≤maxLen)).mono fun e w h=>h.not jgR) (Kept.refl wR);have s0:=(CQ.out.kept KW.out).at_ 0 _ rfl;have s1:=(CQ.out.kept KW.out).at_ 1 _ rfl;have s2:=(CQ.out.kept KW.out).at_ 2 _ rfl;have u0:=(CR.out.kept KW.out).at_ 0 _ rfl;have u1:=(CR.out.kept KW.out).at_ 1 _ rfl;have u2:=(CR.out.kept KW.out).at_ 2 _ rfl;have u3:=(CR.out.kept KW.out).at_ 3 _ rfl;have u4:=(CR.out.kept KW.out).at_ 4 _ rfl;have u5:=(CR.out.kept KW.out).at_ 5 _ rfl;have u6:=(CR.out.kept KW.out).at_ 6 _ rfl;have u7:=(CR.out.kept KW.out).at_ 7 _ rfl;have u8:=(CR.out.kept KW.out).at_ 8 _ rfl;have u9:=(CR.out.kept KW.out).at_ 9 _ rfl;have u10:=(CR.out.kept KW.out).at_ 10 _ rfl;go_wp2_with fail
 refine(UF.out _ KW.out).mono ?_;rintro e y1 ⟨rfl,kk⟩;have KW:=lH (KW.out.trans kk);clear kk;clear s0 s1 s2 u0 u1 u2 u3 u4 u5 u6 u7 u8 u9 u10;have s0:=(CQ.out.kept KW.out).at_ 0 _ rfl;have s1:=(CQ.out.kept KW.out).at_ 1 _ rfl;have s2:=(CQ.out.kept KW.out).at_ 2 _ rfl;have u0:=(CR.out.kept KW.out).at_ 0 _ rfl;have u1:=(CR.out.kept KW.out).at_ 1 _ rfl;have u2:=(CR.out.kept KW.out).at_ 2 _ rfl;have u3:=(CR.out.kept KW.out).at_ 3 _ rfl;have u4:=(CR.out.kept KW.out).at_ 4 _ rfl;have u5:=(CR.out.kept KW.out).at_ 5 _ rfl;have u6:=(CR.out.kept KW.out).at_ 6 _ rfl;have u7:=(CR.out.kept KW.out).at_ 7 _ rfl;have u8:=(CR.out.kept KW.out).at_ 8 _ rfl;have u9:=(CR.out.kept KW.out).at_ 9 _ rfl;have u10:=(CR.out.kept KW.out).at_ 10 _ rfl;go_wp2_with fail
 refine(Vi.out _ KW.out).mono ?_;rintro e y2 ⟨rfl,kk⟩;have KW:=lH (KW.out.trans kk);clear kk;clear s0 s1 s2 u0 u1 u2 u3 u4 u5 u6 u7 u8 u9 u10;have VU:=lH (show ∀W,Kept wR W→W.cell? ⟨gQ,0,none⟩=some (.slice (some ⟨gB,0,none⟩) 3 3)∧W.cell? ⟨gQ,1,none⟩=some (.slice (some ⟨gS,0,none⟩) 1 1)∧W.cell? ⟨gQ,2,none⟩=some (.slice none 0 0) from fun W k=>by
  have h:=CQ.out.kept k;exact⟨h.at_ 0 _ rfl,h.at_ 1 _ rfl,h.at_ 2 _ rfl⟩)
 go_upto_region 5 with fail
 refine wp_region_held_drew (S:=fun W=>W.cell? ⟨gQ,0,none⟩=some (.slice (some ⟨gB,0,none⟩) 3 3)∧W.cell? ⟨gQ,1,none⟩=some (.slice (some ⟨gS,0,none⟩) 1 1)∧W.cell? ⟨gQ,2,none⟩=some (.slice none 0 0)) (by kernel_rfl) (VU.out _ (KW.out.trans (Kept.drew y2))) (fun hHeld=>?_);refine tR 0 rfl (by kernel_rfl) (fun _ _ _=>id) (Or.inl ⟨by rfl,by rintro W ⟨o0,o1,o2⟩;go_simp<;>with_reducible rfl⟩) ‹_› ?_;try simp only[nA,nB,nC,nD,nE]
 have KW:=lH (KW.out.trans (Kept.drew y2));obtain⟨wd,hwd⟩:=eX (y2.drew)
 rw[hwd] at hHeld KW;try rw[hwd]
 clear hwd;refine rd1 1 fun K9 Ky=>?_;go_simp;refine(Xn ⟨#[122]⟩ 11 ⟨#[]⟩ (by decide:(-9223372036854775808:Int)≤11∧(11:Int)≤9223372036854775807) (by decide:(1:Nat)≤maxLen) (by decide:(0:Nat)≤maxLen) _).mono ?_;rintro e y3 ⟨p3,q3,r3,rfl,ha,kk⟩;have KW:=lH (KW.out.trans kk);have HZ:=lH ha;clear kk ha;refine Ky.out _ _ (VU.out _ KW.out) (fun _=>?_);clear Ky K9;try simp only[nA,nB,nC,nD,nE]
 refine rd1 2 fun K9 Ky=>?_;go_simp;refine((Yc (some ⟨gB,0,none⟩) (some ⟨gS,0,none⟩) none 3 3 1 1 0 0 p3 none none none q3 r3 0 0 0 0 0 0 true scZ scS y3 (HC.out.kept KW.out) Zf Z4 HZ.out (ZC _ _ _)).mono fun e w h=>h.is jgP).mono ?_;rintro e y4 ⟨rfl,kk⟩;have KW:=lH (KW.out.trans kk);clear kk HZ;refine Ky.out _ _ (VU.out _ KW.out) (fun _=>?_);clear Ky K9;try simp only[nA,nB,nC,nD,nE]
 refine tR 3 rfl (by kernel_rfl) (fun _ _ _=>id) (Or.inl ⟨by rfl,by rintro W ⟨o0,o1,o2⟩;go_simp<;>with_reducible rfl⟩) ‹_› ?_;refine tR 4 rfl (by kernel_rfl) (fun _ _ _=>id) (Or.inl ⟨by rfl,by rintro W ⟨o0,o1,o2⟩;go_simp<;>with_reducible rfl⟩) ‹_› ?_;refine tR 5 rfl (by kernel_rfl) (fun _ _ _=>id) (Or.inl ⟨by rfl,by rintro W ⟨o0,o1,o2⟩;go_simp<;>with_reducible rfl⟩) ‹_› ?_;refine tR 6 rfl (by kernel_rfl) (fun _ _ _=>id) (Or.inl ⟨by rfl,by rintro W ⟨o0,o1,o2⟩;go_simp<;>with_reducible rfl⟩) ‹_› ?_;refine tR 7 rfl (by kernel_rfl) (fun _ _ _=>id) (Or.inl ⟨by rfl,by rintro W ⟨o0,o1,o2⟩;go_simp<;>with_reducible rfl⟩) ‹_› ?_;try simp only[nA,nB,nC,nD,nE]
 refine wpAnyH_done (by kernel_rfl) ?_ _;have s0:=(CQ.out.kept KW.out).at_ 0 _ rfl;have s1:=(CQ.out.kept KW.out).at_ 1 _ rfl;have s2:=(CQ.out.kept KW.out).at_ 2 _ rfl;have u0:=(CR.out.kept KW.out).at_ 0 _ rfl;have u1:=(CR.out.kept KW.out).at_ 1 _ rfl;have u2:=(CR.out.kept KW.out).at_ 2 _ rfl;have u3:=(CR.out.kept KW.out).at_ 3 _ rfl;have u4:=(CR.out.kept KW.out).at_ 4 _ rfl;have u5:=(CR.out.kept KW.out).at_ 5 _ rfl;have u6:=(CR.out.kept KW.out).at_ 6 _ rfl;have u7:=(CR.out.kept KW.out).at_ 7 _ rfl;have u8:=(CR.out.kept KW.out).at_ 8 _ rfl;have u9:=(CR.out.kept KW.out).at_ 9 _ rfl;have u10:=(CR.out.kept KW.out).at_ 10 _ rfl;go_wp2_with fail
 refine((ZJ (some ⟨gB,0,none⟩) (some ⟨gS,0,none⟩) none 3 3 1 1 0 0 none none none none 0 0 0 0 0 0 0 0 false scK scS y4 (HC.out.kept KW.out) Zf Z4 (je9 _) jfi).mono fun e w h=>h.is jgM).mono ?_;rintro e y5 ⟨v9,rfl,ho,kk⟩;have HV:=lH ho.reads;have KW:=lH (KW.out.trans kk);clear kk ho;clear s0 s1 s2 u0 u1 u2 u3 u4 u5 u6 u7 u8 u9 u10;have s0:=(CQ.out.kept KW.out).at_ 0 _ rfl;have s1:=(CQ.out.kept KW.out).at_ 1 _ rfl;have s2:=(CQ.out.kept KW.out).at_ 2 _ rfl;have u0:=(CR.out.kept KW.out).at_ 0 _ rfl;have u1:=(CR.out.kept KW.out).at_ 1 _ rfl;have u2:=(CR.out.kept KW.out).at_ 2 _ rfl;have u3:=(CR.out.kept KW.out).at_ 3 _ rfl;have u4:=(CR.out.kept KW.out).at_ 4 _ rfl;have u5:=(CR.out.kept KW.out).at_ 5 _ rfl;have u6:=(CR.out.kept KW.out).at_ 6 _ rfl;have u7:=(CR.out.kept KW.out).at_ 7 _ rfl;have u8:=(CR.out.kept KW.out).at_ 8 _ rfl;have u9:=(CR.out.kept KW.out).at_ 9 _ rfl;have u10:=(CR.out.kept KW.out).at_ 10 _ rfl;have eb:(((⟨#[98]⟩:ByteArray).toList==(⟨#[98]⟩:ByteArray).toList))=true:=by simp
 have ea:(((⟨#[97]⟩:ByteArray).toList==(⟨#[97]⟩:ByteArray).toList))=true:=by simp
 have eh:=je3;have es:=jfA;go_wp2_with fail
 refine(R0.out _ KW.out).mono ?_;rintro e y6 ⟨rfl,kk⟩;have KW:=lH (KW.out.trans kk);have HV:=lH (HV.out.kept kk);clear kk;clear s0 s1 s2 u0 u1 u2 u3 u4 u5 u6 u7 u8 u9 u10;have s0:=(CQ.out.kept KW.out).at_ 0 _ rfl;have s1:=(CQ.out.kept KW.out).at_ 1 _ rfl;have s2:=(CQ.out.kept KW.out).at_ 2 _ rfl;have u0:=(CR.out.kept KW.out).at_ 0 _ rfl;have u1:=(CR.out.kept KW.out).at_ 1 _ rfl;have u2:=(CR.out.kept KW.out).at_ 2 _ rfl;have u3:=(CR.out.kept KW.out).at_ 3 _ rfl;have u4:=(CR.out.kept KW.out).at_ 4 _ rfl;have u5:=(CR.out.kept KW.out).at_ 5 _ rfl;have u6:=(CR.out.kept KW.out).at_ 6 _ rfl;have u7:=(CR.out.kept KW.out).at_ 7 _ rfl;have u8:=(CR.out.kept KW.out).at_ 8 _ rfl;have u9:=(CR.out.kept KW.out).at_ 9 _ rfl;have u10:=(CR.out.kept KW.out).at_ 10 _ rfl;go_wp2_with fail
 refine(R5.out _ KW.out).mono ?_;rintro e y7 ⟨r1x,rfl,hn1,kk⟩;have KW:=lH (KW.out.trans kk);have HV:=lH (HV.out.kept kk);clear kk;clear s0 s1 s2 u0 u1 u2 u3 u4 u5 u6 u7 u8 u9 u10;have s0:=(CQ.out.kept KW.out).at_ 0 _ rfl;have s1:=(CQ.out.kept KW.out).at_ 1 _ rfl;have s2:=(CQ.out.kept KW.out).at_ 2 _ rfl;have u0:=(CR.out.kept KW.out).at_ 0 _ rfl;have u1:=(CR.out.kept KW.out).at_ 1 _ rfl;have u2:=(CR.out.kept KW.out).at_ 2 _ rfl;have u3:=(CR.out.kept KW.out).at_ 3 _ rfl;have u4:=(CR.out.kept KW.out).at_ 4 _ rfl;have u5:=(CR.out.kept KW.out).at_ 5 _ rfl;have u6:=(CR.out.kept KW.out).at_ 6 _ rfl;have u7:=(CR.out.kept KW.out).at_ 7 _ rfl;have u8:=(CR.out.kept KW.out).at_ 8 _ rfl;have u9:=(CR.out.kept KW.out).at_ 9 _ rfl;have u10:=(CR.out.kept KW.out).at_ 10 _ rfl;go_wp2_with fail
 refine(ZP r1x _).mono ?_;rintro e y8 ⟨rfl,rfl⟩;rw[hn1];go_wp2_with fail
 refine(Tm.out _ KW.out).mono ?_;rintro e y9 ⟨rfl,kk⟩;have KW:=lH (KW.out.trans kk);have HV:=lH (HV.out.kept kk);clear kk;clear s0 s1 s2 u0 u1 u2 u3 u4 u5 u6 u7 u8 u9 u10;have s0:=(CQ.out.kept KW.out).at_ 0 _ rfl;have s1:=(CQ.out.kept KW.out).at_ 1 _ rfl;have s2:=(CQ.out.kept KW.out).at_ 2 _ rfl;have u0:=(CR.out.kept KW.out).at_ 0 _ rfl;have u1:=(CR.out.kept KW.out).at_ 1 _ rfl;have u2:=(CR.out.kept KW.out).at_ 2 _ rfl;have u3:=(CR.out.kept KW.out).at_ 3 _ rfl;have u4:=(CR.out.kept KW.out).at_ 4 _ rfl;have u5:=(CR.out.kept KW.out).at_ 5 _ rfl;have u6:=(CR.out.kept KW.out).at_ 6 _ rfl;have u7:=(CR.out.kept KW.out).at_ 7 _ rfl;have u8:=(CR.out.kept KW.out).at_ 8 _ rfl;have u9:=(CR.out.kept KW.out).at_ 9 _ rfl;have u10:=(CR.out.kept KW.out).at_ 10 _ rfl;go_wp2_with fail
 refine(Tn.out _ KW.out).mono ?_;rintro e y10 ⟨r2x,rfl,hn2,kk⟩;have KW:=lH (KW.out.trans kk);have HV:=lH (HV.out.kept kk);clear kk;clear s0 s1 s2 u0 u1 u2 u3 u4 u5 u6 u7 u8 u9 u10;have s0:=(CQ.out.kept KW.out).at_ 0 _ rfl;have s1:=(CQ.out.kept KW.out).at_ 1 _ rfl;have s2:=(CQ.out.kept KW.out).at_ 2 _ rfl;have u0:=(CR.out.kept KW.out).at_ 0 _ rfl;have u1:=(CR.out.kept KW.out).at_ 1 _ rfl;have u2:=(CR.out.kept KW.out).at_ 2 _ rfl;have u3:=(CR.out.kept KW.out).at_ 3 _ rfl;have u4:=(CR.out.kept KW.out).at_ 4 _ rfl;have u5:=(CR.out.kept KW.out).at_ 5 _ rfl;have u6:=(CR.out.kept KW.out).at_ 6 _ rfl;have u7:=(CR.out.kept KW.out).at_ 7 _ rfl;have u8:=(CR.out.kept KW.out).at_ 8 _ rfl;have u9:=(CR.out.kept KW.out).at_ 9 _ rfl;have u10:=(CR.out.kept KW.out).at_ 10 _ rfl;go_wp2_with fail
 refine(ZP r2x _).mono ?_;rintro e y11 ⟨rfl,rfl⟩;rw[hn2];obtain⟨gL,hgL⟩:=eX (y10.heap.size)
 obtain⟨yL,hyL⟩:=eX (y10.alloc (.cells #[.string ⟨#[98]⟩,.string ⟨#[97]⟩,.string ⟨#[99]⟩] 9))
 have kk:Kept y10 yL:=by rw[←hyL];exact ja _ _
 have hsz:yL.heap.size=gL+1:=by rw[←hyL,World.size_alloc,hgL]
 have R6:=lH hsz;have CL:=lH (show je gL [.string ⟨#[98]⟩,.string ⟨#[97]⟩,.string ⟨#[99]⟩] yL from by
  have c:=jc y10 (.string ⟨#[98]⟩) [.string ⟨#[97]⟩,.string ⟨#[99]⟩] 9 yL (by rw[hyL];exact Kept.refl _);rw[hgL] at c;exact c)
 have TU:=lH hgL;have TW:=lH hyL;clear hgL hyL hsz;have R7:=lH (show Reads jz yL (.slice (some ⟨gL,0,none⟩) 3 3) [⟨#[98]⟩,⟨#[97]⟩,⟨#[99]⟩] from⟨_,3,rfl,(by decide:(3:Nat)≤3),(by decide:(3:Nat)≤maxLen),Zd rfl CL.out (fun x hx=>by
  rcases List.mem_cons.1 hx with rfl | hx
  · exact(by decide:(1:Nat)≤maxLen)
  rcases List.mem_cons.1 hx with rfl | hx
  · exact(by decide:(1:Nat)≤maxLen)
  obtain rfl:=List.mem_singleton.1 hx;exact(by decide:(1:Nat)≤maxLen)) (by decide:(3:Nat)≤maxLen)⟩)
 have HV:=lH (HV.out.kept kk);have KW:=lH (KW.out.trans kk);clear kk CL;go_wp2_with fail
 rw[TW.out];try rw[TU.out]
 refine(jfx HV.out R7.out).mono ?_;rintro e ym ⟨rfl,kk⟩;have KW:=lH (KW.out.trans kk);clear kk;go_wp2;go_ret;exact⟨rfl,K.out.trans KW.out⟩
def enM (l:List Nat) (i:Nat):Clu:=⟨(List.range (i+1)).map enN,JX l i,[]⟩
theorem qb (l:List Nat) (i:Nat):enM l i={ enS l i with nodes:=(enS l i).nodes++[Ji (jw i) 1000] }:=by
 unfold enM enS;rw[List.range_succ,List.map_append];rfl
theorem jeq {l:List Nat} {i:Nat} (h:l.getD i 0=0):enS l (i+1)=enM l i:=by
 unfold enM enS;show (⟨_,JX l i++zw l i,[]⟩:Clu)=_;unfold zw;rw[if_pos h,List.append_nil]
theorem jeY {l:List Nat} {i:Nat} (h:¬l.getD i 0=0):enS l (i+1)={ enM l i with pods:=(enM l i).pods++[jQ (Js i) (l.getD i 0:Nat) (jw i)] }:=by
 unfold enM enS;show (⟨_,JX l i++zw l i,[]⟩:Clu)=_;unfold zw;rw[if_neg h]
theorem jfU:(Tryz.prog.info? 57).map (fun i=>(i.zero,i.size,i.bytes))=some (some (.agg #[.string ByteArray.empty,.slice none 0 0,.slice none 0 0,.slice none 0 0,.bool false]),5,96):=by kernel_rfl
theorem jfD:(Tryz.prog.info? 44).map (fun i=>(i.zero,i.size,i.bytes))=some (some (.agg #[.string ByteArray.empty,.string ByteArray.empty,.int .i64 0,.slice none 0 0,.slice none 0 0,.slice none 0 0,.slice none 0 0,.string ByteArray.empty,.int .i64 0,.string ByteArray.empty,.bool false]),11,184):=by kernel_rfl
theorem jcs (W:World) (c:Nat):Sem.run Tryz.prog (convert 54 9 (.slice (some ⟨W.heap.size,0,none⟩) 1 1)) (W.alloc (.cells #[.int .u8 c] 5))=.ok (.string (bytes [UInt8.ofNat c])) (W.alloc (.cells #[.int .u8 c] 5)):=by
 have h:=run_convert_bytes_arg (P:=Tryz.prog) (W.alloc (.cells #[.int .u8 c] 5)) 54 5 Tryz.underlying54 Tryz.underlying5 W.heap.size 0 1 1 [(c:Int)] rfl (fun i hi=>by
  have hh:=W.alloc_heap_new (.cells #[.int .u8 c] 5)
  match i,hi with
  | 0,_=>rw[Lib.cell_of_heap hh];rfl) 9 Tryz.underlying9
 rw[h];rfl
end Go.Proofs.YtokdjfoalkmhiaaGreat
