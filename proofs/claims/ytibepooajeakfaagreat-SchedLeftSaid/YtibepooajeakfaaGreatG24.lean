/- C. -/
import Derived.Test.YtibepooajeakfaaGreatG3
import Derived.Test.YtibepooajeakfaaGreatG9
import Derived.Test.YtibepooajeakfaaGreatG17
import Derived.Test.YtibepooajeakfaaGreatG20
import Derived.Test.YtibepooajeakfaaGreatG21
import Derived.Test.YtibepooajeakfaaGreatG23
set_option linter.unusedVariables false
set_option maxRecDepth 100000
set_option maxHeartbeats 25600000
namespace Go.Proofs.YtibepooajeakfaaGreat
open Go.RowKit Go.Shelf Go.Lib Go.Sort
theorem qj (pack:Bool) (x y:Mk):ltOf (cfM pack) x y=Yw pack x y:=by
 unfold ltOf
 cases h:Yw pack x y with
 | true=>exact decide_eq_true ((jgd pack x y).2 h)
 | false=>exact decide_eq_false (fun e=>by rw[(jgd pack x y).1 e] at h;cases h)
theorem jlu (pack:Bool):SWO (ltOf (cfM pack)) where
 irrefl x:=by rw[qj];exact qP _ _ _ _
 trans x y z h1 h2:=by rw[qj] at *;exact Xk h1 h2
 ntrans x y z h1 h2:=by rw[qj] at *;exact qM h1 h2
theorem jdy:∀args w,(callFunc 233 args).run Tryz.prog w=.ok (.enter 233 args) w:=enters_of Tryz.func233 (by kernel_rfl) rfl
theorem jie (q:Nat) (pack:Bool) (blk size:Nat) (w:World) (hq:w.cell? ⟨q,0,none⟩=some (.bool pack)) (hne:q≠blk) (hlt:q<w.heap.size):CmpLays Tryz.prog 233 #[.pointer (some ⟨q,0,none⟩)] mkC 3 (cfM pack) blk 0 size w:=fun m os dk hs x y=>by
 refine jeV q pack x.1 y.1 x.2.1 y.2.1 x.2.2 y.2.2 _ ?_;show (grow (putRowK mkC 3 (Sort.ahead w m) blk 0 dk) os).cell? ⟨q,0,none⟩=_;rw[cell?_grow _ _ _ (by rw[size_putRowK];exact hlt),cell?_putRowK_other mkC 3 _ blk 0 dk ⟨q,0,none⟩ hne];exact hq
theorem ji1 {B:Nat} {w0 w:World} {blk n:Nat} {d:Array Mk} {os:Array Obj} (h:Go.RowKit.Below B w0 w) (hg:B≤blk) (hB:B≤w.heap.size):Go.RowKit.Below B w0 (sortWorldK mkC 3 w blk 0 n d os):=by
 unfold sortWorldK;refine(below_putRow (enc:=id) (q:=n) (d:=flatK mkC 3 d) h hg).trans ?_;exact below_grow B (putRowK mkC 3 (Sort.ahead w n) blk 0 d) (by rw[size_putRowK];exact hB) 0 os
theorem jhp {W:World} {base:Nat} {v:Value} {zs:List Mk} (h:jkM base W v zs) (hv:v≠.slice none 0 0):∃g cap,v=.slice (some ⟨g,0,none⟩) zs.length cap∧base≤g∧g<W.heap.size∧zs.length≤cap∧cap≤maxLen∧HoldsK mkC 3 W g 0 zs.toArray:=by
 rcases h.1.2 with ⟨e0,_⟩ | ⟨g,cap,cur,rfl,hb,hg,hn,hm,hs,ht⟩
 · exact absurd e0 hv
 · have hlt:g<W.heap.size:=by
    rcases Nat.lt_or_ge g W.heap.size with h' | h'
    · exact h'
    · rw[Array.getElem?_eq_none h'] at hg;cases hg
   refine⟨g,cap,rfl,hb,hlt,hn,hm,fun t htl=>?_⟩;have htl2:t<zs.length*3:=by simpa using htl
   have h3:t / 3<zs.length:=by omega
   have h4:t % 3<3:=Nat.mod_lt _ (by decide);refine⟨?_,by simp[World.frozen?,hg]⟩;rw[get_flatK _ _ _ _ (by simpa using htl2)];have e2:=ZL MkLay zs (t / 3) zs[t / 3] (t % 3) ((mkC zs[t / 3])[t % 3]'h4) (List.getElem?_eq_getElem h3) (List.getElem?_eq_getElem h4);have e1:(cur.toList.take (zs.length*3))[t]?=(jd MkLay zs)[t]?:=by rw[ht];rfl
   rw[show t / 3*MkLay.m+t % 3=t from by show t / 3*3+t % 3=t;omega] at e2;rw[e2,List.getElem?_take,if_pos htl2,Array.getElem?_toList] at e1;simp only[World.cell?,hg,Nat.zero_add];simp only[Option.isSome_none,Bool.false_eq_true,if_false];rw[e1,getElem!_pos zs.toArray (t / 3) (by simpa using h3),getElem!_pos (mkC _) (t % 3) h4];simp;rfl
theorem jhA {W:World} {g:Nat} {l:List Mk} (h:HoldsK mkC 3 W g 0 l.toArray) (hg:g<W.heap.size) (hm:l.length≤maxLen) (hf:∀x ∈ l,MkLay.fine x):jn MkLay W (some ⟨g,0,none⟩) l.length l:=by
 refine⟨rfl,hm,hf,.inr ⟨g,0,rfl,hg,fun i x j u hi hj=>?_⟩⟩;obtain⟨hil,ex⟩:=List.getElem?_eq_some_iff.1 hi;have hj':(mkC x)[j]?=some u:=hj;obtain⟨hjl,eu⟩:=List.getElem?_eq_some_iff.1 hj';have hj3:j<3:=hjl;have:=(h.cell (i:=i) (c:=j) (by simpa using hil) hj3).1;rw[getElem!_pos l.toArray i (by simpa using hil)] at this;simp only[List.getElem_toArray] at this;rw[ex,getElem!_pos (mkC x) j hjl,eu] at this;exact this
def jnb (pack:Bool) (xs:List Mk) (w:World) (e:Ending) (w':World):Prop:=∃v l,e=.returned v∧l.Perm xs∧(l.Pairwise fun a b=>Yw pack b a=false)∧Reads MkLay w' v l∧Kept w w'
theorem jcl (q:Nat) (pack:Bool) (Bs:Nat) (sv:Value) (xs:List Mk) (hlen:xs.length≤1000000) (hx:∀x ∈ xs,MkLay.fine x) (w:World) (hq:w.cell? ⟨q,0,none⟩=some (.bool pack)) (hBs:Bs<w.heap.size) (hcs:w.cell? ⟨Bs,0,none⟩=some sv) (hL:Mks w.heap.size w sv xs) :
 Calls Tryz.prog 231 #[.func (.func 261) #[] #[.pointer (some ⟨Bs,0,none⟩)],.func (.func 233) #[] #[.pointer (some ⟨q,0,none⟩)]] w (jnb pack xs w):=by
 have HC:=lH (jdv Bs sv xs hlen w hBs hcs hL);have hql:q<w.heap.size:=World.block_lt_of_cell? _ _ hq;obtain⟨HQ,RW,HX,UW⟩:=lH4 hq hql hx hlen;clear hBs hcs hL hq hql hx hlen;go_enter Tryz.func231,Tryz.ntmps231;go_wp2_with fail
 refine HC.out.mono ?_;rintro e w1 ⟨v,rfl,ho,hb⟩;by_cases hv:v=.slice none 0 0
 · have hxs:=ho.2.1 hv;have HS:=lH (AnyF.slices_SortFunc_none jh2 none 0 (.func (.func 233) #[] #[.pointer (some ⟨q,0,none⟩)]) w1);change Hid (Calls Tryz.prog 260 _ _ _) at HS;subst hv hxs;have HB:=lH hb;clear hb ho;go_wp2_with fail
   refine HS.out.mono ?_;rintro e w2 ⟨rfl,rfl⟩;go_wp2_with fail
   go_ret;exact⟨_,[],rfl,List.Perm.refl _,List.Pairwise.nil,Reads.nil _,HB.out⟩
 · obtain⟨g,cap,rfl,hg1,hg2,hc1,hc2,hH⟩:=jhp ho hv;have hne:q≠g:=by have:=RW.out;omega
   have hst:=AnyQ.slices_SortFunc jh2 3 Tryz.isAgg302 Tryz.sizeOf302 mkC (fun _=>rfl) jbY (cfM pack) (jlu pack) 233 #[.pointer (some ⟨q,0,none⟩)] g 0 cap xs.toArray w1 jdy (jie q pack g _ w1 (cell_later hb HQ.out) hne (Nat.lt_of_lt_of_le RW.out hb.size)) hH hg2 (by have:=UW.out;simp;omega);change Calls Tryz.prog 260 _ _ _ at hst;obtain⟨HB,HS,HG,Tz,HH,HP⟩:=lH6 hb hst hg1 hg2 hH (And.intro hc1 hc2);clear hb ho hst hg1 hg2 hH hc1 hc2 hv hne;simp only[List.size_toArray] at HS;go_wp2_with fail
   refine HS.out.mono ?_;rintro e w2 ⟨rfl,d',n,os,hp,hs,hw⟩;obtain⟨P1,P2,P3⟩:=lH3 hp hs hw;clear hp hs hw;go_wp2_with fail
   go_ret;have hsz:d'.size=xs.length:=by simpa using P1.out.1
   have hperm:d'.toList.Perm xs:=by
    have:=P1.out.2.2;simp only[Array.toList_extract,List.extract_eq_take_drop,List.drop_zero,Nat.sub_zero] at this;rw[List.take_of_length_le (by simp;omega),List.take_of_length_le (by simp)] at this;exact this
   have hlen:d'.toList.length=xs.length:=by simpa using hsz
   refine⟨_,d'.toList,rfl,hperm,?_,?_,?_⟩
   · rw[List.pairwise_iff_getElem];intro i j hi hj hij;have h2:=P2.out i j (Nat.zero_le _) hij (by omega);rw[qj,getElem!_pos d' j (by simpa using hj),getElem!_pos d' i (by simpa using hi)] at h2;simpa using h2
   · have hh:HoldsK mkC 3 w2 g 0 d'.toList.toArray:=by
      rw[P3.out];simp only[Array.toArray_toList];exact holdsK_sortWorldK mkC 3 w1 g 0 n xs.toArray d' os Tz.out HH.out (by simpa using hsz)
     have hg3:g<w2.heap.size:=by rw[P3.out];exact lt_sortWorldK mkC 3 w1 g 0 n d' os Tz.out
     refine⟨_,cap,by rw[hlen];rfl,by rw[hlen];exact HP.out.1,HP.out.2,jhA hh hg3 (by rw[hlen];exact Nat.le_trans HP.out.1 HP.out.2) (fun x hx=>HX.out x (hperm.mem_iff.1 hx))⟩
   · rw[P3.out];exact ji1 HB.out HG.out HB.out.size
open Go.RowKit
attribute [local go_sem] Zk
theorem jn.mark {w:World} {b off len:Nat} {l:List Mk} {k:Nat} (h:jn MkLay w (some ⟨b,off,none⟩) len l) (hk:k<len):∃x:Mk,l[k]?=some x∧x.1.size≤maxLen∧w.cell? ⟨b,off+k*3,none⟩=some (.string x.1)∧w.cell? ⟨b,off+k*3+1,none⟩=some (.int .i64 x.2.1)∧w.cell? ⟨b,off+k*3+2,none⟩=some (.float .f64 x.2.2):=by
 obtain⟨x,h1,-,-,h4,h5⟩:=h.cells hk;exact⟨x,h1,h4.1,h5 0 _ rfl,h5 1 _ rfl,h5 2 _ rfl⟩
theorem jhD (pack:Bool) (v:Value) (xs:List Mk) (w:World) (hr:Reads MkLay w v xs) (hlen:xs.length≤100000):Calls Tryz.prog 197 #[v,.bool pack] w fun e w'=>∃(y:Value) (l:List Mk),e=.returned y∧l.Perm xs∧(l.Pairwise fun a b=>Yw pack b a=false)∧Own j8 9 w' w.heap.size y (l.map (·.1))∧Kept w w':=by
 have hmf:=hmfL (P:=Tryz.prog);obtain⟨i0,hi,hz0,hz1,hz2'⟩:=info_parts jit;obtain⟨Z,hZ⟩:=eX (w.alloc (.cells #[.bool pack] 4))
 have hkz:Kept w Z:=by rw[←hZ];exact ja _ _
 have hq:Z.cell? ⟨w.heap.size,0,none⟩=some (.bool pack):=by rw[←hZ];simp
 obtain⟨HR,K,HF⟩:=lH3 (hr.kept hkz) hkz (hr.fine);obtain⟨a,cap,rfl,-,-,-⟩:=hr;obtain⟨nx,hnx⟩:=eX (xs.length)
 obtain⟨Y,hY⟩:=eX (Z.alloc (.cells #[.slice a nx cap] 268))
 have hky:Kept Z Y:=by rw[←hY];exact ja _ _
 have hys:Z.heap.size<Y.heap.size:=by rw[←hY];simp
 have hyc:Y.cell? ⟨Z.heap.size,0,none⟩=some (.slice a nx cap):=by rw[←hY];simp
 have HV:=lH (jd3 a nx cap Z);have HS:=lH (jcl w.heap.size pack Z.heap.size (.slice a nx cap) xs (by omega) HF.out Y (cell_later hky hq) hys hyc (by have:=(HR.out.kept hky).mks;rw[hnx] at this;exact this));rw[hY] at HV;rw[hnx];have KY:=lH hky;have VC:=lH hnx;rw[hnx] at hlen;clear hq hkz hky hys hyc hnx;go_enter Tryz.func197,Tryz.ntmps197;go_wp2_with fail
 try rw[hZ]
 clear hZ;refine HV.out.mono ?_;rintro e w1 ⟨rfl,rfl⟩;clear hY;go_wp2_with fail
 refine HS.out.mono ?_;rintro e w1 ⟨v9,l,rfl,hp,hs,hv,kk⟩;obtain⟨Rm,NF,K⟩:=lH3 hp hs (K.out.trans (KY.out.trans kk));have hll:l.length=nx:=hp.length_eq.trans VC.out;obtain⟨wa,wc,rfl,-,-,hrow⟩:=hv;rw[hll] at hrow ⊢;have UX:=lH hrow;have U7:=lH hll;clear kk hp hs hrow hll HS HV;have KW:=lH (Kept.refl w1);go_wp2;go_loopw [6,15] (fun v i wr=>∃k:Nat,k≤nx∧i=.int .i64 k∧∃la:List ByteArray,(l.take k).map (·.1)=la∧Own j8 9 wr w1.heap.size v la∧Kept w1 wr) (fun _ i _=>nx-(intOf i).toNat)
 case atStart=>exact⟨0,Nat.zero_le _,rfl,[],rfl,Own.nil _ _ _,Kept.refl _⟩
 case round =>
  obtain⟨k,hk,rfl,la,hla,ho,hK⟩:=hrel;obtain⟨HX,HO,HK⟩:=lH3 hla ho hK;obtain⟨m,hm⟩:=eX (la.length)
  have hmk:m≤k:=by
   have:=congrArg List.length hla;rw[List.length_map,List.length_take,hm] at this;omega
  have HT:=lH hm;have hbase:w1.heap.size≤wr.heap.size:=hK.size;by_cases hlt:k<nx
  · obtain⟨b9,o9,rfl⟩:=UX.out.form.resolve_left (by omega);obtain⟨⟨x1,x2,x3⟩,hx,hxs,c0,c1,c2⟩:=(UX.out.kept hK).mark hlt;dsimp only at hxs c0 c1 c2;have TU:=lH hxs;have HV:=lH (show (l.take (k+1)).map (·.1)=la++[x1] by rw[List.take_add_one,hx,List.map_append,HX.out];rfl);have hkk:(k:Int)<(nx:Int):=by omega
    have hk0:¬(k:Int)<0:=by omega
    obtain⟨wx,hwx⟩:=eX (wr.alloc (.cells #[.string x1,.int .i64 x2,.float .f64 x3] 302))
    have hkx:Kept wr wx:=by rw[←hwx];exact ja _ _
    have TG:=lH (jb wr (.string x1) [.int .i64 x2,.float .f64 x3] 302 wx (by rw[hwx];exact Kept.refl _));obtain⟨bq,hbq⟩:=eX (wr.heap.size)
    rw[hbq] at TG;have KX:=lH hkx;go_upto_region 6 with fail
    try rw[hwx]
    try rw[hbq]
    clear hwx hbq hx hxs hkx hk0 hkk hla ho hm hK c0 c1 c2;have t0:=TG.out.at_ 0 _ rfl;have Vx:=lH (show wx.ownsRow w1.heap.size 9 1 u6 m (jd j8 la) by have:=(HO.out.kept KX.out).1;rw[HT.out] at this;exact this);have hs1:wr.heap.size≤wx.heap.size:=Below.size KX.out;go_wp2_with (at_builtin;refine wpList_append_lies _ rfl _ _ _ rfl w1.heap.size 9 i0 _ 1 16 Tryz.underlying72 hi hz0 hz1 hz2' rfl (by decide) u6 m (jd j8 la) rfl (Vx.out.alloc _) ⟨wx.heap.size,0,none⟩ 1 1 (j8.cs x1) rfl rfl (World.news_of_block (cs:=#[.string x1]) (t:=9) (fr:=(0,0)) (heap_alloc_new wx _)) (jeM x1) (by decide) (by unfold maxLen;omega) (by omega) (by simp;omega) (wx.heap.size+1) (by simp) ?_;intro gg cap1 w4 hown1 hgrow hat hlt1)
    have VL:=lH ((show Below w1.heap.size w1 _ from HK.out.trans (KX.out.trans (ja wx _))).grown hgrow (by simp;omega) (fun j hj=>(Vx.out.lt j hj).1));go_wp2;go_roundw
    case rel=>exact⟨k+1,by omega,by go_num,la++[x1],HV.out,Own.snoc hown1 (by rw[HT.out]) HO.out.2 TU.out,VL.out⟩
    case measure=>simp[intOf];omega
  · have hge:¬(k:Int)<(nx:Int):=by omega
    have HE:=lH (show l.map (·.1)=la by rw[←hla,List.take_of_length_le (by rw[U7.out];omega)]);clear hla ho hm hK;go_wp2;go_ret;exact⟨_,rfl,l,Rm.out,NF.out,by rw[HE.out];exact HO.out.base_le K.out.size,K.out.trans HK.out⟩
end Go.Proofs.YtibepooajeakfaaGreat
namespace Go.Proofs.YtibepooajeakfaaGreat
open Go.RowKit
theorem jl1 {s:Clu} {p:Pd} {pack:Bool} {xs l:List Mk} (ht:ZS s p (jO s p s.nodes) xs) (hp:l.Perm xs) (hs:l.Pairwise fun a b=>Yw pack b a=false):XV s p pack (l.map (·.1)):=by
 refine⟨by rw[←ht.1];exact hp.map _,?_⟩;rw[List.pairwise_map];refine List.Pairwise.imp_of_mem (fun {a b} ha hb h=>?_) hs;have h1:=ht.2 a (hp.mem_iff.1 ha);have h2:=ht.2 b (hp.mem_iff.1 hb);unfold Yb;rw[←h1.1,←h1.2,←h2.1,←h2.2];exact h
def jkF (s:Clu) (p:Pd) (pack:Bool) (w:World) (e:Ending) (w':World):Prop:=∃(v:Value) (l:List ByteArray),e=.returned v∧XV s p pack l∧Own j8 9 w' w.heap.size v l∧Kept w w'
def jkk (s:Clu) (p:Pd) (pack:Bool) (w:World) (e:Ending) (w':World):Prop:=∃l:List ByteArray,XV s p pack l∧e=.returned (.tuple #[.string (l.headD ⟨#[]⟩),.bool (!l.isEmpty)])∧Kept w w'
theorem jjq (s1 s2 s3:Option Addr) (n1 e1 n2 e2 n3 e3:Nat) (a1 a2 a3 a4:Option Addr) (m1 c1 m2 c2 m3 c3 m4 c4:Nat) (pack:Bool) (p:Pd) (s:Clu) (w:World) (hs:jB w (zO (.slice s1 n1 e1) (.slice s2 n2 e2) (.slice s3 n3 e3)) s) (hl:jA s) (hb:s.pods.length+1≤100000) (hp:ji w (.slice a1 m1 c1) (.slice a2 m2 c2) (.slice a3 m3 c3) (.slice a4 m4 c4) p) (hlp:Jq p):Calls Tryz.prog 169 #[.agg #[.slice s1 n1 e1,.slice s2 n2 e2,.slice s3 n3 e3],jw p (.slice a1 m1 c1) (.slice a2 m2 c2) (.slice a3 m3 c3) (.slice a4 m4 c4),.bool pack] w (jkF s p pack w):=by
 obtain⟨Z,hZ⟩:=eX ((w.alloc (.cells #[.slice s1 n1 e1,.slice s2 n2 e2,.slice s3 n3 e3] 26)).alloc (.cells #[.string p.name,.string p.owner,.int .i64 p.prio,.slice a1 m1 c1,.slice a2 m2 c2,.slice a3 m3 c3,.slice a4 m4 c4,.string p.key,.int .i64 p.most,.string p.node,.bool p.hold] 52))
 have hkz:Kept w Z:=by rw[←hZ];exact jm _ _ _
 have Vi:=lH (jb w (.slice s1 n1 e1) [.slice s2 n2 e2,.slice s3 n3 e3] 26 Z (by rw[←hZ];exact ja _ _));have Vg:=lH (show je (w.heap.size+1) [.string p.name,.string p.owner,.int .i64 p.prio,.slice a1 m1 c1,.slice a2 m2 c2,.slice a3 m3 c3,.slice a4 m4 c4,.string p.key,.int .i64 p.most,.string p.node,.bool p.hold] Z by
  have dd:=jb (w.alloc (.cells #[.slice s1 n1 e1,.slice s2 n2 e2,.slice s3 n3 e3] 26)) (.string p.name) [.string p.owner,.int .i64 p.prio,.slice a1 m1 c1,.slice a2 m2 c2,.slice a3 m3 c3,.slice a4 m4 c4,.string p.key,.int .i64 p.most,.string p.node,.bool p.hold] 52 Z (by rw[hZ];exact Kept.refl _);rw[World.size_alloc] at dd;exact dd)
 obtain⟨K,HS,HP,HL,Ta,Ud⟩:=lH6 hkz (hs.kept hkz) (hp.kept hkz) hl hb hlp;clear hs hp hkz hl hb hlp;have UO:=lH (jja s1 s2 s3 n1 e1 n2 e2 n3 e3 a1 a2 a3 a4 m1 c1 m2 c2 m3 c3 m4 c4 p s Z HS.out HL.out Ta.out HP.out Ud.out);unfold jw at UO;have hfl:=jas s p s.nodes;have VP:=HL.out.nodesN;obtain⟨y0,y1,y2⟩:=Vi.out.at3;obtain⟨r0,r1,r2,r3,r4,r5,r6,r7,r8,r9,r10⟩:=Vg.out.at11;unfold jw;go_enter Tryz.func169,Tryz.ntmps169;go_wp2_with fail
 try rw[hZ]
 clear hZ;refine UO.out.mono ?_;rintro e w1 ⟨v,xs,rfl,hr,ht,kk⟩;obtain⟨HN,HT,K⟩:=lH3 (jhD pack v xs w1 hr (by rw[ht.len];omega)) ht (K.out.trans kk);clear kk hr ht hfl VP UO y0 y1 y2 r0 r1 r2 r3 r4 r5 r6 r7 r8 r9 r10;go_wp2_with fail
 refine HN.out.mono ?_;rintro e w2 ⟨y,l,rfl,hp,hs,ho,kk⟩;obtain⟨HO,HD,K⟩:=lH3 (ho.base_le K.out.size) (jl1 HT.out hp hs) (K.out.trans kk);clear kk ho hp hs HN;go_wp2;go_ret;exact⟨_,_,rfl,HD.out,HO.out,K.out⟩
theorem jhl (s1 s2 s3:Option Addr) (n1 e1 n2 e2 n3 e3:Nat) (a1 a2 a3 a4:Option Addr) (m1 c1 m2 c2 m3 c3 m4 c4:Nat) (pack:Bool) (p:Pd) (s:Clu) (w:World) (hs:jB w (zO (.slice s1 n1 e1) (.slice s2 n2 e2) (.slice s3 n3 e3)) s) (hl:jA s) (hb:s.pods.length+1≤100000) (hp:ji w (.slice a1 m1 c1) (.slice a2 m2 c2) (.slice a3 m3 c3) (.slice a4 m4 c4) p) (hlp:Jq p):Calls Tryz.prog 122 #[.agg #[.slice s1 n1 e1,.slice s2 n2 e2,.slice s3 n3 e3],jw p (.slice a1 m1 c1) (.slice a2 m2 c2) (.slice a3 m3 c3) (.slice a4 m4 c4),.bool pack] w (jkk s p pack w):=by
 obtain⟨Z,hZ⟩:=eX ((w.alloc (.cells #[.slice s1 n1 e1,.slice s2 n2 e2,.slice s3 n3 e3] 26)).alloc (.cells #[.string p.name,.string p.owner,.int .i64 p.prio,.slice a1 m1 c1,.slice a2 m2 c2,.slice a3 m3 c3,.slice a4 m4 c4,.string p.key,.int .i64 p.most,.string p.node,.bool p.hold] 52))
 have hkz:Kept w Z:=by rw[←hZ];exact jm _ _ _
 have Vi:=lH (jb w (.slice s1 n1 e1) [.slice s2 n2 e2,.slice s3 n3 e3] 26 Z (by rw[←hZ];exact ja _ _));have Vg:=lH (show je (w.heap.size+1) [.string p.name,.string p.owner,.int .i64 p.prio,.slice a1 m1 c1,.slice a2 m2 c2,.slice a3 m3 c3,.slice a4 m4 c4,.string p.key,.int .i64 p.most,.string p.node,.bool p.hold] Z by
  have dd:=jb (w.alloc (.cells #[.slice s1 n1 e1,.slice s2 n2 e2,.slice s3 n3 e3] 26)) (.string p.name) [.string p.owner,.int .i64 p.prio,.slice a1 m1 c1,.slice a2 m2 c2,.slice a3 m3 c3,.slice a4 m4 c4,.string p.key,.int .i64 p.most,.string p.node,.bool p.hold] 52 Z (by rw[hZ];exact Kept.refl _);rw[World.size_alloc] at dd;exact dd)
 obtain⟨K,HS,HP,HL,Ta,Ud⟩:=lH6 hkz (hs.kept hkz) (hp.kept hkz) hl hb hlp;clear hs hp hkz hl hb hlp;have UO:=lH (jjq s1 s2 s3 n1 e1 n2 e2 n3 e3 a1 a2 a3 a4 m1 c1 m2 c2 m3 c3 m4 c4 pack p s Z HS.out HL.out Ta.out HP.out Ud.out);unfold jw at UO;obtain⟨y0,y1,y2⟩:=Vi.out.at3;obtain⟨r0,r1,r2,r3,r4,r5,r6,r7,r8,r9,r10⟩:=Vg.out.at11;unfold jw;go_enter Tryz.func122,Tryz.ntmps122;go_wp2_with fail
 try rw[hZ]
 clear hZ;refine UO.out.mono ?_;rintro e w1 ⟨v,l,rfl,hd,ho,kk⟩;have HD:=lH hd;have K:=lH (K.out.trans kk);obtain⟨a,cap,rfl,-,-,hrow⟩:=ho.at_;clear kk hd ho UO y0 y1 y2 r0 r1 r2 r3 r4 r5 r6 r7 r8 r9 r10
 cases l with
 | nil =>
  have h0:(((([]:List ByteArray).length:Nat):Int)==0)=true:=rfl;go_wp2;go_ret2
  exact⟨[],HD.out,rfl,K.out⟩
 | cons x t =>
  obtain⟨b,off,rfl⟩:=hrow.form.resolve_left (by simp);obtain⟨x9,hx9,-,-,-,c0⟩:=hrow.str (k:=0) (by simp);obtain rfl:x=x9:=by simpa using hx9
  rw[Nat.add_zero] at c0;obtain⟨n,hn⟩:=eX ((x::t).length)
  have hn1:0<n:=by rw[←hn];simp
  have hn0:((n:Int)==0)=false:=by simp;omega
  have hn2:(0:Int)<(n:Int):=by omega
  rw[hn];clear hx9 hrow hn;go_wp2;go_ret2
  exact⟨x::t,HD.out,rfl,K.out⟩
theorem jkk.is {s:Clu} {p:Pd} {pack:Bool} {w w':World} {e:Ending} {l:List ByteArray} (h:jkk s p pack w e w') (ho:XV s p pack l):Say (.tuple #[.string (l.headD ⟨#[]⟩),.bool (!l.isEmpty)]) w e w':=by
 obtain⟨m,hm,he,kk⟩:=h;rw[hm.unique ho] at he;exact⟨he,kk⟩
theorem jcz.is {x:Option Nat} {z:Nat} {w w':World} {e:Ending} (h:jcz x w e w') (hx:x=some z):Say (.float .f64 z) w e w':=by
 obtain⟨r,he,hr,-,kk⟩:=h;rw[hx] at hr;obtain⟨-,rfl⟩:=Ys.1 hr;exact⟨he,kk⟩
theorem jkF.is {s:Clu} {p:Pd} {pack:Bool} {w w':World} {e:Ending} {l:List ByteArray} (h:jkF s p pack w e w') (ho:XV s p pack l):∃v,e=.returned v∧Own j8 9 w' w.heap.size v l∧Kept w w':=by
 obtain⟨v,m,he,hm,h2,kk⟩:=h;rw[hm.unique ho] at h2;exact⟨v,he,h2,kk⟩
def sdX:Pd:=jcF ⟨#[120]⟩ 6 ⟨#[]⟩
def sdY:Pd:={ jcF ⟨#[121]⟩ 6 ⟨#[]⟩ with prio:=5 }
def sdZ:Pd:=jcF ⟨#[122]⟩ 3 ⟨#[]⟩
def sdA:ByteArray:=⟨#[97]⟩
def sdS:Clu:=⟨[Z9 ⟨#[97]⟩ 10],[sdX,sdY,sdZ],[]⟩
def sdT:Clu:=zL sdS ⟨#[121]⟩ ⟨#[97]⟩
def sdU:Clu:=zL sdT ⟨#[122]⟩ ⟨#[97]⟩
theorem jau (p:Pd) (x y:ByteArray) (c:Int) (h:p.need=(jcF x c y).need∧p.labels=[]∧p.sel=[]∧p.tols=[]):Jq p:=⟨by rw[h.1];exact(by decide:(1:Nat)≤1000000),by rw[h.2.1];exact(by decide:(0:Nat)≤1000000),by rw[h.2.2.1];exact(by decide:(0:Nat)≤1000000),by rw[h.2.2.2];exact(by decide:(0:Nat)≤1000000)⟩
theorem Yp:jA sdS:=⟨fun n hn=>by
 unfold sdS at hn;obtain rfl:=List.mem_singleton.1 hn;exact⟨(by decide:(1:Nat)≤1000000),(by decide:(0:Nat)≤1000000),(by decide:(0:Nat)≤1000000)⟩,
 fun n hn=>by
  unfold sdS at hn;simp only[List.mem_cons,List.not_mem_nil,or_false] at hn;rcases hn with rfl | rfl | rfl
  · exact jau _ ⟨#[]⟩ ⟨#[]⟩ 6 ⟨rfl,rfl,rfl,rfl⟩
  · exact jau _ ⟨#[]⟩ ⟨#[]⟩ 6 ⟨rfl,rfl,rfl,rfl⟩
  · exact jau _ ⟨#[]⟩ ⟨#[]⟩ 3 ⟨rfl,rfl,rfl,rfl⟩,(fun n h=>by cases h),(by decide:(1:Nat)≤100000),(by decide:(3:Nat)≤100000),(by decide:(0:Nat)≤100000)⟩
theorem jcq:Zw sdS=true:=by kernel_rfl
theorem jcd:Asc sdS.pods:=jfa jcq
theorem jlr {w:World} {v:Value} (h:jB w v sdS):zZ sdS:=⟨Xh jcq,jea jcq h,Yp,(by decide:(3:Nat)≤128)⟩
theorem je4 {r:Pd→Pd→Prop} {x y:Pd} (h:r x y):[x,y].Pairwise r:=List.Pairwise.cons (fun z hz=>by obtain rfl:=List.mem_singleton.1 hz;exact h) (List.Pairwise.cons (fun z hz=>by cases hz) List.Pairwise.nil)
theorem jm4:sdS.pods.filter jL=[sdX,sdY,sdZ]:=by kernel_rfl
theorem jmZ:sdT.pods.filter jL=[sdX,sdZ]:=by kernel_rfl
theorem jmX:sdU.pods.filter jL=[sdX]:=by kernel_rfl
theorem jm3:zh sdX sdY=false:=by kernel_rfl
theorem jne:zh sdZ sdY=false:=by kernel_rfl
theorem jlS:zh sdZ sdX=false:=by kernel_rfl
theorem jmV:Y4 sdS.pods [sdY,sdX,sdZ]:=⟨by rw[jm4];exact List.Perm.swap _ _ _,List.Pairwise.cons (fun z hz=>by
 rcases List.mem_cons.1 hz with rfl | hz
 · exact jm3
 · obtain rfl:=List.mem_singleton.1 hz;exact jne) (je4 jlS)⟩
theorem jhh:zr sdS.pods=[sdY,sdX,sdZ]:=(qH jcd jmV).symm
theorem jmQ:Asc sdT.pods:=by unfold Asc sdT;decide +kernel
theorem jkY:Asc sdU.pods:=by unfold Asc sdU;decide +kernel
theorem jm6:zr sdT.pods=[sdX,sdZ]:=(qH jmQ ⟨by rw[jmZ],je4 jlS⟩).symm
theorem jmf:zr sdU.pods=[sdX]:=(qH jkY ⟨by rw[jmX],List.Pairwise.cons (fun z hz=>by cases hz) List.Pairwise.nil⟩).symm
theorem jmT:jO sdS sdY sdS.nodes=[sdA]:=by kernel_rfl
theorem jnd:jO sdT sdX sdT.nodes=[]:=by kernel_rfl
theorem jm2:jO sdT sdZ sdT.nodes=[sdA]:=by kernel_rfl
theorem jmM:jO sdU sdX sdU.nodes=[]:=by kernel_rfl
theorem jgz {s:Clu} {p:Pd} {pack:Bool} {x:ByteArray} (h:jO s p s.nodes=[x]):XS s p pack=some x :=
 (jig (l:=[x]) ⟨by rw[h],List.Pairwise.cons (fun z hz=>by cases hz) List.Pairwise.nil⟩).symm
theorem jme (pack:Bool):nextS sdS pack=some (⟨#[121]⟩,sdA):=by
 unfold nextS;rw[jhh,Ji,jgz jmT];rfl
theorem jmW (pack:Bool):nextS sdT pack=some (⟨#[122]⟩,sdA):=by
 unfold nextS;rw[jm6,Ji,YG.2 jnd];show Ji sdT pack [sdZ]=_;rw[Ji,jgz jm2];rfl
theorem jnc (pack:Bool):nextS sdU pack=none:=by
 unfold nextS;rw[jmf,Ji,YG.2 jmM];rfl
theorem sdB (pack:Bool):JO sdS pack=[(⟨#[121]⟩,sdA),(⟨#[122]⟩,sdA)]:=by
 unfold JO;rw[jhh];show zV pack 3 sdS=_;rw[zV,jme];show _::zV pack 2 sdT=_;rw[zV,jmW];show _::_::zV pack 1 sdU=_;rw[zV,jnc]
theorem sdG (pack:Bool):goS (JO sdS pack) sdS=sdU:=by rw[sdB];rfl
theorem ji4:ByteArray.empty.toList=[]:=by first | rfl | decide | simp | kernel_rfl
theorem noE {x:ByteArray} (h:zD x=true):x.toList.isEmpty=true:=by
 rw[jM.1 (show eqS x ByteArray.empty=true from h),ji4];rfl
theorem noF {x:ByteArray} (h:zD x=false):x.toList.isEmpty=false:=by
 cases e:x.toList.isEmpty with
 | false=>rfl
 | true =>
  have:zD x=true:=by
   unfold zD eqS;rw[List.isEmpty_iff.1 e,ji4];rfl
  rw[this] at h;cases h
theorem ja1 (n:Pd) (v1 v2 v3 v4:Value) (w:World):Calls Tryz.prog 31 #[jw n v1 v2 v3 v4] w fun e w'=>e=.returned (.bool (!jL n))∧Kept w w':=by
 have c9:=(jb w (.string n.name) [.string n.owner,.int .i64 n.prio,v1,v2,v3,v4,.string n.key,.int .i64 n.most,.string n.node,.bool n.hold] 52 _ (Kept.refl _)).at_ 9 _ rfl;have c10:=(jb w (.string n.name) [.string n.owner,.int .i64 n.prio,v1,v2,v3,v4,.string n.key,.int .i64 n.most,.string n.node,.bool n.hold] 52 _ (Kept.refl _)).at_ 10 _ rfl;have HV:=lH (show ∀a b,zD n.node=a→n.hold=b→(!jL n)=(!a||b) from fun a b ha hb=>by unfold jL;rw[ha,hb];cases a<;>cases b<;>rfl);unfold jw
 cases ha:zD n.node with
 | true =>
  have ha':n.node.toList.isEmpty=true:=noE ha;rw[HV.out true _ ha rfl];clear ha;go_enter Tryz.func31,Tryz.ntmps31;go_wp2;go_ret;exact⟨by first | rfl | simp,ja _ _⟩
 | false =>
  have ha':n.node.toList.isEmpty=false:=noF ha;rw[HV.out false _ ha rfl];clear ha;go_enter Tryz.func31,Tryz.ntmps31;go_wp2;go_ret;exact⟨by first | rfl | simp,ja _ _⟩
theorem jbT (a:Option Addr) (len cap:Nat) (l:List Pd) (w:World) (hr:jC w a len l) :
 Calls Tryz.prog 69 #[.slice a len cap,.func (.func 31) #[] #[]] w (Say (.int .i64 (jah (idxB (fun p=>!jL p) l))) w):=by
 have hl:=hr.1;have hm:=hr.2.1;unfold maxLen at hm;have HL:=lH hl;have HR:=lH hr;clear hr hl;go_enter Tryz.func69,Tryz.ntmps69;go_wp2;go_loopw [8] (fun i wr=>∃k:Nat,k≤len∧i=.int .i64 k∧(idxB (fun p=>!jL p) (l.drop k)).map (·+k)=idxB (fun p=>!jL p) l∧Kept w wr) (fun i _=>len-(intOf i).toNat)
 case atStart=>exact⟨0,Nat.zero_le _,rfl,by simp,Kept.refl _⟩
 case round =>
  obtain⟨k,hk,rfl,hrest,hK⟩:=hrel;have HS:=lH hrest;have HK:=lH hK;by_cases hlt:k<len
  · obtain⟨b,off,rfl⟩:=HR.out.form.resolve_left (by omega);obtain⟨n,a1,m1,c1,a2,m2,c2,a3,m3,c3,a4,m4,c4,hn,hd,hb,p0,p1,p2,p3,p4,p5,p6,p7,p8,p9,p10,hat⟩:=(HR.out.kept hK).at_ hlt;have HD:=lH hd;have Ti:=lH (ja1 n (.slice a1 m1 c1) (.slice a2 m2 c2) (.slice a3 m3 c3) (.slice a4 m4 c4) wr);obtain⟨t,ht⟩:=eX ((!jL n))
    have HT:=lH ht;unfold jw at Ti;have HC:=lH Ti.out;rw[ht] at HC;clear Ti;clear hrest hK hat hd hn ht
    cases t with
    | true =>
     have HF:=lH (jco (f:=fun p=>!jL p) HD.out HT.out HS.out);go_wp2_with fail
     refine HC.out.mono ?_;rintro e w1 ⟨rfl,k1⟩;have K1:=lH (HK.out.trans k1);clear k1;go_wp2;go_ret;exact⟨by rw[HF.out];rfl,K1.out⟩
    | false =>
     have HE:=lH (jbq (f:=fun p=>!jL p) HD.out HT.out HS.out);go_wp2_with fail
     refine HC.out.mono ?_;rintro e w1 ⟨rfl,k1⟩;have K1:=lH (HK.out.trans k1);clear k1;go_wp2;go_roundw
     case rel=>exact⟨k+1,by omega,by go_num,HE.out,K1.out⟩
     case measure=>simp[intOf];omega
  · have HF:=lH (show idxB (fun p=>!jL p) l=none by rw[←hrest,List.drop_of_length_le (by rw[HL.out];omega)];rfl);clear hrest hK;go_wp2;go_ret;exact⟨by rw[HF.out];rfl,HK.out⟩
theorem jcv (l:List PX) (k:Nat):jd PodLay0 (l.take k)=(jd PodLay0 l).take (k*11):=by
 induction l generalizing k with
 | nil=>simp[jd]
 | cons z t ih =>
  cases k with
  | zero=>simp[jd]
  | succ k =>
   have e:(PodLay0.cs z).length=11:=rfl;have ih2:=ih k;unfold jd at ih2 ⊢;rw[List.take_succ_cons,List.flatMap_cons,List.flatMap_cons,ih2,show (k+1)*11=(PodLay0.cs z).length+k*11 by rw[e];omega,List.take_length_add_append]
theorem jc3:∀{lx:List PX},idxB (fun p=>!jL p) (lx.map fun z=>z.1)=none→lx.filter (fun z=>jL z.1)=lx
 | [],_=>rfl
 | z::t,h=>by
  rw[List.map_cons,idxB] at h;split at h
  · cases h
  · rename_i g;have g2:jL z.1=true:=by simpa using g
    rw[List.filter_cons_of_pos (by exact g2),jc3 (Option.map_eq_none_iff.1 h)]
theorem jdf:∀{lx:List PX} {k:Nat},idxB (fun p=>!jL p) (lx.map fun z=>z.1)=some k→(lx.take (k+1)).filter (fun z=>jL z.1)=lx.take k
 | [],k,h=>by cases h
 | z::t,k,h=>by
  rw[List.map_cons,idxB] at h;split at h
  · rename_i g;obtain rfl:=Option.some.inj h;have g2:jL z.1=false:=by simpa using g
    rw[List.take_succ_cons,List.take_zero,List.take_zero,List.filter_cons_of_neg (by rw[g2];decide)];rfl
  · rename_i g;have g2:jL z.1=true:=by simpa using g
    cases e:idxB (fun p=>!jL p) (t.map fun z=>z.1) with
    | none=>rw[e] at h;cases h
    | some q =>
     rw[e] at h;obtain rfl:=Option.some.inj h;rw[List.take_succ_cons,List.take_succ_cons,List.filter_cons_of_pos (by exact g2),jdf e]
structure jag (B g len cap i j:Nat) (lx:List PX) (w wr:World) (ly:List PX):Prop where
 own:Own PodLay0 52 wr B (.slice (some ⟨g,0,none⟩) len cap) ly
 len:ly.length=len
 fst:ly.take i=(lx.take j).filter fun z=>jL z.1
 snd:ly.drop j=lx.drop j
 off:jg (fun b=>b=g) w wr
theorem jag.skip {B g len cap i j:Nat} {lx ly:List PX} {w wr w1:World} {z:PX} (h:jag B g len cap i j lx w wr ly) (hz:lx[j]?=some z) (hr:jL z.1=false) (k:Kept wr w1):jag B g len cap i (j+1) lx w w1 ly:=by
 refine⟨h.own.kept k,h.len,?_,?_,h.off.trans (jg.of k)⟩
 · rw[h.fst,List.take_add_one,hz,List.filter_append];simp[hr]
 · rw[←List.drop_drop,←List.drop_drop,h.snd]
theorem jag.keep {B g len cap i j:Nat} {lx ly:List PX} {w wr w1:World} {z:PX} (h:jag B g len cap i j lx w wr ly) (hij:i<j) (hj:j<len) (hz:lx[j]?=some z) (hr:jL z.1=true) (k:Kept wr w1):jag B g len cap (i+1) (j+1) lx w (w1.setCells g (i*11) (PodLay0.cs z)) (ly.set i z):=by
 have hi:i<ly.length:=by rw[h.len];omega
 refine⟨(h.own.kept k).Zc hi z trivial,by rw[List.length_set];exact h.len,?_,?_,(h.off.trans (jg.of k)).trans (jg.cells (S:=fun b=>b=g) g rfl _ _ _)⟩
 · rw[List.take_add_one,List.getElem?_set_self hi,List.take_set_of_le (Nat.le_refl _),h.fst,List.take_add_one,hz,List.filter_append];simp[hr]
 · rw[List.drop_set_of_lt (by omega),←List.drop_drop,←List.drop_drop,h.snd]
theorem jkz (g len cap B:Nat) (lx:List PX) (w:World) (ho:Own PodLay0 52 w B (.slice (some ⟨g,0,none⟩) len cap) lx) (hat:∀z ∈ lx,At4 w z) (hlen:len≤100000) :
 Calls Tryz.prog 29 #[.slice (some ⟨g,0,none⟩) len cap,.func (.func 31) #[] #[]] w fun e w'=>∃n,e=.returned (.slice (some ⟨g,0,none⟩) n cap)∧Own PodLay0 52 w' B (.slice (some ⟨g,0,none⟩) n cap) (lx.filter fun z=>jL z.1)∧jg (fun b=>b=g) w w':=by
 have hn:len=lx.length:=by obtain⟨a,c,e,_⟩:=ho.at_;cases e;rfl
 have hr:jC w (some ⟨g,0,none⟩) len (lx.map fun z=>z.1):=jkc (qG ho hat);obtain⟨cur,hB,hg,hlc,hm,hsz,ht,hl⟩:=Jc (show w.ownsRow B 52 11 (.slice (some ⟨g,0,none⟩) len cap) len (jd PodLay0 lx) by have:=ho.1;rw[←hn] at this;exact this);obtain⟨HI,HO,HN⟩:=lH3 (jbT (some ⟨g,0,none⟩) len cap (lx.map fun z=>z.1) w hr) ho hn;have hm':cap≤9223372036854775807:=by unfold maxLen at hm;omega
 clear ho hr hat hn hB hg hsz ht hl hm
 cases hi:idxB (fun p=>!jL p) (lx.map fun z=>z.1) with
 | none =>
  rw[hi] at HI;have HF:=lH (jc3 hi);clear hi;unfold jah at HI;go_enter Tryz.func29,Tryz.ntmps29;go_wp2_with fail
  refine HI.out.mono ?_;rintro e w1 ⟨rfl,k⟩;have K:=lH k;clear k;go_wp2;go_ret;exact⟨len,rfl,by rw[HF.out];exact HO.out.kept K.out,jg.of K.out⟩
 | some k0 =>
  rw[hi] at HI;have hk0:k0<len:=by have:=X7 hi;rw[List.length_map] at this;have:=HN.out;omega
  have HF:=lH (jdf hi);clear hi;unfold jah at HI;have hne:((k0:Int)==-1)=false:=beq_eq_false_iff_ne.2 (by omega);go_enter Tryz.func29,Tryz.ntmps29;go_wp2_with fail
  refine HI.out.mono ?_;rintro e w1 ⟨rfl,k⟩;have K:=lH k;clear k;go_wp2_with fail
  go_loopw [5,6] (fun vi vj wr=>∃(i j:Nat) (ly:List PX),vi=.int .i64 i∧vj=.int .i64 j∧i<j∧j≤len∧jag B g len cap i j lx w wr ly) (fun _ vj _=>len-(intOf vj).toNat)
  case atStart=>exact⟨k0,k0+1,lx,rfl,by first | rfl | go_num,by omega,by omega,HO.out.kept K.out,HN.out.symm,HF.out.symm,rfl,jg.of K.out⟩
  case round =>
   obtain⟨i,j,ly,rfl,rfl,hij,hj,hinv⟩:=hrel;have HV:=lH hinv;have hly:=hinv.len;by_cases hlt:j<len
   · obtain⟨z,hz⟩:∃z,ly[j]?=some z:=⟨_,List.getElem?_eq_getElem (by omega)⟩
     have hzx:lx[j]?=some z:=by
      have h0:(ly.drop j)[0]?=(lx.drop j)[0]?:=by rw[hinv.snd]
      rw[List.getElem?_drop,List.getElem?_drop,Nat.add_zero] at h0;rw[←h0];exact hz
     obtain⟨y,hy⟩:∃z,ly[i]?=some z:=⟨_,List.getElem?_eq_getElem (by omega)⟩
     have HY:=lH hy;obtain⟨n,⟨b1,n1,d1⟩,⟨b2,n2,d2⟩,⟨b3,n3,d3⟩,⟨b4,n4,d4⟩⟩:=z;have p0:wr.cell? ⟨g,j*11,none⟩=some (.string n.name):=hinv.own.cell_at hz (j:=0) rfl;have p1:wr.cell? ⟨g,j*11+1,none⟩=some (.string n.owner):=hinv.own.cell_at hz (j:=1) rfl;have p2:wr.cell? ⟨g,j*11+2,none⟩=some (.int .i64 n.prio):=hinv.own.cell_at hz (j:=2) rfl;have p3:wr.cell? ⟨g,j*11+3,none⟩=some (.slice b1 n1 d1):=hinv.own.cell_at hz (j:=3) rfl;have p4:wr.cell? ⟨g,j*11+4,none⟩=some (.slice b2 n2 d2):=hinv.own.cell_at hz (j:=4) rfl;have p5:wr.cell? ⟨g,j*11+5,none⟩=some (.slice b3 n3 d3):=hinv.own.cell_at hz (j:=5) rfl;have p6:wr.cell? ⟨g,j*11+6,none⟩=some (.slice b4 n4 d4):=hinv.own.cell_at hz (j:=6) rfl;have p7:wr.cell? ⟨g,j*11+7,none⟩=some (.string n.key):=hinv.own.cell_at hz (j:=7) rfl;have p8:wr.cell? ⟨g,j*11+8,none⟩=some (.int .i64 n.most):=hinv.own.cell_at hz (j:=8) rfl;have p9:wr.cell? ⟨g,j*11+9,none⟩=some (.string n.node):=hinv.own.cell_at hz (j:=9) rfl;have p10:wr.cell? ⟨g,j*11+10,none⟩=some (.bool n.hold):=hinv.own.cell_at hz (j:=10) rfl;have RY:=lH hzx;have hjj:(j:Int)<(len:Int):=by omega
     have HS:=lH (ja1 n (.slice b1 n1 d1) (.slice b2 n2 d2) (.slice b3 n3 d3) (.slice b4 n4 d4) (wr.alloc (.cells #[.string n.name,.string n.owner,.int .i64 n.prio,.slice b1 n1 d1,.slice b2 n2 d2,.slice b3 n3 d3,.slice b4 n4 d4,.string n.key,.int .i64 n.most,.string n.node,.bool n.hold] 52)));unfold jw at HS;obtain⟨c,hc⟩:=eX (jL n)
     have HC:=lH hc;rw[hc] at HS;clear hz hzx hy hinv hc hly
     cases c with
     | false =>
      go_wp2_with fail
      refine HS.out.mono ?_;rintro e w2 ⟨rfl,kk⟩;have HD:=lH (HV.out.skip RY.out HC.out ((ja _ _).trans kk));clear kk p0 p1 p2 p3 p4 p5 p6 p7 p8 p9 p10;go_wp2;go_roundw
      case rel=>exact⟨i,j+1,ly,rfl,by first | rfl | go_num,by omega,by omega,HD.out⟩
      case measure=>simp[intOf];omega
     | true =>
      go_wp2_with fail
      refine HS.out.mono ?_;rintro e w2 ⟨rfl,kk⟩;have KW:=lH ((ja wr (.cells #[.string n.name,.string n.owner,.int .i64 n.prio,.slice b1 n1 d1,.slice b2 n2 d2,.slice b3 n3 d3,.slice b4 n4 d4,.string n.key,.int .i64 n.most,.string n.node,.bool n.hold] 52)).trans kk);obtain⟨y0,y1,y2,y3,y4,y5,y6,y7,y8,y9,y10⟩:=(jb wr (.string n.name) [.string n.owner,.int .i64 n.prio,.slice b1 n1 d1,.slice b2 n2 d2,.slice b3 n3 d3,.slice b4 n4 d4,.string n.key,.int .i64 n.most,.string n.node,.bool n.hold] 52 w2 kk).at11;have HD:=lH (HV.out.keep hij hlt RY.out HC.out KW.out);obtain⟨u0,q0⟩:∃u,w2.cell? ⟨g,i*11,none⟩=some u:=⟨_,(HV.out.own.kept KW.out).cell_at HY.out (j:=0) rfl⟩
      obtain⟨u1,q1⟩:∃u,w2.cell? ⟨g,i*11+1,none⟩=some u:=⟨_,(HV.out.own.kept KW.out).cell_at HY.out (j:=1) rfl⟩
      obtain⟨u2,q2⟩:∃u,w2.cell? ⟨g,i*11+2,none⟩=some u:=⟨_,(HV.out.own.kept KW.out).cell_at HY.out (j:=2) rfl⟩
      obtain⟨u3,q3⟩:∃u,w2.cell? ⟨g,i*11+3,none⟩=some u:=⟨_,(HV.out.own.kept KW.out).cell_at HY.out (j:=3) rfl⟩
      obtain⟨u4,q4⟩:∃u,w2.cell? ⟨g,i*11+4,none⟩=some u:=⟨_,(HV.out.own.kept KW.out).cell_at HY.out (j:=4) rfl⟩
      obtain⟨u5,q5⟩:∃u,w2.cell? ⟨g,i*11+5,none⟩=some u:=⟨_,(HV.out.own.kept KW.out).cell_at HY.out (j:=5) rfl⟩
      obtain⟨u6,q6⟩:∃u,w2.cell? ⟨g,i*11+6,none⟩=some u:=⟨_,(HV.out.own.kept KW.out).cell_at HY.out (j:=6) rfl⟩
      obtain⟨u7,q7⟩:∃u,w2.cell? ⟨g,i*11+7,none⟩=some u:=⟨_,(HV.out.own.kept KW.out).cell_at HY.out (j:=7) rfl⟩
      obtain⟨u8,q8⟩:∃u,w2.cell? ⟨g,i*11+8,none⟩=some u:=⟨_,(HV.out.own.kept KW.out).cell_at HY.out (j:=8) rfl⟩
      obtain⟨u9,q9⟩:∃u,w2.cell? ⟨g,i*11+9,none⟩=some u:=⟨_,(HV.out.own.kept KW.out).cell_at HY.out (j:=9) rfl⟩
      obtain⟨u10,q10⟩:∃u,w2.cell? ⟨g,i*11+10,none⟩=some u:=⟨_,(HV.out.own.kept KW.out).cell_at HY.out (j:=10) rfl⟩
      have x0f:w2.frozen? ⟨g,i*11,none⟩=false:=(HV.out.own.kept KW.out).frozen_at _;have x1f:w2.frozen? ⟨g,i*11+1,none⟩=false:=(HV.out.own.kept KW.out).frozen_at _;have x2f:w2.frozen? ⟨g,i*11+2,none⟩=false:=(HV.out.own.kept KW.out).frozen_at _;have x3f:w2.frozen? ⟨g,i*11+3,none⟩=false:=(HV.out.own.kept KW.out).frozen_at _;have x4f:w2.frozen? ⟨g,i*11+4,none⟩=false:=(HV.out.own.kept KW.out).frozen_at _;have x5f:w2.frozen? ⟨g,i*11+5,none⟩=false:=(HV.out.own.kept KW.out).frozen_at _;have x6f:w2.frozen? ⟨g,i*11+6,none⟩=false:=(HV.out.own.kept KW.out).frozen_at _;have x7f:w2.frozen? ⟨g,i*11+7,none⟩=false:=(HV.out.own.kept KW.out).frozen_at _;have x8f:w2.frozen? ⟨g,i*11+8,none⟩=false:=(HV.out.own.kept KW.out).frozen_at _;have x9f:w2.frozen? ⟨g,i*11+9,none⟩=false:=(HV.out.own.kept KW.out).frozen_at _;have x10f:w2.frozen? ⟨g,i*11+10,none⟩=false:=(HV.out.own.kept KW.out).frozen_at _;have hii:(i:Int)<(len:Int):=by omega
      clear kk p0 p1 p2 p3 p4 p5 p6 p7 p8 p9 p10;go_wp2;obtain⟨WE,hWE⟩:=eX (w2.setCells g (i*11) [.string n.name,.string n.owner,.int .i64 n.prio,.slice b1 n1 d1,.slice b2 n2 d2,.slice b3 n3 d3,.slice b4 n4 d4,.string n.key,.int .i64 n.most,.string n.node,.bool n.hold])
      have hWE2:(((((((((((w2.setCell ⟨g,i*11,none⟩ (.string n.name)).setCell ⟨g,i*11+1,none⟩ (.string n.owner)).setCell ⟨g,i*11+2,none⟩ (.int .i64 n.prio)).setCell ⟨g,i*11+3,none⟩ (.slice b1 n1 d1)).setCell ⟨g,i*11+4,none⟩ (.slice b2 n2 d2)).setCell ⟨g,i*11+5,none⟩ (.slice b3 n3 d3)).setCell ⟨g,i*11+6,none⟩ (.slice b4 n4 d4)).setCell ⟨g,i*11+7,none⟩ (.string n.key)).setCell ⟨g,i*11+8,none⟩ (.int .i64 n.most)).setCell ⟨g,i*11+9,none⟩ (.string n.node)).setCell ⟨g,i*11+10,none⟩ (.bool n.hold))=WE:=hWE;have HD:=lH (show jag B g len cap (i+1) (j+1) lx w WE (ly.set i (n,(b1,n1,d1),(b2,n2,d2),(b3,n3,d3),(b4,n4,d4))) by rw[←hWE];exact HD.out);try rw[hWE2]
      clear y0 y1 y2 y3 y4 y5 y6 y7 y8 y9 y10 hWE hWE2 q0 q1 q2 q3 q4 q5 q6 q7 q8 q9 q10 x0f x1f x2f x3f x4f x5f x6f x7f x8f x9f x10f;go_roundw
      case rel=>exact⟨i+1,j+1,_,by first | rfl | go_num,by first | rfl | go_num,by omega,by omega,HD.out⟩
      case measure=>simp[intOf];omega
   · obtain rfl:j=len:=by omega
     obtain⟨i0,hi0,hz0,hz1,hz2⟩:=info_parts X2;have hxs:ly.filter (fun _=>true)=ly:=by simp
     have hrl:(jd PodLay0 ly).length=j*11:=by rw[jR,hinv.len];rfl
     have hown:wr.ownsRow B 52 11 (.slice (some ⟨g,0,none⟩) j cap) j (jd PodLay0 ly):=by have:=hinv.own.1;rw[hly] at this;exact this
     have hcell:∀t,t<j*11→(wr.cell? ⟨g,t,none⟩).isSome=true:=fun t h=>by
      rw[hown.cellAt t h,List.getElem?_eq_getElem (by rw[hrl];exact h)];rfl
     have hcl:∀ty,(Builtin.clear_ #[23] ty #[.slice (some ⟨g,i*11,none⟩) (j-i) (cap-i)]).run Tryz.prog wr=.ok (.tuple #[]) (wr.setCells g (i*11) (Builtin.zeroCells zB (j-i)).toList) :=
      fun ty=>XY wr _ 52 ty i0 (.agg zB) Tryz.underlying23 hi0 hz0 g _ _ _ (by omega) (jc1 _) (fun t h=>hcell _ (by rw[jam,JM] at h;omega)) (fun t h=>hinv.own.frozen_at _)
     have X:=lH (show Own PodLay0 52 (wr.setCells g (i*11) (Builtin.zeroCells zB (j-i)).toList) B (.slice (some ⟨g,0,none⟩) i cap) (lx.filter fun z=>jL z.1) by
      have hfl:ly.take i=lx.filter fun z=>jL z.1:=by rw[hinv.fst,List.take_of_length_le (by rw[HN.out];exact Nat.le_refl _)]
      have hli:(ly.take i).length=i:=by rw[List.length_take];omega
      have h:=jeL (i:=i) (j:=j) (zs:=(Builtin.zeroCells zB (j-i)).toList) hown (Nat.le_of_lt hij) (Nat.le_refl _) (by rw[Array.length_toList,JM]);rw[List.drop_of_length_le (by rw[hrl];exact Nat.le_refl _),Nat.sub_self,Nat.add_zero,List.append_nil] at h;refine⟨?_,fun _ _=>trivial⟩;rw[←hfl,hli];have e2:jd PodLay0 (ly.take i)=(jd PodLay0 ly).take (i*11):=jcv ly i;rw[e2];exact h)
     have GX:=lH (show jg (fun b=>b=g) w (wr.setCells g (i*11) (Builtin.zeroCells zB (j-i)).toList) from hinv.off.trans (jg.cells (S:=fun b=>b=g) g rfl _ _ _));have hjj:¬(j:Int)<(j:Int):=by omega
     have hci:¬cap=i:=by omega
     have hic:i≤cap:=by omega
     have hil:i≤j:=by omega
     clear hinv hcell hown hrl hxs hly;go_wp2;go_ret;exact⟨i,rfl,X.out,GX.out⟩
theorem jiZ (w:World):Calls Tryz.prog 29 #[.slice none 0 0,.func (.func 31) #[] #[]] w fun e w'=>e=.returned (.slice none 0 0)∧Kept w w':=by
 have HI:=lH (jbT none 0 0 [] w ⟨rfl,by decide,.inl rfl⟩);have HI:=lH (show Calls Tryz.prog 69 #[.slice none 0 0,.func (.func 31) #[] #[]] w (Say (.int .i64 (-1)) w) from HI.out);go_enter Tryz.func29,Tryz.ntmps29;go_wp2_with fail
 refine HI.out.mono ?_;rintro e w1 ⟨rfl,k⟩;have K:=lH k;clear k;go_wp2;go_ret;exact⟨rfl,K.out⟩
open Go.Sort
variable {α:Type} [Inhabited α] {lt:α→α→Bool}
structure Rot (lo i j:Nat) (d d':Array α):Prop where
 size:d'.size=d.size
 fst:∀k,lo≤k→k<lo+j→d'[k]! = d[k+i]!
 snd:∀k,lo+j≤k→k<lo+i+j→d'[k]! = d[k-j]!
 out:∀k,k<lo∨lo+i+j≤k→d'[k]! = d[k]!
structure ZJ (a b n:Nat) (d d':Array α):Prop where
 size:d'.size=d.size
 fst:∀k,a≤k→k<a+n→d'[k]! = d[k+(b-a)]!
 snd:∀k,b≤k→k<b+n→d'[k]! = d[k-(b-a)]!
 out:∀k,k<a∨(a+n≤k∧k<b)∨b+n≤k→d'[k]! = d[k]!
theorem ZJ.zero (a b:Nat) (d:Array α):ZJ a b 0 d d:=⟨rfl,fun k _ _=>by omega,fun k _ _=>by omega,fun k _=>rfl⟩
theorem ZJ.step {a b n:Nat} {d dk:Array α} (h:ZJ a b n d dk) (hab:a+(n+1)≤b) (hb:b+n<d.size):ZJ a b (n+1) d (swp dk (a+n) (b+n)):=by
 have hs:=h.size;refine⟨by rw[size_swp];exact hs,fun k h1 h2=>?_,fun k h1 h2=>?_,fun k h1=>?_⟩
 · by_cases e:k=a+n
   · rw[e,swp_left _ _ _ (by omega) (by omega),h.out (b+n) (by omega)];congr 1;omega
   · rw[swp_other _ _ _ _ e (by omega)];exact h.fst k h1 (by omega)
 · by_cases e:k=b+n
   · rw[e,swp_right _ _ _ (by omega),h.out (a+n) (by omega)];congr 1;omega
   · rw[swp_other _ _ _ _ (by omega) e];exact h.snd k h1 (by omega)
 · rw[swp_other _ _ _ _ (by omega) (by omega)];exact h.out k (by omega)
theorem Rot.of_exch {lo i:Nat} {d d':Array α} (h:ZJ lo (lo+i) i d d'):Rot lo i i d d' :=
 ⟨h.size,fun k h1 h2=>by rw[h.fst k h1 h2];congr 1;omega,fun k h1 h2=>by rw[h.snd k h1 (by omega)];congr 1;omega,fun k h1=>h.out k (by omega)⟩
theorem Rot.big {lo i j:Nat} {d d1 d':Array α} (hij:j<i) (h:ZJ lo (lo+i) j d d1) (g:Rot (lo+j) (i-j) j d1 d'):Rot lo i j d d':=by
 refine⟨g.size.trans h.size,fun k h1 h2=>?_,fun k h1 h2=>?_,fun k h1=>?_⟩
 · rw[g.out k (by omega),h.fst k h1 h2];congr 1;omega
 · by_cases e:k<lo+j+j
   · rw[g.fst k (by omega) e,h.snd _ (by omega) (by omega)];congr 1;omega
   · rw[g.snd k (by omega) (by omega),h.out _ (by omega)]
 · rw[g.out k (by omega),h.out k (by omega)]
theorem Rot.small {lo i j:Nat} {d d1 d':Array α} (hij:i<j) (h:ZJ lo (lo+j) i d d1) (g:Rot lo i (j-i) d1 d'):Rot lo i j d d':=by
 refine⟨g.size.trans h.size,fun k h1 h2=>?_,fun k h1 h2=>?_,fun k h1=>?_⟩
 · by_cases e:k<lo+(j-i)
   · rw[g.fst k h1 e,h.out _ (by omega)]
   · rw[g.snd k (by omega) (by omega),h.fst _ (by omega) (by omega)];congr 1;omega
 · rw[g.out k (by omega),h.snd k (by omega) (by omega)];congr 1;omega
 · rw[g.out k (by omega),h.out k (by omega)]
theorem Rot.triv {lo i j:Nat} {d:Array α} (h:i=0∨j=0):Rot lo i j d d :=
 ⟨rfl,fun k h1 h2=>by congr 1;omega,fun k h1 h2=>by congr 1;omega,fun _ _=>rfl⟩
theorem Rot.up {a n:Nat} {d dk:Array α} (h:Rot a 1 n d dk) (hs:a+n+1<d.size):Rot a 1 (n+1) d (swp dk (a+n) (a+n+1)):=by
 have hz:=h.size;refine⟨by rw[size_swp];exact hz,fun k h1 h2=>?_,fun k h1 h2=>?_,fun k h1=>?_⟩
 · by_cases e:k=a+n
   · rw[e,swp_left _ _ _ (by omega) (by omega),h.out _ (by omega)]
   · rw[swp_other _ _ _ _ e (by omega)];exact h.fst k h1 (by omega)
 · have e:k=a+n+1:=by omega
   rw[e,swp_right _ _ _ (by omega),h.snd _ (by omega) (by omega)];congr 1;omega
 · rw[swp_other _ _ _ _ (by omega) (by omega)];exact h.out k (by omega)
theorem Rot.down {k n:Nat} {d dk:Array α} (h:Rot (k+1) n 1 d dk) (hs:k+1+n<d.size):Rot k (n+1) 1 d (swp dk (k+1) k):=by
 have hz:=h.size;refine⟨by rw[size_swp];exact hz,fun x h1 h2=>?_,fun x h1 h2=>?_,fun x h1=>?_⟩
 · have e:x=k:=by omega
   rw[e,swp_right _ _ _ (by omega),h.fst _ (by omega) (by omega)];congr 1;omega
 · by_cases e:x=k+1
   · rw[e,swp_left _ _ _ (by omega) (by omega),h.out _ (by omega)];congr 1
   · rw[swp_other _ _ _ _ e (by omega)];exact h.snd x (by omega) (by omega)
 · rw[swp_other _ _ _ _ (by omega) (by omega)];exact h.out x (by omega)
theorem jal {β:Type} {lt:β→β→Bool} (hS:SWO lt) {x y:β} (h:lt x y=true):lt y x=false:=by
 cases g:lt y x
 · rfl
 · have:=hS.trans _ _ _ h g;rw[hS.irrefl] at this;cases this
theorem J5 (hS:SWO lt) {a b:Nat} {d:Array α} (h:SortedIn lt a b d) {i j:Nat} (h1:a≤i) (h2:i≤j) (h3:j<b):lt d[j]! d[i]! = false:=by
 rcases Nat.lt_or_eq_of_le h2 with g | g
 · exact h i j h1 g h3
 · rw[g];exact hS.irrefl _
theorem jkq (hS:SWO lt) {a b n:Nat} {d d':Array α} (hr:Rot a 1 n d d') (hn:a+1+n≤b) (hs:SortedIn lt (a+1) b d)
 (h1:n=0∨lt d[a+n]! d[a]! = true) (h2:a+1+n=b∨lt d[a+1+n]! d[a]! = false):SortedIn lt a b d':=by
 intro x y hx hxy hy;have lo:∀k,a+1≤k→k≤a+n→lt d[a]! d[k]! = false:=fun k g1 g2=>by
  rcases h1 with h1 | h1
  · omega
  · exact hS.ntrans _ _ _ (jal hS h1) (J5 hS hs g1 g2 (by omega))
 have hi:∀k,a+1+n≤k→k<b→lt d[k]! d[a]! = false:=fun k g1 g2=>by
  rcases h2 with h2 | h2
  · omega
  · exact hS.ntrans _ _ _ (J5 hS hs (by omega) g1 g2) h2
 rcases Nat.lt_trichotomy x (a+n) with c | c | c
 · rw[hr.fst x hx c];rcases Nat.lt_trichotomy y (a+n) with e | e | e
   · rw[hr.fst y (by omega) e];exact hs _ _ (by omega) (by omega) (by omega)
   · rw[e,hr.snd (a+n) (by omega) (by omega),show a+n-n=a from by omega];exact lo _ (by omega) (by omega)
   · rw[hr.out y (by omega)];exact hs _ _ (by omega) (by omega) hy
 · rw[c,hr.snd (a+n) (by omega) (by omega),show a+n-n=a from by omega,hr.out y (by omega)];exact hi y (by omega) hy
 · rw[hr.out x (by omega),hr.out y (by omega)];exact hs _ _ (by omega) hxy hy
theorem jji (hS:SWO lt) {a i n:Nat} {d d':Array α} (hr:Rot i n 1 d d') (ha:a≤i) (hs:SortedIn lt a (i+n) d)
 (h1:i=a∨lt d[i+n]! d[i-1]! = false) (h2:n=0∨lt d[i+n]! d[i]! = true):SortedIn lt a (i+n+1) d':=by
 intro x y hx hxy hy;have lo:∀k,a≤k→k<i→lt d[i+n]! d[k]! = false:=fun k g1 g2=>by
  rcases h1 with h1 | h1
  · omega
  · exact hS.ntrans _ _ _ h1 (J5 hS hs g1 (by omega) (by omega))
 have hi:∀k,i≤k→k<i+n→lt d[k]! d[i+n]! = false:=fun k g1 g2=>by
  rcases h2 with h2 | h2
  · omega
  · exact hS.ntrans _ _ _ (J5 hS hs (by omega) g1 g2) (jal hS h2)
 have ei:d'[i]! = d[i+n]!:=hr.fst i (by omega) (by omega);rcases Nat.lt_trichotomy x i with c | c | c
 · rw[hr.out x (by omega)];rcases Nat.lt_trichotomy y i with e | e | e
   · rw[hr.out y (by omega)];exact hs _ _ hx hxy (by omega)
   · rw[e,ei];exact lo x hx c
   · rw[hr.snd y (by omega) (by omega)];exact hs _ _ hx (by omega) (by omega)
 · rw[c,ei,hr.snd y (by omega) (by omega)];exact hi _ (by omega) (by omega)
 · rw[hr.snd x (by omega) (by omega),hr.snd y (by omega) (by omega)];exact hs _ _ (by omega) (by omega) (by omega)
structure Found (lt:α→α→Bool) (a m b mid s:Nat) (d:Array α):Prop where
 am:a<m
 mb:m<b
 mida:a<mid
 midb:mid<b
 sa:a≤s
 sm:s≤m
 sd:s≤mid
 em:m≤mid+m-s
 eb:mid+m-s≤b
 low:s=a∨mid+m-s=b∨lt d[mid+m-s]! d[s-1]! = false
 high:s=m∨s=mid∨lt d[mid+m-1-s]! d[s]! = true
variable {a m b mid s:Nat} {d d1:Array α}
theorem Found.parts (h:Found lt a m b mid s d) (hr:Rot s (m-s) (mid-s) d d1) (h1:SortedIn lt a m d) (h2:SortedIn lt m b d) :
 SortedIn lt a s d1∧SortedIn lt s mid d1∧SortedIn lt mid (mid+m-s) d1∧SortedIn lt (mid+m-s) b d1:=by
 obtain⟨q1,q2,q3,q4,q5,q6,q7,q8,q9,_,_⟩:=h;refine⟨fun x y hx hxy hy=>?_,fun x y hx hxy hy=>?_,fun x y hx hxy hy=>?_,fun x y hx hxy hy=>?_⟩
 · rw[hr.out x (by omega),hr.out y (by omega)];exact h1 _ _ hx hxy (by omega)
 · rw[hr.fst x hx (by omega),hr.fst y (by omega) (by omega)];exact h2 _ _ (by omega) (by omega) (by omega)
 · rw[hr.snd x (by omega) (by omega),hr.snd y (by omega) (by omega)];exact h1 _ _ (by omega) (by omega) (by omega)
 · rw[hr.out x (by omega),hr.out y (by omega)];exact h2 _ _ (by omega) hxy hy
theorem Found.cross (hS:SWO lt) (h:Found lt a m b mid s d) (hr:Rot s (m-s) (mid-s) d d1) (h1:SortedIn lt a m d) (h2:SortedIn lt m b d) :
 ∀x y,a≤x→x<mid→mid≤y→y<b→lt d1[y]! d1[x]! = false:=by
 obtain⟨q1,q2,q3,q4,q5,q6,q7,q8,q9,low,high⟩:=h;intro x y hx hx2 hy hy2;by_cases cx:x<s
 · rw[hr.out x (by omega)];by_cases cy:y<mid+m-s
   · rw[hr.snd y (by omega) (by omega)];exact h1 _ _ hx (by omega) (by omega)
   · rw[hr.out y (by omega)];rcases low with l | l | l
     · omega
     · omega
     · exact hS.ntrans _ _ _ (hS.ntrans _ _ _ (J5 hS h2 (by omega) (by omega) hy2) l) (J5 hS h1 hx (by omega) (by omega))
 · rw[hr.fst x (by omega) (by omega)];by_cases cy:y<mid+m-s
   · rw[hr.snd y (by omega) (by omega)];rcases high with l | l | l
     · omega
     · omega
     · exact hS.ntrans _ _ _ (hS.ntrans _ _ _ (J5 hS h1 (show a≤s by omega) (show s≤y-(mid-s) by omega) (by omega)) (jal hS l)) (J5 hS h2 (by omega) (by omega) (by omega))
   · rw[hr.out y (by omega)];exact h2 _ _ (by omega) (by omega) hy2
theorem XR {d2 d3:Array α} (hb:b≤d1.size) (hmb:mid≤b) (p1:PermIn a mid d1 d2) (s1:SortedIn lt a mid d2) (p2:PermIn mid b d2 d3) (s2:SortedIn lt mid b d3)
 (cross:∀x y,a≤x→x<mid→mid≤y→y<b→lt d1[y]! d1[x]! = false):SortedIn lt a b d3:=by
 have c1:∀y,mid≤y→y<b→∀x,a≤x→x<mid→lt d1[y]! d2[x]! = false:=fun y g1 g2 =>
  permIn_all d1 d2 a mid (fun v=>lt d1[y]! v=false) (by omega) p1 (fun x g3 g4=>cross x y g3 g4 g1 g2)
 have c2:∀x,a≤x→x<mid→∀y,mid≤y→y<b→lt d3[y]! d2[x]! = false:=fun x g1 g2 =>
  permIn_all d2 d3 mid b (fun v=>lt v d2[x]! = false) (by rw[p1.1];exact hb) p2 (fun y g3 g4=>by rw[p1.2.1 y (by omega)];exact c1 y g3 g4 x g1 g2)
 intro x y hx hxy hy;by_cases cx:x<mid
 · rw[p2.2.1 x (by omega)];by_cases cy:y<mid
   · rw[p2.2.1 y (by omega)];exact s1 x y hx hxy cy
   · exact c2 x hx cx y (by omega) hy
 · exact s2 x y (by omega) hxy hy
end Go.Proofs.YtibepooajeakfaaGreat
